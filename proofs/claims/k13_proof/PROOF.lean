import PyProof.Rows.All
import Wide.All
import OpenK.AllK
import Wide.FinOn
import HandS.ForExc
import HandS.Comp
import HandS.Dict
import HandS.Iter
import HandS.Text
import HandS.Wide
import HandS.FStr
import HandS.IsInst
import HandS.ExcInit
import HandS.ExcField
import HandS.OwnEq
import KE.KCallOwn
import KE.KExcIs
import PyProof.NeKinds
import HandS.RaiseMore
import HandS.Star
import HandS.ClsMeth
import HandS.StrMore
import PyProof.InstEq
import PyProof.Rows.NestShow
import HandS.Ends
import HandS.ExcIs
import HandS.Zip
import HandS.Walk
import HandS.Defaults
import HandS.TupAny
import OpenK.KMeth
import HandS.Base
import HandS.Call
import HandS.List
import KE.GoesEnum
import HandS.Lambda
import HandS.DeepEq
import HandS.SetBool
import HandS.SetKeys
import HandS.Style
import KE.KOpsOwn
import HandS.TryMany
import HandS.Strs
import HandS.TryOnly
import HandS.ForMost
import HandS.Conv
import PyProof.ReprBulk
import KE.KStateDown
import HandS.Exc
import HandS.Words
import HandS.Head0
import HandS.Head1
import HandS.Head2
import HandS.HeadHook1
import HandS.EndTab
import PySem.Challenge.RW_contrabooks_k13_houses_refused
set_option Elab.async false
set_option linter.all false
set_option maxRecDepth 100000
/-! Rules of our own over the hand layer: an object made whose making may raise, within a try; str(o) by its own def; isinstance of a caught error with fields. -/
namespace V3
open PySem L2 PyProof.Rows
section
variable {X : Cx} {CX : CXT} {k : Nat} {f C : Addr} {fd : FuncData} {ps : List Str} {sp : Sp} {E : L2.St → XK} {x : Str} {p pos : Pos} {e : Expr} {es : List Expr} {t : TA} {dvs : List V} {ds : List Value}
theorem make_at {pins : List (Addr × Obj)} {σ : L2.St} {H : Hp} {s : Shared} {Q : VK}
    {us : List Value} {vs : List V} (M : Mk X.K C f)
    (F : FnOk X.prog X.w X.K X.mg X.base CX k f fd ps sp)
    (room : Room (k + 1) X.A) (bi : Binds X.K fd ps ds) (va : Vals dvs ds)
    (out : PassesAt CX X σ (E σ)) (I : Inv X pins σ H s) (r : Vals vs us)
    (h : ∀ y dy, H y = none → H dy = none → dy ≠ y →
      sp (.ref y :: (vs ++ dvs)) (upd (upd H dy (.own y)) y (.ins C dy []))
        (fun v H2 => v = .non ∧ Q (.ref y) H2) (E σ)) :
    wpAny (model X.prog X.w) X.A (call (.ref C) us) (EP X pins σ Q) X.xe s := by
  have want := h (s.heap.objs.size + 1) s.heap.objs.size
    (I.hok.fresh (Nat.le_succ _)) (I.hok.fresh (Nat.le_refl _))
    (Nat.ne_of_lt (Nat.lt_succ_self _))
  have J := Inv.made (C := C) I
  have rr : Vals (V.ref (s.heap.objs.size + 1) :: (vs ++ dvs))
      (Value.ref (s.heap.objs.size + 1) :: (us ++ ds)) := .cons rfl (r.append va)
  have len : (Value.ref (s.heap.objs.size + 1) :: us ++ ds).length = ps.length := by
    have q := rr.length
    rw [F.len _ _ _ _ want] at q
    exact q.symm
  have bound := bi _ (Value.ref (s.heap.objs.size + 1) :: us) J.kIn len
  have ran := F.run _ X.stack _ _ ⟨Value.ref (s.heap.objs.size + 1) :: us, []⟩
    (Value.ref (s.heap.objs.size + 1) :: (us ++ ds)) _ _ (E σ)
    (room.make C us []) (J.env0.make C us []) bound rr want
  refine wpAny_call (make_map (f := f) I.kIn M.makes M.init
    (beq_iff_eq.mp M.fn) (codeAny_mono ran fun res s' hq => ?_))
  match res, hq with
  | .error err, hq => exact out pins _ _ err s' J hq
  | .ok (.ret u), hq =>
    obtain ⟨v, H', I3, rv, ev, q3⟩ := J.after hq
    subst ev
    exact ⟨rv, ⟨V.ref (s.heap.objs.size + 1), H', I3, rfl, q3⟩⟩
  | .ok .next, hq => exact hq.elim
  | .ok .brk, hq => exact hq.elim
  | .ok .cont, hq => exact hq.elim
/-- C(e, ..) where what its making raises is wished for at the slots -/
def tMakeS (C : Addr) (sp : Sp) (dvs : List V) (E : L2.St → XK) (t : TA) : TE :=
  fun σ H Q => t σ H fun vs H1 => ∀ y dy, H1 y = none → H1 dy = none → dy ≠ y →
    sp (.ref y :: (vs ++ dvs)) (upd (upd H1 dy (.own y)) y (.ins C dy []))
      (fun v H2 => v = .non ∧ Q (.ref y) H2) (E σ)
theorem pe_makeS (M : Mk X.K C f) (F : FnOk X.prog X.w X.K X.mg X.base CX k f fd ps sp)
    (room : Room (k + 1) X.A) (hg : Gl X x) (hm : X.mg x = some (.ref C))
    (bi : Binds X.K fd ps ds) (va : Vals dvs ds) (out : ∀ σ, PassesAt CX X σ (E σ))
    (ha : PA X (e :: es) t) (hdb : (x == ("__debug__" : Str)) = false := by decide)
    (he : starEach (e :: es) X.env = (false, eval e X.env) :: starEach es X.env := by rfl)
    (hpl : (backTo pos (starEach es X.env)).any (·.1) = false := by rfl) :
    PE X (.Call (.Name x p) (e :: es) [] pos) (tMakeS C sp dvs E t) := by
  refine ⟨fun pins s σ H Q I h => wpAny_Call_Name_kw (ld_glob I hg hm ?_ hdb)⟩
  refine PySem.W.callWith_K (h₀ := X.base) I.ok.mod.kin M.kp ?_ he hpl
  exact thn (ha.run pos pins s σ H _ I h) fun us s1 ⟨vs, H1, I1, r, q⟩ =>
    ⟨I1.kIn, make_at M F room bi va (out σ) I1 r q⟩
end
/-! str(o), o of an own class with its own __str__ -/
section
variable {X : Cx} {CX : CXT} {n : Nat} {f C : Addr} {fd : FuncData} {ps : List Str} {sp : Sp} {E : XK}
theorem room2 {A : Around} (r : Room (n + 2) A) : Room n A.in1.in1 := Room.in1 (k := n) (Room.in1 (k := n + 1) r)
def rStrO (C : Addr) (sp : Sp) (E : XK) : List V → Hp → VK → Prop := fun xs H Q =>
  ∃ a dx fs, xs = [.ref a] ∧ H a = some (.ins C dx fs) ∧
    sp [.ref a] H (fun v H' => ∃ y : Str, v = .str y ∧ Q (.str y) H') E
theorem call_strO (F : FnOk X.prog X.w X.K X.mg X.base CX n f fd ps sp)
    (at_ : PySem.W.findIn X.K (.ref C) "__str__" = some (some (.ref f)))
    (isf : PySem.W.isFn X.K (.ref f) = true) (bi : Binds X.K fd ps [])
    (out : Passes CX X E) (room : Room (n + 2) X.A) : CallR X (.type "str") (rStrO C sp E) := by
  intro pins s σ H xs us Q I r h
  obtain ⟨a, dx, fs, rfl, ha, want⟩ := h
  cases r with
  | cons r1 rn =>
    cases rn
    cases r1
    obtain ⟨mA, O, _⟩ := ins_get I.hok ha
    obtain ⟨od, J, _⟩ := O.look
    have rr := room2 room
    refine PySem.W.kso_call rr.units0 I.kIn J at_ isf ?_
    have e0 : Env0 X.prog X.w X.K X.mg X.base X.A.in1.in1 X.stack s H := I.env0.in1.in1
    have len := F.len _ _ _ _ want
    have bound : BindsTo s fd ⟨[.ref a], []⟩ (ps.zip [Value.ref a]) := by
      have b := bi s [.ref a] I.kIn (by simpa using len)
      simpa using b
    have ran := F.run X.A.in1.in1 X.stack s H ⟨[.ref a], []⟩ [.ref a] [.ref a] _ E rr e0 bound (.cons rfl .nil) want
    refine wpAny_call (codeAny_mono ran fun res s' hq => ?_)
    match res, hq with
    | .error err, hq => exact out pins σ H s err s' I hq
    | .ok (.ret u), hq =>
      obtain ⟨v, H', I', rv, y, ev, q⟩ := I.after hq
      subst ev
      obtain ⟨t, rfl⟩ := rv
      exact ⟨.str y, H', I', ⟨t, rfl⟩, q⟩
    | .ok .next, hq => exact hq.elim
    | .ok .brk, hq => exact hq.elim
    | .ok .cont, hq => exact hq.elim
end
/-! isinstance(e, c), isinstance(e, (c, ..)), e the error that the suite holds -/
structure XClass (K : PySem.W.Frag) (D : Addr) : Prop where
  is : (PySem.W.clsIn K D).isSome = true
  ga : PySem.W.findIn K (.ref D) "__getattribute__" = some (some (.builtin "BaseException.__getattribute__"))
  gt : PySem.W.findIn K (.ref D) "__getattr__" = some none
  sb : PySem.W.subIn K (.ref D) (.type "BaseException") = some true
  ca : PySem.W.findIn K (.ref D) "__class__" = some (some (.builtin "object.__class__"))
  gn : PySem.W.specialIn K (.builtin "object.__class__") "__get__" = some (some (.builtin "getset_descriptor.__get__"))
  tk : PySem.W.takesIn K (.builtin "object.__class__") = some true
  mo : PySem.W.mroIn K D (.type "object") = some true
section
variable {X : Cx} {a D : Addr} {oe : Obj} {pn : List (Addr × Obj)} {d : Option Addr}
theorem held_at {pins : List (Addr × Obj)} {σ : L2.St} {H : Hp} {s : Shared} {dd : Addr} {fs : List (Str × V)}
    (hz : Zc (.ref D) (some dd) oe) (hf : ∃ vs, oe.data = .fields vs)
    (I : Inv (X.suite a ((a, oe) :: pn)) pins σ H s) (hd : H dd = some (.xd fs)) :
    ∃ od : Obj, PySem.W.InstAt s.heap a oe D (some od) := by
  obtain ⟨ha, _⟩ := I.pin (a, oe) (List.mem_append_left _ List.mem_cons_self)
  obtain ⟨vs, hv⟩ := hf
  have hx : ObjOk X.prog X.w H s.heap dd (.xd fs) := I.hok dd _ hd
  obtain ⟨mA, hns, _⟩ := hx
  obtain ⟨od, ho, _⟩ := lookIn_ns hns
  exact ⟨od, ha, hz.1, by unfold PySem.W.notCls; rw [hv] <;> rfl, by rw [hz.2]; exact ho⟩
def rIsX (K : PySem.W.Frag) (D a : Addr) (cls : Value) (d : Option Addr) : List V → Hp → VK → Prop := fun xs H Q =>
  ∃ (dd : Addr) (fs : List (Str × V)) (c : V) (u : Value) (b : Bool), cls = .ref D ∧ d = some dd ∧ H dd = some (.xd fs) ∧
    xs = [.ref a, c] ∧ ClsV c u ∧ PySem.W.kitOne K (.ref D) u = some b ∧ Q (.bl b) H
theorem call_isX {cls : Value} (T : XClass X.K D) (hz : Zc cls d oe) (hf : ∃ vs, oe.data = .fields vs) :
    CallR (X.suite a ((a, oe) :: pn)) (.builtin "isinstance") (rIsX X.K D a cls d) := by
  intro pins s σ H xs us Q I r h
  obtain ⟨dd, fs, c, u, b, rfl, rfl, hd, rfl, k, e, q⟩ := h
  obtain ⟨u1, u2, rfl, r1, r2⟩ := vals2 r
  cases (show u1 = Value.ref a from r1)
  have e2 := k.eq r2
  subst e2
  obtain ⟨od, J⟩ := held_at hz hf I hd
  exact PySem.W.kia_one (PySem.W.kitx_exc T.is T.ga T.gt T.sb T.ca T.gn T.tk T.mo) I.kIn J e (fun z => nomatch z)
    fun tk => ⟨.bl b, H, I.tok tk, rfl, q⟩
def rIsXT (K : PySem.W.Frag) (D a : Addr) (cls : Value) (d : Option Addr) : List V → Hp → VK → Prop := fun xs H Q =>
  ∃ (dd : Addr) (fs : List (Str × V)) (tp : Addr) (cs : List V) (us : List Value) (b : Bool), cls = .ref D ∧ d = some dd ∧ H dd = some (.xd fs) ∧
    xs = [.ref a, .ref tp] ∧ H tp = some (.tup cs) ∧ Paired ClsV cs us ∧ PySem.W.kitAny K (.ref D) us = some b ∧ Q (.bl b) H
theorem call_isXT {cls : Value} (T : XClass X.K D) (hz : Zc cls d oe) (hf : ∃ vs, oe.data = .fields vs) :
    CallR (X.suite a ((a, oe) :: pn)) (.builtin "isinstance") (rIsXT X.K D a cls d) := by
  intro pins s σ H xs us Q I r h
  obtain ⟨dd, fs, tp, cs, ws, b, rfl, rfl, hd, rfl, hT, k, e, q⟩ := h
  obtain ⟨u1, u2, rfl, r1, r2⟩ := vals2 r
  cases (show u1 = Value.ref a from r1)
  cases (show u2 = Value.ref tp from r2)
  obtain ⟨od, J⟩ := held_at hz hf I hd
  have okT : ObjOk X.prog X.w H s.heap tp (.tup cs) := I.hok tp _ hT
  obtain ⟨_, items, vals, ob, got, isT, m, dat⟩ := okT
  have same := ClsV.all k vals
  subst same
  obtain ⟨c0, d0, dt0, s0⟩ := ob
  simp only at isT dat
  subst isT dat
  exact PySem.W.kia_tup (PySem.W.kitx_exc T.is T.ga T.gt T.sb T.ca T.gn T.tk T.mo) I.kIn J got e (fun z => nomatch z)
    fun tk => ⟨.bl b, H, I.tok tk, rfl, q⟩
end
end V3

set_option Elab.async false
set_option linter.all false
set_option maxRecDepth 100000
/-! Further rules of our own: C() without an own __init__, len(o) by an own __len__, repr of small values, a list against the empty one. -/
namespace V3
open PySem L2 PyProof.Rows
section
variable {X : Cx} {C : Addr} {x : Str} {p pos : Pos}
/-- what a class without an own __init__ must have to be made -/
structure Mk0 (K : PySem.W.Frag) (C : Addr) : Prop where
  makes : PySem.W.makesIn K C = true
  ini : PySem.W.findIn K (.ref C) "__init__" = some (some (.builtin "object.__init__"))
  kp : PySem.W.keepIn K (.ref C) = true
def tNew (C : Addr) : TE := fun σ H Q => ∀ y dy, H y = none → H dy = none → dy ≠ y → Q (.ref y) (upd (upd H dy (.own y)) y (.ins C dy []))
theorem pe_new0 (M : Mk0 X.K C) (hg : Gl X x) (hm : X.mg x = some (.ref C)) (hdb : (x == ("__debug__" : Str)) = false := by decide) :
    PE X (.Call (.Name x p) [] [] pos) (tNew C) := by
  refine ⟨fun pins s σ H Q I h => wpAny_Call_Name_kw (ld_glob I hg hm ?_ hdb)⟩
  refine PySem.W.callWith_K0 I.kIn M.kp ?_
  have J := Inv.made (C := C) I
  have want := h (s.heap.objs.size + 1) s.heap.objs.size (I.hok.fresh (Nat.le_succ _)) (I.hok.fresh (Nat.le_refl _)) (Nat.ne_of_lt (Nat.lt_succ_self _))
  show wpAny _ _ (call (.ref C) []) _ _ _
  have KX := I.kIn
  refine wpAny_call (make_map0 KX M.makes M.ini (fun self => PySem.W.Looks.of_pure (PySem.W.oi_bind self)) ?_)
  have Y := PySem.W.makes_of (M := model X.prog X.w) KX M.makes
  obtain ⟨hh, g, d, t, os⟩ := s
  have own : ((hh.push PySem.W.emptyDict).push (PySem.W.instObj C hh.objs.size)).get? (hh.objs.size + 1) = some (PySem.W.instObj C hh.objs.size) := by heap_get
  have ty : PySem.W.Looks (model X.prog X.w) ((hh.push PySem.W.emptyDict).push (PySem.W.instObj C hh.objs.size)) (typeOf (.ref (hh.objs.size + 1))) (.ref C) :=
    (PySem.W.Looks.ld own).andThen .now
  have sub : PySem.W.Looks (model X.prog X.w) ((hh.push PySem.W.emptyDict).push (PySem.W.instObj C hh.objs.size)) (isInstance (.ref (hh.objs.size + 1)) (.type "object")) true := ty.andThen (Y.top.keeps fun b o e => Heap.get?_push_of_some _ (Heap.get?_push_of_some _ e))
  refine codeAny_call_builtin PySem.W.oi_plain PySem.W.entry_oi
    (@PySem.W.check_slot (model X.prog X.w) _ _ _ "object.__init__" "object" "__init__" (.ref (hh.objs.size + 1)) [] [] _
      PySem.W.oi_kind PySem.W.oi_split sub (PySem.W.oi_args (.ref (hh.objs.size + 1))) ?_)
  rw [PySem.W.oi_run]
  exact wpAny_pure (And.intro rfl ⟨V.ref (hh.objs.size + 1), _, J, rfl, want⟩)
end
section
variable {X : Cx} {CX : CXT} {n : Nat} {f C : Addr} {fd : FuncData} {ps : List Str} {sp : Sp} {E : XK}
/-- len(o), o of a class with its own __len__ -/
def rLenO (C : Addr) (sp : Sp) (E : XK) : List V → Hp → VK → Prop := fun xs H Q =>
  ∃ a dx fs, xs = [.ref a] ∧ H a = some (.ins C dx fs) ∧ sp [.ref a] H (fun v H' => ∃ i : Int, v = .int i ∧ (0 ≤ i ∧ i < 2 ^ 63) ∧ Q (.int i) H') E
theorem call_lenO (F : FnOk X.prog X.w X.K X.mg X.base CX n f fd ps sp) (at_ : PySem.W.findIn X.K (.ref C) "__len__" = some (some (.ref f)))
    (isf : PySem.W.isFn X.K (.ref f) = true) (bi : Binds X.K fd ps []) (out : Passes CX X E) (room : Room (n + 1) X.A) : CallR X (.builtin "len") (rLenO C sp E) := by
  intro pins s σ H xs us Q I r h
  obtain ⟨a, dx, fs, rfl, ha, want⟩ := h
  cases r with
  | cons r1 rn =>
    cases rn
    cases r1
    obtain ⟨mA, O, _⟩ := ins_get I.hok ha
    obtain ⟨od, J, _⟩ := O.look
    obtain ⟨m, hF⟩ := I.fr
    have rr : Room n X.A.in1 := Room.in1 (k := n) room
    refine PySem.W.len_K hF I.ok.mod.kin J at_ isf ?_
    have e0 : Env0 X.prog X.w X.K X.mg X.base X.A.in1 X.stack s H := I.env0.in1
    have len := F.len _ _ _ _ want
    have bound : BindsTo s fd ⟨[.ref a], []⟩ (ps.zip [Value.ref a]) := by
      have b := bi s [.ref a] I.kIn (by simpa using len)
      simpa using b
    have ran := F.run X.A.in1 X.stack s H ⟨[.ref a], []⟩ [.ref a] [.ref a] _ E rr e0 bound (.cons rfl .nil) want
    refine wpAny_call (codeAny_mono ran fun res s' hq => ?_)
    match res, hq with
    | .error err, hq => exact out pins σ H s err s' I hq
    | .ok (.ret u), hq =>
      obtain ⟨v, H', I', rv, i, ev, hi, q⟩ := I.after hq
      subst ev
      obtain ⟨t, rfl⟩ := rv
      exact ⟨hi, .int i, H', I'.tok _, ⟨_, rfl⟩, q⟩
    | .ok .next, hq => exact hq.elim
    | .ok .brk, hq => exact hq.elim
    | .ok .cont, hq => exact hq.elim
end
section
variable {X : Cx}
theorem call_repr_str : CallR X (.builtin "repr") (fun xs H Q => ∃ z : Str, xs = [.str z] ∧ (reprText z).length ≤ sizeLine ∧ Q (.str (reprText z)) H) := by
  intro pins s σ H xs us Q I r h
  obtain ⟨z, rfl, hz, q⟩ := h
  obtain ⟨u, rfl, t, rfl⟩ := vals1 r
  exact PySem.P.repr_of_str ⟨.str _, H, I.tok _, ⟨_, rfl⟩, q⟩ hz
/-- an int or a text -/
def rRepr : List V → Hp → VK → Prop := fun xs H Q => (∃ i : Int, xs = [.int i] ∧ i.natAbs.log2 < 1920 ∧ Q (.str (toString i)) H) ∨
  (∃ z : Str, xs = [.str z] ∧ (reprText z).length ≤ sizeLine ∧ Q (.str (reprText z)) H)
theorem call_reprIS : CallR X (.builtin "repr") rRepr := by
  intro pins s σ H xs us Q I r h
  rcases h with h | h
  · exact SkE.call_repr_int pins s σ H xs us Q I r h
  · exact call_repr_str pins s σ H xs us Q I r h
/-- xs != [] -/
def rNeE : R2 := fun x y H Q => ∃ l b xs, x = .ref l ∧ y = .ref b ∧ H l = some (.lst xs) ∧ H b = some (.lst []) ∧ Q (.bl (!xs.isEmpty)) H
theorem op_neE (hu : X.A.units < cLine) : OpR X (compareOp .NotEq) rNeE := by
  intro pins s σ H x y v u Q I rx ry h
  obtain ⟨l, b, xs, rfl, rfl, hl, hb, q⟩ := h
  cases rx
  cases ry
  obtain ⟨z, its, k, r, e⟩ := I.hok l _ hl
  obtain ⟨z2, its2, k2, r2, e2⟩ := I.hok b _ hb
  cases r2
  have L1 : s.heap.IsList l its.toArray := ⟨_, e, rfl, k, rfl⟩
  have L2' : s.heap.IsList b ([] : List Value).toArray := ⟨_, e2, rfl, k2, rfl⟩
  refine PySem.W.cmp_ofNotEq ?_
  cases r with
  | nil =>
    have c := PySem.SeqAt.RcNeAt.lists (e := fun _ => true) L1 L2' rfl hu (fun j h1 _ => absurd h1 (Nat.not_lt_zero _))
    exact c X.prog X.w X.xe _ ⟨.bl false, H, I, rfl, q⟩
  | @cons x0 u0 xs0 us0 r0 rr =>
    have c := PySem.SeqAt.RcNeAt.lists_lengths L1 L2' (by simp) hu
    exact c X.prog X.w X.xe _ ⟨.bl true, H, I, rfl, q⟩
end
end V3

set_option Elab.async false
set_option linter.all false
set_option maxRecDepth 100000
/-! Further rules of our own: xs[a:b:k]; a class that stands in a local name, called. -/
namespace V3
open PySem PySem.Spec PyProof.Rows L2
/-- the items of xs[lo:hi:st] -/
def stepV (xs : List V) (lo hi st : Option Int) : List V :=
  (sliceRange (sliceBounds lo hi st xs.length).1 (sliceBounds lo hi st xs.length).2.1 (sliceBounds lo hi st xs.length).2.2).filterMap (fun i => xs[i]?)
theorem vals_pick {xs : List V} {us : List Value} (r : Vals xs us) : ∀ idx : List Nat, Vals (idx.filterMap (fun i => xs[i]?)) (idx.filterMap (fun i => us.toArray[i]?))
  | [] => .nil
  | i :: idx => by
    have ih := vals_pick r idx
    rw [List.filterMap_cons, List.filterMap_cons]
    cases e : xs[i]? with
    | none =>
      have e2 : us.toArray[i]? = none := by
        rw [List.getElem?_toArray]
        exact r.none_of e
      rw [e2]
      exact ih
    | some x =>
      obtain ⟨u, hu, ru⟩ := r.get e
      have e2 : us.toArray[i]? = some u := by
        rw [List.getElem?_toArray]
        exact hu
      rw [e2]
      exact .cons ru ih
section
variable {X : Cx} {e : Expr} {te : TE} {lo hi st : Option Expr} {tl th ts : TO} {p2 pos : Pos}
def tStep (K : PySem.W.Frag) (te : TE) (tl th ts : TO) : TE := fun σ H Q => te σ H fun x H1 => tl σ H1 fun l H2 => th σ H2 fun u H3 => ts σ H3 fun k H4 =>
  ∃ a xs, x = .ref a ∧ SqL K H4 a xs ∧ k ≠ some 0 ∧ (stepV xs l u k).length ≤ sizeLine ∧ ∀ p, H4 p = none → Q (.ref p) (upd H4 p (.lst (stepV xs l u k)))
theorem pe_step (he : PE X e te) (hl : PO X lo tl) (hu : PO X hi th) (hk : PO X st ts)
    (hop : ∀ (o : Value) (n : Addr), subscripted (.Slice lo hi st p2) false o (.ref n) = operate [o, .ref n] (getItem o (.ref n)) := by intro _ _; with_unfolding_all rfl) :
    PE X (.Subscript e (.Slice lo hi st p2) pos) (tStep X.K te tl th ts) := by
  refine ⟨fun pins s σ H Q I h => ?_⟩
  refine Subscript_ (thn (he.run pins s σ H _ I h) fun v s1 ⟨x, H1, I1, r1, q1⟩ => ?_)
  refine wpAny_Slice (thn (hl.run pins s1 σ H1 _ I1 q1) fun vl s2 ⟨l, H2, I2, pl, q2⟩ =>
    thn (hu.run pins s2 σ H2 _ I2 q2) fun vu s3 ⟨u, H3, I3, pu, q3⟩ =>
    thn (hk.run pins s3 σ H3 _ I3 q3) fun vk s4 ⟨k, H4, I4, pk, q4⟩ => ?_)
  obtain ⟨a, xs, rfl, hx, hk0, hsz, q⟩ := q4
  have J : Inv X pins σ H4 { s4 with heap := s4.heap.push { cls := .type "slice", data := .fields #[vl, vu, vk] } } := I4.kept (t' := s4.toks) fun b ob q => Heap.get?_push_of_some _ q
  cases r1
  obtain ⟨its, r, ht, hz⟩ := J.list hx
  have hlen := r.length
  have got : wpAny (model X.prog X.w) X.A (getItem (.ref a) (.ref s4.heap.objs.size)) (EP X pins σ Q) X.xe { s4 with heap := s4.heap.push { cls := .type "slice", data := .fields #[vl, vu, vk] } } := by
    refine wpAny_getItem_list_slice ht.isList (Heap.IsSliceOf.new ..) pl pu pk hk0 ?_ (by rw [List.size_toArray] <;> omega)
    have e : slicePick its.toArray l u k = ((sliceRange (sliceBounds l u k xs.length).1 (sliceBounds l u k xs.length).2.1 (sliceBounds l u k xs.length).2.2).filterMap (fun i => its.toArray[i]?)).toArray := by
      unfold slicePick
      rw [List.size_toArray, ← hlen]
    rw [e]
    refine ⟨.ref (s4.heap.push _).objs.size, _, J.laid (t' := s4.toks) (o := .lst (stepV xs l u k)) (fun b ob q => Heap.get?_push_of_some _ q) (Nat.le_refl _) ?_, rfl, q _ (J.hok.fresh (Nat.le_refl _))⟩
    exact ⟨hsz, _, 0, vals_pick r _, Heap.get?_push_size _ rfl⟩
  show wpAny (model X.prog X.w) X.A (subscriptTail e (.Slice lo hi st p2) (.ref a) (.ref s4.heap.objs.size)) (EP X pins σ Q) X.xe { s4 with heap := s4.heap.push { cls := .type "slice", data := .fields #[vl, vu, vk] } }
  exact tail_any (ops := [.ref a, .ref s4.heap.objs.size]) ht.isList.typeIs slot_list_getitem.lookup got (hop _ _)
end
section
variable {X : Cx} {CX : CXT} {k i : Nat} {f C : Addr} {fd : FuncData} {ps : List Str} {sp : Sp} {E : XK} {x : Str} {p pos : Pos} {e : Expr} {es : List Expr} {t : TA} {dvs : List V} {ds : List Value}
/-- c(e, ..), c a local name that holds the class at C -/
def tMakeL (i : Nat) (C : Addr) (sp : Sp) (dvs : List V) (E : XK) (t : TA) : TE := fun σ H Q => σ[i]? = some (some (.ref C)) ∧ tMake C sp dvs E t σ H Q
theorem pe_makeL (M : Mk X.K C f) (F : FnOk X.prog X.w X.K X.mg X.base CX k f fd ps sp) (room : Room (k + 1) X.A) (hN : X.N[i]? = some x) (hv : Vis X.env.scope x)
    (bi : Binds X.K fd ps ds) (va : Vals dvs ds) (out : Passes CX X E) (ha : PA X (e :: es) t)
    (hdb : (x == ("__debug__" : Str)) = false := by decide) (hcd : (x == ("__classdict__" : Str)) = false := by decide)
    (he : starEach (e :: es) X.env = (false, eval e X.env) :: starEach es X.env := by rfl) (hpl : (backTo pos (starEach es X.env)).any (·.1) = false := by rfl) :
    PE X (.Call (.Name x p) (e :: es) [] pos) (tMakeL i C sp dvs E t) := by
  refine ⟨fun pins s σ H Q I h => ?_⟩
  obtain ⟨at_, want⟩ := h
  refine wpAny_Call_Name_kw (thn ((pe_var (pos := p) hN hv hdb hcd).run pins s σ H (fun v H1 => v = .ref C ∧ H1 = H) I ⟨.ref C, at_, rfl, rfl⟩) fun u s1 ⟨v, H1, I1, r1, q1⟩ => ?_)
  obtain ⟨rfl, rfl⟩ := q1
  cases r1
  refine PySem.W.callWith_K (h₀ := X.base) I.ok.mod.kin M.kp ?_ he hpl
  exact thn (ha.run pos pins s1 σ _ _ I1 want) fun us s2 ⟨vs, H2, I2, r, q⟩ => ⟨I2.kIn, run_make M F room bi va out I2 r q⟩
end
end V3

set_option Elab.async false
set_option linter.all false
set_option maxRecDepth 100000
/-! == and != of objects of our own classes, by their own __eq__, whatever it answers. -/
namespace V3
open PySem PySem.Spec PyProof.Rows L2
section
variable {prog : Program} {w : World} {A : Around} {E : Value → Shared → Prop} {s : Shared} {K : PySem.W.Frag} {x C L f : Addr} {h₀ : Heap} {m : Str → Option Value} {ox : Obj} {od : Option Obj} {name : Str} {b tb : Value}
theorem ifBound_B {M : Model} {args : List Value} {id : String} {Q : Option Value → Shared → Prop} (X : K.In s.heap) (I : PySem.W.InstAt s.heap x ox C od) (hs : PySem.W.findIn K (.ref C) name = some (some (.builtin id)))
    (hb : ∀ self, bindSpecial (.builtin id) self = pure (.builtin id, [self]))
    (h : wpAny M A (call (.builtin id) (.ref x :: args)) (fun v => Q (some v)) E s) : wpAny M A (callSpecialIfBound? (.ref x) name args) Q E s := by
  simp only [callSpecialIfBound?, bindSpecialIfBound?]
  refine wpAny_holding (wpAny_bind (wpAny_bind (wpAny_bind (I.type.here ((PySem.W.looks_findIn X hs).here ?_)))))
  simp only [hb]
  refine wpAny_bind (wpAny_askSetting (wpAny_ite ?_))
  have fin : wpAny M A (call (.builtin id) ([.ref x] ++ args) >>= fun v => pure (some v)) Q E s := wpAny_bind (wpAny_mono h (fun v s' h' => wpAny_pure h') fun _ _ h' => h')
  split
  · exact wpAny_bind (wpAny_pure (wpAny_pure fin))
  · exact wpAny_tryCatch (wpAny_bind (wpAny_pure (wpAny_pure fin)))
theorem ne_entry {Q : Fin → Shared → Prop} (hu : A.units < cLine) (X : K.In s.heap) (I : PySem.W.InstAt s.heap x ox C od) (hs : PySem.W.findIn K (.ref C) "__eq__" = some (some (.ref f))) (hf : PySem.W.isFn K (.ref f) = true)
    (h : wpAny (model prog w) A (call (.ref f) [.ref x, b]) (fun v s' => ∃ r, v = .bool r ∧ Q (.done (.ret (.bool (!r)))) s') E s) :
    wpAny (model prog w) A (Builtin.«object.__ne__» ⟨[.ref x, b], []⟩) Q E s := by
  unfold Builtin.«object.__ne__»
  repeat (first | with_reducible refine wpAny_cRoomFor hu ?_ | with_reducible refine wpAny_bind (PySem.W.ifBound_K X I hs hf (wpAny_mono h (fun v s' hv => ?_) fun _ _ e => e)) | wp_step)
  obtain ⟨r, rfl, q⟩ := hv
  repeat wp_step
  exact q
theorem ne_K {Q : Value → Shared → Prop} (hu : A.units + 1 < cLine) (F : PyProof.Rows.Fr h₀ L s.heap m) (X₀ : K.In h₀) (I : PySem.W.InstAt s.heap x ox C od) (hb : PySem.W.Looks (model prog w) s.heap (typeOf b) tb) (hn : PySem.W.notFirst K C tb = true)
    (hs : PySem.W.findIn K (.ref C) "__eq__" = some (some (.ref f))) (hf : PySem.W.isFn K (.ref f) = true)
    (hne : PySem.W.findIn K (.ref C) "__ne__" = some (some (.builtin "object.__ne__"))) (hob : PySem.W.subIn K (.ref C) (.type "object") = some true)
    (h : wpAny (model prog w) A.in1 (call (.ref f) [.ref x, b]) (fun v s' => ∃ r, v = .bool r ∧ Q (.bool (!r)) s') E s) : wpAny (model prog w) A (richCompare .NotEq (.ref x) b) Q E s := by
  have X := X₀.keeps F.keep
  have hu0 : A.units < cLine := Nat.lt_of_succ_lt hu
  have one : wpAny (model prog w) A (tryCompare (.ref x) "__ne__" b) (fun r s' => ∃ v, r = some v ∧ Q v s') E s := by
    unfold tryCompare
    refine wpAny_bind (ifBound_B X I hne (fun self => PySem.F.cmp_object.ne.bind self) ?_)
    refine wpAny_call (codeAny_call_builtin PySem.F.cmp_object.ne.plain PySem.F.cmpEntry_ne (PySem.W.check_slot PySem.F.cmpKind_ne PySem.F.cmpSplit_ne (I.type.andThen (PySem.W.looks_subIn X hob)) (PySem.F.cmpArgs_ne _ _) (ne_entry (A := A.in1) hu X I hs hf ?_)))
    refine wpAny_mono h (fun v s' hv => ?_) fun _ _ e => e
    obtain ⟨r, rfl, q⟩ := hv
    exact ⟨r, rfl, wpAny_pure ⟨_, rfl, q⟩⟩
  unfold richCompare
  simp only [oneThing_ref]
  refine wpAny_holding (wpAny_bind (wpAny_cRoomFor hu0 ?_))
  refine wpAny_bind (I.type.here (wpAny_bind (hb.here ?_)))
  split
  · rename_i q
    have e : PySem.W.subIn K tb (.ref C) = some false := by
      rcases Bool.or_eq_true_iff.mp hn with e | e
      · rw [beq_iff_eq.mp e] at q; simp at q
      · exact beq_iff_eq.mp e
    refine wpAny_bind ((PySem.W.looks_subIn X e).here ?_)
    simp only [Bool.false_eq_true, if_false]
    refine wpAny_bind (wpAny_mono one (fun r s' z => ?_) fun _ _ e => e)
    obtain ⟨v, rfl, hq⟩ := z
    exact wpAny_pure hq
  · refine wpAny_bind (wpAny_pure ?_)
    simp only [Bool.false_eq_true, if_false]
    refine wpAny_bind (wpAny_mono one (fun r s' z => ?_) fun _ _ e => e)
    obtain ⟨v, rfl, hq⟩ := z
    exact wpAny_pure hq
end
/-- a class with an own __eq__ at f and the __ne__ of object -/
structure EqCls (K : PySem.W.Frag) (C f : Addr) : Prop where
  eq : PySem.W.findIn K (.ref C) "__eq__" = some (some (.ref f))
  fn : PySem.W.isFn K (.ref f) = true
  ne : PySem.W.findIn K (.ref C) "__ne__" = some (some (.builtin "object.__ne__"))
  ob : PySem.W.subIn K (.ref C) (.type "object") = some true
section
variable {X : Cx} {CX : CXT} {n : Nat} {f C D : Addr} {fd : FuncData} {ps : List Str} {sp : Sp} {E : XK}
/-- f called at a pair, somewhere below the running body -/
theorem run_own {A : Around} {pins : List (Addr × Obj)} {s : Shared} {σ : L2.St} {H : Hp} {x y : V} {u v : Value} {Q : VK} (sb : Sub X n A) (F : FnOk X.prog X.w X.K X.mg X.base CX n f fd ps sp) (hb : Binds X.K fd ps []) (hx : Passes CX X E)
    (I : Inv X pins σ H s) (rx : RelV x u) (ry : RelV y v) (h : sp [x, y] H Q E) : wpAny (model X.prog X.w) A (call (.ref f) [u, v]) (EP X pins σ Q) X.xe s := by
  have e0 : Env0 X.prog X.w X.K X.mg X.base A X.stack s H := by
    have e := I.env0
    exact ⟨by rw [sb.fr]; exact e.frames, e.mod, e.bs, e.bsz, e.funs, e.frf, e.hok, e.bare⟩
  have hl := F.len _ _ _ _ h
  have r2 : Vals [x, y] [u, v] := .cons rx (.cons ry .nil)
  refine wpAny_call (codeAny_mono (F.run A X.stack s H ⟨[u, v], []⟩ [u, v] [x, y] _ E sb.room e0 (by
    have := hb s [u, v] I.kIn (by simpa using hl)
    simpa using this) r2 h) fun r s' hq => ?_)
  cases r with
  | error e => exact hx pins σ H s e s' I hq
  | ok fl =>
    cases fl with
    | ret w =>
      obtain ⟨z, H', I', rz, q⟩ := I.after hq
      exact ⟨z, H', I', rz, q⟩
    | next => exact False.elim hq
    | brk => exact False.elim hq
    | cont => exact False.elim hq
/-- x == y, x an object whose class has the own __eq__ -/
def rEqO (K : PySem.W.Frag) (n : Nat) (FF : Addr → Sp → XK → Prop) (neg : Bool) : R2 := fun x y H Q => ∃ (a C dx : Addr) (fs : List (Str × V)) (b D dy : Addr) (gs : List (Str × V)) (sp : Sp) (E : XK), x = .ref a ∧ y = .ref b ∧ H a = some (.ins C dx fs) ∧ H b = some (.ins D dy gs) ∧
  FF C sp E ∧ PySem.W.notFirst K C (.ref D) = true ∧ sp [x, y] H (fun v H' => ∃ r : Bool, v = .bl r ∧ Q (.bl (r != neg)) H') E
theorem op_eqO {FF : Addr → Sp → XK → Prop} (hF : ∀ C sp E, FF C sp E → ∃ (CX : CXT) (f : Addr) (fd : FuncData) (ps : List Str), FnOk X.prog X.w X.K X.mg X.base CX n f fd ps sp ∧ EqCls X.K C f ∧ Binds X.K fd ps [] ∧ Passes CX X E) (hr : Room n X.A) :
    OpR X (compareOp .Eq) (rEqO X.K n FF false) := by
  intro pins s σ H x y v u Q I rx ry hq
  obtain ⟨a, C, dx, fs, b, D, dy, gs, sp, E, rfl, rfl, ha, hb, ff, hn, hsp⟩ := hq
  obtain ⟨CX, f, fd, ps, F, ec, bi, hx⟩ := hF C sp E ff
  cases rx
  cases ry
  obtain ⟨mA, J, _⟩ := ins_get I.hok ha
  obtain ⟨mB, J', _⟩ := ins_get I.hok hb
  obtain ⟨od, J, _⟩ := J.look
  obtain ⟨od', J', _⟩ := J'.look
  obtain ⟨m, hF⟩ := I.fr
  show wpAny (model X.prog X.w) X.A (richCompare .Eq (.ref a) (.ref b)) (EP X pins σ Q) X.xe s
  refine PySem.W.cmp_K (op := .Eq) (tb := .ref D) hr.units0 hF I.ok.mod.kin J J'.type hn ec.eq ec.fn ?_
  refine wpAny_mono (run_own (x := .ref a) (y := .ref b) ⟨hr, rfl⟩ F bi hx I rfl rfl hsp) (fun w s' q => ?_) fun _ _ e => e
  obtain ⟨z, H', I', rz, r, ez, q⟩ := q
  subst ez
  cases rz
  refine ⟨.bl r, H', I', rfl, ?_⟩
  have e : (r != false) = r := by cases r <;> rfl
  rw [e] at q
  exact q
theorem op_neO {FF : Addr → Sp → XK → Prop} (hF : ∀ C sp E, FF C sp E → ∃ (CX : CXT) (f : Addr) (fd : FuncData) (ps : List Str), FnOk X.prog X.w X.K X.mg X.base CX n f fd ps sp ∧ EqCls X.K C f ∧ Binds X.K fd ps [] ∧ Passes CX X E) (hr : Room (n + 1) X.A) :
    OpR X (compareOp .NotEq) (rEqO X.K n FF true) := by
  intro pins s σ H x y v u Q I rx ry hq
  obtain ⟨a, C, dx, fs, b, D, dy, gs, sp, E, rfl, rfl, ha, hb, ff, hn, hsp⟩ := hq
  obtain ⟨CX, f, fd, ps, F, ec, bi, hx⟩ := hF C sp E ff
  cases rx
  cases ry
  obtain ⟨mA, J, _⟩ := ins_get I.hok ha
  obtain ⟨mB, J', _⟩ := ins_get I.hok hb
  obtain ⟨od, J, _⟩ := J.look
  obtain ⟨od', J', _⟩ := J'.look
  obtain ⟨m, hF⟩ := I.fr
  show wpAny (model X.prog X.w) X.A (richCompare .NotEq (.ref a) (.ref b)) (EP X pins σ Q) X.xe s
  refine ne_K (tb := .ref D) (by have := hr.units; omega) hF I.ok.mod.kin J J'.type hn ec.eq ec.fn ec.ne ec.ob ?_
  refine wpAny_mono (run_own (x := .ref a) (y := .ref b) (A := X.A.in1) ⟨hr.in1, rfl⟩ F bi hx I rfl rfl hsp) (fun w s' q => ?_) fun _ _ e => e
  obtain ⟨z, H', I', rz, r, ez, q⟩ := q
  subst ez
  cases rz
  refine ⟨r, rfl, .bl (!r), H', I', rfl, ?_⟩
  have e : (r != true) = !r := by cases r <;> rfl
  rw [e] at q
  exact q
end
end V3

set_option Elab.async false
set_option linter.all false
set_option maxRecDepth 100000
/-! functions that are called where no repr is under way: repr of nested lists and tuples -/
namespace V3
open PySem PySem.Spec PyProof.Rows L2
def NoG (A : Around) : Prop := A.guards = some []
theorem NoG.deeper {A : Around} (h : NoG A) (e : Env) : NoG (A.deeper e) := h
/-- what a def promises to such callers -/
structure FnG (P : Program) (w : World) (K : PySem.W.Frag)
    (mg : Str → Option Value) (base : Heap) (CX : CXT) (k : Nat)
    (f : Addr) (fd : FuncData) (ps : List Str) (sp : Sp) : Prop where
  len : ∀ vs H Q E, sp vs H Q E → vs.length = ps.length
  run : ∀ (A : Around) (up : List Env) (s : Shared) (H : Hp) (args : Args)
    (us : List Value) (vs : List V) (Q : VK) (E : XK),
    NoG A → Room k A → Env0 P w K mg base A up s H →
    BindsTo s fd args (ps.zip us) → Vals vs us → sp vs H Q E →
    codeAny (model P w) A (.call (.ref f) args) (CR CX up P w H s Q E) s
theorem FnG.of {P : Program} {w : World} {K : PySem.W.Frag} {mg : Str → Option Value} {base : Heap}
    {CX : CXT} {k : Nat} {f : Addr} {fd : FuncData} {ps : List Str} {sp : Sp}
    (F : FnOk P w K mg base CX k f fd ps sp) : FnG P w K mg base CX k f fd ps sp :=
  ⟨F.len, fun A up s H args us vs Q E _ => F.run A up s H args us vs Q E⟩
theorem FnG.up {P : Program} {w : World} {K : PySem.W.Frag} {mg : Str → Option Value} {base : Heap}
    {CX : CXT} {j k : Nat} {f : Addr} {fd : FuncData} {ps : List Str} {sp : Sp}
    (F : FnG P w K mg base CX j f fd ps sp) (h : j ≤ k) : FnG P w K mg base CX k f fd ps sp :=
  ⟨F.len, fun A up s H args us vs Q E g r => F.run A up s H args us vs Q E g (r.mono h)⟩
section
variable {P : Program} {w : World} {K : PySem.W.Frag} {mg : Str → Option Value} {base : Heap}
/-- the rule for a def of the text -/
theorem fnG {CX : CXT} {k : Nat} {f : Addr} {x qual : Str} {st : Stmt} {fd : FuncData}
    {N ps : List Str} {sp : Sp} (F : Fun K x qual st f fd) (S : FnScope N ps (defScope st))
    (len : ∀ vs H Q E, sp vs H Q E → vs.length = ps.length)
    (hbody : ∀ (cdv : Value) (A : Around) (up : List Env) (s : Shared) (H : Hp)
      (vs : List V) (Q : VK) (E : XK),
      NoG A → Room k (A.deeper (envOfC qual (defScope st) s.heap.objs.size f cdv)) →
      sp vs H Q E →
      ∃ t, PSs (cxOf CX P w K mg base N qual (defScope st) f cdv A up s H E) (defBody st) t ∧
        t { nx := fun _ H' => Q .non H', rt := Q } (start N vs) H) :
    FnG P w K mg base CX (k + 1) f fd ps sp := by
  obtain ⟨oc, od, kV, doc, pm, an, cdv, ct, osl, rfl, lk, hcd⟩ := F.ex
  refine ⟨len, fun A up s H args us vs Q E g room e0 bnd rel want => ?_⟩
  have nlen := len _ _ _ _ want
  have old := fun b o e => (e0.bs b o e).1
  have KX : K.In s.heap := e0.mod.kin.keeps old
  have lim := e0.mod.nolimit.keeps old
  have known : ∀ y ∈ ps.zip us, (defScope st).names.lookup y.1 = some .local ∨
      ((defScope st).names.lookup y.1 = some .cell ∧
        ((cellsFrom (s.heap.objs.size + 1) (defScope st).names []).lookup y.1).isSome = true) := by
    rintro ⟨n, v⟩ hy
    exact (S.par n (List.of_mem_zip hy).1).imp id fun q => ⟨q, PySem.W.cellsFrom_some _ _ _ (.inl q)⟩
  refine codeAny_call_function room.depth (KX _ _ lk) rfl S.co S.gen rfl
    (PySem.W.codeRec_of KX hcd) (bnd _ _ _ _ ?_)
  refine wpAny_newFunctionEnv_cells S.kind known fun env same s1 x => ?_
  subst same
  refine ⟨lim.keeps x.toInCall.keep, codeAny_func ?_⟩
  obtain ⟨t, ht, hq⟩ := hbody cdv A up s H vs Q E g (room.deeper _) want
  have I := inv_start (CX := CX) (E := E) S room.hd e0 nlen rel x
  refine wpAny_mono (ht.run [] s1 (start N vs) H _ I hq) (fun fl s' hs => ?_) fun e s' hs => hs
  match fl, hs with
  | .ret u, hs =>
    obtain ⟨v, σ', H', J, rv, q⟩ := hs
    exact ⟨v, H', J.os, J.bare, J.base, J.hok, rv, q⟩
  | .next, hs =>
    obtain ⟨σ', H', J, q⟩ := hs
    exact ⟨.non, H', J.os, J.bare, J.base, J.hok, rfl, q⟩
  | .brk, hs =>
    obtain ⟨_, _, _, q⟩ := hs
    exact q.elim
  | .cont, hs =>
    obtain ⟨_, _, _, q⟩ := hs
    exact q.elim
end
section
variable {X : Cx} {CX : CXT} {k : Nat} {f : Addr} {fd : FuncData} {ps : List Str} {sp : Sp}
  {dvs : List V} {ds : List Value} {E : XK} {x : Str} {p pos : Pos} {e : Expr} {es : List Expr} {t : TA}
theorem runG {pins : List (Addr × Obj)} {σ : L2.St} {H : Hp} {s : Shared} {Q : VK}
    {us : List Value} {vs : List V} (F : FnG X.prog X.w X.K X.mg X.base CX k f fd ps sp)
    (g : NoG X.A) (room : Room k X.A) (bi : Binds X.K fd ps ds) (va : Vals dvs ds)
    (out : Passes CX X E) (I : Inv X pins σ H s) (r : Vals vs us) (want : sp (vs ++ dvs) H Q E) :
    wpAny (model X.prog X.w) X.A (call (.ref f) us) (EP X pins σ Q) X.xe s := by
  have r2 := r.append va
  have nlen := r2.length.symm.trans (F.len _ _ _ _ want)
  have ran := F.run X.A X.stack s H ⟨us, []⟩ _ _ Q E g room I.env0 (bi s us I.kIn nlen) r2 want
  refine wpAny_call (codeAny_mono ran fun res s' hq => ?_)
  match res, hq with
  | .error err, hq => exact out pins σ H s err s' I hq
  | .ok (.ret u), hq => exact I.after hq
  | .ok .next, hq => exact hq.elim
  | .ok .brk, hq => exact hq.elim
  | .ok .cont, hq => exact hq.elim
/-- f(e, ..) -/
theorem pe_callG (F : FnG X.prog X.w X.K X.mg X.base CX k f fd ps sp) (g : NoG X.A)
    (room : Room k X.A) (hg : Gl X x) (hm : X.mg x = some (.ref f))
    (kp : PySem.W.keepIn X.K (.ref f) = true) (bi : Binds X.K fd ps ds) (va : Vals dvs ds)
    (out : Passes CX X E) (ha : PA X (e :: es) t)
    (hdb : (x == ("__debug__" : Str)) = false := by decide)
    (he : starEach (e :: es) X.env = (false, eval e X.env) :: starEach es X.env := by rfl)
    (hpl : (backTo pos (starEach es X.env)).any (·.1) = false := by rfl) :
    PE X (.Call (.Name x p) (e :: es) [] pos) (tCall sp dvs E t) := by
  refine ⟨fun pins s σ H Q I h => wpAny_Call_Name_kw (ld_glob I hg hm ?_ hdb)⟩
  refine PySem.W.callWith_K (h₀ := X.base) I.ok.mod.kin kp ?_ he hpl
  exact thn (ha.run pos pins s σ H _ I h) fun us s1 ⟨vs, H1, I1, r, q⟩ =>
    ⟨I1.kIn, runG F g room bi va out I1 r q⟩
/-- repr(v), v nested data -/
def rReprD (K : PySem.W.Frag) (A : Around) : List V → Hp → VK → Prop := fun xs H Q =>
  ∃ (a : Addr) (d : PyData), xs = [.ref a] ∧ Dp K H (.ref a) d ∧ d.showable = true ∧
    d.hasDict = false ∧ A.units + (d.depth + 1) < cLine ∧ d.shown.length ≤ sizeLine ∧ Q (.str d.shown) H
theorem call_reprD (g : NoG X.A) : CallR X (.builtin "repr") (rReprD X.K X.A) := by
  intro pins s σ H xs us Q I r h
  obtain ⟨a, d, rfl, hd, sh, nd, hu, hz, q⟩ := h
  obtain ⟨u, rfl, ru⟩ := vals1 r
  obtain ⟨as, rd⟩ := hd.reads I d _ _ ru
  cases ru
  exact repr_of_reads' rd sh (PyData.noDict_hsm nd) g hu (fun _ _ e => e)
    (fun h' u tk hk => ⟨.str d.shown, H, I.kept (t' := tk) hk, ⟨u, rfl⟩, q⟩) hz
end
end V3

set_option Elab.async false
set_option linter.all false
set_option maxRecDepth 100000
/-! the law's own call, where no repr is under way -/
namespace V3
open PySem PySem.Spec PyProof.Rows L2
section
variable {P : Program} {w : World} {K : PySem.W.Frag} {mg mb : Str → Option Value} {k : Nat}
  {fa a : Addr} {fd : FuncData} {x : Str} {sp : Sp} {s1 : Shared} {vs : List Value} {ns : List Int}
/-- nothing but the script is followed -/
structure Lone (H : Hp) (a : Addr) : Prop where
  only : Only H
  here : ∀ b, H b ≠ none → b = a
theorem law_from {H : Hp} (KX : K.In s1.heap) (hns : s1.heap.Ns mainGlobals mg)
    (hb : s1.heap.Ns builtinsNs mb) (hbb : ∀ y : Str, y ≠ "__name__" → mb y = bootBuiltins y)
    (lim : s1.heap.NoLimit) (gens : s1.gens = #[])
    (ha : s1.heap.get? a = some { cls := .type "list", data := .seq vs.toArray })
    (room : Room k callerA)
    (F : ∀ base : Heap, K.In base → base.Ns mainGlobals mg → FnG P w K mg base CX0 k fa fd [x] sp)
    (bi : ∀ (s : Shared) (u : Value), BindsTo s fd ⟨[u], []⟩ [(x, u)])
    (want : sp [.ref a] H (fun v _ => v = .bl true) fun _ _ _ => False)
    (lone : Lone H a) (hok : HOk P w H s1.heap) (free : H a ≠ none → K.lookup a = none) :
    codeAny (model P w) callerA (.call (.ref fa) ⟨[.ref a], []⟩)
      (fun r s' => r = .ok (.ret (.bool true)) ∧ OldK s1.heap s'.heap ∧ s'.os = s1.os ∧ AllBare s'.gens) s1 := by
  have at_a : ∀ {b : Addr}, H b ≠ none → b = a := fun {b} h => lone.here b h
  have kept : ∀ {b : Addr} {o : Obj}, s1.heap.get? b = some o → (b = a → H b = none) →
      (hidT s1.heap H).get? b = some o := by
    intro b o e n
    by_cases q : H b = none
    · exact hidT_get e q
    · exact hidT_get e (n (at_a q))
  have nsK : ∀ {b : Addr} {m : Str → Option Value}, s1.heap.Ns b m → (hidT s1.heap H).Ns b m := by
    rintro b m ⟨o, es, ep, e, d, r⟩
    refine ⟨o, es, ep, kept e fun z => ?_, d, r⟩
    subst z
    rw [ha] at e
    cases e
    exact nomatch d
  have hKb : K.In (hidT s1.heap H) := by
    intro b o e
    refine kept (KX b o e) fun z => ?_
    subst z
    by_cases q : H b = none
    · exact q
    · rw [free q] at e
      cases e
  obtain ⟨mc, c1, c2⟩ := lim
  have hM : Mod K mg (hidT s1.heap H) := ⟨hKb, nsK hns, ⟨mb, nsK hb, hbb⟩, mc, nsK c1, c2⟩
  have e0 : Env0 P w K mg (hidT s1.heap H) callerA [] s1 H :=
    ⟨rfl, hM, fun b o e => of_hidT e, Nat.le_of_eq (hidT_size _ _), trivial,
      fun b hb => (nomatch hb), hok, AllBare.of_eq gens⟩
  have ran := (F _ hKb (nsK hns)).run callerA [] s1 H ⟨[.ref a], []⟩ [.ref a] [.ref a] _ _ rfl room e0
    (bi s1 (.ref a)) (.cons rfl .nil) want
  refine codeAny_mono ran fun r s' h => ?_
  match r, h with
  | .error e, h => exact h.elim
  | .ok .next, h => exact h.elim
  | .ok .brk, h => exact h.elim
  | .ok .cont, h => exact h.elim
  | .ok (.ret u), h =>
    obtain ⟨v, H', os, bare, un, hok', r', q⟩ := h
    have q' : v = .bl true := q
    subst q'
    have r2 : u = Value.bool true := r'
    subst r2
    refine ⟨rfl, OldK.of_keep fun b o e => ?_, os, bare⟩
    cases hb : H b with
    | none => exact un.keep b o e hb (fun z => by cases z) (by simp)
    | some u =>
      rcases lone.only b with z | ⟨ob, xs, z⟩
      · rw [hb] at z
        cases z
      · obtain ⟨g1, _⟩ := hok b _ z
        obtain ⟨g2, _⟩ := hok' b _ (un.frzs b ob _ z)
        rw [e] at g1
        cases g1
        exact g2
theorem law_callG (KX : K.In s1.heap) (hns : s1.heap.Ns mainGlobals mg)
    (hb : s1.heap.Ns builtinsNs mb) (hbb : ∀ y : Str, y ≠ "__name__" → mb y = bootBuiltins y)
    (lim : s1.heap.NoLimit) (gens : s1.gens = #[])
    (ha : s1.heap.get? a = some { cls := .type "list", data := .seq vs.toArray })
    (whole : IntsAre vs ns) (few : ns.length ≤ sizeLine) (room : Room k callerA)
    (F : ∀ base : Heap, K.In base → base.Ns mainGlobals mg → FnG P w K mg base CX0 k fa fd [x] sp)
    (bi : ∀ (s : Shared) (u : Value), BindsTo s fd ⟨[u], []⟩ [(x, u)])
    (want : ∀ H : Hp, Only H → SqL K H a (ns.map V.int) → sp [.ref a] H (fun v _ => v = .bl true) fun _ _ _ => False) :
    codeAny (model P w) callerA (.call (.ref fa) ⟨[.ref a], []⟩)
      (fun r s' => r = .ok (.ret (.bool true)) ∧ OldK s1.heap s'.heap ∧ s'.os = s1.os ∧ AllBare s'.gens) s1 := by
  have rv := vals_ints whole
  have nv := whole.length
  cases hk : K.lookup a with
  | some o =>
    have e := KX a o hk
    rw [ha] at e
    cases e
    have o0 : Only (fun _ => none) := fun _ => .inl rfl
    refine law_from KX hns hb hbb lim gens ha room F bi (want _ o0 (.inr ⟨_, vs.toArray, _, hk, rfl, rfl, rfl, ?_, ?_⟩)) ⟨o0, ?_⟩ ?_ ?_
    · rw [List.size_toArray, nv]
      exact few
    · simpa using rv
    · intro b z
      exact absurd rfl z
    · intro b u z
      have z2 : (none : Option HO) = some u := z
      cases z2
    · intro z
      exact absurd rfl z
  | none =>
    let Ha : Hp := fun b => if b = a then some (.frz { cls := .type "list", data := .seq vs.toArray } (.lst (ns.map V.int))) else none
    have yes : Ha a = some (.frz { cls := .type "list", data := .seq vs.toArray } (.lst (ns.map V.int))) := if_pos rfl
    have no : ∀ b, b ≠ a → Ha b = none := fun b n => if_neg n
    have o0 : Only Ha := by
      intro b
      by_cases z : b = a
      · subst z
        exact .inr ⟨_, _, yes⟩
      · exact .inl (no b z)
    refine law_from (H := Ha) KX hns hb hbb lim gens ha room F bi (want _ o0 (.inl (.inr ⟨_, yes⟩))) ⟨o0, ?_⟩ ?_ fun _ => hk
    · intro b z
      by_cases q : b = a
      · exact q
      · exact absurd (no b q) z
    · intro b u z
      by_cases q : b = a
      · subst q
        rw [yes] at z
        cases z
        exact ⟨ha, by rw [List.length_map]; exact few, vs, _, rv, ha⟩
      · rw [no b q] at z
        cases z
end
/-- the walk from such a promise -/
theorem walk_ofG {l : PySem.W.OpenLaw} {n k : Nat} {q : Program} {loose : List Str}
    {XP : (Str → Option Value) → Heap → Prop} {YP : World → Heap → Prop} {d : DefRec}
    {K : Params → PySem.W.Frag} {sp : World → Sp} {x : Str}
    (hn : l.most = some n) (small : n ≤ sizeLine) (hdf : d.params.defaults = []) (room : Room k callerA)
    (hY : ∀ (w : World) (h : Heap), YP w h → (K w.params).In h)
    (F : ∀ (w : World) (mg : Str → Option Value) (fa : Addr) (h : Heap), (K w.params).In h →
      h.Ns mainGlobals mg → mg d.name = some (.ref fa) →
      ∃ fd : FuncData, (∀ (s : Shared) (u : Value), BindsTo s fd ⟨[u], []⟩ [(x, u)]) ∧
        ∀ base : Heap, (K w.params).In base → base.Ns mainGlobals mg →
          FnG l.prog w (K w.params) mg base CX0 k fa fd [x] (sp w))
    (hsp : ∀ (w : World) (H : Hp) (a : Addr) (ns : List Int), ns.length ≤ n → Only H →
      SqL (K w.params) H a (ns.map V.int) → sp w [.ref a] H (fun v _ => v = .bl true) fun _ _ _ => False) :
    PySem.W.WalkO q loose XP YP l.row.toRowW d [] (fun f vs => PySem.call f vs) := by
  refine Att.attach_call hn hdf fun w s0 s1 mg mb fa o pm cd doc a vs ns G Y ho hd hcd hmg hobj whole len gens => ?_
  have KX := hY w _ Y
  obtain ⟨fd, bi, hF⟩ := F w mg fa _ KX G.T.g hmg
  exact law_callG KX G.T.g G.T.b G.T.builtins G.T.nolimit gens hobj whole (Nat.le_trans len small) room hF bi
    fun H hO hS => hsp w H a ns len hO hS
end V3

set_option Elab.async false
set_option linter.all false
set_option maxRecDepth 100000
/-! x in (a, b, ..), where none of the items is x: each item's own == is run -/
namespace V3
open PySem PySem.SeqAt
open AutoSeq1 (wpAny_loadPart')
open MeetsSeq MeetsSeq2 MeetsSeq3 SeqRoads2
section
variable {prog : Program} {w : World} {A : Around} {R : Result → Shared → Prop}
theorem tuple_none (l : Addr) (items : Array Value) (n : Nat) (dd : Option Addr) (sl : Array (Option Value)) (x : Value) (I : Nat → Shared → Prop)
    (turn : ∀ i (h : i < items.size) s, I i s →
      wpAny (model prog w) A.in1 (eqBool items[i] x) (fun r s' => r = false ∧ I (i + 1) s') (fun e s' => R (.error e) s') s)
    (fin : ∀ s, I items.size s → R (.ok (.ret (.bool false))) s) {s : Shared}
    (hl : s.heap.get? l = some { cls := .type "tuple", dict := dd, data := .seq items n, slots := sl }) (h : I 0 s) :
    wpAny (model prog w) A.in1 (Builtin.«tuple.__contains__» ⟨[.ref l, x], []⟩) (GQ.FinOf prog w A R) (fun e s' => R (.error e) s') s := by
  have h0 := h
  obtain ⟨hp, g, d, tk, os⟩ := s
  wp_walk using wpAny_loadPart' hl, wpAny_forIn_array _ (fun rest b s' => b.1 = none ∧ ∃ i, rest = items.toList.drop i ∧ i ≤ items.size ∧ I i s') _
  case turn =>
    rintro y rest b s' ⟨hb, i, hz, hi, hI⟩
    have lt : i < items.toList.length := by
      rcases Nat.lt_or_ge i items.toList.length with q | q
      · exact q
      · rw [List.drop_of_length_le q] at hz
        cases hz
    have lt2 : i < items.size := by simpa using lt
    rw [List.drop_eq_getElem_cons lt] at hz
    injection hz with hy hr
    have hy2 : y = items[i] := by simpa using hy
    subst hy2
    refine wpAny_bind (wpAny_mono (turn i lt2 s' hI) (fun r s2 q => ?_) fun _ _ z => z)
    obtain ⟨rfl, q⟩ := q
    wp_walk
    exact ⟨rfl, i + 1, hr, lt2, q⟩
  case fin =>
    rintro ⟨b1, b2⟩ s' ⟨hb, i, hz, hi, hI⟩
    simp only at hb
    subst hb
    have ge : items.size ≤ i := by
      rcases Nat.lt_or_ge i items.toList.length with q | q
      · rw [List.drop_eq_getElem_cons q] at hz
        cases hz
      · simpa using q
    have e : i = items.size := by omega
    have hR := fin s' (e ▸ hI)
    wp_walk
    first | exact hR | exact ⟨_, rfl, hR⟩ | simpa using hR
  case h =>
    exact ⟨rfl, 0, rfl, Nat.zero_le _, h0⟩
end
end V3

set_option Elab.async false
set_option linter.all false
set_option maxRecDepth 100000
namespace V3
open PySem PySem.SeqAt
open AutoSeq1 (wpAny_loadPart')
section
variable {prog : Program} {w : World} {A : Around} {E : Value → Shared → Prop} {s : Shared} {x : Addr} {o : Obj}
theorem str_declines {z : Str} {t : Tok} {Q : Shared → Prop} (ho : s.heap.get? x = some o) (hd : o.data = .plain) (hq : Q s) :
    wpAny (model prog w) A (call (.builtin "str.__eq__") [.str z t, .ref x]) (fun v s' => v = .notImplemented ∧ Q s') E s := by
  refine GQ.call_here F.slot_str_eq (typeIs_str s z t) F.entry_str_eq (F.args_str_eq_2 _ _) ?_
  obtain ⟨c, dd, da, sl⟩ := o
  simp only at hd
  subst hd
  obtain ⟨hp, g, d, tk, os⟩ := s
  unfold Builtin.«str.__eq__» Builtin.Str.strCompare
  wp_walk using wpAny_load ho
  exact ⟨rfl, hq⟩
theorem none_declines {Q : Shared → Prop} (hq : Q s) :
    wpAny (model prog w) A (call (.builtin "NoneType.__eq__") [.none, .ref x]) (fun v s' => v = .notImplemented ∧ Q s') E s := by
  refine GQ.call_here F.slot_NoneType_eq (typeIs_none s) F.entry_NoneType_eq (F.args_NoneType_eq_2 _ _) ?_
  obtain ⟨hp, g, d, tk, os⟩ := s
  unfold Builtin.«NoneType.__eq__»
  wp_walk
  exact ⟨rfl, hq⟩
theorem tup_declines {K : PySem.W.Frag} {C p : Addr} {od : Option Obj} {items : Array Value} {Q : Shared → Prop} (X : K.In s.heap) (I : PySem.W.InstAt s.heap x o C od) (hs : PySem.W.subIn K (.ref C) (.type "tuple") = some false) (hp : s.heap.IsTuple p items) (hq : Q s) :
    wpAny (model prog w) A (call (.builtin "tuple.__eq__") [.ref p, .ref x]) (fun v s' => v = .notImplemented ∧ Q s') E s := by
  obtain ⟨⟨c1, d1, da, sl⟩, ho, hc, n, hd⟩ := id hp
  simp only at hc hd
  subst hc hd
  refine GQ.call_here F.slot_tuple_eq ⟨_, ho, rfl⟩ F.entry_tuple_eq (F.args_tuple_eq_2 _ _) ?_
  obtain ⟨hh, g, d, tk, os⟩ := s
  wp_walk
  refine wpAny_loadPart I.at_ (wpAny_pure ?_)
  rw [I.cls]
  refine (PySem.W.looks_subIn X hs).here ?_
  wp_walk
  exact ⟨rfl, hq⟩
end
/-! a == b by the own __eq__ of b, where that of a declines -/
section
variable {prog : Program} {w : World} {A : Around} {E : Value → Shared → Prop} {s : Shared} {K : PySem.W.Frag} {x C L f : Addr} {h₀ : Heap} {m : Str → Option Value} {ox : Obj} {od : Option Obj} {a : Value} {T id : String}
theorem turned_K {Q : Value → Shared → Prop} (hu : A.units < cLine) (F : PyProof.Rows.Fr h₀ L s.heap m) (X₀ : K.In h₀) (I : PySem.W.InstAt s.heap x ox C od) (hT : s.TypeIs a T) (sl : Slot T "__eq__" id)
    (one : oneThing? .Eq a (.ref x) = none) (hs : PySem.W.subIn K (.ref C) (.type T) = some false)
    (no : ∀ {Q : Shared → Prop}, Q s → wpAny (model prog w) A (call (.builtin id) [a, .ref x]) (fun v s' => v = .notImplemented ∧ Q s') E s)
    (he : PySem.W.findIn K (.ref C) "__eq__" = some (some (.ref f))) (hf : PySem.W.isFn K (.ref f) = true)
    (h : wpAny (model prog w) A (call (.ref f) [.ref x, a]) (fun v s' => ∃ r, v = .bool r ∧ Q (.bool r) s') E s) : wpAny (model prog w) A (richCompare .Eq a (.ref x)) Q E s := by
  have X := X₀.keeps F.keep
  unfold richCompare
  simp only [one]
  refine wpAny_holding (wpAny_bind (wpAny_cRoomFor hu ?_))
  refine wpAny_bind (wpAny_typeOf hT (wpAny_bind (I.type.here ?_)))
  split
  · refine wpAny_bind ((PySem.W.looks_subIn X hs).here ?_)
    simp only [Bool.false_eq_true, if_false]
    refine wpAny_bind (wpAny_tryCompare_declines hT sl (no ?_))
    simp only [Bool.not_false, if_true]
    have two : wpAny (model prog w) A (tryCompare (.ref x) "__eq__" a) (fun r s' => ∃ v, r = some v ∧ Q v s') E s := by
      unfold tryCompare
      refine wpAny_bind (PySem.W.ifBound_K X I he hf (wpAny_mono h (fun v s' hv => ?_) fun _ _ e => e))
      obtain ⟨r, rfl, q⟩ := hv
      exact wpAny_pure ⟨_, rfl, q⟩
    refine wpAny_bind (wpAny_mono two (fun r s' z => ?_) fun _ _ e => e)
    obtain ⟨v, rfl, hq⟩ := z
    exact wpAny_pure hq
  · rename_i q
    exact absurd (by simp) q
end
end V3

set_option Elab.async false
set_option linter.all false
set_option maxRecDepth 100000
namespace V3
open PySem PySem.Spec PyProof.Rows L2
/-- what of a class is wanted where its objects stand behind texts, None and tuples -/
structure Behind (K : PySem.W.Frag) (C : Addr) : Prop where
  s : PySem.W.subIn K (.ref C) (.type "str") = some false
  n : PySem.W.subIn K (.ref C) (.type "NoneType") = some false
  t : PySem.W.subIn K (.ref C) (.type "tuple") = some false
inductive Plain (H : Hp) : V → Prop where
  | str (z : Str) : Plain H (.str z)
  | non : Plain H .non
  | tup {b : Addr} {ys : List V} (h : H b = some (.tup ys)) : Plain H (.ref b)
section
variable {prog : Program} {w : World} {A : Around} {E : Value → Shared → Prop} {s : Shared}
theorem eqB_str {z : Str} {t : Tok} {a : Addr} {Q : Bool → Shared → Prop} (h : wpAny (model prog w) A (richCompare .Eq (.str z t) (.ref a)) (fun v s' => ∃ r, v = .bool r ∧ Q r s') E s) :
    wpAny (model prog w) A (eqBool (.str z t) (.ref a)) Q E s := by
  unfold eqBool
  refine wpAny_holding (wpAny_ite_split (fun q => absurd (eq_of_beq q) (fun e => nomatch e)) fun _ => ?_)
  refine wpAny_bind (wpAny_mono h (fun v s' hv => ?_) fun _ _ x => x)
  obtain ⟨r, rfl, q⟩ := hv
  exact wpAny_truthy_bool q
theorem eqB_non {a : Addr} {Q : Bool → Shared → Prop} (h : wpAny (model prog w) A (richCompare .Eq .none (.ref a)) (fun v s' => ∃ r, v = .bool r ∧ Q r s') E s) :
    wpAny (model prog w) A (eqBool .none (.ref a)) Q E s := by
  unfold eqBool
  refine wpAny_holding (wpAny_ite_split (fun q => absurd (eq_of_beq q) (fun e => nomatch e)) fun _ => ?_)
  refine wpAny_bind (wpAny_mono h (fun v s' hv => ?_) fun _ _ x => x)
  obtain ⟨r, rfl, q⟩ := hv
  exact wpAny_truthy_bool q
end
section
variable {X : Cx} {n : Nat}
/-- x in (..), x of an own class, no item equal to it -/
def rInO (K : PySem.W.Frag) (FF : Addr → Sp → XK → Prop) : R2 := fun x y H Q => ∃ (a p C dx : Addr) (fs : List (Str × V)) (xs : List V) (sp : Sp) (E : XK), x = .ref a ∧ y = .ref p ∧ H a = some (.ins C dx fs) ∧ H p = some (.tup xs) ∧
  (∀ z ∈ xs, Plain H z) ∧ Behind K C ∧ FF C sp E ∧ (∀ z ∈ xs, sp [.ref a, z] H (fun v H' => v = .bl false ∧ H' = H) E) ∧ Q (.bl false) H
theorem op_inO {FF : Addr → Sp → XK → Prop} (hF : ∀ C sp E, FF C sp E → ∃ (CX : CXT) (f : Addr) (fd : FuncData) (ps : List Str), FnOk X.prog X.w X.K X.mg X.base CX n f fd ps sp ∧ EqCls X.K C f ∧ Binds X.K fd ps [] ∧ Passes CX X E) (hr : Room (n + 1) X.A) :
    OpR X (compareOp .In) (rInO X.K FF) := by
  intro pins s σ H x y v u Q I rx ry hq
  obtain ⟨a, p, C, dx, fs, xs, sp, E, rfl, rfl, ha, hp, pl, bh, ff, hsp, q⟩ := hq
  obtain ⟨CX, f, fd, ps, F, ec, bi, hx⟩ := hF C sp E ff
  cases rx
  cases ry
  obtain ⟨its, rv, ht, hz⟩ := I.tuple (SqT.of hp)
  obtain ⟨⟨c0, dd, da, sl⟩, ho, hc, m, hd⟩ := id ht
  simp only at hc hd
  subst hc hd
  show wpAny (model X.prog X.w) X.A (do return .bool (← contains (.ref p) (.ref a))) (EP X pins σ Q) X.xe s
  refine wpAny_bind (wpAny_contains_slot ⟨_, ho, rfl⟩ PySem.F.slot_tuple_contains (wpAny_mono (GQ.call_here (Q := fun v s' => v = .bool false ∧ Inv X pins σ H s') PySem.F.slot_tuple_contains ⟨_, ho, rfl⟩ PySem.F.entry_tuple_contains (PySem.F.args_tuple_contains_2 _ _)
    (tuple_none p its.toArray m dd sl (.ref a) (fun _ s' => Inv X pins σ H s') ?_ (fun s' J => ⟨rfl, J⟩) ho I)) (fun v s' hv => ?_) fun _ _ e => e))
  · intro i hi s' J
    have hi2 : i < its.length := by simpa using hi
    have hi3 : i < xs.length := by rw [rv.length]; exact hi2
    obtain ⟨u, hu, ru⟩ := rv.get (List.getElem?_eq_getElem hi3)
    have eu : its.toArray[i] = u := by
      rw [List.getElem?_eq_getElem hi2] at hu
      simpa using Option.some.inj hu
    rw [eu]
    have mem : xs[i] ∈ xs := List.getElem_mem hi3
    have pz := pl _ mem
    have own := hsp _ mem
    generalize xs[i] = z at ru pz own
    obtain ⟨mA, O, _⟩ := ins_get J.hok ha
    obtain ⟨od, IA, _⟩ := O.look
    obtain ⟨mm, hFr⟩ := J.fr
    have run : wpAny (model X.prog X.w) X.A.in1 (call (.ref f) [.ref a, u]) (fun v s2 => ∃ r, v = .bool r ∧ r = false ∧ Inv X pins σ H s2) X.xe s' :=
      wpAny_mono (run_own (x := .ref a) (y := z) ⟨hr.in1, rfl⟩ F bi hx J rfl ru own) (fun w s2 k => by
        obtain ⟨z2, H', J2, rz, ez, eH⟩ := k
        subst ez
        subst eH
        cases rz
        exact ⟨false, rfl, rfl, J2⟩) fun _ _ e => e
    have hu1 : X.A.in1.units < cLine := hr.in1.units0
    cases pz with
    | str zz =>
      obtain ⟨t, rfl⟩ := ru
      refine eqB_str (turned_K (T := "str") hu1 hFr J.ok.mod.kin IA (typeIs_str _ _ _) PySem.F.slot_str_eq rfl bh.s (fun k => str_declines IA.at_ rfl k) ec.eq ec.fn (wpAny_mono run (fun v s2 k => ?_) fun _ _ e => e))
      obtain ⟨r, rfl, e, J2⟩ := k
      exact ⟨r, rfl, r, rfl, e, J2⟩
    | non =>
      cases ru
      refine eqB_non (turned_K (T := "NoneType") hu1 hFr J.ok.mod.kin IA (typeIs_none _) PySem.F.slot_NoneType_eq rfl bh.n (fun k => none_declines k) ec.eq ec.fn (wpAny_mono run (fun v s2 k => ?_) fun _ _ e => e))
      obtain ⟨r, rfl, e, J2⟩ := k
      exact ⟨r, rfl, r, rfl, e, J2⟩
    | @tup b ys hb =>
      cases ru
      obtain ⟨its2, r2, ht2, hz2⟩ := J.tuple (SqT.of hb)
      have ne : b ≠ a := by
        intro e
        subst e
        rw [ha] at hb
        cases hb
      obtain ⟨o2, ho2, hc2, _⟩ := id ht2
      refine GQ.eqBool_refG ne (turned_K (T := "tuple") hu1 hFr J.ok.mod.kin IA ⟨o2, ho2, hc2⟩ PySem.F.slot_tuple_eq (by first | rfl | simp [oneThing_ref]) bh.t (fun k => tup_declines J.kIn IA bh.t ht2 k) ec.eq ec.fn (wpAny_mono run (fun v s2 k => ?_) fun _ _ e => e))
      obtain ⟨r, rfl, e, J2⟩ := k
      exact ⟨r, rfl, r, rfl, e, J2⟩
  · obtain ⟨rfl, J⟩ := hv
    exact wpAny_truthy_bool (wpAny_pure ⟨.bl false, H, J, rfl, q⟩)
end
end V3

set_option Elab.async false
set_option linter.all false
set_option maxRecDepth 100000
namespace V3
open PySem L2
def top (i : Nat) : Stmt := PySem.Challenge.pw_contrabooks_k13_houses_refused.main.body.getD i (.Pass ⟨0, 0, 0, 0⟩)
abbrev sSeed : Stmt := top 48
abbrev sChoose : Stmt := top 49
abbrev sOneOf : Stmt := top 50
/-- the box of draws: two numbers -/
def BoxOk (u v : Int) : Prop := 0 ≤ u ∧ 1 ≤ v ∧ v ≤ 2147483629
def box (u v : Int) : HO := .lst [.int u, .int v]
def BoxAt (H : Hp) (b : Addr) : Prop := ∃ u v, BoxOk u v ∧ H b = some (box u v)
def spSeed (K : PySem.W.Frag) : Sp := fun vs H Q _ => ∃ (a : Addr) (ns : List Int) (k : Int), vs = [.ref a, .int k] ∧ SqL K H a (ns.map V.int) ∧ ns.length ≤ 63 ∧ 0 ≤ k ∧ k ≤ 100 ∧
  ∀ (p : Addr) (u v : Int), H p = none → BoxOk u v → Q (.ref p) (upd H p (box u v))
def spChoose : Sp := fun vs H Q _ => ∃ (b : Addr) (u v m : Int), vs = [.ref b, .int m] ∧ H b = some (box u v) ∧ BoxOk u v ∧ 1 ≤ m ∧ m ≤ 10000000000000000000000000000000000000000 ∧
  ∀ d u' v' : Int, 0 ≤ d → d < m → BoxOk u' v' → Q (.int d) (upd H b (box u' v'))
def spOneOf (K : PySem.W.Frag) : Sp := fun vs H Q _ => ∃ (b l : Addr) (u v : Int) (xs : List V), vs = [.ref b, .ref l] ∧ H b = some (box u v) ∧ BoxOk u v ∧ l ≠ b ∧ SqL K H l xs ∧ 1 ≤ xs.length ∧ xs.length ≤ 1000 ∧
  ∀ (x : V) (u' v' : Int), x ∈ xs → BoxOk u' v' → Q x (upd H b (box u' v'))
structure Blt (mg : Str → Option Value) : Prop where
  len : mg "len" = none
  abs : mg "abs" = none
  int : mg "int" = none
/-- a def that stands at a name of the module -/
def Cal (P : Program) (w : World) (K : PySem.W.Frag) (mg : Str → Option Value) (base : Heap) (CX : CXT) (name : Str) (k : Nat) (ps : List Str) (sp : Sp) : Prop :=
  ∃ (f : Addr) (fd : FuncData), FnOk P w K mg base CX k f fd ps sp ∧ mg name = some (.ref f) ∧ PySem.W.keepIn K (.ref f) = true ∧ Binds K fd ps []
theorem seqL_ne {K : PySem.W.Frag} {H : Hp} {l b : Addr} {o : HO} {xs : List V} (ne : l ≠ b) (h : SqL K H l xs) : SqL K (upd H b o) l xs := by
  rcases h with (h | ⟨o, h⟩) | h
  · exact .inl (.inl (by rw [upd_ne ne]; exact h))
  · exact .inl (.inr ⟨o, by rw [upd_ne ne]; exact h⟩)
  · exact .inr h
theorem atI_ints {ns : List Int} {i : Int} (h0 : 0 ≤ i) (hj : i.toNat < ns.length) : atI (ns.map V.int) i = some (.int ns[i.toNat]) := by
  have e : ixN (ns.map V.int).length i = some i.toNat := by
    unfold ixN
    rw [if_pos h0, if_pos (by rw [List.length_map]; omega)]
  show (ixN (ns.map V.int).length i).bind (fun j => (ns.map V.int)[j]?) = some (.int ns[i.toNat])
  rw [e]
  show (ns.map V.int)[i.toNat]? = some (.int ns[i.toNat])
  rw [List.getElem?_map, List.getElem?_eq_getElem hj]
  rfl
section
variable {P : Program} {w : World} {K : PySem.W.Frag} {mg : Str → Option Value} {base : Heap}
theorem scSeed : FnScope ["_law_script", "_law_k", "_law_cell"] ["_law_script", "_law_k"] (defScope sSeed) := ⟨rfl, rfl, rfl, by decide +kernel, rfl, by decide +kernel, by decide +kernel⟩
theorem scChoose : FnScope ["_law_box", "_law_many", "_law_digit", "_law_first"] ["_law_box", "_law_many"] (defScope sChoose) := ⟨rfl, rfl, rfl, by decide +kernel, rfl, by decide +kernel, by decide +kernel⟩
theorem scOneOf : FnScope ["_law_box", "_law_some"] ["_law_box", "_law_some"] (defScope sOneOf) := ⟨rfl, rfl, rfl, by decide +kernel, rfl, by decide +kernel, by decide +kernel⟩
theorem ok_choose {f : Addr} {fd : FuncData} (F : Fun K "_law_choose" "_law_choose" sChoose f fd) (T : Blt mg) : FnOk P w K mg base CX0 1 f fd ["_law_box", "_law_many"] spChoose := by
  refine F.ok scChoose (fun vs H Q E h => ?_) (fun cdv A outer s H vs Q E hr h => ?_)
  · obtain ⟨b, u, v, m, rfl, _⟩ := h
    rfl
  · obtain ⟨b, u, v, m, rfl, hb, ok, m1, m2, k⟩ := h
    refine ⟨_, pss_cons (ps_if (pt_cmpR op_gt (pe_ix ix_list (pv 0) pe_int (fun _ _ => rfl)) pe_int (nomark _))
        (pss_cons (ps_set (i := 2) scChoose.nd rfl (Or.inl rfl) (pe_op op_mod (pe_callTy call_int1 (by rfl) T.int (by decide +kernel) (pa_cons (pe_ix ix_list (pv 0) pe_int (fun _ _ => rfl)) pa_nil)) (pv 1)))
        (pss_cons (ps_asg (pe_op op_fdivW (pe_ix ix_list (pv 0) pe_int (fun _ _ => rfl)) (pv 1)) (pg_sub (pv 0) pe_int set_list))
        (pss_one (ps_ret (pv 2))))) pss_nil)
      (pss_cons (ps_set (i := 3) scChoose.nd rfl (Or.inl rfl) (pe_op op_mod (pe_callTy call_int1 (by rfl) T.int (by decide +kernel) (pa_cons (pe_op op_add (pe_op op_mul (pe_ix ix_list (pv 0) pe_int (fun _ _ => rfl)) pe_int) pe_int) pa_nil)) pe_int))
      (pss_cons (ps_asg (pe_op op_add (pe_op op_mod (pe_callTy call_int1 (by rfl) T.int (by decide +kernel) (pa_cons (pe_op op_add (pe_op op_mul (pv 3) pe_int) pe_int) pa_nil)) pe_int) pe_int) (pg_sub (pv 0) pe_int set_list))
      (pss_one (ps_ret (pe_op op_mod (pe_callTy call_int1 (by rfl) T.int (by decide +kernel) (pa_cons (pe_op op_fdivW (pe_op op_add (pe_op op_mul (pv 3) pe_int) (pe_ix ix_list (pv 0) pe_int (fun _ _ => rfl))) pe_int) pa_nil)) (pv 1)))))), ?_⟩
    obtain ⟨u0, v1, v2⟩ := ok
    have hm : (0 : Int) < m := by omega
    have hw : m.natAbs < 2 ^ 140 := by
      have : (2 : Nat) ^ 140 = 1393796574908163946345982392040522594123776 := by decide
      omega
    refine ⟨_, rfl, b, _, 0, _, rfl, rfl, SqL.of hb, rfl, _, _, rfl, rfl, _, rfl, ?_⟩
    refine ite2 (fun c => ?_) (fun c => ?_)
    · refine ⟨_, rfl, b, _, 0, _, rfl, rfl, SqL.of hb, rfl, .inl ⟨_, rfl, _, rfl, _, _, rfl, rfl, hm, ?_⟩⟩
      refine ⟨_, rfl, b, _, 0, _, rfl, rfl, SqL.of hb, rfl, _, rfl, _, _, rfl, rfl, wide_div hm hw (by decide) (by decide), ?_⟩
      refine ⟨_, rfl, b, _, 0, 0, rfl, rfl, hb, rfl, _, rfl, ?_⟩
      exact k _ _ _ (Int.emod_nonneg _ (by omega)) (Int.emod_lt_of_pos _ hm) ⟨Int.ediv_nonneg u0 (by omega), v1, v2⟩
    · refine ⟨_, rfl, b, _, 1, _, rfl, rfl, SqL.of hb, rfl, _, _, rfl, rfl, .inl (by constructor <;> omega), _, _, rfl, rfl, .inl ⟨_, rfl, _, _, rfl, rfl, (by show (0 : Int) < 2147483563; decide), ?_⟩⟩
      have a1 := Int.emod_nonneg (v * 40014 + 11) (by decide : (2147483563 : Int) ≠ 0)
      have a2 := Int.emod_lt_of_pos (v * 40014 + 11) (by decide : (0 : Int) < 2147483563)
      refine ⟨_, rfl, _, _, rfl, rfl, .inl (by constructor <;> omega), _, _, rfl, rfl, .inl ⟨_, rfl, _, _, rfl, rfl, (by show (0 : Int) < 2147483629; decide), _, _, rfl, rfl, ?_⟩⟩
      refine ⟨_, rfl, b, _, 1, 1, rfl, rfl, hb, rfl, ?_⟩
      have b1 := Int.emod_nonneg ((v * 40014 + 11) % 2147483563 * 40692 + 2903) (by decide : (2147483629 : Int) ≠ 0)
      have b2 := Int.emod_lt_of_pos ((v * 40014 + 11) % 2147483563 * 40692 + 2903) (by decide : (0 : Int) < 2147483629)
      refine ⟨_, rfl, _, _, rfl, rfl, .inl (by constructor <;> omega), _, rfl, b, _, 1, _, rfl, rfl, SqL.of upd_same, rfl, _, _, rfl, rfl, _, _, rfl, rfl, wide_div (b := 14) (by decide) (by decide) (by decide) (by decide), .inl ⟨_, rfl, _, rfl, _, _, rfl, rfl, hm, ?_⟩⟩
      exact k _ _ _ (Int.emod_nonneg _ (by omega)) (Int.emod_lt_of_pos _ hm) ⟨u0, by omega, by omega⟩
theorem ok_oneOf {f : Addr} {fd : FuncData} (F : Fun K "_law_one_of" "_law_one_of" sOneOf f fd) (T : Blt mg) (c : Cal P w K mg base CX0 "_law_choose" 1 ["_law_box", "_law_many"] spChoose) : FnOk P w K mg base CX0 2 f fd ["_law_box", "_law_some"] (spOneOf K) := by
  obtain ⟨fC, fdC, GC, mC, kC, bC⟩ := c
  refine F.ok scOneOf (fun vs H Q E h => ?_) (fun cdv A outer s H vs Q E hr h => ?_)
  · obtain ⟨b, l, u, v, xs, rfl, _⟩ := h
    rfl
  · obtain ⟨b, l, u, v, xs, rfl, hb, ok, ne, hS, x1, x2, k⟩ := h
    refine ⟨_, pss_one (ps_ret (pe_ix ix_list (pv 1) (pe_call GC hr rfl mC kC bC .nil pass0 (pa_cons (pv 0) (pa_cons (pe_callB call_len_seq (by rfl) T.len PySem.boot_len (pa_cons (pv 1) pa_nil)) pa_nil))) (fun _ _ => rfl))), ?_⟩
    refine ⟨_, rfl, _, rfl, _, rfl, l, _, rfl, .inl hS, b, u, v, _, rfl, hb, ok, (by omega), (by omega), fun d u' v' d0 d1 ok' => ?_⟩
    have hj : d.toNat < xs.length := by omega
    refine ⟨l, xs, d, xs[d.toNat], rfl, rfl, ?_, ?_, k _ _ _ (List.getElem_mem hj) ok'⟩
    · exact seqL_ne ne hS
    · have e : ixN xs.length d = some d.toNat := by
        unfold ixN
        rw [if_pos d0, if_pos (by omega)]
      show (ixN xs.length d).bind (fun j => xs[j]?) = some xs[d.toNat]
      rw [e]
      exact List.getElem?_eq_getElem hj
theorem ok_seed {f : Addr} {fd : FuncData} (F : Fun K "_law_seed" "_law_seed" sSeed f fd) (T : Blt mg) : FnOk P w K mg base CX0 1 f fd ["_law_script", "_law_k"] (spSeed K) := by
  refine F.ok scSeed (fun vs H Q E h => ?_) (fun cdv A outer s H vs Q E hr h => ?_)
  · obtain ⟨a, ns, k, rfl, _⟩ := h
    rfl
  · obtain ⟨a, ns, k, rfl, hS, hl, k0, k1, go⟩ := h
    refine ⟨_, pss_cons (ps_set (i := 2) scSeed.nd rfl (Or.inl rfl) (pe_op op_add (pe_op op_mul pe_int (pv 1)) pe_int))
      (pss_cons (ps_if (pt_cmpR op_lt (pv 1) (pe_callB call_len_seq (by rfl) T.len PySem.boot_len (pa_cons (pv 0) pa_nil)) (nomark _))
        (pss_one (ps_set (i := 2) scSeed.nd rfl (Or.inl rfl) (pe_callB call_abs (by rfl) T.abs (by decide +kernel) (pa_cons (pe_ix ix_list (pv 0) (pv 1) (fun _ _ => rfl)) pa_nil))))
        (pss_one (ps_if (pt_cmpR op_gt (pe_callB call_len_seq (by rfl) T.len PySem.boot_len (pa_cons (pv 0) pa_nil)) pe_int (nomark _))
          (pss_one (ps_set (i := 2) scSeed.nd rfl (Or.inl rfl) (pe_op op_add (pv 2) (pe_op op_mul (pe_op op_mod (pe_callTy call_int1 (by rfl) T.int (by decide +kernel) (pa_cons (pe_callB call_abs (by rfl) T.abs (by decide +kernel) (pa_cons (pe_ix ix_list (pv 0) (pe_op op_mod (pe_callTy call_int1 (by rfl) T.int (by decide +kernel) (pa_cons (pv 1) pa_nil)) (pe_callB call_len_seq (by rfl) T.len PySem.boot_len (pa_cons (pv 0) pa_nil))) (fun _ _ => rfl)) pa_nil)) pa_nil)) pe_int) pe_int))))
          pss_nil)))
      (pss_one (ps_ret (pe_lst (pa_cons (pe_ifExp (pt_cmpR op_ge (pv 2) (pe_op op_pow pe_int pe_int) (nomark _)) (pv 2) pe_int)
        (pa_cons (pe_op op_add (pe_op op_mod (pe_callTy call_int1 (by rfl) T.int (by decide +kernel) (pa_cons (pe_op op_add (pe_op op_mul (pe_op op_mod (pe_callTy call_int1 (by rfl) T.int (by decide +kernel) (pa_cons (pv 2) pa_nil)) pe_int) pe_int) (pe_op op_mul pe_int (pv 1))) pa_nil)) pe_int) pe_int) pa_nil)))))), ?_⟩
    have hk1 : -(2 ^ 64) < (7411 : Int) ∧ (7411 : Int) < 2 ^ 64 := by constructor <;> decide
    refine ⟨_, rfl, _, _, rfl, rfl, .inl hk1, _, _, rfl, rfl, ?_⟩
    refine ⟨_, rfl, _, rfl, a, _, rfl, .inl hS, _, _, rfl, rfl, _, rfl, ?_⟩
    rw [List.length_map]
    refine ite2 (fun c => ?wayA) (fun c => ?wayB)
    case' wayA =>
      have c' : k < (ns.length : Int) := of_decide_eq_true c
      have hj : k.toNat < ns.length := by omega
      refine ⟨_, rfl, _, rfl, a, _, k, .int ns[k.toNat], rfl, rfl, hS, atI_ints k0 hj, _, rfl, ?_⟩
      have hc : 0 ≤ (if ns[k.toNat] < 0 then -ns[k.toNat] else ns[k.toNat]) := by split <;> omega
      generalize (if ns[k.toNat] < 0 then -ns[k.toNat] else ns[k.toNat]) = cell at hc
    case' wayB =>
      refine ⟨_, rfl, a, _, rfl, .inl hS, _, _, rfl, rfl, _, rfl, ?_⟩
      rw [List.length_map]
      refine ite2 (fun c2 => ?wayC) (fun c2 => ?wayD)
    case' wayC =>
      have c' : (0 : Int) < (ns.length : Int) := of_decide_eq_true c2
      have r0 := Int.emod_nonneg k (show (ns.length : Int) ≠ 0 by omega)
      have r1 := Int.emod_lt_of_pos k c'
      have hj : (k % (ns.length : Int)).toNat < ns.length := by omega
      refine ⟨_, rfl, _, rfl, _, rfl, .inl ⟨_, rfl, _, rfl, a, _, rfl, .inl hS, _, _, rfl, rfl, (by rw [List.length_map]; exact c'), ?_⟩⟩
      rw [List.length_map]
      refine ⟨a, _, k % (ns.length : Int), .int ns[(k % (ns.length : Int)).toNat], rfl, rfl, hS, atI_ints r0 hj, _, rfl, .inl ⟨_, rfl, _, _, rfl, rfl, (by show (0 : Int) < 2147483629; decide), _, _, rfl, rfl, .inr (by constructor <;> decide), _, _, rfl, rfl, ?_⟩⟩
      generalize (if ns[(k % (ns.length : Int)).toNat] < 0 then -ns[(k % (ns.length : Int)).toNat] else ns[(k % (ns.length : Int)).toNat]) = z
      have z0 := Int.emod_nonneg z (by decide : (2147483629 : Int) ≠ 0)
      have hc : 0 ≤ 7411 * k + 29 + z % 2147483629 * 40093 := by omega
      generalize 7411 * k + 29 + z % 2147483629 * 40093 = cell at hc
    case' wayD =>
      have hc : 0 ≤ 7411 * k + 29 := by omega
      generalize 7411 * k + 29 = cell at hc
    all_goals (
      refine ⟨_, rfl, _, _, rfl, rfl, ⟨by decide, by decide, by decide⟩, _, _, rfl, rfl, _, rfl, ?_⟩
      have e1 := Int.emod_nonneg cell (by decide : (2147483629 : Int) ≠ 0)
      have e2 := Int.emod_lt_of_pos cell (by decide : (0 : Int) < 2147483629)
      have f1 := Int.emod_nonneg (cell % 2147483629 * 48271 + 20021 * k) (by decide : (2147483629 : Int) ≠ 0)
      have f2 := Int.emod_lt_of_pos (cell % 2147483629 * 48271 + 20021 * k) (by decide : (0 : Int) < 2147483629)
      refine ite2 (fun _ => ⟨_, rfl, ?_⟩) (fun _ => ?_)
      all_goals (
        refine ⟨_, rfl, .inl ⟨_, rfl, _, _, rfl, rfl, (by show (0 : Int) < 2147483629; decide), _, _, rfl, rfl, .inl (by constructor <;> omega), _, rfl, _, _, rfl, rfl, .inl (by constructor <;> decide), _, _, rfl, rfl, .inl ⟨_, rfl, _, _, rfl, rfl, (by show (0 : Int) < 2147483629; decide), _, _, rfl, rfl, (by show 2 ≤ sizeLine; decide), fun p hp => ?_⟩⟩⟩
        exact go p _ _ hp ⟨by omega, by omega, by omega⟩))
end
end V3

set_option Elab.async false
set_option linter.all false
set_option maxRecDepth 100000
namespace V3
open PySem L2 TL
def num (i : Int) : Str := Str.ofString (toString i)
def Am (i : Int) : Prop := i.natAbs ≤ 10000000000000000000000000000000000000000
theorem am_log {i : Int} (h : Am i) : i.natAbs.log2 < 1920 := Nat.lt_of_lt_of_le (PySem.Flt.log2_lt_of (k := 140) (by decide) (by
  have : (2 : Nat) ^ 140 = 1393796574908163946345982392040522594123776 := by decide
  unfold Am at h
  omega)) (by decide)
theorem num_len {i : Int} (h : Am i) : (num i).length ≤ 1921 := PyProof.Rows.int_text_len_1921 (am_log h)
theorem app_len (x y : Str) : (x ++ y).length = x.length + y.length := PySem.Str.length_append x y
theorem small {n : Nat} (h : n ≤ 10000) : n ≤ sizeLine := Nat.le_trans h (by decide)
def sp1 : Str := " "
theorem tl_num' {t : Int} (h : 0 ≤ t) : tl (num t) = numL t.toNat := by
  have e : ((t.toNat : Nat) : Int) = t := by omega
  have z := tl_num t.toNat
  rw [e] at z
  exact z
theorem num_free {t : Int} {s : Nat} (h : 0 ≤ t) (hs : s < 48 ∨ 57 < s) : s ∉ tl (num t) := by
  rw [tl_num' h]
  exact numL_free hs
theorem sp_tl : tl sp1 = [32] := by decide +kernel
theorem Same.new {p : Addr} {H : Hp} {o : HO} (hp : H p = none) : Same H (upd H p o) := fun c u h => by rw [upd_ne (ne_of_none h hp)]; exact h
theorem made_same {H : Hp} {y dy : Addr} {o1 o2 : HO} (ny : H y = none) (ndy : H dy = none) : Same H (upd (upd H dy o1) y o2) := fun b o e => by
  rw [upd_ne (ne_of_none e ny), upd_ne (ne_of_none e ndy)]
  exact e
theorem made_same2 {H : Hp} {y dy : Addr} {o1 o2 o3 : HO} (ny : H y = none) (ndy : H dy = none) : Same H (upd (upd (upd H dy o1) y o2) y o3) := fun b o e => by
  rw [upd_ne (ne_of_none e ny), upd_ne (ne_of_none e ny), upd_ne (ne_of_none e ndy)]
  exact e
def SameX (b : Addr) (H H' : Hp) : Prop := ∀ c o, c ≠ b → H c = some o → H' c = some o
theorem SameX.refl {b : Addr} {H : Hp} : SameX b H H := fun _ _ _ h => h
theorem SameX.trans {b : Addr} {H H1 H2 : Hp} (s : SameX b H H1) (t : SameX b H1 H2) : SameX b H H2 := fun c o n h => t c o n (s c o n h)
theorem SameX.of {b : Addr} {H H' : Hp} (s : Same H H') : SameX b H H' := fun c o _ h => s c o h
theorem SameX.box {b : Addr} {H : Hp} {o : HO} : SameX b H (upd H b o) := fun c _ n h => by rw [upd_ne n]; exact h
def Pre (b : Addr) (H H' : Hp) : Prop := SameX b H H' ∧ ∃ u v, BoxOk u v ∧ H' b = some (box u v)
theorem Pre.trans {b : Addr} {H H1 H2 : Hp} (s : Pre b H H1) (t : Pre b H1 H2) : Pre b H H2 := ⟨s.1.trans t.1, t.2⟩
theorem Pre.then {b : Addr} {H H1 H2 : Hp} (s : Pre b H H1) (t : Same H1 H2) : Pre b H H2 := by
  obtain ⟨h, u, v, ok, e⟩ := s
  exact ⟨h.trans (SameX.of t), u, v, ok, t _ _ e⟩
theorem Pre.box {b : Addr} {H : Hp} {u v : Int} (ok : BoxOk u v) : Pre b H (upd H b (box u v)) := ⟨SameX.box, u, v, ok, upd_same⟩
theorem Pre.start {b : Addr} {H : Hp} {u v : Int} (ok : BoxOk u v) (h : H b = some (V3.box u v)) : Pre b H H := ⟨SameX.refl, u, v, ok, h⟩
def Keep (H H' : Hp) : Prop := ∀ c o, (∀ xs, o ≠ .lst xs) → H c = some o → H' c = some o
theorem Keep.of {H H' : Hp} (s : Same H H') : Keep H H' := fun c o _ h => s c o h
theorem Keep.lst {H : Hp} {D : Addr} {xs : List V} {o : HO} (hD : H D = some (.lst xs)) : Keep H (upd H D o) := fun c u n h => by
  have nc : c ≠ D := fun e => by
    subst e
    rw [hD] at h
    injection h with h
    exact n _ h.symm
  rw [upd_ne nc]
  exact h
theorem Keep.pre {H H' : Hp} {b : Addr} {xs : List V} (hb : H b = some (.lst xs)) (s : SameX b H H') : Keep H H' := fun c u n h => by
  have nc : c ≠ b := fun e => by
    subst e
    rw [hb] at h
    injection h with h
    exact n _ h.symm
  exact s c u nc h
theorem at_end {α : Type} {xs : List α} {x y : α} {i : Nat} (h : (xs ++ [x])[i]? = some y) : (i < xs.length ∧ xs[i]? = some y) ∨ (i = xs.length ∧ y = x) := by
  by_cases c : i < xs.length
  · exact .inl ⟨c, by rw [List.getElem?_append_left c] at h; exact h⟩
  · rw [List.getElem?_append_right (by omega)] at h
    obtain ⟨l, e⟩ := List.getElem?_eq_some_iff.mp h
    have z : i - xs.length = 0 := by simpa using l
    exact .inr ⟨by omega, by simp [z] at e; exact e.symm⟩
theorem at_old {α : Type} {xs : List α} {x y : α} {i : Nat} (h : xs[i]? = some y) : (xs ++ [x])[i]? = some y := by
  have l := (List.getElem?_eq_some_iff.mp h).1
  rw [List.getElem?_append_left l]
  exact h
theorem at_new {α : Type} {xs : List α} {x : α} {n : Nat} (h : xs.length = n) : (xs ++ [x])[n]? = some x := by
  subst h
  simp
theorem take_next {α : Type} {ms : List α} {m : α} {i : Nat} (h : ms[i]? = some m) : ms.take (i + 1) = ms.take i ++ [m] := by
  rw [List.take_add_one, h]
  rfl
theorem Same.upn {H H1 : Hp} {b : Addr} {o : HO} (s : Same H H1) (nb : H b = none) : Same H (upd H1 b o) := fun c u e => by
  rw [upd_ne (ne_of_none e nb)]
  exact s c u e
theorem Pre.all {b : Addr} {H H' : Hp} (p : Pre b H H') (n : H b = none) : Same H H' := fun c o h => p.1 c o (ne_of_none h n) h
end V3

set_option Elab.async false
set_option linter.all false
set_option maxRecDepth 100000
namespace V3
open PySem L2 TL
/-! rows of houses and of reports: their words and texts -/
def kindL : List Str := ["first", "new", "minus", "plus"]
def stateL : List Str := ["open", "shut"]
def deedL : List Str := ["whole", "part", "right"]
def placeL : List Str := ["now", "there"]
def whoseL : List Str := ["own", "target", "top", "deed"]
inductive Rw where
  | lt (k s d p : Str)
  | ct (k : Str) (w : Int) (o : Str)
  deriving DecidableEq
def Wt (w : Int) : Prop := w = -1 ∨ w = 0 ∨ w = 1
def Rw.ok : Rw → Prop
  | .lt k s d p => k ∈ kindL ∧ s ∈ stateL ∧ d ∈ deedL ∧ p ∈ placeL ∧ (d = "right" → k = "first" ∨ k = "new")
  | .ct k w o => k ∈ kindL ∧ Wt w ∧ o ∈ whoseL
def Rw.words : Rw → List Str
  | .lt k s d p => [k, s, d, p]
  | .ct k w o => [k, num w, o]
def Rw.text (m : Rw) : Str := Str.join sp1 m.words
def Rw.kind : Rw → Nat
  | .lt _ _ _ _ => 0
  | .ct _ _ _ => 1
theorem all_free : ∀ p ∈ kindL ++ stateL ++ deedL ++ placeL ++ whoseL ++ [num (-1), num 0, num 1], (32 ∉ tl p ∧ 10 ∉ tl p) ∧ p.length ≤ 6 := by decide +kernel
theorem wt_word {w : Int} (h : Wt w) : num w ∈ [num (-1), num 0, num 1] := by
  rcases h with rfl | rfl | rfl <;> simp
theorem word_ok {m : Rw} (h : m.ok) : ∀ p ∈ m.words, (32 ∉ tl p ∧ 10 ∉ tl p) ∧ p.length ≤ 6 := by
  intro p hp
  refine all_free p ?_
  cases m with
  | lt k s d q =>
    obtain ⟨a, b, c, e, _⟩ := h
    simp only [Rw.words, List.mem_cons, List.not_mem_nil, or_false] at hp
    simp only [List.mem_append]
    rcases hp with rfl | rfl | rfl | rfl
    · exact .inl (.inl (.inl (.inl (.inl a))))
    · exact .inl (.inl (.inl (.inl (.inr b))))
    · exact .inl (.inl (.inl (.inr c)))
    · exact .inl (.inl (.inr e))
  | ct k w o =>
    obtain ⟨a, b, c⟩ := h
    simp only [Rw.words, List.mem_cons, List.not_mem_nil, or_false] at hp
    simp only [List.mem_append]
    rcases hp with rfl | rfl | rfl
    · exact .inl (.inl (.inl (.inl (.inl a))))
    · exact .inr (wt_word b)
    · exact .inl (.inr c)
theorem rw_ne (m : Rw) : m.words ≠ [] := by cases m <;> exact (fun z => nomatch z)
theorem rw_split {m : Rw} (h : m.ok) : Txt.split m.text sp1 = m.words := by
  unfold Rw.text
  have z := split_join sp_tl (by decide +kernel) (rw_ne m) fun p hp => (word_ok h p hp).1.1
  rw [join_eq] at z
  exact z
theorem wt_inj {v w : Int} (hv : Wt v) (hw : Wt w) (e : num v = num w) : v = w := by
  have d1 : num (-1) ≠ num 0 := by decide +kernel
  have d2 : num (-1) ≠ num 1 := by decide +kernel
  have d3 : num 0 ≠ num 1 := by decide +kernel
  rcases hv with rfl | rfl | rfl <;> rcases hw with rfl | rfl | rfl <;> first | rfl | exact absurd e d1 | exact absurd e d2 | exact absurd e d3 | exact absurd e.symm d1 | exact absurd e.symm d2 | exact absurd e.symm d3
theorem rw_inj {m n : Rw} (hm : m.ok) (hn : n.ok) (h : m.text = n.text) : m = n := by
  have e : m.words = n.words := by rw [← rw_split hm, ← rw_split hn, h]
  cases m with
  | lt k s d p =>
    cases n with
    | lt k' s' d' p' =>
      simp only [Rw.words, List.cons.injEq, and_true] at e
      obtain ⟨rfl, rfl, rfl, rfl⟩ := e
      rfl
    | ct k' w' o' => simp [Rw.words] at e
  | ct k w o =>
    cases n with
    | lt k' s' d' p' => simp [Rw.words] at e
    | ct k' w' o' =>
      simp only [Rw.words, List.cons.injEq, and_true] at e
      obtain ⟨rfl, ew, rfl⟩ := e
      rw [wt_inj hm.2.1 hn.2.1 ew]
theorem rw_dec {m n : Rw} (hm : m.ok) (hn : n.ok) : decide (m.text = n.text) = decide (m = n) := by
  by_cases h : m = n
  · rw [h, decide_eq_true rfl, decide_eq_true rfl]
  · rw [decide_eq_false h, decide_eq_false (fun e => h (rw_inj hm hn e))]
/-- what the two classes write -/
theorem let_text (k s d p : Str) : Str.empty ++ k ++ " " ++ s ++ " " ++ d ++ " " ++ p = (Rw.lt k s d p).text := ext_tl (by
  unfold Rw.text
  rw [tl_join]
  have e : tl (" " : Str) = [32] := by decide +kernel
  simp only [tl_append, Rw.words, List.map, joinL, sp_tl, e]
  simp [Str.empty, tl])
theorem cnt_text (k : Str) (w : Int) (o : Str) : Str.empty ++ k ++ " " ++ num w ++ " " ++ o = (Rw.ct k w o).text := ext_tl (by
  unfold Rw.text
  rw [tl_join]
  have e : tl (" " : Str) = [32] := by decide +kernel
  simp only [tl_append, Rw.words, List.map, joinL, sp_tl, e]
  simp [Str.empty, tl])
theorem inV_str {k : Str} {L : List Str} : inV (.str k) (L.map V.str) = decide (k ∈ L) := by
  induction L with
  | nil => rfl
  | cons a r ih =>
    have e : inV (.str k) ((a :: r).map V.str) = (a == k || inV (.str k) (r.map V.str)) := rfl
    rw [e, ih]
    by_cases q : k = a
    · subst q
      simp
    · have z : (a == k) = false := Bool.eq_false_iff.mpr fun w => q (eq_of_beq w).symm
      rw [z]
      simp [q]
theorem flat_strs (L : List Str) : (L.map V.str).all flatV = true := by
  induction L with
  | nil => rfl
  | cons a r ih => simpa [flatV] using ih
/-- fields -/
theorem putF_ne {f g : Str} {v x : V} {r : List (Str × V)} (h : g ≠ f) : putF f v ((g, x) :: r) = (g, x) :: putF f v r := by
  show (if g = f then _ else _) = _
  rw [if_neg h]
theorem lk_ne {f g : Str} {v : V} {r : List (Str × V)} (h : (g == f) = false) : List.lookup g ((f, v) :: r) = List.lookup g r := by
  simp [List.lookup, h]
structure Rc where
  L : Addr
  C : Addr
def Rc.at (c : Rc) : Nat → Addr
  | 0 => c.L
  | _ => c.C
def letF (k s d p : V) : List (Str × V) := [("kind", k), ("state", s), ("deed", d), ("place", p)]
def cntF (k w o : V) : List (Str × V) := [("kind", k), ("weight", w), ("whose", o)]
def Rw.fs : Rw → List (Str × V)
  | .lt k s d p => letF (.str k) (.str s) (.str d) (.str p)
  | .ct k w o => cntF (.str k) (.int w) (.str o)
def Rw.obj (c : Rc) (dx : Addr) (m : Rw) : HO := .ins (c.at m.kind) dx m.fs
def RwAt (c : Rc) (H : Hp) (v : V) (m : Rw) : Prop := ∃ x dx, v = .ref x ∧ H x = some (m.obj c dx)
theorem RwAt.keep {c : Rc} {H H' : Hp} {v : V} {m : Rw} (h : RwAt c H v m) (s : Keep H H') : RwAt c H' v m := by
  obtain ⟨x, dx, e, hx⟩ := h
  exact ⟨x, dx, e, s _ _ (fun _ z => by cases z) hx⟩
theorem RwAt.same {c : Rc} {H H' : Hp} {v : V} {m : Rw} (h : RwAt c H v m) (s : Same H H') : RwAt c H' v m := h.keep (Keep.of s)
theorem rkind_lt (m : Rw) : m.kind < 2 := by cases m <;> (simp only [Rw.kind]; omega)
theorem let_put (k s d p : V) : putF "place" p (putF "deed" d (putF "state" s (putF "kind" k []))) = letF k s d p := by
  have a1 : ("kind" : Str) ≠ "state" := by decide +kernel
  have a2 : ("kind" : Str) ≠ "deed" := by decide +kernel
  have a3 : ("kind" : Str) ≠ "place" := by decide +kernel
  have a4 : ("state" : Str) ≠ "deed" := by decide +kernel
  have a5 : ("state" : Str) ≠ "place" := by decide +kernel
  have a6 : ("deed" : Str) ≠ "place" := by decide +kernel
  show putF "place" p (putF "deed" d (putF "state" s [("kind", k)])) = _
  rw [putF_ne a1]
  show putF "place" p (putF "deed" d [("kind", k), ("state", s)]) = _
  rw [putF_ne a2, putF_ne a4]
  show putF "place" p [("kind", k), ("state", s), ("deed", d)] = _
  rw [putF_ne a3, putF_ne a5, putF_ne a6]
  rfl
theorem cnt_put (k w o : V) : putF "whose" o (putF "weight" w (putF "kind" k [])) = cntF k w o := by
  have a1 : ("kind" : Str) ≠ "weight" := by decide +kernel
  have a2 : ("kind" : Str) ≠ "whose" := by decide +kernel
  have a3 : ("weight" : Str) ≠ "whose" := by decide +kernel
  show putF "whose" o (putF "weight" w [("kind", k)]) = _
  rw [putF_ne a1]
  show putF "whose" o [("kind", k), ("weight", w)] = _
  rw [putF_ne a2, putF_ne a3]
  rfl
theorem let_kind (k s d p : V) : (letF k s d p).lookup ("kind" : Str) = some k := rfl
theorem let_state (k s d p : V) : (letF k s d p).lookup ("state" : Str) = some s := by
  unfold letF
  rw [lk_ne (by decide +kernel)]
  rfl
theorem let_deed (k s d p : V) : (letF k s d p).lookup ("deed" : Str) = some d := by
  unfold letF
  rw [lk_ne (by decide +kernel), lk_ne (by decide +kernel)]
  rfl
theorem let_place (k s d p : V) : (letF k s d p).lookup ("place" : Str) = some p := by
  unfold letF
  rw [lk_ne (by decide +kernel), lk_ne (by decide +kernel), lk_ne (by decide +kernel)]
  rfl
theorem cnt_kind (k w o : V) : (cntF k w o).lookup ("kind" : Str) = some k := rfl
theorem cnt_weight (k w o : V) : (cntF k w o).lookup ("weight" : Str) = some w := by
  unfold cntF
  rw [lk_ne (by decide +kernel)]
  rfl
theorem cnt_whose (k w o : V) : (cntF k w o).lookup ("whose" : Str) = some o := by
  unfold cntF
  rw [lk_ne (by decide +kernel), lk_ne (by decide +kernel)]
  rfl
end V3

set_option Elab.async false
set_option linter.all false
set_option maxRecDepth 100000
namespace V3
open PySem L2
abbrev sIsInt : Stmt := top 2
abbrev sIsNum : Stmt := top 3
theorem scIsInt : FnScope ["value"] ["value"] (defScope sIsInt) := ⟨rfl, rfl, rfl, by decide +kernel, rfl, by decide +kernel, by decide +kernel⟩
theorem scIsNum : FnScope ["value"] ["value"] (defScope sIsNum) := ⟨rfl, rfl, rfl, by decide +kernel, rfl, by decide +kernel, by decide +kernel⟩
end V3

set_option Elab.async false
set_option linter.all false
set_option maxRecDepth 100000
namespace V3
open PySem L2
-- no sIsAmt
-- no sImInit
-- no sBInit
-- no sBStr
-- no sTInit
-- no sTStr
-- no sRInit
-- no sRStr
/-- any value: none of it too great -/
inductive AV (H : Hp) : V → Prop where
  | non : AV H .non
  | bl (b : Bool) : AV H (.bl b)
  | int (i : Int) (h : i.natAbs ≤ 10000000000000000000000000000000000000000) : AV H (.int i)
  | str (z : Str) : AV H (.str z)
  | lst {a : Addr} {xs : List V} (h : H a = some (.lst xs)) : AV H (.ref a)
  | tup {a : Addr} {xs : List V} (h : H a = some (.tup xs)) : AV H (.ref a)
theorem AV.same {H H' : Hp} {v : V} (h : AV H v) (s : Same H H') : AV H' v := by
  cases h with
  | non => exact .non
  | bl b => exact .bl b
  | int i h => exact .int i h
  | str z => exact .str z
  | lst h => exact .lst (s _ _ h)
  | tup h => exact .tup (s _ _ h)
def isNum : V → Int → Bool
  | .int i, n => decide (n ≤ i)
  | _, _ => false
def isI : V → Bool
  | .int _ => true
  | .bl _ => true
  | _ => false
def isB : V → Bool
  | .bl _ => true
  | _ => false
theorem av_ty {K : PySem.W.Frag} {H : Hp} {v : V} (h : AV H v) : ∃ t, TyX K H v t ∧ PySem.W.kitOne K t (.type "int") = some (isI v) ∧ PySem.W.kitOne K t (.type "bool") = some (isB v) := by
  cases h with
  | non => exact ⟨_, .base .non, (show PySem.W.kitOne K (.type "NoneType") (.type "int") = some false from kit_ty (by decide +kernel)), (show PySem.W.kitOne K (.type "NoneType") (.type "bool") = some false from kit_ty (by decide +kernel))⟩
  | bl b => exact ⟨_, .base (.bl b), (show PySem.W.kitOne K (.type "bool") (.type "int") = some true from kit_ty (by decide +kernel)), (show PySem.W.kitOne K (.type "bool") (.type "bool") = some true from kit_ty (by decide +kernel))⟩
  | int i h => exact ⟨_, .base (.int i), (show PySem.W.kitOne K (.type "int") (.type "int") = some true from kit_ty (by decide +kernel)), (show PySem.W.kitOne K (.type "int") (.type "bool") = some false from kit_ty (by decide +kernel))⟩
  | str z => exact ⟨_, .base (.str z), (show PySem.W.kitOne K (.type "str") (.type "int") = some false from kit_ty (by decide +kernel)), (show PySem.W.kitOne K (.type "str") (.type "bool") = some false from kit_ty (by decide +kernel))⟩
  | lst h => exact ⟨_, .base (.lst h), (show PySem.W.kitOne K (.type "list") (.type "int") = some false from kit_ty (by decide +kernel)), (show PySem.W.kitOne K (.type "list") (.type "bool") = some false from kit_ty (by decide +kernel))⟩
  | tup h => exact ⟨_, .base (.tup h), (show PySem.W.kitOne K (.type "tuple") (.type "int") = some false from kit_ty (by decide +kernel)), (show PySem.W.kitOne K (.type "tuple") (.type "bool") = some false from kit_ty (by decide +kernel))⟩
theorem num_of {v : V} {n : Int} (h : isNum v n = true) : ∃ i : Int, v = .int i ∧ n ≤ i := by
  cases v with
  | int i => exact ⟨i, rfl, of_decide_eq_true h⟩
  | _ => cases h
structure BltB (mg : Str → Option Value) : Prop where
  isi : mg "isinstance" = none
  int : mg "int" = none
  bool : mg "bool" = none
def isIntV : V → Bool
  | .int _ => true
  | _ => false
def spInt : Sp := fun vs H Q _ => ∃ v, vs = [v] ∧ AV H v ∧ Q (.bl (isIntV v)) H
def spNum : Sp := fun vs H Q _ => ∃ v, vs = [v] ∧ AV H v ∧ Q (.bl (isNum v 0)) H
def spAmt : Sp := fun vs H Q _ => ∃ v, vs = [v] ∧ AV H v ∧ Q (.bl (isNum v 1)) H
section
variable {P : Program} {w : World} {K : PySem.W.Frag} {mg : Str → Option Value} {base : Heap}
theorem ok_isInt {f : Addr} {fd : FuncData} (F : Fun K "is_integer" "is_integer" sIsInt f fd) (T : BltB mg) : FnOk P w K mg base CX0 1 f fd ["value"] spInt := by
  refine F.ok scIsInt (fun vs H Q E h => ?_) (fun cdv A outer s H vs Q E hr h => ?_)
  · obtain ⟨v, rfl, _⟩ := h
    rfl
  · obtain ⟨v, rfl, av, q⟩ := h
    obtain ⟨t, ty, k1, k2⟩ := av_ty (K := K) av
    refine ⟨_, pss_one (ps_ret (pe_and (pe_callB call_isi (by rfl) T.isi (by decide +kernel) (pa_cons (pv 0) (pa_cons (pe_bltn (v := .ty "int") (by rfl) T.int (by decide +kernel) rfl) pa_nil)))
      (pe_one (pe_not (pe_callB call_isi (by rfl) T.isi (by decide +kernel) (pa_cons (pv 0) (pa_cons (pe_bltn (v := .ty "bool") (by rfl) T.bool (by decide +kernel) rfl) pa_nil))))))), ?_⟩
    refine ⟨_, rfl, _, _, t, _, _, rfl, .ty "int", ty, k1, _, rfl, ?_⟩
    cases v with
    | int i =>
      refine iteT ?_
      exact ⟨_, rfl, _, _, t, _, _, rfl, .ty "bool", ty, k2, _, rfl, q⟩
    | bl b =>
      refine iteT ?_
      exact ⟨_, rfl, _, _, t, _, _, rfl, .ty "bool", ty, k2, _, rfl, q⟩
    | non => exact iteF q
    | str z => exact iteF q
    | ref a => exact iteF q
    | byt z => exact iteF q
    | flt z => exact iteF q
    | ty z => exact iteF q
theorem ok_isNum {f : Addr} {fd : FuncData} (F : Fun K "is_number" "is_number" sIsNum f fd) (c : Cal P w K mg base CX0 "is_integer" 1 ["value"] spInt) : FnOk P w K mg base CX0 2 f fd ["value"] spNum := by
  obtain ⟨fI, fdI, GI, mI, kI, bI⟩ := c
  refine F.ok scIsNum (fun vs H Q E h => ?_) (fun cdv A outer s H vs Q E hr h => ?_)
  · obtain ⟨v, rfl, _⟩ := h
    rfl
  · obtain ⟨v, rfl, av, q⟩ := h
    refine ⟨_, pss_one (ps_ret (pe_and (pe_call GI hr rfl mI kI bI .nil pass0 (pa_cons (pv 0) pa_nil)) (pe_one (pe_cmpR op_ge (pv 0) pe_int (nomark _))))), ?_⟩
    refine ⟨_, rfl, v, rfl, av, _, rfl, ?_⟩
    cases v with
    | int i => exact iteT ⟨_, rfl, _, _, rfl, rfl, q⟩
    | bl b => exact iteF q
    | non => exact iteF q
    | str z => exact iteF q
    | ref a => exact iteF q
    | byt z => exact iteF q
    | flt z => exact iteF q
    | ty z => exact iteF q
end
end V3

set_option Elab.async false
set_option linter.all false
set_option maxRecDepth 100000
namespace V3
open PySem L2
/-! the error -/
def spIM (C : Addr) : Sp := fun vs H Q _ => ∃ (a : Addr) (y : V), vs = [.ref a, y] ∧ H a = some (exo a C none) ∧
  ∀ d, H d = none → d ≠ a → Q .non (upd (upd H d (exd d [("word", y)])) a (exo a C (some d)))
/-- what the module says of InvalidMove -/
structure ImTxt (P : Program) (w : World) (K : PySem.W.Frag) (mg : Str → Option Value) (base : Heap) (C : Addr) : Prop where
  g : mg "InvalidMove" = some (.ref C)
  o : OexC K C
  no : PySem.W.findIn K (.ref C) "word" = some none
  ini : ∃ (f : Addr) (fd : FuncData), FnOk P w K mg base CX0 1 f fd ["self", "word"] (spIM C) ∧ PySem.W.findIn K (.ref C) "__init__" = some (some (.ref f)) ∧ PySem.W.typeIn K (.ref f) = some (.type "function") ∧ Binds K fd ["self", "word"] []
/-- behind a raise: an error with the word, all else as it was -/
def Er (C : Addr) (H : Hp) (E : XK) (word : Str) : Prop := ∀ (d : Addr) (H' : Hp), Same H H' → H' d = some (.xd [("word", .str word)]) → E (.ref C) (some d) H'
section
variable {P : Program} {w : World} {K : PySem.W.Frag} {mg : Str → Option Value} {base : Heap}
theorem raise_same {H : Hp} {a d : Addr} {o1 o2 o3 o4 : HO} (na : H a = none) (nd : upd H a o1 d = none) (ne : d ≠ a) : Same H (upd (del (upd (upd (upd H a o1) d o2) a o3) a) d o4) := by
  intro b o e
  have ba : b ≠ a := fun z => by
    rw [z, na] at e
    cases e
  have hd : H d = none := by
    rw [upd_ne ne] at nd
    exact nd
  have bd : b ≠ d := fun z => by
    rw [z, hd] at e
    cases e
  rw [upd_ne bd, del_ne ba, upd_ne ba, upd_ne bd, upd_ne ba]
  exact e
/-- raise InvalidMove("..") in a def's own frame -/
theorem er_read {C : Addr} {H : Hp} {E : XK} {word : Str} (h : Er C H E word) : ∀ a, H a = none → spIM C (.ref a :: ([V.str word] ++ [])) (upd H a (exo a C none))
    (fun v H2 => v = .non ∧ ∃ (d : Addr) (fs : List (Str × V)), H2 a = some (exo a C (some d)) ∧ H2 d = some (exd d fs) ∧ H d = none ∧ E (.ref C) (some d) (upd (del H2 a) d (.xd fs))) (fun _ _ _ => False) := by
  intro a na
  refine ⟨a, _, rfl, upd_same, fun d nd ne => ⟨rfl, d, [("word", .str word)], upd_same, ?_, ?_, ?_⟩⟩
  · rw [upd_ne ne]
    exact upd_same
  · rw [upd_ne ne] at nd
    exact nd
  · exact h d _ (raise_same na nd ne) upd_same
/-! Begin -/
def spBegin (C CM : Addr) : Sp := fun vs H Q E => ∃ (x dx : Addr) (v : V), vs = [.ref x, v] ∧ H x = some (.ins C dx []) ∧ AV H v ∧
  (isNum v 1 = true → Q .non (upd H x (.ins C dx [("amount", v)]))) ∧ (isNum v 1 = false → Er CM H E "amount")
abbrev CalNum (P : Program) (w : World) (K : PySem.W.Frag) (mg : Str → Option Value) (base : Heap) : Prop := Cal P w K mg base CX0 "is_number" 2 ["value"] spNum
abbrev CalAmt (P : Program) (w : World) (K : PySem.W.Frag) (mg : Str → Option Value) (base : Heap) : Prop := Cal P w K mg base CX0 "is_amount" 3 ["value"] spAmt
/-! Take, Right -/
def two (a v : V) : List (Str × V) := [("at", a), ("amount", v)]
theorem ne_at : ¬ (("at" : Str) = "amount") := by decide +kernel
theorem put_two (a v : V) : putF "amount" v (putF "at" a []) = two a v := by
  show (if ("at" : Str) = "amount" then [(("at" : Str), v)] else (("at" : Str), a) :: putF "amount" v []) = two a v
  rw [if_neg ne_at]
  rfl
theorem two_at (a v : V) : (two a v).lookup ("at" : Str) = some a := by
  rw [← put_two, lookup_putF, if_neg ne_at, lookup_putF, if_pos rfl]
theorem two_am (a v : V) : (two a v).lookup ("amount" : Str) = some v := by
  rw [← put_two, lookup_putF, if_pos rfl]
def spTake (C CM : Addr) : Sp := fun vs H Q E => ∃ (x dx : Addr) (a v : V), vs = [.ref x, a, v] ∧ H x = some (.ins C dx []) ∧ AV H a ∧ AV H v ∧
  (isNum a 0 = true → (v = .non ∨ isNum v 1 = true) → Q .non (upd H x (.ins C dx (two a v)))) ∧ (isNum a 0 = false → Er CM H E "at") ∧
  (isNum a 0 = true → ¬ v = .non → isNum v 1 = false → Er CM H E "amount")
def spRight (C CM : Addr) : Sp := fun vs H Q E => ∃ (x dx : Addr) (a v : V), vs = [.ref x, a, v] ∧ H x = some (.ins C dx []) ∧ AV H a ∧ AV H v ∧
  (isNum a 0 = true → isNum v 1 = true → Q .non (upd H x (.ins C dx (two a v)))) ∧ (isNum a 0 = false → Er CM H E "at") ∧
  (isNum a 0 = true → isNum v 1 = false → Er CM H E "amount")
/-! the texts -/
def bText (i : Int) : Str := Str.empty ++ "begin " ++ num i
def tText (i : Int) : Str := Str.empty ++ "take " ++ num i
def tbText (i j : Int) : Str := Str.empty ++ "take " ++ num i ++ " by " ++ num j
def rText (i j : Int) : Str := Str.empty ++ "right " ++ num i ++ " to " ++ num j
def spBStr (C : Addr) : Sp := fun vs H Q _ => ∃ (x dx : Addr) (i : Int), vs = [.ref x] ∧ H x = some (.ins C dx [("amount", .int i)]) ∧ Am i ∧ Q (.str (bText i)) H
def spTStr (C : Addr) : Sp := fun vs H Q _ => ∃ (x dx : Addr) (i : Int) (v : V), vs = [.ref x] ∧ H x = some (.ins C dx (two (.int i) v)) ∧ Am i ∧
  ((v = .non ∧ Q (.str (tText i)) H) ∨ ∃ j, v = .int j ∧ Am j ∧ Q (.str (tbText i j)) H)
def spRStr (C : Addr) : Sp := fun vs H Q _ => ∃ (x dx : Addr) (i j : Int), vs = [.ref x] ∧ H x = some (.ins C dx (two (.int i) (.int j))) ∧ Am i ∧ Am j ∧ Q (.str (rText i j)) H
end
end V3

set_option Elab.async false
set_option linter.all false
set_option maxRecDepth 100000
namespace V3
open PySem L2
-- no sAny
/-! values whose type is known; the moves' classes are mv, all known ones cs -/
inductive TK (cs : List Addr) (H : Hp) : V → Prop where
  | non : TK cs H .non
  | bl (b : Bool) : TK cs H (.bl b)
  | int (i : Int) : TK cs H (.int i)
  | str (z : Str) : TK cs H (.str z)
  | lst {a : Addr} {xs : List V} (h : H a = some (.lst xs)) : TK cs H (.ref a)
  | tup {a : Addr} {xs : List V} (h : H a = some (.tup xs)) : TK cs H (.ref a)
  | ins {a C dx : Addr} {fs : List (Str × V)} (h : H a = some (.ins C dx fs)) (c : C ∈ cs) : TK cs H (.ref a)
def seqOf : Option HO → Option (List V)
  | some (.lst xs) => some xs
  | some (.tup xs) => some xs
  | _ => none
def itemsOf (H : Hp) : V → Option (List V)
  | .ref a => seqOf (H a)
  | _ => none
def AW (cs : List Addr) (H : Hp) (v : V) : Prop := TK cs H v ∧ ∀ xs, itemsOf H v = some xs → xs.length ≤ 100 ∧ ∀ z ∈ xs, TK cs H z
/-- all but the box is as it was, and there is a box -/
theorem TK.same {cs : List Addr} {H H' : Hp} {v : V} (h : TK cs H v) (s : Same H H') : TK cs H' v := by
  cases h with
  | non => exact .non
  | bl b => exact .bl b
  | int i => exact .int i
  | str z => exact .str z
  | lst h => exact .lst (s _ _ h)
  | tup h => exact .tup (s _ _ h)
  | ins h c => exact .ins (s _ _ h) c
theorem TK.pre {cs : List Addr} {b : Addr} {H H' : Hp} {v : V} (h : TK cs H v) (s : Pre b H H') : TK cs H' v := by
  obtain ⟨s, u, w, _, e⟩ := s
  have key : ∀ {a : Addr} {o : HO}, H a = some o → (∀ o, H' a = some o → o = (box u w) ∨ H a = some o) → True := fun _ _ => trivial
  cases h with
  | non => exact .non
  | bl b => exact .bl b
  | int i => exact .int i
  | str z => exact .str z
  | @lst a xs h =>
    by_cases q : a = b
    · rw [q]
      exact .lst e
    · exact .lst (s _ _ q h)
  | @tup a xs h =>
    by_cases q : a = b
    · rw [q]
      exact .lst e
    · exact .tup (s _ _ q h)
  | @ins a C dx fs h c =>
    by_cases q : a = b
    · rw [q]
      exact .lst e
    · exact .ins (s _ _ q h) c
theorem TK.updl {cs : List Addr} {H : Hp} {D : Addr} {xs : List V} {v : V} (h : TK cs H v) : TK cs (upd H D (.lst xs)) v := by
  cases h with
  | non => exact .non
  | bl b => exact .bl b
  | int i => exact .int i
  | str z => exact .str z
  | @lst a xs h =>
    by_cases q : a = D
    · rw [q]
      exact .lst upd_same
    · exact .lst (by rw [upd_ne q]; exact h)
  | @tup a xs h =>
    by_cases q : a = D
    · rw [q]
      exact .lst upd_same
    · exact .tup (by rw [upd_ne q]; exact h)
  | @ins a C dx fs h c =>
    by_cases q : a = D
    · rw [q]
      exact .lst upd_same
    · exact .ins (by rw [upd_ne q]; exact h) c
/-- what stands at a reference of known type -/
theorem TK.at {cs : List Addr} {H : Hp} {a : Addr} (h : TK cs H (.ref a)) : ∃ o, H a = some o ∧ ((∃ xs, o = .lst xs) ∨ (∃ xs, o = .tup xs) ∨ ∃ C dx fs, o = .ins C dx fs ∧ C ∈ cs) := by
  cases h with
  | lst h => exact ⟨_, h, .inl ⟨_, rfl⟩⟩
  | tup h => exact ⟨_, h, .inr (.inl ⟨_, rfl⟩)⟩
  | ins h c => exact ⟨_, h, .inr (.inr ⟨_, _, _, rfl, c⟩)⟩
theorem items_at {H H' : Hp} {a : Addr} (e : H' a = H a) : itemsOf H' (.ref a) = itemsOf H (.ref a) := by
  show seqOf (H' a) = seqOf (H a)
  rw [e]
theorem items_none {H : Hp} {v : V} (n : ∀ a, v ≠ .ref a) : itemsOf H v = none := by
  cases v with
  | ref a => exact absurd rfl (n a)
  | _ => rfl
theorem items_same {cs : List Addr} {H H' : Hp} {v : V} (h : TK cs H v) (s : Same H H') : itemsOf H' v = itemsOf H v := by
  by_cases n : ∃ a, v = .ref a
  · obtain ⟨a, rfl⟩ := n
    obtain ⟨o, e, _⟩ := h.at
    exact items_at ((s _ _ e).trans e.symm)
  · rw [items_none (fun a z => n ⟨a, z⟩), items_none (fun a z => n ⟨a, z⟩)]
theorem AW.same {cs : List Addr} {H H' : Hp} {v : V} (h : AW cs H v) (s : Same H H') : AW cs H' v := by
  refine ⟨h.1.same s, fun xs e => ?_⟩
  rw [items_same h.1 s] at e
  exact ⟨(h.2 xs e).1, fun z hz => ((h.2 xs e).2 z hz).same s⟩
theorem AW.pre {cs : List Addr} {b : Addr} {H H' : Hp} {v : V} (h : AW cs H v) (s : Pre b H H') : AW cs H' v := by
  refine ⟨h.1.pre s, fun xs e => ?_⟩
  by_cases n : ∃ a, v = .ref a
  · obtain ⟨a, rfl⟩ := n
    by_cases q : a = b
    · subst q
      obtain ⟨_, u, w, _, eb⟩ := s
      have z : itemsOf H' (.ref a) = some [.int u, .int w] := by
        show seqOf (H' a) = _
        rw [eb]
        rfl
      rw [z] at e
      injection e with e
      subst e
      refine ⟨by show 2 ≤ 100; decide, fun z hz => ?_⟩
      simp only [List.mem_cons, List.not_mem_nil, or_false] at hz
      rcases hz with rfl | rfl
      · exact .int _
      · exact .int _
    · obtain ⟨o, eo, _⟩ := h.1.at
      rw [items_at ((s.1 _ _ q eo).trans eo.symm)] at e
      exact ⟨(h.2 xs e).1, fun z hz => ((h.2 xs e).2 z hz).pre s⟩
  · rw [items_none (fun a z => n ⟨a, z⟩)] at e
    cases e
theorem AW.flat {cs : List Addr} {H : Hp} {v : V} (h : TK cs H v) (n : ∀ a, v ≠ .ref a) : AW cs H v := ⟨h, fun xs e => by
  rw [items_none n] at e
  cases e⟩
theorem AW.lst {cs : List Addr} {H : Hp} {a : Addr} {xs : List V} (h : H a = some (.lst xs)) (l : xs.length ≤ 100) (k : ∀ z ∈ xs, TK cs H z) : AW cs H (.ref a) := by
  refine ⟨.lst h, fun ys e => ?_⟩
  have z : itemsOf H (.ref a) = some xs := by
    show seqOf (H a) = _
    rw [h]
    rfl
  rw [z] at e
  injection e with e
  subst e
  exact ⟨l, k⟩
theorem AW.tup {cs : List Addr} {H : Hp} {a : Addr} {xs : List V} (h : H a = some (.tup xs)) (l : xs.length ≤ 100) (k : ∀ z ∈ xs, TK cs H z) : AW cs H (.ref a) := by
  refine ⟨.tup h, fun ys e => ?_⟩
  have z : itemsOf H (.ref a) = some xs := by
    show seqOf (H a) = _
    rw [h]
    rfl
  rw [z] at e
  injection e with e
  subst e
  exact ⟨l, k⟩
theorem AW.ins {cs : List Addr} {H : Hp} {a C dx : Addr} {fs : List (Str × V)} (h : H a = some (.ins C dx fs)) (c : C ∈ cs) : AW cs H (.ref a) := by
  refine ⟨.ins h c, fun ys e => ?_⟩
  have z : itemsOf H (.ref a) = none := by
    show seqOf (H a) = _
    rw [h]
    rfl
  rw [z] at e
  cases e
def spAny (cs : List Addr) (e : Nat) : Sp := fun vs H Q _ => ∃ (b : Addr) (u v : Int), vs = [.ref b, .int (e : Int)] ∧ H b = some (box u v) ∧ BoxOk u v ∧
  ∀ (y : V) (H' : Hp), Pre b H H' → AW cs H' y → Q y H'
structure BltC (mg : Str → Option Value) : Prop where
  range : mg "range" = none
  tuple : mg "tuple" = none
abbrev CalChoose (P : Program) (w : World) (K : PySem.W.Frag) (mg : Str → Option Value) (base : Heap) : Prop := Cal P w K mg base CX0 "_law_choose" 1 ["_law_box", "_law_many"] spChoose
abbrev CalOneOf (P : Program) (w : World) (K : PySem.W.Frag) (mg : Str → Option Value) (base : Heap) : Prop := Cal P w K mg base CX0 "_law_one_of" 2 ["_law_box", "_law_some"] (spOneOf K)
section
variable {P : Program} {w : World} {K : PySem.W.Frag} {mg : Str → Option Value} {base : Heap}
end
end V3

set_option Elab.async false
set_option linter.all false
set_option maxRecDepth 100000
/-! x + y by an own __add__; x[i], x[a:b:c] by an own __getitem__. -/
namespace V3
open PySem PySem.Spec PyProof.Rows L2
section
variable {X : Cx} {n : Nat}
theorem vals_back {z : V} {u : Value} {Q : Value → Shared → Prop} {s' : Shared} (r : RelV z u) (q : Q u s') : PySem.W.CmpBack Q u s' := by
  cases z with
  | non => cases r; exact q
  | bl b => cases r; exact q
  | int i => obtain ⟨t, rfl⟩ := r; exact q
  | str i => obtain ⟨t, rfl⟩ := r; exact q
  | byt i => obtain ⟨t, rfl⟩ := r; exact q
  | flt i => obtain ⟨t, rfl⟩ := r; exact q
  | ref a => cases r; exact q
  | ty a => cases r; exact q
/-- a class with an own method at f for a binary operator -/
structure BinCls (K : PySem.W.Frag) (C f : Addr) (op : Operator) : Prop where
  sf : PySem.W.selfFirst K C = true
  at_ : PySem.W.findIn K (.ref C) (PySem.dunder op.info.2) = some (some (.ref f))
  fn : PySem.W.isFn K (.ref f) = true
/-- x op y, both of one class -/
def rBinS (FF : Addr → Sp → XK → Prop) : R2 := fun x y H Q => ∃ (a C dx : Addr) (fs : List (Str × V)) (b dy : Addr) (gs : List (Str × V)) (sp : Sp) (E : XK), x = .ref a ∧ y = .ref b ∧ H a = some (.ins C dx fs) ∧ H b = some (.ins C dy gs) ∧
  FF C sp E ∧ sp [x, y] H Q E
theorem op_binS {op : Operator} {FF : Addr → Sp → XK → Prop} (hF : ∀ C sp E, FF C sp E → ∃ (CX : CXT) (f : Addr) (fd : FuncData) (ps : List Str), FnOk X.prog X.w X.K X.mg X.base CX n f fd ps sp ∧ BinCls X.K C f op ∧ Binds X.K fd ps [] ∧ Passes CX X E) (hr : Room n X.A) :
    OpR X (binaryOp op) (rBinS FF) := by
  intro pins s σ H x y v u Q I rx ry hq
  obtain ⟨a, C, dx, fs, b, dy, gs, sp, E, rfl, rfl, ha, hb, ff, hsp⟩ := hq
  obtain ⟨CX, f, fd, ps, F, ec, bi, hx⟩ := hF C sp E ff
  cases rx
  cases ry
  obtain ⟨mA, J, _⟩ := ins_get I.hok ha
  obtain ⟨mB, J', _⟩ := ins_get I.hok hb
  obtain ⟨od, J, _⟩ := J.look
  obtain ⟨od', J', _⟩ := J'.look
  obtain ⟨m, hF⟩ := I.fr
  refine PySem.W.binop_K hF I.ok.mod.kin J J'.type ec.sf ec.at_ ec.fn ?_
  refine wpAny_mono (run_own (x := .ref a) (y := .ref b) ⟨hr, rfl⟩ F bi hx I rfl rfl hsp) (fun w s' q => ?_) fun _ _ e => e
  obtain ⟨z, H', I', rz, q⟩ := q
  exact vals_back rz ⟨z, H', I', rz, q⟩
/-- a class with an own __getitem__ at f -/
structure GetCls (K : PySem.W.Frag) (C f : Addr) : Prop where
  at_ : PySem.W.findIn K (.ref C) "__getitem__" = some (some (.ref f))
  fn : PySem.W.isFn K (.ref f) = true
  fi : PySem.W.fnIn K f = true
def rIxO (FF : Addr → Sp → XK → Prop) : R2 := fun x y H Q => ∃ (a C dx : Addr) (fs : List (Str × V)) (sp : Sp) (E : XK), x = .ref a ∧ H a = some (.ins C dx fs) ∧ FF C sp E ∧ sp [x, y] H Q E
/-- the call that x[i] makes -/
theorem sub_own {FF : Addr → Sp → XK → Prop} (hF : ∀ C sp E, FF C sp E → ∃ (CX : CXT) (f : Addr) (fd : FuncData) (ps : List Str), FnOk X.prog X.w X.K X.mg X.base CX n f fd ps sp ∧ GetCls X.K C f ∧ Binds X.K fd ps [] ∧ Passes CX X E) (hr : Room (n + 1) X.A)
    {value slice : Expr} {pins : List (Addr × Obj)} {s : Shared} {σ : L2.St} {H : Hp} {x y : V} {v u : Value} {Q : VK} (I : Inv X pins σ H s) (rx : RelV x v) (ry : RelV y u) (hq : rIxO FF x y H Q)
    (hsl : ∀ a : Addr, subscripted slice true (.ref a) u = runValue (.builtin "lifetime.subscript" ⟨[.ref a, u], []⟩)) : wpAny (model X.prog X.w) X.A (subscriptTail value slice v u) (EP X pins σ Q) X.xe s := by
  obtain ⟨a, C, dx, fs, sp, E, rfl, ha, ff, hsp⟩ := hq
  obtain ⟨CX, f, fd, ps, F, ec, bi, hx⟩ := hF C sp E ff
  cases rx
  obtain ⟨mA, J, _⟩ := ins_get I.hok ha
  obtain ⟨od, J, _⟩ := J.look
  obtain ⟨m, hF⟩ := I.fr
  refine PySem.W.sub_K hF I.ok.mod.kin J ec.at_ ec.fi ec.fn ?_ (hsl a)
  exact run_own (x := .ref a) (y := y) (A := X.A.in1) ⟨hr.in1, rfl⟩ F bi hx I rfl ry hsp
/-- x[i] -/
theorem pe_ixO {FF : Addr → Sp → XK → Prop} (hF : ∀ C sp E, FF C sp E → ∃ (CX : CXT) (f : Addr) (fd : FuncData) (ps : List Str), FnOk X.prog X.w X.K X.mg X.base CX n f fd ps sp ∧ GetCls X.K C f ∧ Binds X.K fd ps [] ∧ Passes CX X E) (hr : Room (n + 1) X.A)
    {a b : Expr} {ta tb : TE} {pos : Pos} (ha : PE X a ta) (hb : PE X b tb)
    (hsl : ∀ (o : Addr) (u : Value), subscripted b true (.ref o) u = runValue (.builtin "lifetime.subscript" ⟨[.ref o, u], []⟩) := by intro _ _; with_unfolding_all rfl) : PE X (.Subscript a b pos) (tOp (rIxO FF) ta tb) := by
  refine ⟨fun pins s σ H Q I h => ?_⟩
  exact Subscript_ (binT ha hb I h fun v u s2 x y H2 I2 rx ry q => sub_own hF hr I2 rx ry q fun o => hsl o u)
/-- a slice object -/
def SlH (p : Addr) (lo hi st : Option Int) : HO := .ext fun h => ∃ vl vu vk, h.IsSliceOf p vl vu vk ∧ IsPart vl lo ∧ IsPart vu hi ∧ IsPart vk st
def tSlO (FF : Addr → Sp → XK → Prop) (te : TE) (tl th ts : TO) : TE := fun σ H Q => te σ H fun x H1 => tl σ H1 fun l H2 => th σ H2 fun u H3 => ts σ H3 fun k H4 =>
  ∀ p, H4 p = none → rIxO FF x (.ref p) (upd H4 p (SlH p l u k)) Q
theorem po_no : PO X none tNoPart := ⟨fun pins s σ H Q I h => by
  rw [evalPart_none]
  exact wpAny_pure ⟨none, H, I, .none, h⟩⟩
/-- x[a:b:c] -/
theorem pe_slO {FF : Addr → Sp → XK → Prop} (hF : ∀ C sp E, FF C sp E → ∃ (CX : CXT) (f : Addr) (fd : FuncData) (ps : List Str), FnOk X.prog X.w X.K X.mg X.base CX n f fd ps sp ∧ GetCls X.K C f ∧ Binds X.K fd ps [] ∧ Passes CX X E) (hr : Room (n + 1) X.A)
    {e : Expr} {te : TE} {lo hi st : Option Expr} {tl th ts : TO} {p2 pos : Pos} (he : PE X e te) (hl : PO X lo tl) (hu : PO X hi th) (hk : PO X st ts)
    (hsl : ∀ (o : Addr) (u : Value), subscripted (.Slice lo hi st p2) true (.ref o) u = runValue (.builtin "lifetime.subscript" ⟨[.ref o, u], []⟩) := by intro _ _; with_unfolding_all rfl) :
    PE X (.Subscript e (.Slice lo hi st p2) pos) (tSlO FF te tl th ts) := by
  refine ⟨fun pins s σ H Q I h => ?_⟩
  refine Subscript_ (thn (he.run pins s σ H _ I h) fun v s1 ⟨x, H1, I1, r1, q1⟩ => ?_)
  refine wpAny_Slice (thn (hl.run pins s1 σ H1 _ I1 q1) fun vl s2 ⟨l, H2, I2, pl, q2⟩ =>
    thn (hu.run pins s2 σ H2 _ I2 q2) fun vu s3 ⟨u, H3, I3, pu, q3⟩ =>
    thn (hk.run pins s3 σ H3 _ I3 q3) fun vk s4 ⟨k, H4, I4, pk, q4⟩ => ?_)
  have J : Inv X pins σ (upd H4 s4.heap.objs.size (SlH s4.heap.objs.size l u k)) { s4 with heap := s4.heap.push { cls := .type "slice", data := .fields #[vl, vu, vk] } } :=
    I4.laid (t' := s4.toks) (o := SlH s4.heap.objs.size l u k) (fun b ob q => Heap.get?_push_of_some _ q) (Nat.le_refl _)
      ⟨⟨vl, vu, vk, Heap.IsSliceOf.new .., pl, pu, pk⟩, ⟨_, Heap.get?_push_size _ rfl⟩, fun h1 h2 ⟨a, b, c, ⟨o, ho, hc, hd⟩, p1, p2, p3⟩ kp => ⟨a, b, c, ⟨o, kp o ho, hc, hd⟩, p1, p2, p3⟩⟩
  exact sub_own (y := .ref s4.heap.objs.size) hF hr J r1 rfl (q4 _ (I4.hok.fresh (Nat.le_refl _))) fun o => hsl o _
end
end V3

set_option Elab.async false
set_option linter.all false
set_option maxRecDepth 100000
/-! slices of tuples, with any step. -/
namespace HT
open PySem PySem.Spec PyProof.Rows
section
variable {prog : Program} {w : World} {A : Around} {E : Value → Shared → Prop} {s : Shared}
theorem sliceApplied_any {sl : Addr} {vl vu vk : Value} {lo hi st : Option Int} {n : Nat} {Q : Int × Int × Nat → Shared → Prop} (hs : s.heap.IsSliceOf sl vl vu vk) (pl : IsPart vl lo) (pu : IsPart vu hi) (pk : IsPart vk st) (h0 : st ≠ some 0)
    (h : Q ((Builtin.Slice.sliceAdjust lo hi (st.getD 1) (n : Int)).1, st.getD 1, Builtin.Slice.slicePlaces (Builtin.Slice.sliceAdjust lo hi (st.getD 1) (n : Int)).1 (Builtin.Slice.sliceAdjust lo hi (st.getD 1) (n : Int)).2 (st.getD 1)) s) : wpAny (model prog w) A (Builtin.Slice.sliceApplied (.ref sl) (pure (n : Int))) Q E s := by
  obtain ⟨os, hos, hcs, hds⟩ := id hs
  unfold Builtin.Slice.sliceApplied Builtin.Slice.sliceFields
  refine wpAny_bind (wpAny_bind (wpAny_field hos hds (x := vl) rfl (wpAny_bind (wpAny_field hos hds (x := vu) rfl (wpAny_bind (wpAny_field hos hds (x := vk) rfl (wpAny_pure ?_)))))))
  refine wpAny_bind (slicePart_ pk ?_)
  have hc : ¬ ((st.getD 1 == 0) = true) := by
    cases st with
    | none => decide
    | some c =>
      intro q
      exact h0 (by rw [show c = 0 from eq_of_beq q])
  show wpAny _ _ (if (st.getD 1 == 0) = true then _ else _) _ _ s
  rw [if_neg hc]
  refine wpAny_bind (slicePart_ pl (wpAny_bind (slicePart_ pu (wpAny_bind (wpAny_pure ?_)))))
  exact wpAny_pure h
/-- the places of a slice -/
def idxT (lo hi st : Option Int) (n : Nat) : List Nat :=
  (List.range (Builtin.Slice.slicePlaces (Builtin.Slice.sliceAdjust lo hi (st.getD 1) (n : Int)).1 (Builtin.Slice.sliceAdjust lo hi (st.getD 1) (n : Int)).2 (st.getD 1))).map fun (k : Nat) => ((Builtin.Slice.sliceAdjust lo hi (st.getD 1) (n : Int)).1 + (k : Int) * st.getD 1).toNat
theorem getItem_tuple_any {t sl : Addr} {items : Array Value} {vl vu vk : Value} {lo hi st : Option Int} {Q : Value → Shared → Prop} (ht : IsTup s.heap t items) (hs : s.heap.IsSliceOf sl vl vu vk) (pl : IsPart vl lo) (pu : IsPart vu hi) (pk : IsPart vk st) (h0 : st ≠ some 0)
    (hsz : ((idxT lo hi st items.size).filterMap fun i => items[i]?).length ≤ sizeLine)
    (hw : (idxT lo hi st items.size) = List.range items.size → Q (.ref t) s)
    (h : Q (.ref s.heap.objs.size) { s with heap := s.heap.push { cls := .type "tuple", data := .seq ((idxT lo hi st items.size).filterMap fun i => items[i]?).toArray } })
    : wpAny (model prog w) A (getItem (.ref t) (.ref sl)) Q E s := by
  obtain ⟨os, hos, hcs, hds⟩ := id hs
  have hTs : s.TypeIs (.ref sl) "slice" := ⟨os, hos, hcs⟩
  unfold getItem
  try with_reducible refine wpAny_holding ?_
  first | refine wpAny_bind (wpAny_pure ?_) | skip
  refine wpAny_bind (wpAny_sequenceKey ht.typeIs (by decide) ?_)
  refine wpAny_bind (wpAny_callSpecial?_slot (name := Str.ofString "__getitem__") ht.typeIs PyProof.Rows.slot_tuple_getitem
    (wpAny_call_entry PyProof.Rows.slot_tuple_getitem ht.typeIs entry_tuple_getitem ?_ (args_tuple_getitem _ _)))
  show wpAny _ _ (Builtin.Tuple.tupleItemsOf (.ref t) >>= _) _ _ s
  refine wpAny_bind (tupleItemsOf_ ht ?_)
  refine wpAny_bind (wpAny_typeOf hTs ?_)
  rw [if_pos (by decide)]
  refine wpAny_bind (sliceApplied_any hs pl pu pk h0 ?_)
  unfold idxT at hsz hw h
  rw [List.filterMap_map] at hsz h
  generalize (Builtin.Slice.sliceAdjust lo hi (st.getD 1) ((items.size : Nat) : Int)).1 = a at hsz hw h ⊢
  generalize (Builtin.Slice.sliceAdjust lo hi (st.getD 1) ((items.size : Nat) : Int)).2 = b at hsz hw h ⊢
  generalize st.getD 1 = c at hsz hw h ⊢
  generalize Builtin.Slice.slicePlaces a b c = n at hsz hw h ⊢
  show wpAny _ _ (if (a == 0 && c == 1 && n == items.size) = true then _ else _) _ _ s
  by_cases q : (a == 0 && c == 1 && n == items.size) = true
  · rw [if_pos q]
    rw [Bool.and_eq_true, Bool.and_eq_true] at q
    have q1 : a = 0 := eq_of_beq q.1.1
    have q2 : c = 1 := eq_of_beq q.1.2
    have q3 : n = items.size := eq_of_beq q.2
    subst q1 q2 q3
    have hQ := hw (by
      have e : (fun (k : Nat) => ((0 : Int) + (k : Int) * 1).toNat) = id := by
        funext k
        show ((0 : Int) + (k : Int) * 1).toNat = k
        omega
      rw [e, List.map_id])
    refine wpAny_bind ?_
    show wpAny _ _ (typeOf (.ref t) >>= fun T => pure (T == .type "tuple")) _ _ s
    refine wpAny_bind (wpAny_typeOf ht.typeIs (wpAny_pure ?_))
    first
      | rw [if_pos (by decide)]
      | simp only [beq_self_eq_true, if_true]
    first
      | exact wpAny_bind (wpAny_rule (wpAny_pure ⟨_, rfl, wpAny_pure hQ⟩))
      | exact wpAny_bind (wpAny_rule (wpAny_bind (wpAny_pure (wpAny_pure ⟨_, rfl, wpAny_pure hQ⟩))))
  · rw [if_neg q]
    have htake : sizeOk (.seq (((List.range n).filterMap ((fun i => items[i]?) ∘ fun (k : Nat) => (a + (k : Int) * c).toNat))).toArray) := by
      show ((List.range n).filterMap ((fun i => items[i]?) ∘ fun (k : Nat) => (a + (k : Int) * c).toNat)).toArray.size ≤ sizeLine
      rw [List.size_toArray]
      exact hsz
    first
      | exact wpAny_bind (m := Builtin.Tuple.tupleExact _) (wpAny_newObj_type (wpAny_pure ⟨_, rfl, wpAny_pure h⟩) htake)
      | exact wpAny_bind (m := Builtin.Tuple.tupleExact _) (wpAny_newObj_type (wpAny_bind (wpAny_pure (wpAny_pure ⟨_, rfl, wpAny_pure h⟩))) htake)
      | exact wpAny_bind (wpAny_bind (m := Builtin.Tuple.tupleExact _) (wpAny_newObj_type (wpAny_pure (wpAny_pure ⟨_, rfl, wpAny_pure h⟩)) htake))
      | exact wpAny_bind (wpAny_bind (m := Builtin.Tuple.tupleExact _) (wpAny_newObj_type (wpAny_pure ⟨_, rfl, wpAny_pure h⟩) htake))
end
end HT

set_option Elab.async false
set_option linter.all false
set_option maxRecDepth 100000
/-! slices of tuples, at the level of values -/
namespace V3
open PySem PySem.Spec PyProof.Rows L2
/-- what a slice picks -/
def stepL {α : Type} (xs : List α) (lo hi st : Option Int) : List α := (HT.idxT lo hi st xs.length).filterMap fun i => xs[i]?
theorem pick_self {α : Type} (xs : List α) : (List.range xs.length).filterMap (fun i => xs[i]?) = xs := by
  have z := pick_run xs.toArray 0 xs.length
  rw [List.filterMap_map] at z
  have e : ((fun x => xs.toArray[x]?) ∘ fun x => 0 + x) = fun i => xs[i]? := by
    funext i
    simp
  rw [e] at z
  simpa using z
theorem fm_congr {α β : Type} {f g : α → Option β} : ∀ {xs : List α}, (∀ x ∈ xs, f x = g x) → xs.filterMap f = xs.filterMap g
  | [], _ => rfl
  | x :: r, h => by
    have e := h x (List.mem_cons_self ..)
    have ih := fm_congr (xs := r) fun y hy => h y (List.mem_cons_of_mem _ hy)
    rw [List.filterMap_cons, List.filterMap_cons, e, ih]
theorem step_len {α : Type} (xs : List α) {lo hi st : Option Int} : (stepL xs lo hi st).length ≤ (HT.idxT lo hi st xs.length).length := List.length_filterMap_le ..
theorem step_one {α : Type} (xs : List α) (lo hi : Option Int) : stepL xs lo hi none = (xs.drop (HT.sIx xs.length 0 lo)).take (HT.sIx xs.length xs.length hi - HT.sIx xs.length 0 lo) := by
  unfold stepL HT.idxT
  show List.filterMap (fun i => xs[i]?) (List.map (fun (k : Nat) => ((Builtin.Slice.sliceAdjust lo hi 1 (xs.length : Int)).1 + (k : Int) * 1).toNat) (List.range (Builtin.Slice.slicePlaces (Builtin.Slice.sliceAdjust lo hi 1 (xs.length : Int)).1 (Builtin.Slice.sliceAdjust lo hi 1 (xs.length : Int)).2 1))) = _
  rw [HT.adjust_gen lo hi xs.length]
  show List.filterMap (fun i => xs[i]?) (List.map (fun (k : Nat) => (((HT.sIx xs.length 0 lo : Nat) : Int) + (k : Int) * 1).toNat) (List.range (Builtin.Slice.slicePlaces ((HT.sIx xs.length 0 lo : Nat) : Int) ((HT.sIx xs.length xs.length hi : Nat) : Int) 1))) = _
  rw [HT.places_gen]
  generalize HT.sIx xs.length 0 lo = i
  generalize HT.sIx xs.length xs.length hi - i = k
  have z := pick_run xs.toArray i k
  have e : (fun (k : Nat) => ((i : Int) + (k : Int) * 1).toNat) = fun x => i + x := by
    funext m
    omega
  rw [e]
  simpa using z
theorem step_to {α : Type} (xs : List α) {k : Nat} (h : k ≤ xs.length) : stepL xs none (some (k : Int)) none = xs.take k := by
  rw [step_one, HT.sIx_nat, HT.sIx_none, Nat.min_eq_left h]
  simp
theorem step_from {α : Type} (xs : List α) {k : Nat} (h : k ≤ xs.length) : stepL xs (some (k : Int)) none none = xs.drop k := by
  rw [step_one, HT.sIx_nat, HT.sIx_none, Nat.min_eq_left h]
  exact List.take_of_length_le (by rw [List.length_drop]; exact Nat.le_refl _)
theorem step_back {α : Type} (xs : List α) : stepL xs none none (some (-1)) = xs.reverse := by
  unfold stepL HT.idxT
  have a1 : Builtin.Slice.sliceAdjust none none ((some (-1 : Int)).getD 1) (xs.length : Int) = ((xs.length : Int) - 1, -1) := by
    simp [Builtin.Slice.sliceAdjust]
  have a2 : Builtin.Slice.slicePlaces ((xs.length : Int) - 1) (-1) ((some (-1 : Int)).getD 1) = xs.length := by
    unfold Builtin.Slice.slicePlaces
    simp
    omega
  rw [a1]
  show List.filterMap (fun i => xs[i]?) (List.map (fun (k : Nat) => ((xs.length : Int) - 1 + (k : Int) * (some (-1 : Int)).getD 1).toNat) (List.range (Builtin.Slice.slicePlaces ((xs.length : Int) - 1) (-1) ((some (-1 : Int)).getD 1)))) = _
  rw [a2, List.filterMap_map]
  have z := pick_self xs.reverse
  rw [List.length_reverse] at z
  refine Eq.trans (fm_congr fun k hk => ?_) z
  have lt : k < xs.length := List.mem_range.mp hk
  rw [List.getElem?_reverse lt]
  have e : ((xs.length : Int) - 1 + (k : Int) * (some (-1 : Int)).getD 1).toNat = xs.length - 1 - k := by
    show ((xs.length : Int) - 1 + (k : Int) * (-1)).toNat = _
    omega
  show xs[((xs.length : Int) - 1 + (k : Int) * (some (-1 : Int)).getD 1).toNat]? = _
  rw [e]
theorem vals_idx {xs : List V} {us : List Value} (r : Vals xs us) : ∀ idx : List Nat, Vals (idx.filterMap fun i => xs[i]?) (idx.filterMap fun i => us.toArray[i]?) := vals_pick r
section
variable {X : Cx}
/-- what t[slice] wants -/
def wSl (K : PySem.W.Frag) (p : Addr) (xs : List V) (lo hi st : Option Int) (H : Hp) (Q : VK) : Prop := SqT K H p xs ∧ st ≠ some 0 ∧ (stepL xs lo hi st).length ≤ sizeLine ∧
  (HT.idxT lo hi st xs.length = List.range xs.length → Q (.ref p) H) ∧ ∀ r, H r = none → Q (.ref r) (upd H r (.tup (stepL xs lo hi st)))
theorem run_sl {pins : List (Addr × Obj)} {s : Shared} {σ : L2.St} {H : Hp} {p sl : Addr} {xs : List V} {vl vu vk : Value} {lo hi st : Option Int} {Q : VK} (I : Inv X pins σ H s) (hs : s.heap.IsSliceOf sl vl vu vk) (pl : IsPart vl lo) (pu : IsPart vu hi) (pk : IsPart vk st)
    (h : wSl X.K p xs lo hi st H Q) : ∃ items : Array Value, IsTup s.heap p items ∧ wpAny (model X.prog X.w) X.A (getItem (.ref p) (.ref sl)) (EP X pins σ Q) X.xe s := by
  obtain ⟨hx, h0, hz, hw, hq⟩ := h
  obtain ⟨its, r, ht, hsz⟩ := I.tuple hx
  have ln : xs.length = its.toArray.size := by rw [List.size_toArray]; exact r.length
  refine ⟨its.toArray, ht, HT.getItem_tuple_any ht hs pl pu pk h0 ?_ (fun e => ?_) ?_⟩
  · unfold stepL at hz
    rw [ln] at hz
    rw [← (vals_idx r _).length]
    exact hz
  · exact ⟨.ref p, H, I, rfl, hw (by rw [ln]; exact e)⟩
  · have v := vals_idx r (HT.idxT lo hi st its.toArray.size)
    rw [← ln] at v ⊢
    refine ⟨.ref s.heap.objs.size, _, I.laid (t' := s.toks) (o := .tup (stepL xs lo hi st)) (fun b ob q => Heap.get?_push_of_some _ q) (Nat.le_refl _) ?_, rfl, hq _ (I.hok.fresh (Nat.le_refl _))⟩
    exact ⟨hz, _, v, ⟨_, Heap.get?_push_size _ rfl, rfl, _, rfl⟩⟩
/-- t[a:b:c] -/
def tStepT (K : PySem.W.Frag) (te : TE) (tl th ts : TO) : TE := fun σ H Q => te σ H fun x H1 => tl σ H1 fun l H2 => th σ H2 fun u H3 => ts σ H3 fun k H4 => ∃ p xs, x = .ref p ∧ wSl K p xs l u k H4 Q
theorem pe_stepT {e : Expr} {te : TE} {lo hi st : Option Expr} {tl th ts : TO} {p2 pos : Pos} (he : PE X e te) (hl : PO X lo tl) (hu : PO X hi th) (hk : PO X st ts)
    (hop : ∀ (o : Value) (n : Addr), subscripted (.Slice lo hi st p2) false o (.ref n) = operate [o, .ref n] (getItem o (.ref n)) := by intro _ _; with_unfolding_all rfl) :
    PE X (.Subscript e (.Slice lo hi st p2) pos) (tStepT X.K te tl th ts) := by
  refine ⟨fun pins s σ H Q I h => ?_⟩
  refine Subscript_ (thn (he.run pins s σ H _ I h) fun v s1 ⟨x, H1, I1, r1, q1⟩ => ?_)
  refine wpAny_Slice (thn (hl.run pins s1 σ H1 _ I1 q1) fun vl s2 ⟨l, H2, I2, pl, q2⟩ =>
    thn (hu.run pins s2 σ H2 _ I2 q2) fun vu s3 ⟨u, H3, I3, pu, q3⟩ =>
    thn (hk.run pins s3 σ H3 _ I3 q3) fun vk s4 ⟨k, H4, I4, pk, q4⟩ => ?_)
  obtain ⟨p, xs, rfl, w⟩ := q4
  have J : Inv X pins σ H4 { s4 with heap := s4.heap.push { cls := .type "slice", data := .fields #[vl, vu, vk] } } := I4.kept (t' := s4.toks) fun b ob q => Heap.get?_push_of_some _ q
  cases r1
  obtain ⟨items, ht, got⟩ := run_sl J (Heap.IsSliceOf.new ..) pl pu pk w
  exact tail_any (ops := [.ref p, .ref s4.heap.objs.size]) ht.typeIs slot_tuple_getitem.lookup got (hop _ _)
/-- t[s], s a slice -/
def rIxSl (K : PySem.W.Frag) : R2 := fun x y H Q => ∃ p q xs lo hi st, x = .ref p ∧ y = .ref q ∧ H q = some (SlH q lo hi st) ∧ wSl K p xs lo hi st H Q
theorem ix_slice : IxR X (rIxSl X.K) := by
  intro value slice pins s σ H x y v u Q I rx ry h hs
  obtain ⟨p, q, xs, lo, hi, st, rfl, rfl, hq, w⟩ := h
  cases rx
  cases ry
  obtain ⟨⟨vl, vu, vk, so, pl, pu, pk⟩, _, _⟩ := I.hok _ _ hq
  obtain ⟨items, ht, got⟩ := run_sl I so pl pu pk w
  exact tail_any (ops := [.ref p, .ref q]) ht.typeIs slot_tuple_getitem.lookup got hs
end
end V3

set_option Elab.async false
set_option linter.all false
set_option maxRecDepth 100000
/-! readings that leave all as it was: what they answer -/
namespace V3
open PySem L2
def EvV (W : Hp → Prop) (σ : L2.St) (te : TE) (R : V → Hp → Prop) : Prop := ∀ H Q, W H → (∀ v H', Same H H' → W H' → R v H' → Q v H') → te σ H Q
def EvB (W : Hp → Prop) (σ : L2.St) (tt : TT) (b : Bool) : Prop := ∀ H Q, W H → (∀ H', Same H H' → W H' → Q b H') → tt σ H Q
def EvO (W : Hp → Prop) (σ : L2.St) (tO : TO) (o : Option Int) : Prop := ∀ H Q, W H → (∀ H', Same H H' → W H' → Q o H') → tO σ H Q
def StV (R : V → Hp → Prop) : Prop := ∀ v H H', Same H H' → R v H → R v H'
def isIv (i : Int) : V → Hp → Prop := fun v _ => v = .int i
def isSv (s : Str) : V → Hp → Prop := fun v _ => v = .str s
def isBv (b : Bool) : V → Hp → Prop := fun v _ => v = .bl b
def isVv (u : V) : V → Hp → Prop := fun v _ => v = u
theorem st_i {i : Int} : StV (isIv i) := fun _ _ _ _ h => h
theorem st_s {i : Str} : StV (isSv i) := fun _ _ _ _ h => h
theorem st_b {i : Bool} : StV (isBv i) := fun _ _ _ _ h => h
theorem st_v {u : V} : StV (isVv u) := fun _ _ _ _ h => h
section
variable {W : Hp → Prop} {σ : L2.St} {ta tb te : TE} {R Ra Rb : V → Hp → Prop}
theorem ev_var {i : Nat} {v : V} (e : σ[i]? = some (some v)) (h : ∀ H, W H → R v H) : EvV W σ (tVar i) R := fun H Q w k => ⟨v, e, k v H (Same.refl H) w (h H w)⟩
theorem ev_c {v : V} : EvV W σ (tC v) (isVv v) := fun H Q w k => k v H (Same.refl H) w rfl
theorem ev_int {i : Int} : EvV W σ (tC (.int i)) (isIv i) := fun H Q w k => k _ H (Same.refl H) w rfl
theorem ev_str {s : Str} : EvV W σ (tC (.str s)) (isSv s) := fun H Q w k => k _ H (Same.refl H) w rfl
/-- a two-place operation -/
theorem ev_op {r : R2} (sa : StV Ra) (ha : EvV W σ ta Ra) (hb : EvV W σ tb Rb) (h : ∀ x y H Q, W H → Ra x H → Rb y H → (∀ v H', Same H H' → W H' → R v H' → Q v H') → r x y H Q) : EvV W σ (tOp r ta tb) R := fun H Q w k =>
  ha H _ w fun x H1 s1 w1 rx => hb H1 _ w1 fun y H2 s2 w2 ry => h x y H2 Q w2 (sa _ _ _ s2 rx) ry fun v H' s w' rv => k v H' ((s1.trans s2).trans s) w' rv
/-- a call with one argument -/
theorem ev_cb1 {r : List V → Hp → VK → Prop} (ha : EvV W σ ta Ra) (h : ∀ x H Q, W H → Ra x H → (∀ v H', Same H H' → W H' → R v H' → Q v H') → r [x] H Q) : EvV W σ (tCB r (tCons ta tNil)) R := fun H Q w k =>
  ha H _ w fun x H1 s1 w1 rx => h x H1 Q w1 rx fun v H' s w' rv => k v H' (s1.trans s) w' rv
theorem ev_test {b : Bool} (h : EvV W σ te (isBv b)) : EvB W σ (tTest te) b := fun H Q w k => h H _ w fun v H' s w' e => ⟨b, e, k H' s w'⟩
theorem ev_or {t u : TT} {b : Bool} (h : EvB W σ t false) (h2 : EvB W σ u b) : EvB W σ (tOr t u) b := fun H Q w k =>
  h H _ w fun H1 s1 w1 => iteF (h2 H1 _ w1 fun H2 s2 w2 => k H2 (s1.trans s2) w2)
theorem evo_none : EvO W σ tNoPart none := fun H Q w k => k H (Same.refl H) w
theorem evo_some {i : Int} (h : EvV W σ te (isIv i)) : EvO W σ (tPart te) (some i) := fun H Q w k => h H _ w fun v H' s w' e => ⟨i, e, k H' s w'⟩
theorem ev_add {i j : Int} (ha : EvV W σ ta (isIv i)) (hb : EvV W σ tb (isIv j)) : EvV W σ (tOp (rI0 fun i j => .int (i + j)) ta tb) (isIv (i + j)) :=
  ev_op st_i ha hb fun x y H Q w ex ey k => ⟨i, j, ex, ey, k _ H (Same.refl H) w rfl⟩
/-- != and == of flat values -/
theorem ev_neI {i j : Int} (ha : EvV W σ ta (isIv i)) (hb : EvV W σ tb (isIv j)) : EvV W σ (tOp rNe ta tb) (isBv (!decide (i = j))) :=
  ev_op st_i ha hb fun x y H Q w ex ey k => by
    cases ex
    cases ey
    refine ⟨rfl, k _ H (Same.refl H) w ?_⟩
    have e : (V.int i = V.int j) ↔ (i = j) := ⟨fun z => by injection z, fun z => by rw [z]⟩
    show V.bl (!decide (V.int i = V.int j)) = V.bl (!decide (i = j))
    by_cases h : i = j
    · rw [decide_eq_true h, decide_eq_true (e.mpr h)]
    · rw [decide_eq_false h, decide_eq_false (fun z => h (e.mp z))]
theorem dec_str {i j : Str} : decide (V.str i = V.str j) = decide (i = j) := by
  have e : (V.str i = V.str j) ↔ (i = j) := ⟨fun z => by injection z, fun z => by rw [z]⟩
  by_cases h : i = j
  · rw [decide_eq_true h, decide_eq_true (e.mpr h)]
  · rw [decide_eq_false h, decide_eq_false (fun z => h (e.mp z))]
theorem dec_bl {i j : Bool} : decide (V.bl i = V.bl j) = decide (i = j) := by
  have e : (V.bl i = V.bl j) ↔ (i = j) := ⟨fun z => by injection z, fun z => by rw [z]⟩
  by_cases h : i = j
  · rw [decide_eq_true h, decide_eq_true (e.mpr h)]
  · rw [decide_eq_false h, decide_eq_false (fun z => h (e.mp z))]
theorem ev_neS {i j : Str} (ha : EvV W σ ta (isSv i)) (hb : EvV W σ tb (isSv j)) : EvV W σ (tOp rNe ta tb) (isBv (!decide (i = j))) :=
  ev_op st_s ha hb fun x y H Q w ex ey k => by
    cases ex
    cases ey
    exact ⟨rfl, k _ H (Same.refl H) w (congrArg (fun b => V.bl (!b)) dec_str)⟩
theorem ev_eqS {i j : Str} (ha : EvV W σ ta (isSv i)) (hb : EvV W σ tb (isSv j)) : EvV W σ (tOp rEq ta tb) (isBv (decide (i = j))) :=
  ev_op st_s ha hb fun x y H Q w ex ey k => by
    cases ex
    cases ey
    exact ⟨rfl, k _ H (Same.refl H) w (congrArg V.bl dec_str)⟩
theorem ev_neB {i j : Bool} (ha : EvV W σ ta (isBv i)) (hb : EvV W σ tb (isBv j)) : EvV W σ (tOp rNe ta tb) (isBv (!decide (i = j))) :=
  ev_op st_b ha hb fun x y H Q w ex ey k => by
    cases ex
    cases ey
    exact ⟨rfl, k _ H (Same.refl H) w (congrArg (fun b => V.bl (!b)) dec_bl)⟩
theorem ev_eqB {i j : Bool} (ha : EvV W σ ta (isBv i)) (hb : EvV W σ tb (isBv j)) : EvV W σ (tOp rEq ta tb) (isBv (decide (i = j))) :=
  ev_op st_b ha hb fun x y H Q w ex ey k => by
    cases ex
    cases ey
    exact ⟨rfl, k _ H (Same.refl H) w (congrArg V.bl dec_bl)⟩
theorem ev_to {R' : V → Hp → Prop} (h : EvV W σ te R) (e : ∀ v H, R v H → R' v H) : EvV W σ te R' := fun H Q w k => h H Q w fun v H' s w' r => k v H' s w' (e v H' r)
theorem ev_bool {b b' : Bool} (h : EvB W σ t b) (e : b = b') : EvB W σ t b' := e ▸ h
/-- an if whose test fails -/
theorem if_no {c : TT} {t u : TS} {D : Ends} {H : Hp} (h : EvB W σ c false) (w : W H) (k : ∀ H', Same H H' → W H' → u D σ H') : tIfS c t u D σ H := h H _ w fun H' s w' => iteF (k H' s w')
end
end V3

set_option Elab.async false
set_option linter.all false
set_option maxRecDepth 100000
/-! truth values: repr, is not -/
namespace V3
open PySem PySem.Spec PyProof.Rows L2 TL
def boolT (b : Bool) : Str := if b then "True" else "False"
def rReprB : List V → Hp → VK → Prop := fun xs H Q => ∃ b : Bool, xs = [.bl b] ∧ Q (.str (boolT b)) H
def rIsNotB : R2 := fun x y H Q => ∃ a b : Bool, x = .bl a ∧ y = .bl b ∧ Q (.bl (a != b)) H
section
variable {X : Cx}
theorem call_reprB : CallR X (.builtin "repr") rReprB := by
  intro pins s σ H xs us Q I r h
  obtain ⟨b, rfl, q⟩ := h
  obtain ⟨u, rfl, ru⟩ := vals1 r
  cases ru
  exact PySem.P.repr_of_bool ⟨.str _, H, I.tok _, ⟨_, by cases b <;> rfl⟩, q⟩
theorem op_isnotB : OpR X (compareOp .IsNot) rIsNotB := by
  intro pins s σ H x y v u Q I rx ry h
  obtain ⟨a, b, rfl, rfl, q⟩ := h
  cases rx
  cases ry
  have z : EP X pins σ Q (.bool (!((Value.bool a) == .bool b))) s := fin_bl I q (by cases a <;> cases b <;> rfl)
  exact wpAny_pure z
end
section
variable {σ : L2.St} {ta tb te : TE} {H0 : Hp} {p q : Bool}
theorem ev_reprB {W : Hp → Prop} (ha : EvV W σ ta (isBv p)) : EvV W σ (tCB rReprB (tCons ta tNil)) (isSv (boolT p)) :=
  ev_cb1 ha fun x H Q w e k => ⟨p, by rw [show x = _ from e], k _ H (Same.refl H) w rfl⟩
theorem ev_isnotB {W : Hp → Prop} (ha : EvV W σ ta (isBv p)) (hb : EvV W σ tb (isBv q)) : EvV W σ (tOp rIsNotB ta tb) (isBv (p != q)) :=
  ev_op (Ra := isBv p) (fun _ _ _ _ e => e) ha hb fun x y H Q w e1 e2 k => ⟨p, q, e1, e2, k _ H (Same.refl H) w rfl⟩
end
end V3

set_option Elab.async false
set_option linter.all false
set_option maxRecDepth 100000
/-! any values: nested data, in or not in rows of words; repr -/
namespace V3
open PySem PySem.Spec PyProof.Rows L2 TL
mutual
/-- nested data, all its lists and tuples at addresses of a kind -/
inductive Ad (N : Addr → Prop) (H : Hp) : V → PyData → Prop
  | non : Ad N H .non .none
  | bl (b : Bool) : Ad N H (.bl b) (.bool b)
  | int (i : Int) : Ad N H (.int i) (.int i)
  | str (x : Str) : Ad N H (.str x) (.str x)
  | lst {a : Addr} {xs : List V} {ds : List PyData} : N a → H a = some (.lst xs) → AdL N H xs ds → Ad N H (.ref a) (.list ds)
  | tup {a : Addr} {xs : List V} {ds : List PyData} : N a → H a = some (.tup xs) → AdL N H xs ds → Ad N H (.ref a) (.tuple ds)
inductive AdL (N : Addr → Prop) (H : Hp) : List V → List PyData → Prop
  | nil : AdL N H [] []
  | cons {v : V} {vs : List V} {d : PyData} {ds : List PyData} : Ad N H v d → AdL N H vs ds → AdL N H (v :: vs) (d :: ds)
end
section
variable {N M : Addr → Prop} {H G : Hp} {K : PySem.W.Frag}
mutual
theorem Ad.mv (f : ∀ a, N a → M a) (s : ∀ a o, N a → H a = some o → (∀ q, o ≠ .tbl q) → G a = some o) : ∀ (d : PyData) (v : V), Ad N H v d → Ad M G v d
  | .none, _, h => by
    cases h
    exact .non
  | .bool b, _, h => by
    cases h
    exact .bl b
  | .int i, _, h => by
    cases h
    exact .int i
  | .str x, _, h => by
    cases h
    exact .str x
  | .list ds, _, h => by
    cases h with
    | lst n e l => exact .lst (f _ n) (s _ _ n e (fun q z => by cases z)) (AdL.mv f s ds _ l)
  | .tuple ds, _, h => by
    cases h with
    | tup n e l => exact .tup (f _ n) (s _ _ n e (fun q z => by cases z)) (AdL.mv f s ds _ l)
  | .dict _, _, h => by cases h
theorem AdL.mv (f : ∀ a, N a → M a) (s : ∀ a o, N a → H a = some o → (∀ q, o ≠ .tbl q) → G a = some o) : ∀ (ds : List PyData) (vs : List V), AdL N H vs ds → AdL M G vs ds
  | [], _, h => by
    cases h
    exact .nil
  | d :: ds, _, h => by
    cases h with
    | cons a l => exact .cons (Ad.mv f s d _ a) (AdL.mv f s ds _ l)
end
mutual
theorem Ad.dp : ∀ (d : PyData) (v : V), Ad N H v d → Dp K H v d
  | .none, _, h => by
    cases h
    exact .non
  | .bool b, _, h => by
    cases h
    exact .bl b
  | .int i, _, h => by
    cases h
    exact .int i
  | .str x, _, h => by
    cases h
    exact .str x
  | .list ds, _, h => by
    cases h with
    | lst n e l => exact .lst (SqL.of e) (AdL.dp ds _ l)
  | .tuple ds, _, h => by
    cases h with
    | tup n e l => exact .tup (SqT.of e) (AdL.dp ds _ l)
  | .dict _, _, h => by cases h
theorem AdL.dp : ∀ (ds : List PyData) (vs : List V), AdL N H vs ds → DpAll K H vs ds
  | [], _, h => by
    cases h
    exact .nil
  | d :: ds, _, h => by
    cases h with
    | cons a l => exact .cons (Ad.dp d _ a) (AdL.dp ds _ l)
end
theorem AdL.app {vs ws : List V} {ds es : List PyData} (h : AdL N H vs ds) (g : AdL N H ws es) : AdL N H (vs ++ ws) (ds ++ es) := by
  induction ds generalizing vs with
  | nil =>
    cases h
    exact g
  | cons d r ih =>
    cases h with
    | cons a l => exact .cons a (ih l)
theorem AdL.len {vs : List V} {ds : List PyData} (h : AdL N H vs ds) : vs.length = ds.length := by
  induction ds generalizing vs with
  | nil =>
    cases h
    rfl
  | cons d r ih =>
    cases h with
    | cons a l => exact congrArg (· + 1) (ih l)
theorem AdL.at {vs : List V} {ds : List PyData} (h : AdL N H vs ds) {i : Nat} {d : PyData} (e : ds[i]? = some d) : ∃ v, vs[i]? = some v ∧ Ad N H v d := by
  induction ds generalizing vs i with
  | nil => cases e
  | cons c r ih =>
    cases h with
    | cons a l =>
      cases i with
      | zero =>
        cases e
        exact ⟨_, rfl, a⟩
      | succ j => exact ih l e
end
/-- what is neither a list nor a tuple -/
inductive Fv where
  | non
  | bl (b : Bool)
  | int (i : Int)
  | str (x : Str)
  deriving DecidableEq
def Fv.d : Fv → PyData
  | .non => .none
  | .bl b => .bool b
  | .int i => .int i
  | .str x => .str x
def Fv.v : Fv → V
  | .non => .non
  | .bl b => .bl b
  | .int i => .int i
  | .str x => .str x
def Fv.sh : Fv → Str
  | .non => "None"
  | .bl b => if b then "True" else "False"
  | .int i => num i
  | .str x => reprText x
def fOf : PyData → Option Fv
  | .none => some .non
  | .bool b => some (.bl b)
  | .int i => some (.int i)
  | .str x => some (.str x)
  | _ => none
theorem f_of {x : Fv} : fOf x.d = some x := by cases x <;> rfl
theorem of_f {d : PyData} {x : Fv} (h : fOf d = some x) : d = x.d := by
  cases d <;> first | (cases h; rfl) | cases h
theorem f_flat (x : Fv) : flatV x.v = true := by cases x <;> rfl
theorem Ad.flat {N : Addr → Prop} {H : Hp} {v : V} {x : Fv} (h : Ad N H v x.d) : v = x.v := by
  cases x <;> (cases h; rfl)
theorem Ad.of (N : Addr → Prop) (H : Hp) (x : Fv) : Ad N H x.v x.d := by
  cases x
  · exact .non
  · exact .bl _
  · exact .int _
  · exact .str _
theorem Ad.deep {N : Addr → Prop} {H : Hp} {v : V} {d : PyData} (h : Ad N H v d) (n : fOf d = none) : ∃ a xs, v = .ref a ∧ N a ∧ (H a = some (.lst xs) ∨ H a = some (.tup xs)) := by
  cases h with
  | lst k e _ => exact ⟨_, _, rfl, k, .inl e⟩
  | tup k e _ => exact ⟨_, _, rfl, k, .inr e⟩
  | _ => cases n
def flats : List Fv := [.int 0, .int 1, .int (-1), .int 5, .int 100000000000000000000, .bl true, .bl false, .non, .str "", .str "first", .str "minus", .str "open", .str "whole", .str "own", .str "now", .str "left", .str "over", .str "Plus", .str " ", .str "zz",
  .str "new", .str "plus", .str "shut", .str "part", .str "right", .str "there", .str "target", .str "top", .str "deed", .int 2, .int 3, .int 4, .str "all"]
/-- small data: what is drawn here -/
inductive Sm : Nat → PyData → Prop
  | flat {n : Nat} {x : Fv} : x ∈ flats → Sm n x.d
  | lst {n : Nat} {ds : List PyData} : ds.length ≤ 3 → (∀ d ∈ ds, Sm n d) → Sm (n + 1) (.list ds)
  | tup {n : Nat} {ds : List PyData} : ds.length ≤ 3 → (∀ d ∈ ds, Sm n d) → Sm (n + 1) (.tuple ds)
theorem sh_inj : ∀ x ∈ flats, ∀ y ∈ flats, x.sh = y.sh → x = y := by decide +kernel
theorem sh_first : ∀ x ∈ flats, (tl x.sh).head? ≠ some 91 ∧ (tl x.sh).head? ≠ some 40 := by decide +kernel
theorem sh_len : ∀ x ∈ flats, x.sh.length ≤ 30 := by decide +kernel
theorem f_shown (x : Fv) : x.d.shown = x.sh := by
  cases x with
  | bl b => cases b <;> rfl
  | _ => rfl
end V3

set_option Elab.async false
set_option linter.all false
set_option maxRecDepth 100000
/-! any values: how they are written out -/
namespace V3
open PySem PySem.Spec PyProof.Rows L2 TL
theorem tf_len {B : Nat} : ∀ (ts : List Str) (k : Nat) (acc : Str), (∀ t ∈ ts, t.length ≤ B) → (textFrom k acc ts).length ≤ acc.length + ts.length * (B + 2)
  | [], _, _, _ => Nat.le_add_right _ _
  | t :: ts, k, acc, h => by
    have z := tf_len ts (k + 1) (acc ++ (if k > 0 then ", " else "" : String) ++ t) fun u hu => h u (List.mem_cons_of_mem _ hu)
    have y := h t (List.mem_cons_self ..)
    rw [strLen_append, strLen_append] at z
    have e : (Str.ofString (if k > 0 then ", " else "" : String)).length ≤ 2 := by split <;> decide +kernel
    show (textFrom (k + 1) (acc ++ (if k > 0 then ", " else "" : String) ++ t) ts).length ≤ acc.length + (ts.length + 1) * (B + 2)
    rw [Nat.add_mul, Nat.one_mul]
    omega
theorem tf_pre : ∀ (ts : List Str) (k : Nat) (acc : Str), ∃ r, tl (textFrom k acc ts) = tl acc ++ r
  | [], _, acc => ⟨[], (List.append_nil _).symm⟩
  | t :: ts, k, acc => by
    obtain ⟨r, e⟩ := tf_pre ts (k + 1) (acc ++ (if k > 0 then ", " else "" : String) ++ t)
    rw [tl_append, tl_append, List.append_assoc, List.append_assoc] at e
    exact ⟨_, e⟩
theorem list_first (ts : List Str) : (tl (listText ts)).head? = some 91 := by
  obtain ⟨r, e⟩ := tf_pre ts 0 "["
  have a : tl ("[" : Str) = [91] := by decide +kernel
  unfold listText
  rw [tl_append, e, a]
  rfl
theorem tup_first (ts : List Str) : (tl (tupleText ts)).head? = some 40 := by
  have a : tl ("(" : Str) = [40] := by decide +kernel
  unfold tupleText
  rw [tl_append, tl_append, a]
  rfl
theorem piled_hi {B : Nat} : ∀ (ts : List Str), (∀ t ∈ ts, t.length ≤ B) → piled ts ≤ ts.length * (B + 2)
  | [], _ => by simp [piled]
  | t :: ts, h => by
    have z := piled_hi ts fun u hu => h u (List.mem_cons_of_mem _ hu)
    have y := h t (List.mem_cons_self ..)
    rw [piled_cons]
    show t.length + 2 + piled ts ≤ (ts.length + 1) * (B + 2)
    rw [Nat.add_mul, Nat.one_mul]
    omega
theorem list_len {B : Nat} {ts : List Str} (n : ts.length ≤ 3) (h : ∀ t ∈ ts, t.length ≤ B) : (listText ts).length ≤ 3 * (B + 2) + 2 := by
  have z := tf_len ts 0 "[" h
  have a : ("[" : Str).length = 1 := by decide +kernel
  have b : ("]" : Str).length = 1 := by decide +kernel
  have m : ts.length * (B + 2) ≤ 3 * (B + 2) := Nat.mul_le_mul_right _ n
  unfold listText
  rw [strLen_append]
  omega
theorem tup_len {B : Nat} {ts : List Str} (n : ts.length ≤ 3) (h : ∀ t ∈ ts, t.length ≤ B) : (tupleText ts).length ≤ 3 * (B + 2) + 3 := by
  have m : ts.length * (B + 2) ≤ 3 * (B + 2) := Nat.mul_le_mul_right _ n
  have y := piled_hi ts h
  have a : ("(" : Str).length = 1 := by decide +kernel
  have c : (Str.ofString (if ts.length == 1 then ",)" else ")" : String)).length ≤ 2 := by split <;> decide +kernel
  have j : (Str.join ", " ts).length ≤ piled ts := by
    cases ts with
    | nil => exact Nat.le_refl _
    | cons t r =>
      have := join_length_add (t :: r) (by simp)
      omega
  unfold tupleText
  rw [strLen_append, strLen_append]
  omega
theorem all_shown : ∀ {ds : List PyData} {t : Str}, t ∈ PyData.shownAll ds → ∃ d ∈ ds, t = d.shown
  | [], _, h => by cases h
  | d :: ds, t, h => by
    rcases List.mem_cons.mp (show t ∈ PyData.shown d :: PyData.shownAll ds from h) with rfl | h
    · exact ⟨d, List.mem_cons_self .., rfl⟩
    · obtain ⟨e, he, z⟩ := all_shown h
      exact ⟨e, List.mem_cons_of_mem _ he, z⟩
theorem all_len : ∀ {ds : List PyData}, (PyData.shownAll ds).length = ds.length
  | [] => rfl
  | d :: ds => congrArg (· + 1) (all_len (ds := ds))
def capS : Nat → Nat
  | 0 => 30
  | n + 1 => 3 * (capS n + 2) + 3
theorem capS_lo : ∀ n, 30 ≤ capS n
  | 0 => Nat.le_refl _
  | n + 1 => by
    have := capS_lo n
    show 30 ≤ 3 * (capS n + 2) + 3
    omega
theorem flat_depth (x : Fv) : x.d.depth = 0 ∧ x.d.hasDict = false := by cases x <;> exact ⟨by simp [Fv.d, PyData.depth], by simp [Fv.d, PyData.hasDict]⟩
theorem flats_show : ∀ x ∈ flats, x.d.showable = true := by
  intro x hx
  have k : ∀ x ∈ flats, (match x with
    | .int i => decide (i.natAbs.log2 < 1920)
    | _ => true) = true := by decide +kernel
  have z := k x hx
  cases x with
  | int i => exact z
  | non => rfl
  | bl b => rfl
  | str y => rfl
theorem depthAll_le {n : Nat} : ∀ {ds : List PyData}, (∀ d ∈ ds, d.depth ≤ n) → PyData.depthAll ds ≤ n
  | [], _ => by simp [PyData.depthAll]
  | d :: ds, h => by
    have a := h d (List.mem_cons_self ..)
    have b := depthAll_le (n := n) (ds := ds) fun e he => h e (List.mem_cons_of_mem _ he)
    simp only [PyData.depthAll]
    omega
theorem showAll {ds : List PyData} (h : ∀ d ∈ ds, d.showable = true) : PyData.showableAll ds = true := by
  induction ds with
  | nil => rfl
  | cons d r ih =>
    show (PyData.showable d && PyData.showableAll r) = true
    rw [h d (List.mem_cons_self ..), ih fun e he => h e (List.mem_cons_of_mem _ he)]
    rfl
theorem noDictAll {ds : List PyData} (h : ∀ d ∈ ds, d.hasDict = false) : PyData.hasDictAll ds = false := by
  induction ds with
  | nil => rfl
  | cons d r ih =>
    show (PyData.hasDict d || PyData.hasDictAll r) = false
    rw [h d (List.mem_cons_self ..), ih fun e he => h e (List.mem_cons_of_mem _ he)]
    rfl
theorem Sm.facts : ∀ {n : Nat} {d : PyData}, Sm n d → d.showable = true ∧ d.hasDict = false ∧ d.depth ≤ n ∧ d.shown.length ≤ capS n := by
  intro n d h
  induction h with
  | @flat n x hx =>
    refine ⟨flats_show x hx, (flat_depth x).2, by rw [(flat_depth x).1]; exact Nat.zero_le _, ?_⟩
    rw [f_shown]
    exact Nat.le_trans (sh_len x hx) (capS_lo n)
  | @lst n ds l _ ih =>
    refine ⟨showAll fun d hd => (ih d hd).1, noDictAll fun d hd => (ih d hd).2.1, ?_, ?_⟩
    · have z := depthAll_le fun d hd => (ih d hd).2.2.1
      simp only [PyData.depth]
      omega
    · have z := list_len (B := capS n) (ts := PyData.shownAll ds) (by rw [all_len]; exact l) fun t ht => by
        obtain ⟨d, hd, e⟩ := all_shown ht
        rw [e]
        exact (ih d hd).2.2.2
      show (listText (PyData.shownAll ds)).length ≤ 3 * (capS n + 2) + 3
      omega
  | @tup n ds l _ ih =>
    refine ⟨showAll fun d hd => (ih d hd).1, noDictAll fun d hd => (ih d hd).2.1, ?_, ?_⟩
    · have z := depthAll_le fun d hd => (ih d hd).2.2.1
      simp only [PyData.depth]
      omega
    · exact tup_len (B := capS n) (ts := PyData.shownAll ds) (by rw [all_len]; exact l) fun t ht => by
        obtain ⟨d, hd, e⟩ := all_shown ht
        rw [e]
        exact (ih d hd).2.2.2
/-- a word's text is that of no other value -/
theorem Sm.word {n : Nat} {d : PyData} (h : Sm n d) {y : Fv} (hy : y ∈ flats) : y.sh = d.shown ↔ fOf d = some y := by
  cases h with
  | @flat n x hx =>
    rw [f_shown, f_of]
    exact ⟨fun e => by rw [sh_inj y hy x hx e], fun e => by cases e; rfl⟩
  | @lst n ds l _ =>
    refine ⟨fun e => ?_, fun e => by cases e⟩
    have z := list_first (PyData.shownAll ds)
    rw [show listText (PyData.shownAll ds) = y.sh from e.symm] at z
    exact absurd z (sh_first y hy).1
  | @tup n ds l _ =>
    refine ⟨fun e => ?_, fun e => by cases e⟩
    have z := tup_first (PyData.shownAll ds)
    rw [show tupleText (PyData.shownAll ds) = y.sh from e.symm] at z
    exact absurd z (sh_first y hy).2
/-- repr(v), v any of these -/
def rRepA (A : Around) : List V → Hp → VK → Prop := fun xs H Q => ∃ (v : V) (d : PyData) (n : Nat) (N : Addr → Prop), xs = [v] ∧ Ad N H v d ∧ Sm n d ∧ n ≤ 3 ∧ A.units + 5 < cLine ∧ Q (.str d.shown) H
theorem call_repA {X : Cx} (g : NoG X.A) : CallR X (.builtin "repr") (rRepA X.A) := by
  intro pins s σ H xs us Q I r h
  obtain ⟨v, d, n, N, rfl, a, sm, n3, un, q⟩ := h
  obtain ⟨h1, h2, h3, h4⟩ := sm.facts
  have lim : d.shown.length ≤ sizeLine := by
    have c : capS n ≤ 2000 := by
      have : n = 0 ∨ n = 1 ∨ n = 2 ∨ n = 3 := by omega
      rcases this with rfl | rfl | rfl | rfl <;> decide
    have : 2000 ≤ sizeLine := by decide
    omega
  cases e : fOf d with
  | none =>
    obtain ⟨p, ys, rfl, _, _⟩ := a.deep e
    exact call_reprD g pins s σ H _ us Q I r ⟨p, d, rfl, a.dp, h1, h2, by omega, lim, q⟩
  | some x =>
    rw [of_f e] at a q lim h1
    have ev := a.flat
    subst ev
    rw [f_shown] at q lim
    cases x with
    | non =>
      obtain ⟨u, rfl, ru⟩ := vals1 r
      cases ru
      exact PySem.P.repr_of_none ⟨.str _, H, I.tok _, ⟨_, rfl⟩, q⟩
    | bl b => exact call_reprB pins s σ H _ us Q I r ⟨b, rfl, q⟩
    | int i => exact call_reprIS pins s σ H _ us Q I r (.inl ⟨i, rfl, of_decide_eq_true h1, q⟩)
    | str z => exact call_repr_str pins s σ H _ us Q I r ⟨z, rfl, lim, q⟩
end V3

set_option Elab.async false
set_option linter.all false
set_option maxRecDepth 100000
/-! any values: in a row of words or not -/
namespace V3
open PySem PySem.Spec PyProof.Rows L2 TL
/-- among these words -/
def amV (L : List Fv) (d : PyData) : Bool := match fOf d with
  | some x => decide (x ∈ L)
  | none => false
def wordsV (L : List Str) : List Fv := L.map .str
theorem inV_words {x : Fv} {L : List Str} : inV x.v (L.map V.str) = decide (x ∈ wordsV L) := by
  cases x with
  | str z =>
    show inV (.str z) _ = _
    rw [inV_str]
    by_cases h : z ∈ L
    · have w : Fv.str z ∈ wordsV L := List.mem_map.mpr ⟨z, h, rfl⟩
      rw [decide_eq_true h, decide_eq_true w]
    · have w : ¬ Fv.str z ∈ wordsV L := fun q => by
        obtain ⟨y, hy, e⟩ := List.mem_map.mp q
        cases e
        exact h hy
      rw [decide_eq_false h, decide_eq_false w]
  | _ =>
    rw [decide_eq_false fun q => by
      obtain ⟨y, hy, e⟩ := List.mem_map.mp q
      cases e]
    induction L with
    | nil => rfl
    | cons y r ih => exact ih
/-- x in a list or tuple of words, x anything -/
def rInA (K : PySem.W.Frag) (neg : Bool) : R2 := fun x y H Q => ∃ (p : Addr) (L : List Str) (N : Addr → Prop) (d : PyData), y = .ref p ∧ (SqL K H p (L.map V.str) ∨ SqT K H p (L.map V.str)) ∧ Ad N H x d ∧ Q (.bl (if neg then !amV (wordsV L) d else amV (wordsV L) d)) H
section
variable {X : Cx}
theorem eq_deep {A : Around} {pins : List (Addr × Obj)} {σ : L2.St} {H : Hp} {s : Shared} (I : Inv X pins σ H s) (hu : A.units < cLine) {a : Addr} {ys : List V} (e : H a = some (.lst ys) ∨ H a = some (.tup ys)) {z : Str} {u : Value} (r : RelV (.str z) u) : SeqAt.EqAt A s u (.ref a) false := by
  obtain ⟨t, rfl⟩ := r
  rcases e with e | e
  · obtain ⟨its, _, pl, _⟩ := I.list (SqL.of (K := X.K) e)
    exact SeqAt.EqAt.str_list z t pl.isList hu
  · obtain ⟨its, _, pl, _⟩ := I.tuple (SqT.of (K := X.K) e)
    exact SeqAt.EqAt.str_tuple z t pl hu
theorem words_deep {A : Around} {pins : List (Addr × Obj)} {σ : L2.St} {H : Hp} {s : Shared} (I : Inv X pins σ H s) (hu : A.units < cLine) {a : Addr} {ys : List V} (e : H a = some (.lst ys) ∨ H a = some (.tup ys)) : ∀ {L : List Str} {us : List Value}, Vals (L.map V.str) us → ∀ u ∈ us, SeqAt.EqAt A s u (.ref a) false
  | [], _, .nil => fun u hu => by cases hu
  | z :: L, _, .cons r t => fun u hu' => by
    rcases List.mem_cons.mp hu' with rfl | hu'
    · exact eq_deep I hu e r
    · exact words_deep I hu e t u hu'
theorem op_inA (hr : Room 1 X.A) : OpR X (compareOp .In) (rInA X.K false) := by
  intro pins s σ H x y v u Q I rx ry h
  obtain ⟨p, L, N, d, rfl, hq, a, q⟩ := h
  cases e : fOf d with
  | some f =>
    rw [of_f e] at a q
    have ex := a.flat
    subst ex
    refine op_in_seq pins s σ H _ _ v u Q I rx ry ⟨p, _, rfl, hq, f_flat f, flat_strs L, ?_⟩
    rw [inV_words]
    unfold amV at q
    rw [f_of] at q
    exact q
  | none =>
    obtain ⟨b, ys, rfl, _, hb⟩ := a.deep e
    cases rx
    cases ry
    have no : amV (wordsV L) d = false := by
      unfold amV
      rw [e]
    rw [no] at q
    rcases hq with hq | hq
    · obtain ⟨its, r, pl, hz⟩ := I.list hq
      refine SeqAt.in_listAt (fun _ => false) pl.isList (fun w hw => words_deep I hr.in1.units0 hb r w (by simpa using hw)) ⟨.bl false, H, I, ?_, q⟩
      rw [(by simp : its.toArray.any (fun _ => false) = false)]
      rfl
    · obtain ⟨its, r, pl, hz⟩ := I.tuple hq
      refine SeqAt.in_tupleAt (fun _ => false) pl (fun w hw => words_deep I hr.in1.units0 hb r w (by simpa using hw)) ⟨.bl false, H, I, ?_, q⟩
      rw [(by simp : its.toArray.any (fun _ => false) = false)]
      rfl
theorem op_ninA (hr : Room 1 X.A) : OpR X (compareOp .NotIn) (rInA X.K true) := by
  intro pins s σ H x y v u Q I rx ry h
  obtain ⟨p, L, N, d, rfl, hq, a, q⟩ := h
  cases e : fOf d with
  | some f =>
    rw [of_f e] at a q
    have ex := a.flat
    subst ex
    refine op_notIn_seq pins s σ H _ _ v u Q I rx ry ⟨p, _, rfl, hq, f_flat f, flat_strs L, ?_⟩
    rw [inV_words]
    unfold amV at q
    rw [f_of] at q
    exact q
  | none =>
    obtain ⟨b, ys, rfl, _, hb⟩ := a.deep e
    cases rx
    cases ry
    have no : amV (wordsV L) d = false := by
      unfold amV
      rw [e]
    rw [no] at q
    rcases hq with hq | hq
    · obtain ⟨its, r, pl, hz⟩ := I.list hq
      refine SeqAt.notIn_listAt (fun _ => false) pl.isList (fun w hw => words_deep I hr.in1.units0 hb r w (by simpa using hw)) ⟨.bl true, H, I, ?_, q⟩
      rw [(by simp : its.toArray.any (fun _ => false) = false)]
      rfl
    · obtain ⟨its, r, pl, hz⟩ := I.tuple hq
      refine SeqAt.notIn_tupleAt (fun _ => false) pl (fun w hw => words_deep I hr.in1.units0 hb r w (by simpa using hw)) ⟨.bl true, H, I, ?_, q⟩
      rw [(by simp : its.toArray.any (fun _ => false) = false)]
      rfl
end
end V3

set_option Elab.async false
set_option linter.all false
set_option maxRecDepth 100000
/-! any values, drawn -/
namespace V3
open PySem PySem.Spec PyProof.Rows L2 TL
abbrev sAnyV : Stmt := top 54
abbrev sMostly : Stmt := top 57
/-- new behind a heap -/
abbrev NewIn (H : Hp) : Addr → Prop := fun a => H a = none
def spAnyV (n : Nat) : Sp := fun vs H Q _ => ∃ (b : Addr) (u v : Int), vs = [.ref b, .int (n : Int)] ∧ H b = some (box u v) ∧ BoxOk u v ∧ ∀ (y : V) (d : PyData) (H' : Hp), Pre b H H' → Ad (NewIn H) H' y d → Sm n d → Q y H'
def nums8 : List Fv := [.int 0, .int 1, .int (-1), .int 5, .int 100000000000000000000, .bl true, .bl false, .non]
def texts12 : List Fv := [.str "", .str "first", .str "minus", .str "open", .str "whole", .str "own", .str "now", .str "left", .str "over", .str "Plus", .str " ", .str "zz"]
theorem nums_in : ∀ x ∈ nums8, x ∈ flats := by decide +kernel
theorem texts_in : ∀ x ∈ texts12, x ∈ flats := by decide +kernel
theorem Pre.none {b : Addr} {H H' : Hp} (p : Pre b H H') {u v : Int} (hb : H b = some (V3.box u v)) {a : Addr} (n : H' a = none) : H a = none := by
  cases e : H a with
  | none => rfl
  | some o =>
    by_cases q : a = b
    · subst q
      obtain ⟨_, u', v', _, z⟩ := p
      rw [z] at n
      cases n
    · rw [p.1 a o q e] at n
      cases n
section
variable {P : Program} {w : World} {K : PySem.W.Frag} {mg : Str → Option Value} {base : Heap}
abbrev NAv : List Str := ["_law_box", "_law_deep", "_law_form", "_law_some", "_law_turn"]
theorem scAnyV : FnScope NAv ["_law_box", "_law_deep"] (defScope sAnyV) := ⟨rfl, rfl, rfl, by decide +kernel, rfl, by decide +kernel, by decide +kernel⟩
theorem anyV_step {f : Addr} {fd : FuncData} (n : Nat) (F : Fun K "_law_any" "_law_any" sAnyV f fd) (T : BltC mg) (cC : CalChoose P w K mg base) (cO : CalOneOf P w K mg base)
    (m : mg "_law_any" = some (.ref f)) (b : Binds K fd ["_law_box", "_law_deep"] []) (spB : Sp) (G : FnOk P w K mg base CX0 (2 + n) f fd ["_law_box", "_law_deep"] spB) (hB : n = 0 ∨ ∃ e, n = e + 1 ∧ spB = spAnyV e) :
    FnOk P w K mg base CX0 (3 + n) f fd ["_law_box", "_law_deep"] (spAnyV n) := by
  obtain ⟨fC, fdC, GC, mC, kC, bC⟩ := cC
  obtain ⟨fO, fdO, GO, mO, kO, bO⟩ := cO
  have z : 3 + n = (2 + n) + 1 := by omega
  rw [z]
  refine F.ok scAnyV (fun vs H Q E h => ?_) (fun cdv A outer s H vs Q E hr h => ?_)
  · obtain ⟨b, u, v, rfl, _⟩ := h
    rfl
  · obtain ⟨bx, u, v, rfl, hb, ok, k⟩ := h
    refine ⟨_, pss_cons (ps_set (i := 2) scAnyV.nd rfl (Or.inl rfl) (pe_call GC (hr.mono (by omega)) rfl mC kC bC .nil pass0 (pa_cons (pv 0) (pa_cons pe_int pa_nil))))
      (pss_cons (ps_if (PW.pt (pw_and (pt_cmpR op_gt (pv 1) pe_int (nomark _)) (pw_and1 (pt_cmpR op_lt (pv 2) pe_int (nomark _))))) (pss_cons (ps_setLc (i := 3) (own := [("_law_turn", 4)]) (g := gName 4) (tt := tYes) (by rfl) scAnyV.nd rfl rfl (sw_true rfl rfl rfl (by decide +kernel)) (pi_range1 (by rfl) T.range (pa_cons (pe_call GC (hr.mono (by omega)) rfl mC kC bC .nil pass0 (pa_cons (pv 0) (pa_cons pe_int pa_nil))) pa_nil)) (blkOk_by (own := [("_law_turn", 4)]) (N := NAv) (sc := defScope sAnyV) (by decide +kernel)) (fun _ _ _ _ _ => (pg_name (i := 4) scAnyV.nd rfl (Or.inl rfl))) (fun _ _ _ _ _ => pts_nil) (fun _ _ _ _ _ => (pe_call G hr rfl m F.kp b .nil pass0 (pa_cons (pv 0) (pa_cons (pe_op op_sub (pv 1) pe_int) pa_nil)))))
        (pss_one (ps_ret (pe_ifExp (pt_cmpR op_lt (pv 2) pe_int (nomark _)) (pe_callTy call_tuple_of (by rfl) T.tuple (by decide +kernel) (pa_cons (pv 3) pa_nil)) (pv 3))))) pss_nil)
      (pss_cons (ps_if (pt_cmpR op_lt (pv 2) pe_int (nomark _)) (pss_one (ps_ret (pe_call GO (hr.mono (by omega)) rfl mO kO bO .nil pass0 (pa_cons (pv 0) (pa_cons (pe_lst (pa_cons pe_int (pa_cons pe_int (pa_cons (pe_un un_neg pe_int) (pa_cons pe_int (pa_cons (pe_op op_pow pe_int pe_int) (pa_cons pe_bl (pa_cons pe_bl (pa_cons pe_non pa_nil))))))))) pa_nil))))) pss_nil)
      (pss_one (ps_ret (pe_call GO (hr.mono (by omega)) rfl mO kO bO .nil pass0 (pa_cons (pv 0) (pa_cons (pe_lst (pa_cons pe_str (pa_cons pe_str (pa_cons pe_str (pa_cons pe_str (pa_cons pe_str (pa_cons pe_str (pa_cons pe_str (pa_cons pe_str (pa_cons pe_str (pa_cons pe_str (pa_cons pe_str (pa_cons pe_str pa_nil))))))))))))) pa_nil))))))), ?_⟩
    refine ⟨_, rfl, bx, u, v, 11, rfl, hb, ok, (by decide), (by decide), fun d u1 v1 d0 d8 ok1 => ?_⟩
    have S1 : Pre bx H (upd H bx (box u1 v1)) := Pre.box ok1
    have hb1 : upd H bx (box u1 v1) bx = some (box u1 v1) := upd_same
    generalize upd H bx (box u1 v1) = H1 at S1 hb1
    refine ⟨_, rfl, _, _, rfl, rfl, _, rfl, ?_⟩
    refine ite2 (fun c => ⟨_, rfl, _, _, rfl, rfl, _, rfl, ite2 (fun c4 => ?deep) (fun c4 => ?fl1)⟩) (fun c => iteF ?fl2)
    case deep =>
      have e1 : (0 : Int) < (n : Int) := of_decide_eq_true c
      obtain ⟨e', he, hs⟩ : ∃ e', n = e' + 1 ∧ spB = spAnyV e' := by
        rcases hB with h | h
        · omega
        · exact h
      subst hs
      refine ⟨_, rfl, bx, u1, v1, 4, rfl, hb1, ok1, (by decide), (by decide), fun d2 u2 v2 q0 q4 ok2 => ?_⟩
      have S2 : Pre bx H (upd H1 bx (box u2 v2)) := S1.trans (Pre.box ok2)
      have hb2 : upd H1 bx (box u2 v2) bx = some (box u2 v2) := upd_same
      generalize upd H1 bx (box u2 v2) = H2 at S2 hb2
      refine ⟨d2, rfl, by omega, by omega, fun D nD => ?_⟩
      have nbD : bx ≠ D := ne_of_none hb2 nD
      refine lc_range (lo := 0) (n := d2.toNat) (fun i Hh => ∃ vs ds, Pre bx H2 Hh ∧ Hh D = some (.lst vs) ∧ AdL (fun a => H a = none ∧ a ≠ D) Hh vs ds ∧ ds.length = i ∧ ∀ d ∈ ds, Sm e' d) ?_ ?_ ?_
      · exact ⟨[], [], ⟨SameX.of (Same.new nD), u2, v2, ok2, by rw [upd_ne nbD]; exact hb2⟩, upd_same, .nil, rfl, fun z hz => by cases hz⟩
      · rintro i Hh hi ⟨vs, ds, S3, hD, ha, hl, hk⟩
        refine ⟨rfl, ?_⟩
        unfold tYes
        dsimp only
        refine iteT ?_
        obtain ⟨sx, u3, v3, ok3, hb3⟩ := id S3
        refine ⟨_, rfl, _, rfl, _, _, rfl, rfl, bx, u3, v3, ?_, hb3, ok3, fun y dy H' S4 ay sy => ?_⟩
        · show [V.ref bx, V.int ((n : Int) - 1)] ++ [] = [V.ref bx, V.int (e' : Int)]
          rw [he]
          simp
        · have hD4 : H' D = some (.lst vs) := S4.1 D _ (fun q => nbD q.symm) hD
          obtain ⟨_, u', v', ok4, hb4⟩ := id S4
          have lv : vs.length ≤ 4 := by
            rw [ha.len, hl]
            omega
          refine ⟨vs, hD4, small1000 (by omega), vs ++ [y], ds ++ [dy], ⟨?_, u', v', ok4, by rw [upd_ne nbD]; exact hb4⟩, upd_same, ?_, by rw [List.length_append, List.length_singleton, hl], fun z hz => ?_⟩
          · intro cc o nc hc
            rw [upd_ne (ne_of_none hc nD)]
            exact S4.1 cc o nc (sx cc o nc hc)
          · refine (AdL.mv (fun a z => z) (fun a o na ea nt => ?_) ds vs ha).app (.cons (Ad.mv (N := NewIn Hh) (fun a na => ⟨S2.none hb (S3.none hb2 na), fun z => by
                subst z
                cases hD.symm.trans na⟩) (fun a o na ea nt => ?_) dy y ay) .nil)
            · rw [upd_ne na.2]
              exact S4.1 a o (fun z => by
                have := na.1
                rw [z, hb] at this
                cases this) ea
            · rw [upd_ne (fun z => by
                subst z
                cases hD.symm.trans na)]
              exact ea
          · rcases List.mem_append.mp hz with hz | hz
            · exact hk z hz
            · rw [List.mem_singleton.mp hz]
              exact sy
      · rintro Hh ⟨vs, ds, S3, hD, ha, hl, hk⟩
        have hD0 : H D = none := S2.none hb nD
        have l3 : ds.length ≤ 3 := by omega
        have lv : vs.length ≤ 4 := by
          rw [ha.len]
          omega
        subst he
        refine ⟨_, rfl, _, _, rfl, rfl, _, rfl, ite2 (fun _ => ?_) (fun _ => ?_)⟩
        · refine ⟨_, rfl, D, vs, rfl, .inl ⟨SqL.of hD, fun l nl => ?_⟩⟩
          refine k _ _ _ ((S2.trans S3).then (Same.new nl)) (.tup (S2.none hb (S3.none hb2 nl)) upd_same (AdL.mv (fun a z => z.1) (fun a o na ea nt => ?_) ds vs ha)) (.tup l3 hk)
          rw [upd_ne (ne_of_none ea nl)]
          exact ea
        · exact ⟨_, rfl, k _ _ _ (S2.trans S3) (.lst hD0 hD (AdL.mv (fun a z => z.1) (fun a o na ea nt => ea) ds vs ha)) (.lst l3 hk)⟩
    all_goals (
      refine ⟨_, rfl, _, _, rfl, rfl, _, rfl, ite2 (fun c7 => ?_) (fun c7 => ?_)⟩
      · refine ⟨_, rfl, _, rfl, _, _, rfl, rfl, ⟨by decide, by decide, by decide⟩, (by show 8 ≤ sizeLine; decide), fun l nl => ?_⟩
        have bl : bx ≠ l := ne_of_none hb1 nl
        refine ⟨bx, l, u1, v1, _, rfl, (by rw [upd_ne bl]; exact hb1), ok1, (fun q => bl q.symm), SqL.of upd_same, (by show 1 ≤ 8; decide), (by show 8 ≤ 1000; decide), fun x u' v' hx ok' => ?_⟩
        obtain ⟨fx, hf, ex⟩ := List.mem_map.mp (show x ∈ nums8.map Fv.v from hx)
        subst ex
        exact k _ _ _ (S1.trans ⟨(SameX.of (Same.new nl)).trans SameX.box, u', v', ok', upd_same⟩) (Ad.of _ _ fx) (.flat (nums_in fx hf))
      · refine ⟨_, rfl, (by show 12 ≤ sizeLine; decide), fun l nl => ?_⟩
        have bl : bx ≠ l := ne_of_none hb1 nl
        refine ⟨bx, l, u1, v1, _, rfl, (by rw [upd_ne bl]; exact hb1), ok1, (fun q => bl q.symm), SqL.of upd_same, (by show 1 ≤ 12; decide), (by show 12 ≤ 1000; decide), fun x u' v' hx ok' => ?_⟩
        obtain ⟨fx, hf, ex⟩ := List.mem_map.mp (show x ∈ texts12.map Fv.v from hx)
        subst ex
        exact k _ _ _ (S1.trans ⟨(SameX.of (Same.new nl)).trans SameX.box, u', v', ok', upd_same⟩) (Ad.of _ _ fx) (.flat (texts_in fx hf)))
theorem ok_anyV {f : Addr} {fd : FuncData} (F : Fun K "_law_any" "_law_any" sAnyV f fd) (T : BltC mg) (cC : CalChoose P w K mg base) (cO : CalOneOf P w K mg base)
    (m : mg "_law_any" = some (.ref f)) (b : Binds K fd ["_law_box", "_law_deep"] []) : ∀ n, FnOk P w K mg base CX0 (3 + n) f fd ["_law_box", "_law_deep"] (spAnyV n)
  | 0 => anyV_step 0 F T cC cO m b (fun _ _ _ _ => False) ⟨fun _ _ _ _ h => h.elim, fun _ _ _ _ _ _ _ _ _ _ _ _ _ h => h.elim⟩ (.inl rfl)
  | n + 1 => anyV_step (n + 1) F T cC cO m b (spAnyV n) (by have z := ok_anyV F T cC cO m b n; rw [show 2 + (n + 1) = 3 + n by omega]; exact z) (.inr ⟨n, rfl, rfl⟩)
end
end V3

set_option Elab.async false
set_option linter.all false
set_option maxRecDepth 100000
namespace V3
open PySem L2 TL
abbrev sWrongWord : Stmt := top 21
abbrev sLInit : Stmt := inClass (top 19) 0
abbrev sLStr : Stmt := inClass (top 19) 2
/-! the rows of houses alone -/
structure RowH (K : PySem.W.Frag) (mg : Str → Option Value) (KA SA DA PA : Addr) : Prop where
  kinds : mg "KINDS" = some (.ref KA)
  states : mg "STATES" = some (.ref SA)
  deeds : mg "DEEDS" = some (.ref DA)
  places : mg "PLACES" = some (.ref PA)
  tK : ∀ H, SqT K H KA (kindL.map V.str)
  tS : ∀ H, SqT K H SA (stateL.map V.str)
  tD : ∀ H, SqT K H DA (deedL.map V.str)
  tP : ∀ H, SqT K H PA (placeL.map V.str)
structure BltR (mg : Str → Option Value) : Prop where
  isi : mg "isinstance" = none
  int : mg "int" = none
  bool : mg "bool" = none
  str : mg "str" = none
def spIntI : Sp := fun vs H Q _ => ∃ i : Int, vs = [.int i] ∧ Q (.bl true) H
def spWord : Sp := fun vs H Q _ => ∃ k s d p, vs = [.str k, .str s, .str d, .str p] ∧ (Rw.lt k s d p).ok ∧ ∀ H', Same H H' → Q .non H'
def spLInit (c : Rc) : Sp := fun vs H Q _ => ∃ x dx k s d p, vs = [.ref x, .str k, .str s, .str d, .str p] ∧ H x = some (.ins c.L dx []) ∧ (Rw.lt k s d p).ok ∧ ∀ H', SameX x H H' → H' x = some ((Rw.lt k s d p).obj c dx) → Q .non H'
def spRS (c : Rc) (k : Nat) : Sp := fun vs H Q _ => ∃ (x dx : Addr) (m : Rw), vs = [.ref x] ∧ H x = some (m.obj c dx) ∧ m.kind = k ∧ m.ok ∧ Q (.str m.text) H
theorem lt_put {f : Str} {v : V} {n : Nat} : ∀ {fs : List (Str × V)}, fs.length < n → (putF f v fs).length < n + 1
  | [], h => by
    show 1 < n + 1
    have : 0 < n := h
    omega
  | (g, x) :: r, h => by
    show (if g = f then (g, v) :: r else (g, x) :: putF f v r).length < n + 1
    have l : r.length + 1 < n := h
    split
    · show r.length + 1 < n + 1
      omega
    · have z := lt_put (f := f) (v := v) (n := n - 1) (fs := r) (by omega)
      show (putF f v r).length + 1 < n + 1
      omega
theorem SameX.upd {x : Addr} {H H' : Hp} {o : HO} (s : SameX x H H') : SameX x H (upd H' x o) := fun c u n h => by
  rw [upd_ne n]
  exact s c u n h
/-- what an object's class must have of its fields -/
structure LetC (K : PySem.W.Frag) (c : Rc) : Prop where
  cl : Cls K c.L
  k : NoAttr K c.L "kind"
  s : NoAttr K c.L "state"
  d : NoAttr K c.L "deed"
  p : NoAttr K c.L "place"
section
variable {P : Program} {w : World} {K : PySem.W.Frag} {mg : Str → Option Value} {base : Heap} {KA SA DA PA : Addr}
theorem scWord : FnScope ["kind", "state", "deed", "place"] ["kind", "state", "deed", "place"] (defScope sWrongWord) := ⟨rfl, rfl, rfl, by decide +kernel, rfl, by decide +kernel, by decide +kernel⟩
theorem scLInit : FnScope ["self", "kind", "state", "deed", "place", "wrong"] ["self", "kind", "state", "deed", "place"] (defScope sLInit) := ⟨rfl, rfl, rfl, by decide +kernel, rfl, by decide +kernel, by decide +kernel⟩
theorem scLStr : FnScope ["self"] ["self"] (defScope sLStr) := ⟨rfl, rfl, rfl, by decide +kernel, rfl, by decide +kernel, by decide +kernel⟩
theorem ok_word {f : Addr} {fd : FuncData} (F : Fun K "wrong_word" "wrong_word" sWrongWord f fd) (T : RowH K mg KA SA DA PA) : FnOk P w K mg base CX0 1 f fd ["kind", "state", "deed", "place"] spWord := by
  refine F.ok scWord (fun vs H Q E h => ?_) (fun cdv A outer s H vs Q E hr h => ?_)
  · obtain ⟨k, s, d, p, rfl, _⟩ := h
    rfl
  · obtain ⟨k, s, d, p, rfl, ⟨k1, s1, d1, p1, r1⟩, q⟩ := h
    refine ⟨_, pss_cons (ps_if (pt_cmpR op_notIn_seq (pv 0) (pe_glob (v := .ref KA) rfl T.kinds rfl) rfl) (pss_one (ps_ret pe_str)) pss_nil)
      (pss_cons (ps_if (pt_cmpR op_notIn_seq (pv 1) (pe_glob (v := .ref SA) rfl T.states rfl) rfl) (pss_one (ps_ret pe_str)) pss_nil)
      (pss_cons (ps_if (PW.pt (pw_or (pt_cmpR op_notIn_seq (pv 2) (pe_glob (v := .ref DA) rfl T.deeds rfl) rfl) (pw_or1 (PW.pt (pw_and (pt_cmpR op_eq (pv 2) pe_str (nomark _)) (pw_and1 (pt_cmpR op_in_seq (pv 0) (pe_tup (pa_cons pe_str (pa_cons pe_str pa_nil))) rfl))))))) (pss_one (ps_ret pe_str)) pss_nil)
      (pss_cons (ps_if (pt_cmpR op_notIn_seq (pv 3) (pe_glob (v := .ref PA) rfl T.places rfl) rfl) (pss_one (ps_ret pe_str)) pss_nil)
      (pss_one (ps_ret pe_non))))), ?_⟩
    refine ⟨_, rfl, KA, _, rfl, .inr (T.tK _), rfl, flat_strs _, _, rfl, ?_⟩
    rw [inV_str, decide_eq_true k1]
    refine iteF ⟨_, rfl, SA, _, rfl, .inr (T.tS _), rfl, flat_strs _, _, rfl, ?_⟩
    rw [inV_str, decide_eq_true s1]
    refine iteF ⟨_, rfl, DA, _, rfl, .inr (T.tD _), rfl, flat_strs _, _, rfl, ?_⟩
    rw [inV_str, decide_eq_true d1]
    refine iteF ⟨_, rfl, rfl, _, rfl, ?_⟩
    have last : ∀ H', Same H H' → Q .non H' := q
    by_cases e : d = "right"
    · subst e
      rw [decide_eq_true rfl]
      refine iteT ⟨_, rfl, (by show 2 ≤ sizeLine; decide), fun t nt => ⟨t, _, rfl, .inr (SqT.of upd_same), rfl, rfl, _, rfl, ?_⟩⟩
      have z : inV (.str k) [.str "minus", .str "plus"] = false := by
        rcases r1 rfl with rfl | rfl <;> decide +kernel
      have z2 : (if false = true then !inV (V.str k) [.str "minus", .str "plus"] else inV (V.str k) [.str "minus", .str "plus"]) = false := by rw [if_neg Bool.false_ne_true, z]
      rw [z2]
      refine iteF ⟨_, rfl, PA, _, rfl, .inr (T.tP _), rfl, flat_strs _, _, rfl, ?_⟩
      rw [inV_str, decide_eq_true p1]
      exact iteF (last _ (Same.new nt))
    · have e2 : decide (V.str d = V.str "right") = false := decide_eq_false (fun z => e (by injection z))
      rw [e2]
      refine iteF ⟨_, rfl, PA, _, rfl, .inr (T.tP _), rfl, flat_strs _, _, rfl, ?_⟩
      rw [inV_str, decide_eq_true p1]
      exact iteF (last _ (Same.refl H))
theorem ok_lInit {f : Addr} {c : Rc} {fd : FuncData} (F : Fun K "__init__" "Let.__init__" sLInit f fd) (L : LetC K c) (cW : Cal P w K mg base CX0 "wrong_word" 1 ["kind", "state", "deed", "place"] spWord) : FnOk P w K mg base CX0 2 f fd ["self", "kind", "state", "deed", "place"] (spLInit c) := by
  obtain ⟨fW, fdW, GW, mW, kW, bW⟩ := cW
  refine F.ok scLInit (fun vs H Q E h => ?_) (fun cdv A outer s H vs Q E hr h => ?_)
  · obtain ⟨x, dx, k, s, d, p, rfl, _⟩ := h
    rfl
  · obtain ⟨x, dx, k, s, d, p, rfl, hx, ok, q⟩ := h
    refine ⟨_, pss_cons (ps_set (i := 5) scLInit.nd rfl (Or.inl rfl) (pe_call GW hr rfl mW kW bW .nil pass0 (pa_cons (pv 1) (pa_cons (pv 2) (pa_cons (pv 3) (pa_cons (pv 4) pa_nil))))))
      (pss_cons (ps_if (pt_cmpR op_notN (pv 5) pe_non (nomark _)) (pss_one ps_never) pss_nil)
      (pss_cons (ps_fld (pv 0) (pv 1) rfl)
      (pss_cons (ps_fld (pv 0) (pv 2) rfl)
      (pss_cons (ps_fld (pv 0) (pv 3) rfl)
      (pss_one (ps_fld (pv 0) (pv 4) rfl)))))), ?_⟩
    refine ⟨_, rfl, _, rfl, _, rfl, _, rfl, k, s, d, p, rfl, ok, fun H1 s1 => ?_⟩
    refine ⟨_, rfl, rfl, _, rfl, iteF ?_⟩
    have hx1 := s1 _ _ hx
    refine ⟨_, rfl, _, rfl, x, c.L, dx, _, rfl, hx1, L.cl, L.k, (by show 0 < 1000; decide), ?_⟩
    refine ⟨_, rfl, _, rfl, x, c.L, dx, _, rfl, upd_same, L.cl, L.s, (by show 1 < 1000; decide), ?_⟩
    rw [upd_upd]
    refine ⟨_, rfl, _, rfl, x, c.L, dx, _, rfl, upd_same, L.cl, L.d, (lt_put (n := 999) (lt_put (n := 998) (by show 0 < 998; decide))), ?_⟩
    rw [upd_upd]
    refine ⟨_, rfl, _, rfl, x, c.L, dx, _, rfl, upd_same, L.cl, L.p, (lt_put (n := 999) (lt_put (n := 998) (lt_put (n := 997) (by show 0 < 997; decide)))), ?_⟩
    rw [upd_upd, let_put]
    exact q _ (SameX.of s1).upd upd_same
theorem ok_lStr {f : Addr} {c : Rc} {fd : FuncData} (F : Fun K "__str__" "Let.__str__" sLStr f fd) (L : LetC K c) : FnOk P w K mg base CX0 1 f fd ["self"] (spRS c 0) := by
  refine F.ok scLStr (fun vs H Q E h => ?_) (fun cdv A outer s H vs Q E hr h => ?_)
  · obtain ⟨x, dx, m, rfl, _⟩ := h
    rfl
  · obtain ⟨x, dx, m, rfl, hx, hk, ok, q⟩ := h
    cases m with
    | ct k w o => cases hk
    | lt k s d p =>
      have l : ∀ z ∈ (Rw.lt k s d p).words, z.length ≤ 6 := fun z hz => (word_ok ok z hz).2
      simp only [Rw.words, List.mem_cons, List.not_mem_nil, or_false, forall_eq_or_imp, forall_eq] at l
      obtain ⟨l1, l2, l3, l4⟩ := l
      have l0 : (Str.empty).length = 0 := rfl
      have lb : (" " : Str).length = 1 := by decide +kernel
      refine ⟨_, (pss_one (ps_ret (pe_joined (.cons (pe_fmt (pe_fld (pv 0) rfl)) (.cons pe_str (.cons (pe_fmt (pe_fld (pv 0) rfl)) (.cons pe_str (.cons (pe_fmt (pe_fld (pv 0) rfl)) (.cons pe_str (.cons (pe_fmt (pe_fld (pv 0) rfl)) .nil)))))))))), ?_⟩
      refine ⟨_, rfl, x, c.L, dx, _, _, rfl, hx, L.cl, L.k, let_kind .., .inl ⟨k, rfl, small (by omega), _, rfl, small (by rw [app_len]; omega), ?_⟩⟩
      refine ⟨_, rfl, small (by simp only [app_len]; omega), ?_⟩
      refine ⟨_, rfl, x, c.L, dx, _, _, rfl, hx, L.cl, L.s, let_state .., .inl ⟨s, rfl, small (by omega), _, rfl, small (by simp only [app_len]; omega), ?_⟩⟩
      refine ⟨_, rfl, small (by simp only [app_len]; omega), ?_⟩
      refine ⟨_, rfl, x, c.L, dx, _, _, rfl, hx, L.cl, L.d, let_deed .., .inl ⟨d, rfl, small (by omega), _, rfl, small (by simp only [app_len]; omega), ?_⟩⟩
      refine ⟨_, rfl, small (by simp only [app_len]; omega), ?_⟩
      refine ⟨_, rfl, x, c.L, dx, _, _, rfl, hx, L.cl, L.p, let_place .., .inl ⟨p, rfl, small (by omega), _, rfl, small (by simp only [app_len]; omega), ?_⟩⟩
      rw [← let_text] at q
      exact q
end
end V3

set_option Elab.async false
set_option linter.all false
set_option maxRecDepth 100000
namespace V3
open PySem L2 TL
abbrev sRows : Stmt := top 51
section
variable {X : Cx} {e : Expr} {o : Expr} {to te : TE}
def rJoinK (K : PySem.W.Frag) : V → List V → Hp → VK → Prop := fun x xs H Q => ∃ a p, ∃ ys : List Str, x = .str a ∧ xs = [.ref p] ∧ (SqL K H p (ys.map V.str) ∨ SqT K H p (ys.map V.str)) ∧
  (ys.map (·.length)).sum + ys.length * a.length ≤ 16777216 ∧ Q (.str (Txt.join a ys)) H
/-- the same rules, K said -/
theorem pe_joinK {K : PySem.W.Frag} {apos pos : Pos} (ho : PE X o to) (he : PE X e te) (hK : X.K = K := by rfl) (hs : starEach [e] X.env = [(false, eval e X.env)] := by rfl) (hbase : attributeBase o "join" X.env (eval o X.env) = eval o X.env := by rfl) (hline : (apos.endLine == pos.line) = true := by rfl) :
    PE X (.Call (.Attribute o "join" apos) [e] [] pos) (tM1 (rJoinK K) to te) := by
  subst hK
  exact pe_join ho he hs hbase hline
theorem pe_ixT {K : PySem.W.Frag} {a b : Expr} {ta tb : TE} {pos : Pos} (ha : PE X a ta) (hb : PE X b tb) (hs : PlainIx b) (hK : X.K = K := by rfl) : PE X (.Subscript a b pos) (tOp (rIxT K) ta tb) := by
  subst hK
  exact pe_ix ix_tup ha hb hs
theorem pe_ixL {K : PySem.W.Frag} {a b : Expr} {ta tb : TE} {pos : Pos} (ha : PE X a ta) (hb : PE X b tb) (hs : PlainIx b) (hK : X.K = K := by rfl) : PE X (.Subscript a b pos) (tOp (rIxL K) ta tb) := by
  subst hK
  exact pe_ix ix_list ha hb hs
end
/-- a list of values that stand for those of another list -/
def Ls {α : Type} (R : V → α → Prop) (vs : List V) (ms : List α) : Prop := vs.length = ms.length ∧ ∀ (i : Nat) (m : α), ms[i]? = some m → ∃ v, vs[i]? = some v ∧ R v m
theorem Ls.nil {α : Type} {R : V → α → Prop} : Ls R [] [] := ⟨rfl, fun i m h => by simp at h⟩
theorem Ls.imp {α : Type} {R R' : V → α → Prop} {vs : List V} {ms : List α} (d : Ls R vs ms) (h : ∀ v m, R v m → R' v m) : Ls R' vs ms := ⟨d.1, fun i m e => by
  obtain ⟨v, e', r⟩ := d.2 i m e
  exact ⟨v, e', h _ _ r⟩⟩
theorem Ls.push {α : Type} {R : V → α → Prop} {vs : List V} {ms : List α} {v : V} {m : α} (d : Ls R vs ms) (t : R v m) : Ls R (vs ++ [v]) (ms ++ [m]) := by
  refine ⟨by simp [d.1], fun i n hn => ?_⟩
  rcases at_end hn with ⟨_, q⟩ | ⟨rfl, rfl⟩
  · obtain ⟨w, e, t'⟩ := d.2 i n q
    exact ⟨w, at_old e, t'⟩
  · exact ⟨v, at_new d.1, t⟩
theorem Ls.get {α : Type} {R : V → α → Prop} {vs : List V} {ms : List α} {v : V} {i : Nat} (d : Ls R vs ms) (h : vs[i]? = some v) : ∃ m, ms[i]? = some m ∧ R v m := by
  have l := (List.getElem?_eq_some_iff.mp h).1
  have e := List.getElem?_eq_getElem (l := ms) (i := i) (by rw [← d.1]; exact l)
  obtain ⟨w, q, t⟩ := d.2 i _ e
  rw [h] at q
  injection q with q
  subst q
  exact ⟨_, e, t⟩
theorem Ls.get2 {α : Type} {R : V → α → Prop} {vs : List V} {ms : List α} {v : V} {i : Nat} {m : α} (d : Ls R vs ms) (h : vs[i]? = some v) (hm : ms[i]? = some m) : R v m := by
  obtain ⟨w, q, t⟩ := d.2 i _ hm
  rw [h] at q
  injection q with q
  subst q
  exact t
/-- the tuple of a row -/
def Rw.tupV : Rw → List V
  | .lt k s d p => [.str k, .str s, .str d, .str p]
  | .ct k w o => [.str k, .int w, .str o]
def TpAt (H : Hp) (v : V) (m : Rw) : Prop := ∃ p, v = .ref p ∧ H p = some (.tup m.tupV)
theorem TpAt.keep {H H' : Hp} {v : V} {m : Rw} (h : TpAt H v m) (s : Keep H H') : TpAt H' v m := by
  obtain ⟨p, e, hp⟩ := h
  exact ⟨p, e, s _ _ (fun _ z => by cases z) hp⟩
theorem TpAt.same {H H' : Hp} {v : V} {m : Rw} (h : TpAt H v m) (s : Same H H') : TpAt H' v m := h.keep (Keep.of s)
/-- tuples of rows, each of them a row of a kind -/
def RowLs (kd : Nat) (H : Hp) (vs : List V) (ms : List Rw) : Prop := Ls (fun v m => TpAt H v m ∧ m.ok ∧ m.kind = kd) vs ms
theorem RowLs.keep {kd : Nat} {H H' : Hp} {vs : List V} {ms : List Rw} (d : RowLs kd H vs ms) (s : Keep H H') : RowLs kd H' vs ms := d.imp fun _ _ h => ⟨h.1.keep s, h.2⟩
def spRows : Sp := fun vs H Q _ => ∃ (b : Addr) (u v : Int) (n : Int), vs = [.ref b, .int n] ∧ H b = some (box u v) ∧ BoxOk u v ∧ 0 ≤ n ∧ n ≤ 100 ∧
  ∀ (D : Addr) (xs : List V) (ms : List Rw) (H' : Hp), Pre b H H' → H' D = some (.lst xs) → D ≠ b → (∀ c o, c ≠ b → H c = some o → c ≠ D) → RowLs 0 H' xs ms → (ms.length : Int) = n → Q (.ref D) H'
def spLetOf (c : Rc) : Sp := fun vs H Q _ => ∃ (v : V) (m : Rw), vs = [v] ∧ TpAt H v m ∧ m.ok ∧ m.kind = 0 ∧ ∀ (x : V) (H' : Hp), Same H H' → RwAt c H' x m → Q x H'
structure MkR (P : Program) (w : World) (K : PySem.W.Frag) (mg : Str → Option Value) (base : Heap) (name : Str) (ps : List Str) (C : Addr) (k : Nat) (spI : Sp) : Prop where
  g : mg name = some (.ref C)
  ini : ∃ (f : Addr) (fd : FuncData), FnOk P w K mg base CX0 k f fd ps spI ∧ Mk K C f ∧ Binds K fd ps []
structure BltG (mg : Str → Option Value) : Prop where
  range : mg "range" = none
  str : mg "str" = none
theorem mk_let {c : Rc} {x dx : Addr} {H : Hp} {k s d p : Str} {R : VK} {E : XK} (ok : (Rw.lt k s d p).ok) (nx : H x = none) (ndx : H dx = none) (q : ∀ H', Same H H' → RwAt c H' (.ref x) (.lt k s d p) → R .non H') :
    spLInit c [.ref x, .str k, .str s, .str d, .str p] (upd (upd H dx (.own x)) x (.ins c.L dx [])) R E :=
  ⟨x, dx, k, s, d, p, rfl, upd_same, ok, fun H' s' hx => q H' (fun a o e => s' a o (ne_of_none e nx) (made_same nx ndx a o e)) ⟨x, dx, rfl, hx⟩⟩
theorem oneOf_at {K : PySem.W.Frag} {b l : Addr} {u v : Int} {H : Hp} {xs : List V} {Q : VK} (hb : H b = some (box u v)) (ok : BoxOk u v) (ne : l ≠ b) (hl : H l = some (.lst xs)) (h1 : 1 ≤ xs.length) (h2 : xs.length ≤ 1000)
    (k : ∀ x H', x ∈ xs → Pre b H H' → Q x H') : spOneOf K [.ref b, .ref l] H Q E :=
  ⟨b, l, u, v, xs, rfl, hb, ok, ne, SqL.of hl, h1, h2, fun x _ _ hx ok' => k x _ hx (Pre.box ok')⟩
theorem oneOf_new {K : PySem.W.Frag} {b l : Addr} {u v : Int} {H : Hp} {xs : List V} {Q : VK} (hb : H b = some (box u v)) (ok : BoxOk u v) (nl : H l = none) (h1 : 1 ≤ xs.length) (h2 : xs.length ≤ 1000)
    (k : ∀ x H', x ∈ xs → Pre b H H' → Q x H') : spOneOf K [.ref b, .ref l] (upd H l (.lst xs)) Q E0 := by
  have nbl : b ≠ l := ne_of_none hb nl
  refine oneOf_at (by rw [upd_ne nbl]; exact hb) ok (Ne.symm nbl) upd_same h1 h2 fun x H' hx p => k x H' hx ⟨fun c o n e => p.1 c o n (by rw [upd_ne (ne_of_none e nl)]; exact e), p.2⟩
section
variable {P : Program} {w : World} {K : PySem.W.Frag} {mg : Str → Option Value} {base : Heap}
abbrev CalOne (P : Program) (w : World) (K : PySem.W.Frag) (mg : Str → Option Value) (base : Heap) : Prop := Cal P w K mg base CX0 "_law_one_of" 2 ["_law_box", "_law_some"] (spOneOf K)
theorem scRows : FnScope ["_law_box", "_law_many", "_law_found", "_law_turn", "_law_kind", "_law_deeds", "_law_state"] ["_law_box", "_law_many"] (defScope sRows) := ⟨rfl, rfl, rfl, by decide +kernel, rfl, by decide +kernel, by decide +kernel⟩
theorem ok_rows {f : Addr} {fd : FuncData} (F : Fun K "_law_rows" "_law_rows" sRows f fd) (T : BltG mg) (cO : CalOne P w K mg base) : FnOk P w K mg base CX0 3 f fd ["_law_box", "_law_many"] spRows := by
  obtain ⟨fO, fdO, GO, mO, kO, bO⟩ := cO
  refine F.ok scRows (fun vs H Q E h => ?_) (fun cdv A outer s H vs Q E hr h => ?_)
  · obtain ⟨b, u, v, n, rfl, _⟩ := h
    rfl
  · obtain ⟨b, u, v, n, rfl, hb, bk, n0, n1, k⟩ := h
    refine ⟨_, pss_cons (ps_set (i := 2) scRows.nd rfl (Or.inl rfl) (pe_lst pa_nil))
      (pss_cons (ps_for PassesOwn.never rfl (pi_range1 (by rfl) T.range (pa_cons (pv 1) pa_nil)) (pg_name (i := 3) scRows.nd rfl (Or.inl rfl))
      (pss_cons (ps_set (i := 4) scRows.nd rfl (Or.inl rfl) (pe_call GO hr rfl mO kO bO .nil pass0 (pa_cons (pv 0) (pa_cons (pe_lst (pa_cons pe_str (pa_cons pe_str (pa_cons pe_str (pa_cons pe_str (pa_cons pe_str (pa_cons pe_str pa_nil))))))) pa_nil))))
      (pss_cons (ps_set (i := 5) scRows.nd rfl (Or.inl rfl) (pe_ifExp (pt_cmpR op_in_seq (pv 4) (pe_tup (pa_cons pe_str (pa_cons pe_str pa_nil))) rfl) (pe_lst (pa_cons pe_str (pa_cons pe_str pa_nil))) (pe_lst (pa_cons pe_str (pa_cons pe_str (pa_cons pe_str pa_nil))))))
      (pss_cons (ps_set (i := 6) scRows.nd rfl (Or.inl rfl) (pe_call GO hr rfl mO kO bO .nil pass0 (pa_cons (pv 0) (pa_cons (pe_lst (pa_cons pe_str (pa_cons pe_str (pa_cons pe_str pa_nil)))) pa_nil))))
      (pss_one (ps_expr (pe_bm PySem.F.plainAttrs_list PySem.F.slot_list_append PySem.F.type_list_append mt_append (pv 2) (pa_cons (pe_tup (pa_cons (pv 4) (pa_cons (pv 6) (pa_cons (pe_call GO hr rfl mO kO bO .nil pass0 (pa_cons (pv 0) (pa_cons (pv 5) pa_nil))) (pa_cons (pe_call GO hr rfl mO kO bO .nil pass0 (pa_cons (pv 0) (pa_cons (pe_lst (pa_cons pe_str (pa_cons pe_str (pa_cons pe_str (pa_cons pe_str pa_nil))))) pa_nil))) pa_nil))))) pa_nil))))))))
      (pss_one (ps_ret (pv 2)))), ?_⟩
    refine ⟨(by show 0 ≤ sizeLine; decide), fun D nD => ?_⟩
    have nbD : b ≠ D := ne_of_none hb nD
    have nD0 : ∀ c o, c ≠ b → H c = some o → c ≠ D := fun c o _ e => ne_of_none e nD
    refine ⟨_, rfl, n, rfl, by omega, by omega, for_range (lo := 0) (n := n.toNat) (fun i σ H' => (∃ o3 o4 o5 o6 : Option V, σ = [some (.ref b), some (.int n), some (.ref D), o3, o4, o5, o6]) ∧ ∃ xs ms, Pre b H H' ∧ H' D = some (.lst xs) ∧ RowLs 0 H' xs ms ∧ ms.length = i) ?_ ?_ ?_⟩
    · exact ⟨⟨_, _, _, _, rfl⟩, [], [], ⟨SameX.of (Same.new nD), u, v, bk, by rw [upd_ne nbD]; exact hb⟩, upd_same, Ls.nil, rfl⟩
    · rintro i σ H0 hi ⟨⟨o3, o4, o5, o6, rfl⟩, xs, ms, p0, hD, rl, lm⟩
      obtain ⟨_, u0, v0, bk0, hb0⟩ := id p0
      refine ⟨_, rfl, (by show 6 ≤ sizeLine; decide), fun l1 n1 => oneOf_new hb0 bk0 n1 (by decide) (by decide) fun x1 H1 i1 p1 => ?_⟩
      have hx1 : ∃ k, x1 = .str k ∧ k ∈ kindL := by
        simp only [List.mem_cons, List.not_mem_nil, or_false] at i1
        rcases i1 with rfl | rfl | rfl | rfl | rfl | rfl <;> exact ⟨_, rfl, by decide +kernel⟩
      obtain ⟨kd, rfl, hk⟩ := hx1
      obtain ⟨_, u1, v1, bk1, hb1⟩ := id p1
      refine ⟨_, rfl, (by show 2 ≤ sizeLine; decide), fun t1 nt1 => ⟨t1, _, rfl, .inr (SqT.of upd_same), rfl, rfl, _, rfl, ?_⟩⟩
      have p2 : Pre b H1 (upd H1 t1 (.tup [.str "minus", .str "plus"])) := ⟨SameX.of (Same.new nt1), u1, v1, bk1, by rw [upd_ne (ne_of_none hb1 nt1)]; exact hb1⟩
      generalize upd H1 t1 (.tup [.str "minus", .str "plus"]) = H2 at p2
      obtain ⟨_, u2, v2, bk2, hb2⟩ := id p2
      have e0 : (if false = true then !inV (V.str kd) [.str "minus", .str "plus"] else inV (V.str kd) [.str "minus", .str "plus"]) = inV (V.str kd) [.str "minus", .str "plus"] := if_neg Bool.false_ne_true
      rw [e0]
      refine ite2 (fun c => ⟨(by show 2 ≤ sizeLine; decide), fun l2 n2 => ?wayA⟩) (fun c => ⟨(by show 3 ≤ sizeLine; decide), fun l2 n2 => ?wayB⟩)
      case' wayA =>
        have dl : ∀ z ∈ [V.str "whole", .str "part"], ∃ d, z = .str d ∧ d ∈ deedL ∧ (d = "right" → kd = "first" ∨ kd = "new") := by
          intro z hz
          simp only [List.mem_cons, List.not_mem_nil, or_false] at hz
          rcases hz with rfl | rfl
          · exact ⟨_, rfl, by decide +kernel, fun e => absurd e (by decide +kernel)⟩
          · exact ⟨_, rfl, by decide +kernel, fun e => absurd e (by decide +kernel)⟩
        have ll : 1 ≤ [V.str "whole", .str "part"].length ∧ [V.str "whole", .str "part"].length ≤ 1000 := by decide
        generalize [V.str "whole", .str "part"] = deeds at dl ll
      case' wayB =>
        have kf : kd = "first" ∨ kd = "new" := by
          have q : ∀ z ∈ kindL, inV (.str z) [.str "minus", .str "plus"] = false → z = "first" ∨ z = "new" := by decide +kernel
          exact q kd hk (Bool.eq_false_iff.mpr c)
        have dl : ∀ z ∈ [V.str "whole", .str "part", .str "right"], ∃ d, z = .str d ∧ d ∈ deedL ∧ (d = "right" → kd = "first" ∨ kd = "new") := by
          intro z hz
          simp only [List.mem_cons, List.not_mem_nil, or_false] at hz
          rcases hz with rfl | rfl | rfl <;> exact ⟨_, rfl, by decide +kernel, fun _ => kf⟩
        have ll : 1 ≤ [V.str "whole", .str "part", .str "right"].length ∧ [V.str "whole", .str "part", .str "right"].length ≤ 1000 := by decide
        generalize [V.str "whole", .str "part", .str "right"] = deeds at dl ll
      all_goals
        have p3 : Pre b H2 (upd H2 l2 (.lst deeds)) := ⟨SameX.of (Same.new n2), u2, v2, bk2, by rw [upd_ne (ne_of_none hb2 n2)]; exact hb2⟩
        have hl2 : upd H2 l2 (.lst deeds) l2 = some (.lst deeds) := upd_same
        have nlb : l2 ≠ b := Ne.symm (ne_of_none hb2 n2)
        have nlD : D ≠ l2 := ne_of_none ((p1.trans p2).1 D _ (Ne.symm nbD) hD) n2
        generalize upd H2 l2 (.lst deeds) = H3 at p3 hl2
        obtain ⟨_, u3, v3, bk3, hb3⟩ := id p3
        refine ⟨_, rfl, (by show 3 ≤ sizeLine; decide), fun l4 n4 => oneOf_new hb3 bk3 n4 (by decide) (by decide) fun x4 H4 i4 p4 => ?_⟩
        have hx4 : ∃ s, x4 = .str s ∧ s ∈ stateL := by
          simp only [List.mem_cons, List.not_mem_nil, or_false] at i4
          rcases i4 with rfl | rfl | rfl <;> exact ⟨_, rfl, by decide +kernel⟩
        obtain ⟨st, rfl, hs⟩ := hx4
        obtain ⟨_, u4, v4, bk4, hb4⟩ := id p4
        have pD4 : Pre b H0 H4 := ((p1.trans p2).trans p3).trans p4
        have hD4 := pD4.1 D _ (Ne.symm nbD) hD
        refine ⟨_, rfl, .inl ⟨rfl, _, SqL.of hD4⟩, _, rfl, _, rfl, _, rfl, _, rfl, ?_⟩
        dsimp only [tNil]
        refine oneOf_at hb4 bk4 nlb (p4.1 _ _ nlb hl2) ll.1 ll.2 fun x5 H5 i5 p5 => ?_
        obtain ⟨dd, rfl, hd, hdr⟩ := dl _ i5
        obtain ⟨_, u5, v5, bk5, hb5⟩ := id p5
        refine ⟨_, rfl, (by show 4 ≤ sizeLine; decide), fun l6 n6 => ?_⟩
        dsimp only [tNil]
        refine oneOf_new hb5 bk5 n6 (by decide) (by decide) fun x6 H6 i6 p6 => ?_
        have hx6 : ∃ s, x6 = .str s ∧ s ∈ placeL := by
          simp only [List.mem_cons, List.not_mem_nil, or_false] at i6
          rcases i6 with rfl | rfl | rfl | rfl <;> exact ⟨_, rfl, by decide +kernel⟩
        obtain ⟨pl, rfl, hp⟩ := hx6
        refine ⟨(by show 4 ≤ sizeLine; decide), fun t7 n7 => ?_⟩
        have p7 : Pre b H0 (upd H6 t7 (.tup [.str kd, .str st, .str dd, .str pl])) := ((pD4.trans p5).trans p6).then (Same.new n7)
        have t7a : TpAt (upd H6 t7 (.tup [.str kd, .str st, .str dd, .str pl])) (.ref t7) (.lt kd st dd pl) := ⟨t7, rfl, upd_same⟩
        generalize upd H6 t7 (.tup [.str kd, .str st, .str dd, .str pl]) = H7 at p7 t7a
        have hD7 := p7.1 D _ (Ne.symm nbD) hD
        have pA := p0.trans p7
        obtain ⟨sa, ua, va, bka, hba⟩ := id pA
        refine ⟨D, xs, _, rfl, rfl, hD7, small1000 (by rw [rl.1]; omega), ⟨_, _, _, _, rfl⟩, xs ++ [.ref t7], ms ++ [.lt kd st dd pl], ⟨fun c o n e => by rw [upd_ne (nD0 c o n e)]; exact sa c o n e, ua, va, bka, by rw [upd_ne nbD]; exact hba⟩, upd_same, ?_, by simp [lm]⟩
        exact RowLs.keep (kd := 0) (Ls.push (rl.keep (Keep.pre hb0 p7.1)) ⟨t7a, ⟨hk, hs, hd, hp, hdr⟩, rfl⟩) (Keep.lst hD7)
    · rintro σ H' ⟨⟨o3, o4, o5, o6, rfl⟩, xs, ms, p0, hD, rl, lm⟩
      exact ⟨_, rfl, k D xs ms H' p0 hD (Ne.symm nbD) nD0 rl (by rw [lm]; omega)⟩
end
end V3

set_option Elab.async false
set_option linter.all false
set_option maxRecDepth 100000
namespace V3
open PySem PySem.Spec PyProof.Rows L2
/-! enumerate over a tuple -/
set_option maxHeartbeats 1000000 in
theorem new_enumT (a : Addr) (its : Array Value) :
    Meets (Builtin.«enumerate.__new__» ⟨[.type "enumerate", .ref a], []⟩) (fun _ R s => s.heap.IsTuple a its ∧
      R (.ok (.ret (.ref (s.heap.push { cls := .type "tuple_iterator", data := .fields #[.ref a, .int 0 0] }).objs.size)))
        { s with heap := (s.heap.push { cls := .type "tuple_iterator", data := .fields #[.ref a, .int 0 0] }).push { cls := .type "enumerate", data := .fields #[.none, .bool false, .ref s.heap.objs.size, rawInt 0, .none, .none] } }) :=
  .of_wp fun prog w A R s h => by
    obtain ⟨hp, g, d, tk, os⟩ := s
    obtain ⟨h1, h⟩ := h
    have sb := sub_enumerate
    have q1 : ∀ {A' : Around} {E : Value → Shared → Prop} {Q : Value → Shared → Prop}, Q (.ref hp.objs.size) ⟨hp.push { cls := .type "tuple_iterator", data := .fields #[.ref a, .int 0 0] }, g, d, tk, os⟩ → wpAny (model prog w) A' (pyIter (.ref a)) Q E ⟨hp, g, d, tk, os⟩ :=
      fun q => (begins_tuple a its).iter prog w _ _ ⟨hp, g, d, tk, os⟩ _ h1 q
    wp_walk using q1
    refine wpAny_stack_any fun st => wpAny_pure ?_
    split
    · rename_i c _ _ _ _ _
      cases (c == Value.type "enumerate") <;> (wp_walk using q1; exact ⟨_, rfl, h⟩)
    · wp_walk using q1
      exact ⟨_, rfl, h⟩
theorem call_enumT {prog : Program} {w : World} {A : Around} {E : Value → Shared → Prop} {s : Shared} {a : Addr} {its : Array Value} {Q : Value → Shared → Prop} (ha : s.heap.IsTuple a its)
    (k : ∀ h', IsEnum h' (s.heap.objs.size + 1) s.heap.objs.size 0 .none → h'.IsTupleIter s.heap.objs.size a 0 → (∀ b o, s.heap.get? b = some o → h'.get? b = some o) → Q (.ref (s.heap.objs.size + 1)) { s with heap := h' }) :
    wpAny (model prog w) A (call (.type "enumerate") [.ref a]) Q E s := by
  refine callType_new F.called_enumerate (by decide) (F.typeCall_enumerate_1 _) (F.newCall_enumerate_1 _) (fun obj => F.args_object_init_2 obj _) F.entry_enumerate_new (new_enumT a its) ⟨ha, ?_⟩
  have sz : (s.heap.push { cls := .type "tuple_iterator", data := .fields #[.ref a, .int 0 0] }).objs.size = s.heap.objs.size + 1 := Heap.size_push ..
  show _ ∧ _
  rw [sz]
  have e1 : IsEnum ((s.heap.push { cls := .type "tuple_iterator", data := .fields #[.ref a, .int 0 0] }).push { cls := .type "enumerate", data := .fields #[.none, .bool false, .ref s.heap.objs.size, rawInt 0, .none, .none] }) (s.heap.objs.size + 1) s.heap.objs.size 0 .none := by
    have z := Heap.get?_push_size (s.heap.push { cls := .type "tuple_iterator", data := .fields #[.ref a, .int 0 0] }) (o := { cls := .type "enumerate", data := .fields #[.none, .bool false, .ref s.heap.objs.size, rawInt 0, .none, .none] }) rfl
    rw [sz] at z
    exact z
  exact ⟨⟨_, e1, rfl⟩, k _ e1 ⟨_, Heap.get?_push_of_some _ (Heap.get?_push_size _ rfl), rfl, rfl⟩ fun b o x => Heap.get?_push_of_some _ (Heap.get?_push_of_some _ x)⟩
/-- the tuple at a, each item in a new pair with its number -/
def Iet (K : PySem.W.Frag) (a : Addr) : It :=
  ⟨fun i H => ∃ xs x, SqT K H a xs ∧ xs[i]? = some x, fun i H v H' => ∃ T x, v = .ref T ∧ H T = none ∧ H' = upd H T (.tup [.int (i : Nat), x]) ∧ ∀ xs, SqT K H a xs → xs[i]? = some x, fun i H => ∃ xs, SqT K H a xs ∧ xs.length = i⟩
theorem turn_enumT {P : Program} {w : World} {K : PySem.W.Frag} {elts : List Expr} {kk : Nat} {tpos : Pos} (a e it : Addr) :
    Turn P w K (.Tuple elts kk tpos) (Iet K a) [e, it] e (fun i h => (∃ old, IsEnum h e it ((i : Nat) : Int) old) ∧ h.IsTupleIter it a i ∧ e ≠ it ∧ a ≠ it ∧ e ≠ a) where
  mem := by simp
  obj := fun i h st b hb => by
    obtain ⟨⟨old, g1⟩, ⟨o, ho, hc, hd⟩, _⟩ := st
    have z0 : b = e ∨ b = it := by simpa using hb
    rcases z0 with z | z
    · rw [z]
      exact ⟨_, g1, fun v q => nomatch q⟩
    · rw [z]
      exact ⟨o, ho, fun v q => by rw [hd] at q; cases q⟩
  keep := fun i h h' st k => let ⟨⟨old, g1⟩, g2, g3⟩ := st; ⟨⟨old, k e (by simp) _ g1⟩, g2.at fun o q => k it (by simp) o q, g3⟩
  item := by
    intro X hP hw hK hc i pins s σ H E I hf st hg
    subst hP hw hK
    obtain ⟨⟨old, g1⟩, g2, n1, n2, n3⟩ := st
    obtain ⟨xs, x, hq, hx⟩ := hg
    obtain ⟨its, rv, p, hz⟩ := I.tuple hq
    obtain ⟨u, hu, ru⟩ := rv.get hx
    have el : e < s.heap.objs.size := Heap.lt_size g1
    have il : it < s.heap.objs.size := by
      obtain ⟨_, q, _⟩ := g2
      exact Heap.lt_size q
    have lt : i < its.toArray.size := by
      have z := (List.getElem?_eq_some_iff.mp hu).1
      simpa using z
    refine wpAny_pyNext_enum_itemD (Draws.tuple (A := X.A.in1) (show X.A.in1.handled = none from I.ok.hd hc) it a n2 its.toArray) g1 ⟨g2, p⟩ lt n1 (by simp only [List.mem_cons, List.not_mem_nil, or_false, not_or]; exact ⟨n1, n3⟩) fun y h' tk hP ho st' hT hsz hk => ?_
    obtain rfl : y = u := by
      have z : its.toArray[i]? = some y := hP
      have z2 : its.toArray[i]? = some u := by simpa using hu
      rw [z2] at z
      exact (Option.some.inj z).symm
    refine ⟨_, rfl, wpAny_letOwnedTupleGo_enum (s := { s with heap := h', toks := tk + 1 }) ho fun h'' g1' sb => ?_⟩
    have T2 : h''.get? s.heap.objs.size = some { cls := .type "tuple", data := .seq #[.int i tk, y] } := (sb.2 _ (Nat.ne_of_gt el)).trans hT
    have new : ObjOk X.prog X.w (upd H s.heap.objs.size (.tup [.int (i : Nat), x])) h'' s.heap.objs.size (.tup [.int (i : Nat), x]) :=
      ⟨by show 2 ≤ sizeLine; decide, [.int i tk, y], .cons ⟨_, rfl⟩ (.cons ru .nil), ⟨_, T2, rfl, _, rfl⟩⟩
    have J : Inv X pins σ (upd H s.heap.objs.size (.tup [.int (i : Nat), x])) { s with heap := h'', toks := tk + 1 } :=
      I.turnedNew (ch := [e, it]) (fun b ob hb q => (sb.2 b (fun z => hb (by simp [z]))).trans (hk b ob (fun z => hb (by simp [z])) (fun z => hb (by simp [z])) q)) hf (Nat.le_refl _) new
    refine ⟨.ref s.heap.objs.size, _, J, rfl, ⟨_, x, rfl, I.hok.fresh (Nat.le_refl _), rfl, fun ys hy => by rw [I.tuple_inj hy hq]; exact hx⟩, ⟨⟨y, ?_⟩, st'.1.at fun o q => (sb.2 it (Ne.symm n1)).trans q, n1, n2, n3⟩, fun b hb => ?_⟩
    · have e1 : ((i + 1 : Nat) : Int) = (i : Int) + 1 := by omega
      rw [e1]
      exact g1'
    · have lb : b < s.heap.objs.size := by
        have z0 : b = e ∨ b = it := by simpa using hb
        rcases z0 with z | z
        · rw [z]
          exact el
        · rw [z]
          exact il
      rw [upd_ne (Nat.ne_of_lt lb)]
      exact (hf b hb).1
  done := by
    intro X hP hw hK hc i pins s σ H E I hf st hg
    subst hP hw hK
    obtain ⟨⟨old, g1⟩, g2, n1, n2, n3⟩ := st
    obtain ⟨xs, hq, hx⟩ := hg
    obtain ⟨its, rv, p, hz⟩ := I.tuple hq
    obtain ⟨f0, f1, f2, f3, f4, f5⟩ := hf it (by simp)
    have ei : i = its.toArray.size := by
      have z := rv.length
      simp only [List.size_toArray]
      omega
    exact wpAny_pyNext_enum_endD (Draws.tuple (A := X.A.in1) (show X.A.in1.handled = none from I.ok.hd hc) it a n2 its.toArray) g1 (by rw [← ei]; exact ⟨g2, p⟩) fun h' eb => ⟨rfl, I.turned (t' := s.toks) (fun b o hb q => eb b o hb q) f0 f1 f3 f4 f5⟩
  self := fun A i s Q E st h => let ⟨⟨_, g1⟩, _⟩ := st; wpAny_pyIter_enum g1 h
def iEnumT (K : PySem.W.Frag) (ta : TA) : TI := fun σ H R => ta σ H fun vs H1 => ∃ a xs, vs = [.ref a] ∧ SqT K H1 a xs ∧ R (Iet K a) H1
theorem pi_enumT {X : Cx} {e : Expr} {ta : TA} {p pos tpos : Pos} {elts : List Expr} {kk : Nat} (hg : Gl X "enumerate") (hm : X.mg "enumerate" = none) (ha : PA X [e] ta) (hs : starEach [e] X.env = [(false, eval e X.env)] := by rfl) :
    PI X (.Tuple elts kk tpos) (.Call (.Name "enumerate" p) [e] [] pos) (iEnumT X.K ta) := by
  refine ⟨fun pins s σ H R I h => ?_⟩
  refine Call_ (ld_blt I hg hm boot_enumerate (PyProof.Rows.callWith_type1 (thn (ha.run pos pins s σ H _ I h) fun us s1 ⟨vs, H1, I1, r1, a, xs, ex, hq, q⟩ => ?_) hs rfl))
  subst ex
  cases r1 with
  | cons r rr =>
    cases rr
    cases r
    obtain ⟨its, rv, p', hz⟩ := I1.tuple hq
    have al : a < s1.heap.objs.size := IsTup.lt p'
    refine call_enumT (its := its.toArray) p' fun h' he hit hk => wpAny_pyIter_enum he ?_
    have I2 : Inv X pins σ H1 { s1 with heap := h' } := I1.kept (t' := s1.toks) hk
    refine ⟨s1.heap.objs.size + 1, [s1.heap.objs.size + 1, s1.heap.objs.size], _, _, H1, rfl, I2, turn_enumT a (s1.heap.objs.size + 1) s1.heap.objs.size, ⟨⟨.none, he⟩, hit, Nat.succ_ne_self _, Nat.ne_of_lt al, Nat.ne_of_gt (Nat.lt_succ_of_lt al)⟩, fun b hb => ?_, q⟩
    have z0 : b = s1.heap.objs.size + 1 ∨ b = s1.heap.objs.size := by simpa using hb
    have le : s1.heap.objs.size ≤ b := by
      rcases z0 with z | z
      · rw [z]
        exact Nat.le_add_right _ _
      · rw [z]
        exact Nat.le_refl _
    exact I1.fpOk le (I1.hok.fresh le)
theorem walk_enumT {K : PySem.W.Frag} {a : Addr} {xs : List V} : Walk (Iet K a) xs.length (fun H => SqT K H a xs) (YPair (fun i => some (.int (i : Nat))) (fun i => xs[i]?)) := by
  refine ⟨fun i _ hi q => ⟨xs, xs[i], q, by simp [hi]⟩, fun _ q => ⟨xs, q, rfl⟩, fun i H v H' _ q y => ?_⟩
  obtain ⟨T, x, h1, h2, h3, h4⟩ := y
  exact ⟨T, .int (i : Nat), x, h1, h2, h3, rfl, h4 xs q⟩
end V3

set_option Elab.async false
set_option linter.all false
set_option maxRecDepth 100000
/-! readings that leave all as it was, from a heap on: what they answer, by classes of stable things -/
namespace V3
open PySem L2 TL
class St (R : V → Hp → Prop) : Prop where
  st : ∀ v H H', Same H H' → R v H → R v H'
/-- all but the lists may go on -/
class StL (R : V → Hp → Prop) : Prop where
  st : ∀ v H H', Keep H H' → R v H → R v H'
instance {R : V → Hp → Prop} [i : StL R] : St R := ⟨fun v H H' s h => i.st v H H' (Keep.of s) h⟩
theorem upL {R : V → Hp → Prop} [i : StL R] {v : V} {H H' : Hp} (s : Keep H H') (h : R v H) : R v H' := i.st _ _ _ s h
class StA (R : List V → Hp → Prop) : Prop where
  st : ∀ v H H', Same H H' → R v H → R v H'
theorem up {R : V → Hp → Prop} [i : St R] {v : V} {H H' : Hp} (s : Same H H') (h : R v H) : R v H' := i.st _ _ _ s h
theorem stv {R : V → Hp → Prop} [i : St R] : StV R := i.st
instance {i : Int} : StL (isIv i) := ⟨fun _ _ _ _ h => h⟩
instance {i : Str} : StL (isSv i) := ⟨fun _ _ _ _ h => h⟩
instance {i : Bool} : StL (isBv i) := ⟨fun _ _ _ _ h => h⟩
instance {u : V} : StL (isVv u) := ⟨fun _ _ _ _ h => h⟩
/-- a tracked list, a tracked tuple of such things -/
def isL {α : Type} (S : α → V → Hp → Prop) (as : List α) : V → Hp → Prop := fun v H => ∃ D us, v = .ref D ∧ H D = some (.lst us) ∧ Ls (fun u a => S a u H) us as
def isU {α : Type} (S : α → V → Hp → Prop) (as : List α) : V → Hp → Prop := fun v H => ∃ D us, v = .ref D ∧ H D = some (.tup us) ∧ Ls (fun u a => S a u H) us as
instance {α : Type} {S : α → V → Hp → Prop} {as : List α} [∀ a, St (S a)] : St (isL S as) := ⟨fun _ _ _ s ⟨D, us, e, h, l⟩ => ⟨D, us, e, s _ _ h, l.imp fun _ _ r => up s r⟩⟩
instance {α : Type} {S : α → V → Hp → Prop} {as : List α} [∀ a, St (S a)] : St (isU S as) := ⟨fun _ _ _ s ⟨D, us, e, h, l⟩ => ⟨D, us, e, s _ _ h, l.imp fun _ _ r => up s r⟩⟩
instance {α : Type} {S : α → V → Hp → Prop} {as : List α} [∀ a, StL (S a)] : StL (isU S as) := ⟨fun _ _ _ s ⟨D, us, e, h, l⟩ => ⟨D, us, e, s _ _ (fun _ z => by cases z) h, l.imp fun _ _ r => upL s r⟩⟩
theorem Ls.upL {α : Type} {S : α → V → Hp → Prop} [∀ a, StL (S a)] {us : List V} {as : List α} {H H' : Hp} (l : Ls (fun u a => S a u H) us as) (s : Keep H H') : Ls (fun u a => S a u H') us as := l.imp fun _ _ r => V3.upL s r
theorem Ls.up {α : Type} {S : α → V → Hp → Prop} [∀ a, St (S a)] {us : List V} {as : List α} {H H' : Hp} (l : Ls (fun u a => S a u H) us as) (s : Same H H') : Ls (fun u a => S a u H') us as := l.imp fun _ _ r => V3.up s r
abbrev isIs : List Int → V → Hp → Prop := isL isIv
abbrev isSs : List Str → V → Hp → Prop := isL isSv
abbrev isBs : List Bool → V → Hp → Prop := isL isBv
/-- arguments -/
def A0 : List V → Hp → Prop := fun vs _ => vs = []
def AC (R : V → Hp → Prop) (Rs : List V → Hp → Prop) : List V → Hp → Prop := fun vs H => ∃ v r, vs = v :: r ∧ R v H ∧ Rs r H
instance : StA A0 := ⟨fun _ _ _ _ h => h⟩
instance {R : V → Hp → Prop} {Rs : List V → Hp → Prop} [St R] [i : StA Rs] : StA (AC R Rs) := ⟨fun _ _ _ s ⟨v, r, e, h, t⟩ => ⟨v, r, e, up s h, i.st _ _ _ s t⟩⟩
def EvA (W : Hp → Prop) (σ : L2.St) (ta : TA) (Rs : List V → Hp → Prop) : Prop := ∀ H Q, W H → (∀ vs H', Same H H' → W H' → Rs vs H' → Q vs H') → ta σ H Q
section
variable {σ : L2.St} {ta tb te : TE} {ts : TA} {t u : TT} {H0 : Hp} {R Ra Rb : V → Hp → Prop} {Rs : List V → Hp → Prop}
theorem ev_v [St R] {i : Nat} {v : V} (e : σ[i]? = some (some v)) (h : R v H0) : EvV (Same H0) σ (tVar i) R := ev_var e fun _ s => up s h
theorem eva_nil : EvA (Same H0) σ tNil A0 := fun H Q w k => k [] H (Same.refl H) w rfl
theorem eva_cons [St Ra] (ha : EvV (Same H0) σ ta Ra) (hs : EvA (Same H0) σ ts Rs) : EvA (Same H0) σ (tCons ta ts) (AC Ra Rs) := fun H Q w k =>
  ha H _ w fun x H1 s1 w1 r => hs H1 _ w1 fun xs H2 s2 w2 rs => k (x :: xs) H2 (s1.trans s2) w2 ⟨x, xs, rfl, up s2 r, rs⟩
theorem ev_call {sp : Sp} {dvs : List V} {E : XK} (ha : EvA (Same H0) σ ts Rs) (h : ∀ vs H Q, Same H0 H → Rs vs H → (∀ v H', Same H H' → R v H' → Q v H') → sp (vs ++ dvs) H Q E) : EvV (Same H0) σ (tCall sp dvs E ts) R := fun H Q w k =>
  ha H _ w fun vs H1 s1 w1 r => h vs H1 Q w1 r fun v H' s r' => k v H' (s1.trans s) (w1.trans s) r'
theorem ev_cb {r : List V → Hp → VK → Prop} (ha : EvA (Same H0) σ ts Rs) (h : ∀ vs H Q, Same H0 H → Rs vs H → (∀ v H', Same H H' → R v H' → Q v H') → r vs H Q) : EvV (Same H0) σ (tCB r ts) R := fun H Q w k =>
  ha H _ w fun vs H1 s1 w1 r => h vs H1 Q w1 r fun v H' s r' => k v H' (s1.trans s) (w1.trans s) r'
theorem ev_o {r : R2} [St Ra] (ha : EvV (Same H0) σ ta Ra) (hb : EvV (Same H0) σ tb Rb) (h : ∀ x y H Q, Same H0 H → Ra x H → Rb y H → (∀ v H', Same H H' → R v H' → Q v H') → r x y H Q) : EvV (Same H0) σ (tOp r ta tb) R :=
  ev_op stv ha hb fun x y H Q w a b k => h x y H Q w a b fun v H' s r => k v H' s (w.trans s) r
theorem ev_make {C : Addr} {sp : Sp} {dvs : List V} {E : XK} (ha : EvA (Same H0) σ ts Rs) (h : ∀ vs H x dx (Q : VK), Same H0 H → Rs vs H → H x = none → H dx = none → dx ≠ x → (∀ H', Same H H' → R (.ref x) H' → Q .non H') →
    sp (.ref x :: (vs ++ dvs)) (upd (upd H dx (.own x)) x (.ins C dx [])) Q E) : EvV (Same H0) σ (tMake C sp dvs E ts) R := fun H Q w k =>
  ha H _ w fun vs H1 s1 w1 r x dx nx ndx ne => h vs H1 x dx _ w1 r nx ndx ne fun H' s r' => ⟨rfl, k _ H' (s1.trans s) (w1.trans s) r'⟩
theorem ev_meth {C : Addr} {m : Str} {sp : Sp} {dvs : List V} {E : XK} [St Ra] (hx : EvV (Same H0) σ ta Ra) (ho : ∀ x H, Ra x H → ∃ a dx fs, x = .ref a ∧ H a = some (.ins C dx fs) ∧ fs.lookup m = none) (ha : EvA (Same H0) σ ts Rs)
    (h : ∀ x vs H Q, Same H0 H → Ra x H → Rs vs H → (∀ v H', Same H H' → R v H' → Q v H') → sp (x :: (vs ++ dvs)) H Q E) : EvV (Same H0) σ (tMeth C m sp dvs E ta ts) R := fun H Q w k =>
  hx H _ w fun x H1 s1 w1 rx => by
    obtain ⟨a, dx, fs, e, hh, l⟩ := ho x H1 rx
    exact ⟨a, dx, fs, e, hh, l, ha H1 _ w1 fun vs H2 s2 w2 r => h x vs H2 Q w2 (up s2 rx) r fun v H' s r' => k v H' ((s1.trans s2).trans s) (w2.trans s) r'⟩
theorem ev_fld {K : PySem.W.Frag} {f : Str} (ha : EvV (Same H0) σ ta Ra) (h : ∀ x H, Same H0 H → Ra x H → ∃ a C dx fs v, x = .ref a ∧ H a = some (.ins C dx fs) ∧ Cls K C ∧ NoAttr K C f ∧ fs.lookup f = some v ∧ R v H) : EvV (Same H0) σ (tFld K ta f) R := fun H Q w k =>
  ha H _ w fun x H1 s1 w1 rx => by
    obtain ⟨a, C, dx, fs, v, e, hh, c, n, l, r⟩ := h x H1 w1 rx
    exact ⟨a, C, dx, fs, v, e, hh, c, n, l, k v H1 s1 w1 r⟩
theorem ev_tup [i : StA Rs] (ha : EvA (Same H0) σ ts Rs) (n : ∀ vs H, Rs vs H → vs.length ≤ 1000) : EvV (Same H0) σ (tTup ts) (fun v H => ∃ p xs, v = .ref p ∧ H p = some (.tup xs) ∧ Rs xs H) := fun H Q w k =>
  ha H _ w fun vs H1 s1 w1 r => ⟨Nat.le_trans (n _ _ r) (by decide), fun p np => by
    have s2 : Same H1 (upd H1 p (.tup vs)) := Same.new np
    exact k _ _ (s1.trans s2) (w1.trans s2) ⟨p, vs, rfl, upd_same, i.st _ _ _ s2 r⟩⟩
/-- the arguments of a display, all of a sort -/
def EvL {α : Type} (H0 : Hp) (σ : L2.St) (ts : TA) (S : α → V → Hp → Prop) (as : List α) : Prop := EvA (Same H0) σ ts (fun vs H => Ls (fun u a => S a u H) vs as)
theorem Ls.cons {α : Type} {R : V → α → Prop} {vs : List V} {ms : List α} {v : V} {m : α} (t : R v m) (d : Ls R vs ms) : Ls R (v :: vs) (m :: ms) := by
  refine ⟨by simp [d.1], fun i n hn => ?_⟩
  cases i with
  | zero =>
    have e : m = n := by simpa using hn
    subst e
    exact ⟨v, rfl, t⟩
  | succ i =>
    obtain ⟨w, e, r⟩ := d.2 i n (by simpa using hn)
    exact ⟨w, by simpa using e, r⟩
theorem evl_nil {α : Type} {S : α → V → Hp → Prop} : EvL H0 σ tNil S [] := fun H Q w k => k [] H (Same.refl H) w Ls.nil
theorem evl_cons {α : Type} {S : α → V → Hp → Prop} [∀ a, St (S a)] {a : α} {as : List α} (ha : EvV (Same H0) σ ta (S a)) (hs : EvL H0 σ ts S as) : EvL H0 σ (tCons ta ts) S (a :: as) := fun H Q w k =>
  ha H _ w fun x H1 s1 w1 r => hs H1 _ w1 fun xs H2 s2 w2 rs => k (x :: xs) H2 (s1.trans s2) w2 (Ls.cons (up s2 r) rs)
theorem ev_lst {α : Type} {S : α → V → Hp → Prop} [∀ a, St (S a)] {as : List α} (h : EvL H0 σ ts S as) (n : as.length ≤ 1000) : EvV (Same H0) σ (tLst ts) (isL S as) := fun H Q w k =>
  h H _ w fun vs H1 s1 w1 r => ⟨Nat.le_trans (by rw [r.1]; exact n) (by decide), fun p np => by
    have s2 : Same H1 (upd H1 p (.lst vs)) := Same.new np
    exact k _ _ (s1.trans s2) (w1.trans s2) ⟨p, vs, rfl, upd_same, Ls.up r s2⟩⟩
theorem ev_tupU {α : Type} {S : α → V → Hp → Prop} [∀ a, St (S a)] {as : List α} (h : EvL H0 σ ts S as) (n : as.length ≤ 1000) : EvV (Same H0) σ (tTup ts) (isU S as) := fun H Q w k =>
  h H _ w fun vs H1 s1 w1 r => ⟨Nat.le_trans (by rw [r.1]; exact n) (by decide), fun p np => by
    have s2 : Same H1 (upd H1 p (.tup vs)) := Same.new np
    exact k _ _ (s1.trans s2) (w1.trans s2) ⟨p, vs, rfl, upd_same, Ls.up r s2⟩⟩
/-- tests -/
theorem ev_orB {p q : Bool} (h : EvB (Same H0) σ t p) (h2 : p = false → EvB (Same H0) σ u q) : EvB (Same H0) σ (tOr t u) (p || q) := fun H Q w k =>
  h H _ w fun H1 s1 w1 => by
    cases p with
    | true => exact iteT (k H1 s1 w1)
    | false => exact iteF (h2 rfl H1 _ w1 fun H2 s2 w2 => k H2 (s1.trans s2) w2)
theorem ev_andB {p q : Bool} (h : EvB (Same H0) σ t p) (h2 : p = true → EvB (Same H0) σ u q) : EvB (Same H0) σ (tAnd t u) (p && q) := fun H Q w k =>
  h H _ w fun H1 s1 w1 => by
    cases p with
    | false => exact iteF (k H1 s1 w1)
    | true => exact iteT (h2 rfl H1 _ w1 fun H2 s2 w2 => k H2 (s1.trans s2) w2)
theorem ev_notB {p : Bool} (h : EvB (Same H0) σ t p) : EvB (Same H0) σ (tNot t) (!p) := fun H Q w k => h H _ w k
theorem ev_valB {p : Bool} (h : EvV (Same H0) σ te (isBv p)) : EvB (Same H0) σ (tB te) p := fun H Q w k => h H _ w fun v H' s w' e => ⟨p, e, k H' s w'⟩
theorem ev_if {b : Bool} (c : EvB (Same H0) σ t b) (h1 : b = true → EvV (Same H0) σ ta R) (h2 : b = false → EvV (Same H0) σ tb R) : EvV (Same H0) σ (tIf t ta tb) R := fun H Q w k =>
  c H _ w fun H1 s1 w1 => by
    cases b with
    | true => exact iteT (h1 rfl H1 _ w1 fun v H2 s2 w2 r => k v H2 (s1.trans s2) w2 r)
    | false => exact iteF (h2 rfl H1 _ w1 fun v H2 s2 w2 r => k v H2 (s1.trans s2) w2 r)
/-- an if whose test is known -/
theorem if_f {c : TT} {t u : TS} {D : Ends} {H : Hp} (w : Same H0 H) (h : EvB (Same H0) σ c false) (k : ∀ H', Same H H' → u D σ H') : tIfS c t u D σ H := h H _ w fun H' s _ => iteF (k H' s)
theorem if_t {c : TT} {t u : TS} {D : Ends} {H : Hp} (w : Same H0 H) (h : EvB (Same H0) σ c true) (k : ∀ H', Same H H' → t D σ H') : tIfS c t u D σ H := h H _ w fun H' s _ => iteT (k H' s)
/-- what is walked: item by item something that stands for those of a list -/
def EvI {α : Type} (H0 : Hp) (σ : L2.St) (wi : TI) (as : List α) (S : α → V → Hp → Prop) : Prop := ∀ H (Rk : It → Hp → Prop), Same H0 H → (∀ J H1, Same H H1 → (∃ (G : Hp → Prop) (Y : Nat → Hp → V → Hp → Prop), Walk J as.length G Y ∧ (∀ H2, Same H1 H2 → G H2) ∧
  ∀ i H2 x H3, i < as.length → Same H1 H2 → Y i H2 x H3 → Same H2 H3 ∧ ∃ a, as[i]? = some a ∧ S a x H3) → Rk J H1) → wi σ H Rk
theorem evi_list {K : PySem.W.Frag} {α : Type} {S : α → V → Hp → Prop} [∀ a, St (S a)] {as : List α} (h : EvV (Same H0) σ te (isL S as)) : EvI H0 σ (iList K te) as S := fun H Rk w k =>
  h H _ w fun v H1 s1 w1 ⟨D, us, e, hD, l⟩ => ⟨D, e, ⟨us, SqL.of hD⟩, k (Itl K D) H1 s1 ⟨_, _, l.1 ▸ walk_list (K := K) (a := D) (xs := us), fun H2 s => SqL.of (s _ _ hD), fun i H2 x H3 hi s y => by
    obtain ⟨rfl, hx⟩ := y
    obtain ⟨a, ea, r⟩ := Ls.get l hx
    exact ⟨Same.refl _, a, ea, up s r⟩⟩⟩
theorem evi_tup {K : PySem.W.Frag} {α : Type} {S : α → V → Hp → Prop} [∀ a, St (S a)] {as : List α} (h : EvV (Same H0) σ te (fun v H => ∃ D us, v = .ref D ∧ (∀ H', Same H H' → SqT K H' D us) ∧ Ls (fun u a => S a u H) us as)) : EvI H0 σ (iTup K te) as S := fun H Rk w k =>
  h H _ w fun v H1 s1 w1 ⟨D, us, e, hD, l⟩ => ⟨D, e, ⟨us, hD _ (Same.refl _)⟩, k (Itt K D) H1 s1 ⟨_, _, l.1 ▸ walk_tup (K := K) (a := D) (xs := us), fun H2 s => hD _ s, fun i H2 x H3 hi s y => by
    obtain ⟨rfl, hx⟩ := y
    obtain ⟨a, ea, r⟩ := Ls.get l hx
    exact ⟨Same.refl _, a, ea, up s r⟩⟩⟩
/-- the whole numbers from lo on, so many -/
def rgI (lo : Int) (n : Nat) : List Int := (List.range n).map fun i => lo + (i : Nat)
theorem rgI_len {lo : Int} {n : Nat} : (rgI lo n).length = n := by simp [rgI]
theorem rgI_at {lo : Int} {n i : Nat} (h : i < n) : (rgI lo n)[i]? = some (lo + (i : Nat)) := by simp [rgI, h]
theorem evi_rng1 {n : Int} (n0 : 0 ≤ n) (h : EvV (Same H0) σ te (isIv n)) (n1 : n < 2 ^ 62) : EvI H0 σ (iRng1 (tCons te tNil)) (rgI 0 n.toNat) isIv := fun H Rk w k =>
  h H _ w fun v H1 s1 w1 e => by
    cases e
    refine ⟨n, rfl, by omega, n1, k _ H1 s1 ⟨_, _, by rw [rgI_len]; exact walk_range (lo := 0) (n := n.toNat), fun _ _ => trivial, fun i H2 x H3 hi s y => ?_⟩⟩
    obtain ⟨rfl, rfl⟩ := y
    rw [rgI_len] at hi
    exact ⟨Same.refl _, _, rgI_at hi, rfl⟩
/-- a new list of such things -/
def EvNL {α : Type} (H0 : Hp) (σ : L2.St) (te : TE) (S : α → V → Hp → Prop) (as : List α) : Prop := ∀ H Q, Same H0 H → (∀ D us H', H D = none → Same H H' → H' D = some (.lst us) → Ls (fun u a => S a u H') us as → Q (.ref D) H') → te σ H Q
theorem EvNL.ev {α : Type} {S : α → V → Hp → Prop} {as : List α} (h : EvNL H0 σ te S as) : EvV (Same H0) σ te (isL S as) := fun H Q w k => h H Q w fun D us H' _ s hD l => k _ H' s (w.trans s) ⟨D, us, rfl, hD, l⟩
theorem evn_lst {α : Type} {S : α → V → Hp → Prop} [∀ a, St (S a)] {as : List α} (h : EvL H0 σ ts S as) (n : as.length ≤ 1000) : EvNL H0 σ (tLst ts) S as := fun H Q w k =>
  h H _ w fun vs H1 s1 w1 r => ⟨Nat.le_trans (by rw [r.1]; exact n) (by decide), fun p np => by
    have s2 : Same H1 (upd H1 p (.lst vs)) := Same.new np
    exact k p vs _ (s1.free np) (s1.trans s2) upd_same (Ls.up r s2)⟩
/-- a list comprehension -/
theorem evn_lc {α β : Type} {wi : TI} {g : TG} {tt : TT} {vs : List Nat} {as : List α} {S : α → V → Hp → Prop} {S' : β → V → Hp → Prop} [∀ b, StL (S' b)] (p : α → Bool) (f : α → β) (hi : EvI H0 σ wi as S) (hn : as.length ≤ 1000)
    (hb : ∀ a ∈ as, ∀ x H, Same H0 H → S a x H → ∀ K2 : L2.St → Hp → Prop, (∀ σ2 H2, Same H H2 → wipe σ2 vs = wipe σ vs → EvB (Same H2) σ2 tt (p a) → (p a = true → EvV (Same H2) σ2 te (S' (f a))) → K2 σ2 H2) → g x (wipe σ vs) H K2) :
    EvNL H0 σ (tLc wi g tt te vs) S' ((as.filter p).map f) := fun H Q w k => by
  refine hi H _ w fun J H1 s1 ⟨G, Y, wk, hG, hY⟩ D nD => ?_
  refine lc_it wk (fun i Hh => Same H1 Hh ∧ ∃ acc, Hh D = some (.lst acc) ∧ Ls (fun u b => S' b u Hh) acc (((as.take i).filter p).map f)) ⟨Same.new nD, [], upd_same, Ls.nil⟩ (fun i Hh _ z => hG _ z.1) ?_ ?_
  · rintro i x Hh H' hi ⟨s2, acc, hD, ra⟩ y
    obtain ⟨s3, a, ea, rx⟩ := hY i Hh x H' hi s2 y
    have tk : as.take (i + 1) = as.take i ++ [a] := by
      rw [List.take_succ, ea]
      rfl
    have la : acc.length ≤ 1000 := by
      rw [ra.1, List.length_map]
      have z := List.length_filter_le p (as.take i)
      rw [List.length_take] at z
      omega
    refine hb a (List.mem_of_getElem? ea) x H' (w.trans (s1.trans (s2.trans s3))) rx _ fun σ2 H2 s4 ew et ee => ⟨ew, et H2 _ (Same.refl _) fun H3 s5 _ => ?_⟩
    have S5 := (s3.trans s4).trans s5
    cases e : p a with
    | false =>
      refine iteF ⟨s2.trans S5, acc, S5 _ _ hD, ?_⟩
      rw [tk, List.filter_append, List.map_append, List.filter_cons_of_neg (by rw [e]; exact Bool.false_ne_true), List.filter_nil, List.map_nil, List.append_nil]
      exact ra.up S5
    | true =>
      refine iteT (ee e H3 _ s5 fun v H4 s6 _ r => ?_)
      have S6 := S5.trans s6
      have hD4 := S6 _ _ hD
      have nD1 : H1 D = none := nD
      refine ⟨acc, hD4, Nat.lt_of_le_of_lt la (by decide), fun c o h => ?_, acc ++ [v], upd_same, ?_⟩
      · rw [upd_ne (ne_of_none h nD1)]
        exact (s2.trans S6) _ _ h
      · rw [tk, List.filter_append, List.map_append, List.filter_cons_of_pos e, List.filter_nil, List.map_cons, List.map_nil]
        exact Ls.push ((ra.up S6).upL (Keep.lst hD4)) (upL (Keep.lst hD4) r)
  · rintro Hh ⟨s2, acc, hD, ra⟩
    rw [List.take_length] at ra
    exact k D acc Hh (s1.free nD) (s1.trans s2) hD ra
theorem ev_lc {α β : Type} {wi : TI} {g : TG} {tt : TT} {vs : List Nat} {as : List α} {S : α → V → Hp → Prop} {S' : β → V → Hp → Prop} [∀ b, StL (S' b)] (p : α → Bool) (f : α → β) (hi : EvI H0 σ wi as S) (hn : as.length ≤ 1000)
    (hb : ∀ a ∈ as, ∀ x H, Same H0 H → S a x H → ∀ K2 : L2.St → Hp → Prop, (∀ σ2 H2, Same H H2 → wipe σ2 vs = wipe σ vs → EvB (Same H2) σ2 tt (p a) → (p a = true → EvV (Same H2) σ2 te (S' (f a))) → K2 σ2 H2) → g x (wipe σ vs) H K2) :
    EvV (Same H0) σ (tLc wi g tt te vs) (isL S' ((as.filter p).map f)) := (evn_lc p f hi hn hb).ev
end
end V3

set_option Elab.async false
set_option linter.all false
set_option maxRecDepth 100000
/-! any values among good ones -/
namespace V3
open PySem PySem.Spec PyProof.Rows L2 TL
/-- a flat value -/
abbrev isFv (x : Fv) : V → Hp → Prop := fun v _ => v = x.v
instance {x : Fv} : StL (isFv x) := ⟨fun _ _ _ _ h => h⟩
/-- nested data -/
abbrev AdA (N : Addr → Prop) (d : PyData) : V → Hp → Prop := fun v H => Ad N H v d
instance {N : Addr → Prop} {d : PyData} : St (AdA N d) := ⟨fun v H H' s h => Ad.mv (fun _ z => z) (fun a o _ e _ => s a o e) d v h⟩
def spMostly : Sp := fun vs H Q _ => ∃ (b l : Addr) (u v : Int) (L : List Fv), vs = [.ref b, .ref l] ∧ H b = some (box u v) ∧ BoxOk u v ∧ l ≠ b ∧ H l = some (.lst (L.map Fv.v)) ∧ 1 ≤ L.length ∧ L.length ≤ 1000 ∧ (∀ x ∈ L, x ∈ flats) ∧
  ∀ (y : V) (d : PyData) (H' : Hp), Pre b H H' → Ad (NewIn H) H' y d → Sm 3 d → Q y H'
section
variable {P : Program} {w : World} {K : PySem.W.Frag} {mg : Str → Option Value} {base : Heap}
theorem scMostly : FnScope ["_law_box", "_law_some"] ["_law_box", "_law_some"] (defScope sMostly) := ⟨rfl, rfl, rfl, by decide +kernel, rfl, by decide +kernel, by decide +kernel⟩
end
end V3

set_option Elab.async false
set_option linter.all false
set_option maxRecDepth 100000
namespace V3
open PySem PySem.Spec PyProof.Rows L2
/-! own exception classes over IndexError whose init is a def -/
abbrev ieTail : List Value := [.type "IndexError", .type "LookupError", .type "Exception", .type "BaseException", .type "object"]
/-- own classes, and then IndexError's line -/
def lineI : List Value → Bool
  | .ref _ :: r => lineI r
  | l => l == ieTail
theorem lineI_or (l : List Value) (e : lineI l = true) : (∃ c r, l = .ref c :: r ∧ lineI r = true) ∨ l = ieTail := by
  cases l with
  | nil => exact .inr (beq_iff_eq.mp e)
  | cons v r => cases v with
    | ref c => exact .inl ⟨c, r, rfl, e⟩
    | _ => exact .inr (beq_iff_eq.mp e)
theorem lineI_pass (me : Value) : ∀ l : List Value, lineI l = true → refuseLoop me "__setattr__" l = pure ()
  | [], e => absurd e (by decide)
  | v :: r, e => by
    rcases lineI_or (v :: r) e with ⟨c, r', q, h⟩ | q
    · obtain ⟨rfl, rfl⟩ := List.cons.inj q
      rw [refuseLoop_ref]
      exact lineI_pass me r h
    · rw [q]
      exact PySem.F.store_IndexError.passes me
theorem lineI_has (Y : String) : ∀ l : List Value, lineI l = true → l.contains (.type Y) = ieTail.contains (.type Y)
  | [], e => absurd e (by decide)
  | v :: r, e => by
    rcases lineI_or (v :: r) e with ⟨c, r', q, h⟩ | q
    · obtain ⟨rfl, rfl⟩ := List.cons.inj q
      rw [List.contains_cons, lineI_has Y r h]
      rfl
    · rw [q]
theorem lineI_ne {l : List Value} (e : lineI l = true) : l.isEmpty = false := by
  cases l with
  | nil => exact absurd e (by decide)
  | cons _ _ => rfl
section
open Builtin Builtin.ObjectAttr PySem.W PySem.Calls PySem.HandSPX
variable {prog : Program} {w : World} {A : Around} {E : Value → Shared → Prop} {R : Result → Shared → Prop} {hp : Heap} {g : Array GenState} {d : Drawn} {t : Nat} {os : OsState}
/-- a first field of an instance without a dict, by object's own way -/
theorem osaI {K : W.Frag} {n : Str} {tk : Tok} {v : Value} {x C : Addr} {fv : Array Value} {cd : ClassData} (Y : K.In hp) (gx : hp.get? x = some { cls := .ref C, data := .fields fv }) (gc : W.clsIn K C = some cd) (gm : lineI cd.mro = true) (gh : cd.hasDict = true) (ga : W.findIn K (.ref C) n = some none)
    (q : ∀ h' tk' dx, (∀ b o, b ≠ x → hp.get? b = some o → h'.get? b = some o) → hp.objs.size ≤ dx → dx ≠ x → h'.get? x = some { cls := .ref C, dict := some dx, data := .fields fv } → h'.Ns1 dx (fun y => if y = n then some v else none) → R (.ok (.ret .none)) ⟨h', g, d, tk', os⟩) :
    codeAny (model prog w) A (.call (.builtin "object.__setattr__") ⟨[.ref x, .str n tk, v], []⟩) R ⟨hp, g, d, t, os⟩ := by
  have J : W.InstAt hp x { cls := .ref C, data := .fields fv } C none := ⟨gx, rfl, rfl, trivial⟩
  have S := F.store_object
  have nem := lineI_ne gm
  have hasO : cd.mro.contains (.type "object") = true := (lineI_has "object" _ gm).trans (by decide +kernel)
  have xs : x ≠ hp.objs.size := Nat.ne_of_lt (Heap.lt_size gx)
  have sb : W.Looks (model prog w) hp (isInstance (.ref x) (.type "object")) true := J.type.andThen (W.looks_mroIn Y (by unfold W.mroIn; rw [gc, Option.bind_some, if_neg (by rw [nem]; decide), hasO]))
  refine codeAny_call_builtin S.slot.plain S.entry (@W.check_slot (model prog w) _ _ ⟨hp, g, d, t, os⟩ "object.__setattr__" "object" "__setattr__" (.ref x) [.str n tk, v] [] _ S.kind S.split sb (S.args (.ref x) (.str n tk) v) ?_)
  have lm : W.Looks (model prog w) hp (mroOf (.ref C)) cd.mro := (W.looks_clsIn Y gc).andThen .now
  have l3 : W.Looks (model prog w) hp (storeTaker? none) none := .now
  have lc : W.Looks (model prog w) hp (classData C) cd := W.looks_clsIn Y gc
  rw [W.osa_eq, refuse_eq]
  refine wpAny_bind (wpAny_bind (J.type.at (wpAny_bind (lm.at ?_))))
  rw [lineI_pass _ _ gm]
  refine wpAny_pure (wpAny_bind (J.type.at (wpAny_bind ((W.looks_findIn Y ga).at (wpAny_bind (l3.at ?_))))))
  show wpAny _ _ (storeInOwnDict (.ref x) (.ref C) (.str n tk) n v false) _ _ _
  obtain ⟨nm, bs, mro, ns, qn, hd, sn, sb', ab, col, del⟩ := cd
  dsimp only at gh
  subst gh
  unfold storeInOwnDict ownDictForStores
  repeat (first | with_reducible refine store_in_new ?_ ?_ | with_reducible refine wpAny_loadPart_at gx ?_ | with_reducible refine lc.at ?_ | wp_step)
  · exact ⟨_, #[], _, (Heap.get?_update_ne _ _ _ _ xs.symm).trans (Heap.get?_push_at rfl rfl), rfl, fun e he => absurd he (by simp), fun _ => rfl⟩
  · intro h' tk' hn' hs
    have gx1 : (hp.push { cls := .type "dict", data := .dict #[] }).get? x = some { cls := .ref C, data := .fields fv } := Heap.get?_push_of_some _ gx
    refine q h' tk' hp.objs.size (fun b o hb ho => ?_) (Nat.le_refl _) xs.symm ?_ hn'
    · exact (hs.2 b (Nat.ne_of_lt (Heap.lt_size ho))).trans ((Heap.get?_update_ne _ _ _ _ hb).trans (Heap.get?_push_of_some _ ho))
    · exact (hs.2 x xs).trans (Heap.get?_update_self _ gx1 rfl)
end
/-- what the written part says of such a class -/
structure OexI (K : PySem.W.Frag) (C : Addr) : Prop where
  cls : ∃ nm q N bs bm sn sub ab col dd k0 k1 k2 k3 k5, K.lookup C = some (excClassObj nm q C N bs bm true sn sub ab col dd k0 k1 k2 k3 k5 "IndexError.__new__") ∧ lineI bm = true
  sa : PySem.W.findIn K (.ref C) "__setattr__" = some (some (.builtin "object.__setattr__"))
  exC : PySem.W.subIn K (.ref C) (.type "BaseException") = some true
  tyC : PySem.W.typeIn K (.ref C) = some (.type "type")
  kC : PySem.W.keepIn K (.ref C) = true
section
variable {X : Cx} {pins : List (Addr × Obj)} {σ : L2.St} {H : Hp} {s : Shared} {a C dx : Addr} {f : Str} {y : V} {u : Value} {fs : List (Str × V)} {Q : Unit → Shared → Prop} {E : Value → Shared → Prop} {A : Around}
theorem ostI_new (T : OexI X.K C) (I : Inv X pins σ H s) (e : H a = some (exo a C none)) (no : PySem.W.findIn X.K (.ref C) f = some none) (ry : RelV y u)
    (k : ∀ dx s', H dx = none → dx ≠ a → Inv X pins σ (upd (upd H dx (exd dx [(f, y)])) a (exo a C (some dx))) s' → Q () s') : wpAny (model X.prog X.w) A (setAttr (.ref a) f u) Q E s := by
  obtain ⟨nm, q, N, bs, bm, sn, sub, ab, col, dd, k0, k1, k2, k3, k5, gC, gm⟩ := T.cls
  have gl : PySem.W.clsIn X.K C = some { name := nm, bases := bs, mro := .ref C :: bm, ns := N, qualname := q, hasDict := true, slotNames := sn, subclasses := sub, abstract := ab, collection := col, hasDel := false } := by
    unfold PySem.W.clsIn
    rw [gC] <;> rfl
  obtain ⟨t1, ho⟩ := exo_at I.hok e
  obtain ⟨hp, g, d, t, os⟩ := s
  refine PySem.W.set_plain I.kIn (ox := { cls := .ref C, dict := none, data := .fields #[.ref t1, .none, .none, .none, .bool false, .none] }) (od := none) ⟨ho, rfl, rfl, trivial⟩ T.sa ?_
  refine osaI I.kIn ho gl (show lineI (.ref C :: bm) = true from gm) rfl no (fun h' tk' dx kk dn dne hx hn => ?_)
  have fd : H dx = none := I.hok.fresh dn
  have nd : ∀ {b : Addr} {o : Obj}, hp.get? b = some o → b ≠ dx := fun {b o} z => Nat.ne_of_lt (Nat.lt_of_lt_of_le (Heap.lt_size z) dn)
  have na : ∀ {b : Addr}, H b = none → b ≠ a := fun {b} n z => by
    rw [z, e] at n
    cases n
  have U : Un X.fs [] H (upd (upd H dx (exd dx [(f, y)])) a (exo a C (some dx))) hp h' := {
    keep := fun b o z n _ _ => kk b o (na n) z
    slot := fun b o z n _ _ => ⟨o.slots, kk b o (na n) z⟩
    free := fun b o z n _ => by rw [upd_ne (na n), upd_ne (nd z)] <;> exact n
    there := fun b o z _ => by
      by_cases eb : b = a
      · exact ⟨_, by rw [eb] <;> exact hx⟩
      · exact ⟨o, kk b o eb z⟩
    tups := fun b xs z => by rw [upd_ne (at_ne e z exo_tup), upd_ne (ne_of_none z fd)] <;> exact z
    frzs := fun b o v z => by rw [upd_ne (at_ne e z exo_frz), upd_ne (ne_of_none z fd)] <;> exact z
    tbls := fun b ps z => ⟨#[], by rw [upd_ne (at_ne e z exo_tbl), upd_ne (ne_of_none z fd), z] <;> simp⟩ }
  refine k dx _ fd dne (I.un (t' := tk') U fun b o z => ?_)
  by_cases eb : b = a
  · subst eb
    rw [upd_same] at z
    cases z
    exact exo_ok hx
  · rw [upd_ne eb] at z
    by_cases ed : b = dx
    · subst ed
      rw [upd_same] at z
      cases z
      exact exd_ok hn (relO_put (f := f) (fs := []) ry fun _ => True.intro)
    · rw [upd_ne ed] at z
      refine (I.hok b o z).stay (fun c v hc y2 => ?_) (fun c hc => by rw [upd_ne (at_ne e hc exo_own), upd_ne (ne_of_none hc fd)] <;> exact hc) (fun c xs hc => by rw [upd_ne (at_ne e hc exo_tup), upd_ne (ne_of_none hc fd)] <;> exact hc)
      refine kk c v ?_ y2
      rcases hc with hc | hc
      · rw [hc]
        exact eb
      · exact at_ne e hc exo_own
end
/-- self.f = y, the first field of an instance that is being made -/
def tOstI (K : PySem.W.Frag) (f : Str) (to te : TE) : TS := fun D σ H => te σ H fun y H1 => to σ H1 fun x H2 => ∃ a C : Addr, x = .ref a ∧ OexI K C ∧ PySem.W.findIn K (.ref C) f = some none ∧
  H2 a = some (exo a C none) ∧ ∀ dx, H2 dx = none → dx ≠ a → D.nx σ (upd (upd H2 dx (exd dx [(f, y)])) a (exo a C (some dx)))
section
variable {X : Cx} {o e : Expr} {es : List Expr} {to te : TE} {ta : TA} {f : Str} {p p' pos : Pos}
theorem ps_ostI (ho : PE X o to) (he : PE X e te) (hs : swapsWith e (some (.Attribute o f p')) pos.line X.env = pure false := by rfl) : PS X (.Assign [.Attribute o f p'] e pos) (tOstI X.K f to te) := by
  refine ⟨fun pins s σ H D I h => ?_⟩
  refine plainObj_wpAny_Assign_Attribute (thn (he.run pins s σ H _ I h) fun v s1 ⟨y, H1, I1, r1, q1⟩ => thn (ho.run pins s1 σ H1 _ I1 q1) fun u s2 ⟨x, H2, I2, r2, a, C, ex, T, no, ea, q⟩ => ?_) hs
  subst ex
  obtain rfl : u = Value.ref a := r2
  exact ostI_new T I2 ea no r1 fun dx s' n ne J => ⟨σ, _, J, q dx n ne⟩
/-- C(e, ..) by its own init, C's line ending in IndexError's -/
theorem pmk_oexI {CX : CXT} {x : Str} {C fI : Addr} {k : Nat} {fd : FuncData} {ps : List Str} {sp : Sp} (T : OexI X.K C) (iC : PySem.W.findIn X.K (.ref C) "__init__" = some (some (.ref fI))) (tI : PySem.W.typeIn X.K (.ref fI) = some (.type "function"))
    (F1 : FnOk X.prog X.w X.K X.mg X.base CX k fI fd ps sp) (room : Room (k + 1) X.A) (bi : Binds X.K fd ps []) (ps' : Passes CX X (fun _ _ _ => False)) (hg : Gl X x) (hm : X.mg x = some (.ref C)) (ha : PA X (e :: es) ta)
    (nd : (x == ("__debug__" : Str)) = false := by decide) (st : starEach (e :: es) X.env = (false, eval e X.env) :: starEach es X.env := by rfl) (pl : (backTo pos (starEach es X.env)).any (·.1) = false := by rfl) :
    PMk X (.Call (.Name x p) (e :: es) [] pos) (tMkO C sp [] ta) := by
  intro pins s σ H Q I h
  obtain ⟨nm, q, N, bs, bm, sn, sub, ab, col, dd, k0, k1, k2, k3, k5, gC, gm⟩ := T.cls
  refine wpAny_Call_Name_kw (ld_glob I hg hm ?_ nd)
  refine PySem.W.callWith_K (h₀ := X.base) I.ok.mod.kin T.kC (thn (ha.run pos pins s σ H _ I h) fun us s1 ⟨vs, H1, I1, r1, hz, q1⟩ => ⟨I1.kIn, ?_⟩) st pl
  show wpAny _ _ (call (.ref C) us) _ _ _
  obtain ⟨hp, g, dr, tk, os⟩ := s1
  have sz : hp.objs.size ≤ hp.objs.size + 1 := Nat.le_succ _
  have fr : H1 (hp.objs.size + 1) = none := I1.hok.fresh sz
  have sp1 := q1 (hp.objs.size + 1) fr
  have keep2 : ∀ b o, hp.get? b = some o → ((hp.push (PySem.W.kdv_tup us)).push (PySem.HandSPX.excO C hp.objs.size)).get? b = some o := fun b o z => Heap.get?_push_of_some _ (Heap.get?_push_of_some _ z)
  have at2 : ((hp.push (PySem.W.kdv_tup us)).push (PySem.HandSPX.excO C hp.objs.size)).get? (hp.objs.size + 1) = some (PySem.HandSPX.excO C hp.objs.size) := by heap_get
  have J : Inv X pins σ (upd H1 (hp.objs.size + 1) (exo (hp.objs.size + 1) C none)) ⟨(hp.push (PySem.W.kdv_tup us)).push (PySem.HandSPX.excO C hp.objs.size), g, dr, tk, os⟩ :=
    I1.laid (t' := tk) (a := hp.objs.size + 1) (o := exo (hp.objs.size + 1) C none) (h' := (hp.push (PySem.W.kdv_tup us)).push (PySem.HandSPX.excO C hp.objs.size)) keep2 sz (exo_ok at2)
  rw [List.append_nil] at sp1
  have r2 : Vals (V.ref (hp.objs.size + 1) :: vs) (Value.ref (hp.objs.size + 1) :: us) := .cons rfl r1
  have len2 : (Value.ref (hp.objs.size + 1) :: us ++ []).length = ps.length := by
    have z := r2.length
    rw [F1.len _ _ _ _ sp1] at z
    rw [List.append_nil]
    exact z.symm
  have few : us.length ≤ sizeLine := by
    rw [← Paired.length r1, sizeLine_eq] <;> omega
  have b2 := bi _ (Value.ref (hp.objs.size + 1) :: us) J.kIn len2
  rw [List.append_nil] at b2
  refine wpAny_call (PySem.HandSPX.call_own PySem.F.excBase_IndexError (fun Y => lineI_has Y bm gm) (I1.kIn _ _ gC) (PySem.W.looks_findIn I1.kIn iC) (fun self => PySem.W.bind_fn I1.kIn self tI) few
    (codeAny_mono (F1.run _ X.stack _ _ ⟨Value.ref (hp.objs.size + 1) :: us, []⟩ (Value.ref (hp.objs.size + 1) :: us) _ _ (fun _ _ _ => False) (room.make C us []) (J.env0.make C us []) b2 r2 sp1) fun r s' z => ?_))
  cases r with
  | error er => exact ps' pins σ _ _ er s' J z
  | ok fl =>
    cases fl with
    | ret u =>
      obtain ⟨v, H2, os2, bare2, un2, ok2, rv, ev, d, fs, ea, ed, nd1, q2⟩ := z
      subst ev
      obtain ⟨h2, g2, d2, t2, os'⟩ := s'
      exact ⟨rv, mk_end (raises_own T.exC T.tyC) I1 sz keep2 un2 ok2 os2 bare2 ea ed nd1 q2⟩
    | next => exact z.elim
    | brk => exact z.elim
    | cont => exact z.elim
end
end V3

set_option Elab.async false
set_option linter.all false
set_option maxRecDepth 100000
/-! lambdas handed over: what the texts about them share -/
namespace V3
open PySem PySem.Spec PyProof.Rows L2 TL LamX
abbrev NT : Addr → Prop := fun _ => True
/-- an expression's reading, weaker -/
theorem pe_weak {X : Cx} {e : Expr} {t : TE} (h : PE X e t) : PE X e (fun σ H Q => ∃ Q' : VK, (∀ v H2, Q' v H2 → Q v H2) ∧ t σ H Q') := ⟨fun pins s σ H Q I ⟨Q', m, q⟩ =>
  wpAny_mono (h.run pins s σ H Q' I q) (fun u s1 ⟨v, H1, I1, r1, q1⟩ => ⟨v, H1, I1, r1, m _ _ q1⟩) fun _ _ e => e⟩
theorem takes_len {X : Cx} {W : WX} (tk : Takes X W) : Takes X (fun cls d σ H => σ.length = X.N.length → W cls d σ H) := fun u s' ⟨a, B, sI, pins, σ, H, cls, d, e, I, nb, up, sky, na, os, ag, w⟩ =>
  tk u s' ⟨a, B, sI, pins, σ, H, cls, d, e, I, nb, up, sky, na, os, ag, w I.len⟩
theorem Tabs.keep {T : List (Addr × Str)} {H G : Hp} (t : Tabs T H) (s : Keep H G) : Tabs T G := fun p hp => by
  obtain ⟨ps, h1, h2, h3⟩ := t p hp
  refine ⟨ps, s _ _ (fun _ z => by cases z) h1, h2, fun pos cv hc => ?_⟩
  obtain ⟨c, e1, e2⟩ := h3 pos cv hc
  exact ⟨c, e1, s _ _ (fun _ z => by unfold CodeO at z; cases z) e2⟩
theorem Pre.kp {b : Addr} {H H' : Hp} {u v : Int} (hb : H b = some (V3.box u v)) (s : Pre b H H') : Keep H H' := fun c o n e => s.1 c o (fun z => by
  rw [z, hb] at e
  cases e
  exact n _ rfl) e
/-- a def of the text whose code object is known -/
structure FunC (K : PySem.W.Frag) (x qual : Str) (st : Stmt) (f : Addr) (fd : FuncData) (cdv : Value) : Prop where
  ex : ∃ (oc : Value) (od : Option Addr) (kV doc pm : Value) (an : Option Addr) (ct : Value) (osl : Array (Option Value)), fd = PySem.W.fnOf x qual (defArgs st) (defBody st) (defScope st) .none kV doc pm an cdv ct ∧ K.lookup f = some ⟨oc, od, .func fd, osl⟩ ∧ PySem.W.codeIn K cdv qual = true
section
variable {P : Program} {w : World} {K : PySem.W.Frag} {mg : Str → Option Value} {base : Heap}
theorem fnGc {CX : CXT} {k : Nat} {f : Addr} {x qual : Str} {st : Stmt} {fd : FuncData} {cdv : Value} {N ps : List Str} {sp : Sp} (F : FunC K x qual st f fd cdv) (S : FnScope N ps (defScope st)) (len : ∀ vs H Q E, sp vs H Q E → vs.length = ps.length)
    (hbody : ∀ (A : Around) (up : List Env) (s : Shared) (H : Hp) (vs : List V) (Q : VK) (E : XK), NoG A → Room k (A.deeper (envOfC qual (defScope st) s.heap.objs.size f cdv)) → sp vs H Q E →
      ∃ t, PSs (cxOf CX P w K mg base N qual (defScope st) f cdv A up s H E) (defBody st) t ∧ t { nx := fun _ H' => Q .non H', rt := Q } (start N vs) H) : FnG P w K mg base CX (k + 1) f fd ps sp := by
  obtain ⟨oc, od, kV, doc, pm, an, ct, osl, rfl, lk, hcd⟩ := F.ex
  refine ⟨len, fun A up s H args us vs Q E g room e0 bnd rel want => ?_⟩
  have nlen := len _ _ _ _ want
  have old := fun b o e => (e0.bs b o e).1
  have KX : K.In s.heap := e0.mod.kin.keeps old
  have lim := e0.mod.nolimit.keeps old
  have known : ∀ y ∈ ps.zip us, (defScope st).names.lookup y.1 = some .local ∨ ((defScope st).names.lookup y.1 = some .cell ∧ ((cellsFrom (s.heap.objs.size + 1) (defScope st).names []).lookup y.1).isSome = true) := by
    rintro ⟨n, v⟩ hy
    exact (S.par n (List.of_mem_zip hy).1).imp id fun q => ⟨q, PySem.W.cellsFrom_some _ _ _ (.inl q)⟩
  refine codeAny_call_function room.depth (KX _ _ lk) rfl S.co S.gen rfl (PySem.W.codeRec_of KX hcd) (bnd _ _ _ _ ?_)
  refine wpAny_newFunctionEnv_cells S.kind known fun env same s1 x => ?_
  subst same
  refine ⟨lim.keeps x.toInCall.keep, codeAny_func ?_⟩
  obtain ⟨t, ht, hq⟩ := hbody A up s H vs Q E g (room.deeper _) want
  have I := inv_start (CX := CX) (E := E) S room.hd e0 nlen rel x
  refine wpAny_mono (ht.run [] s1 (start N vs) H _ I hq) (fun fl s' hs => ?_) fun e s' hs => hs
  match fl, hs with
  | .ret u, hs =>
    obtain ⟨v, σ', H', J, rv, q⟩ := hs
    exact ⟨v, H', J.os, J.bare, J.base, J.hok, rv, q⟩
  | .next, hs =>
    obtain ⟨σ', H', J, q⟩ := hs
    exact ⟨.non, H', J.os, J.bare, J.base, J.hok, rfl, q⟩
  | .brk, hs =>
    obtain ⟨_, _, _, q⟩ := hs
    exact q.elim
  | .cont, hs =>
    obtain ⟨_, _, _, q⟩ := hs
    exact q.elim
theorem ExtN.seq {K : PySem.W.Frag} {H G : Hp} {a : Addr} {xs : List V} (s : ExtN H G) (h : SqL K H a xs) : SqL K G a xs := by
  rcases h with (h | ⟨o, h⟩) | h
  · exact .inl (.inl (s _ _ h (fun q z => by cases z)))
  · exact .inl (.inr ⟨o, s _ _ h (fun q z => by cases z)⟩)
  · exact .inr h
theorem ext_pre {H1 H G : Hp} {b : Addr} (e : ExtN H1 H) (n : H1 b = none) (p : SameX b H G) : ExtN H1 G := fun a o ha nt => p a o (fun z => by rw [z, n] at ha; cases ha) (e a o ha nt)
theorem ext_same {H1 H G : Hp} (e : ExtN H1 H) (s : Same H G) : ExtN H1 G := fun a o ha nt => s a o (e a o ha nt)
end
end V3

set_option Elab.async false
set_option linter.all false
set_option maxRecDepth 100000
/-! a loop over a list or a tuple -/
namespace V3
open PySem L2 TL
def iSeq (K : PySem.W.Frag) (tl : TE) : TI := fun σ H R => tl σ H fun x H1 => ∃ a, x = .ref a ∧ (((∃ xs, SqL K H1 a xs) ∧ R (Itl K a) H1) ∨ ((∃ xs, SqT K H1 a xs) ∧ R (Itt K a) H1))
theorem pi_seq {X : Cx} {tg l : Expr} {tl : TE} (hl : PE X l tl) : PI X tg l (iSeq X.K tl) := by
  refine ⟨fun pins s σ H R J h => ?_⟩
  have nw : ∀ {s1 : Shared} {H1 : Hp} {o : Obj}, Inv X pins σ H1 s1 → Inv X pins σ H1 { s1 with heap := s1.heap.push o } := fun {s1 H1 o} I1 => I1.kept (t' := s1.toks) fun b o e => PySem.Heap.get?_push_of_some _ e
  refine thn (hl.run pins s σ H _ J h) fun v s1 ⟨x, H1, I1, r1, a, ea, q1⟩ => ?_
  subst ea
  cases r1
  have fp : ∀ b ∈ [s1.heap.objs.size], FpOk X pins H1 b := fun b hb => by
    rw [List.mem_singleton.mp hb]
    exact I1.fpOk (Nat.le_refl _) (I1.hok.fresh (Nat.le_refl _))
  rcases q1 with ⟨⟨xs, hq⟩, q⟩ | ⟨⟨xs, hq⟩, q⟩
  · obtain ⟨its, rv, p, hz⟩ := I1.list hq
    exact wpAny_pyIter_list p.isList ⟨s1.heap.objs.size, [s1.heap.objs.size], _, _, H1, rfl, nw I1, turn_list a _, ⟨_, PySem.Heap.get?_push_size _ rfl, rfl, rfl⟩, fp, q⟩
  · obtain ⟨its, rv, p, hz⟩ := I1.tuple hq
    exact wpAny_pyIter_tuple (show s1.heap.IsTuple a its.toArray from p) ⟨s1.heap.objs.size, [s1.heap.objs.size], _, _, H1, rfl, nw I1, turn_tuple a _, ⟨_, PySem.Heap.get?_push_size _ rfl, rfl, rfl⟩, fp, q⟩
theorem for_seq {K : PySem.W.Frag} {a : Addr} {xs : List V} {g : TG} {tb : TS} {D : Ends} {σ : L2.St} {H : Hp} (Pv : Nat → L2.St → Hp → Prop) (h : H a = some (.lst xs) ∨ H a = some (.tup xs)) (h0 : Pv 0 σ H) (hl : ∀ i σ H', Pv i σ H' → Same H H')
    (hs : ∀ i x σ H, xs[i]? = some x → Pv i σ H → g x σ H fun σ2 H2 => tb { D with nx := Pv (i + 1), ct := Pv (i + 1), bk := D.nx } σ2 H2) (hd : ∀ σ H, Pv xs.length σ H → D.nx σ H) :
    ((∃ xs, SqL K H a xs) ∧ ∃ W : Nat → Nat → L2.St → Hp → Prop, (∃ m, W 0 m σ H) ∧ ∀ i m σ H, W i m σ H →
      ((Itl K a).stop i H ∧ D.nx σ H) ∨ ((Itl K a).go i H ∧ ∃ N : L2.St → Hp → Prop, (∀ σ' H', N σ' H' → ∃ m', m' < m ∧ W (i + 1) m' σ' H') ∧ ∀ x H', (Itl K a).yld i H x H' → g x σ H' fun σ2 H2 => tb { D with nx := N, ct := N, bk := D.nx } σ2 H2)) ∨
    ((∃ xs, SqT K H a xs) ∧ ∃ W : Nat → Nat → L2.St → Hp → Prop, (∃ m, W 0 m σ H) ∧ ∀ i m σ H, W i m σ H →
      ((Itt K a).stop i H ∧ D.nx σ H) ∨ ((Itt K a).go i H ∧ ∃ N : L2.St → Hp → Prop, (∀ σ' H', N σ' H' → ∃ m', m' < m ∧ W (i + 1) m' σ' H') ∧ ∀ x H', (Itt K a).yld i H x H' → g x σ H' fun σ2 H2 => tb { D with nx := N, ct := N, bk := D.nx } σ2 H2)) := by
  rcases h with h | h
  · exact .inl ⟨⟨xs, SqL.of h⟩, for_list Pv h0 (fun i σ H' _ z => SqL.of (hl i σ H' z _ _ h)) hs hd⟩
  · exact .inr ⟨⟨xs, SqT.of h⟩, for_tup Pv h0 (fun i σ H' _ z => SqT.of (hl i σ H' z _ _ h)) hs hd⟩
end V3

set_option Elab.async false
set_option linter.all false
set_option maxRecDepth 100000
namespace V3
open PySem L2 TL
abbrev sIsRows : Stmt := top 22
abbrev sHasRow : Stmt := top 23
abbrev sHsInit : Stmt := inClass (top 20) 0
abbrev sHsLen : Stmt := inClass (top 20) 4
/-! houses -/
def checkL : List Str := ["left", "all"]
def depthL : List Str := ["depth 0", "depth 1", "depth 2", "depth 3", "depth 4"]
structure Hs where
  d : Int
  ch : Str
  rs : List Rw
  deriving DecidableEq
def Hs.ok (h : Hs) : Prop := 0 ≤ h.d ∧ h.d ≤ 4 ∧ h.ch ∈ checkL ∧ (∀ m ∈ h.rs, m.ok ∧ m.kind = 0) ∧ h.rs.length ≤ 100
def hsF (d ch q : V) : List (Str × V) := [("depth", d), ("check", ch), ("rows", q)]
theorem hs_put (d ch q : V) : putF "rows" q (putF "check" ch (putF "depth" d [])) = hsF d ch q := by
  have a1 : ("depth" : Str) ≠ "check" := by decide +kernel
  have a2 : ("depth" : Str) ≠ "rows" := by decide +kernel
  have a3 : ("check" : Str) ≠ "rows" := by decide +kernel
  show putF "rows" q (putF "check" ch [("depth", d)]) = _
  rw [putF_ne a1]
  show putF "rows" q [("depth", d), ("check", ch)] = _
  rw [putF_ne a2, putF_ne a3]
  rfl
theorem hs_d (d ch q : V) : (hsF d ch q).lookup ("depth" : Str) = some d := rfl
theorem hs_ch (d ch q : V) : (hsF d ch q).lookup ("check" : Str) = some ch := by
  unfold hsF
  rw [lk_ne (by decide +kernel)]
  rfl
theorem hs_rs (d ch q : V) : (hsF d ch q).lookup ("rows" : Str) = some q := by
  unfold hsF
  rw [lk_ne (by decide +kernel), lk_ne (by decide +kernel)]
  rfl
/-- objects of rows, one after another -/
def RwLs (c : Rc) (H : Hp) (us : List V) (ms : List Rw) : Prop := Ls (RwAt c H) us ms
theorem RwLs.keep {c : Rc} {H H' : Hp} {us : List V} {ms : List Rw} (d : RwLs c H us ms) (s : Keep H H') : RwLs c H' us ms := d.imp fun _ _ h => h.keep s
theorem RwLs.same {c : Rc} {H H' : Hp} {us : List V} {ms : List Rw} (d : RwLs c H us ms) (s : Same H H') : RwLs c H' us ms := d.keep (Keep.of s)
/-- a tuple, tracked or written -/
def TupK (K : PySem.W.Frag) (H : Hp) (q : Addr) (us : List V) : Prop := H q = some (.tup us) ∨ ∀ H', SqT K H' q us
theorem TupK.sq {K : PySem.W.Frag} {H : Hp} {q : Addr} {us : List V} (h : TupK K H q us) : SqT K H q us := h.elim SqT.of fun z => z H
theorem TupK.keep {K : PySem.W.Frag} {H H' : Hp} {q : Addr} {us : List V} (h : TupK K H q us) (s : Keep H H') : TupK K H' q us := h.elim (fun z => .inl (s _ _ (fun _ y => by cases y) z)) .inr
theorem TupK.same {K : PySem.W.Frag} {H H' : Hp} {q : Addr} {us : List V} (h : TupK K H q us) (s : Same H H') : TupK K H' q us := h.keep (Keep.of s)
def HsAt (K : PySem.W.Frag) (c : Rc) (C : Addr) (H : Hp) (v : V) (h : Hs) : Prop := ∃ x dx q us, v = .ref x ∧ H x = some (.ins C dx (hsF (.int h.d) (.str h.ch) (.ref q))) ∧ TupK K H q us ∧ RwLs c H us h.rs
theorem HsAt.keep {K : PySem.W.Frag} {c : Rc} {C : Addr} {H H' : Hp} {v : V} {h : Hs} (a : HsAt K c C H v h) (s : Keep H H') : HsAt K c C H' v h := by
  obtain ⟨x, dx, q, us, e, hx, hq, r⟩ := a
  exact ⟨x, dx, q, us, e, s _ _ (fun _ z => by cases z) hx, hq.keep s, r.keep s⟩
theorem HsAt.same {K : PySem.W.Frag} {c : Rc} {C : Addr} {H H' : Hp} {v : V} {h : Hs} (a : HsAt K c C H v h) (s : Same H H') : HsAt K c C H' v h := a.keep (Keep.of s)
structure BltK (mg : Str → Option Value) : Prop where
  isi : mg "isinstance" = none
  int : mg "int" = none
  bool : mg "bool" = none
  list : mg "list" = none
  tuple : mg "tuple" = none
  all : mg "all" = none
  len : mg "len" = none
  str : mg "str" = none
/-- the written tuples and lists of the module -/
structure HsT (K : PySem.W.Frag) (mg : Str → Option Value) (CA DA : Addr) : Prop where
  checks : mg "CHECKS" = some (.ref CA)
  depths : mg "DEPTH_LINES" = some (.ref DA)
  tC : ∀ H, SqT K H CA (checkL.map V.str)
  tD : ∀ H, SqT K H DA (depthL.map V.str)
/-- what House's class must have -/
structure HsC (K : PySem.W.Frag) (C : Addr) : Prop where
  cl : Cls K C
  d : NoAttr K C "depth"
  ch : NoAttr K C "check"
  rs : NoAttr K C "rows"
/-- what Let's class must be to isinstance -/
structure LetI (K : PySem.W.Frag) (c : Rc) : Prop where
  cl : Cls K c.L
  ca : PySem.W.findIn K (.ref c.L) "__class__" = some (some (.builtin "object.__class__"))
  mr : PySem.W.mroIn K c.L (.type "object") = some true
  gn : PySem.W.specialIn K (.builtin "object.__class__") "__get__" = some (some (.builtin "getset_descriptor.__get__"))
  tk : PySem.W.takesIn K (.builtin "object.__class__") = some true
  ki : PySem.W.kitOne K (.ref c.L) (.ref c.L) = some true
def spNumI : Sp := fun vs H Q _ => ∃ i : Int, vs = [.int i] ∧ Q (.bl (decide (0 ≤ i))) H
def spIsRows (c : Rc) : Sp := fun vs H Q _ => ∃ (a : Addr) (us : List V) (ms : List Rw), vs = [.ref a] ∧ H a = some (.lst us) ∧ RwLs c H us ms ∧ (∀ m ∈ ms, m.kind = 0) ∧ ms.length ≤ 1000 ∧ ∀ H', Same H H' → Q (.bl true) H'
def spHsInit (K : PySem.W.Frag) (c : Rc) (C : Addr) : Sp := fun vs H Q _ => ∃ (x dx l : Addr) (us : List V) (h : Hs), vs = [.ref x, .int h.d, .str h.ch, .ref l] ∧ H x = some (.ins C dx []) ∧ H l = some (.lst us) ∧ RwLs c H us h.rs ∧ h.ok ∧
  ∀ H', SameX x H H' → HsAt K c C H' (.ref x) h → Q .non H'
def spHsLen (K : PySem.W.Frag) (c : Rc) (C : Addr) : Sp := fun vs H Q _ => ∃ (v : V) (h : Hs), vs = [v] ∧ HsAt K c C H v h ∧ Q (.int (h.rs.length : Int)) H
/-- whether a whole number is the number of a row -/
def hasRow (h : Hs) (i : Int) : Bool := decide (0 ≤ i) && decide (i < (h.rs.length : Int))
def spHasRow (K : PySem.W.Frag) (c : Rc) (C : Addr) : Sp := fun vs H Q _ => ∃ (v : V) (h : Hs) (i : Int), vs = [v, .int i] ∧ HsAt K c C H v h ∧ Q (.bl (hasRow h i)) H
theorem kit_lt {K : PySem.W.Frag} : PySem.W.kitAny K (.type "list") [.type "list", .type "tuple"] = some true :=
  kitAny_cons (show PySem.W.kitOne K (.type "list") (.type "list") = some true from kit_ty (by decide +kernel)) (fun z => nomatch z) (fun z => rfl)
theorem repl_bl (n : Nat) : List.replicate n (V.bl true) = (List.replicate n true).map V.bl := by
  rw [List.map_replicate]
section
variable {P : Program} {w : World} {K : PySem.W.Frag} {mg : Str → Option Value} {base : Heap}
theorem scIsRows : FnScope ["value", "item"] ["value"] (defScope sIsRows) := ⟨rfl, rfl, rfl, by decide +kernel, rfl, by decide +kernel, by decide +kernel⟩
theorem scHasRow : FnScope ["house", "at"] ["house", "at"] (defScope sHasRow) := ⟨rfl, rfl, rfl, by decide +kernel, rfl, by decide +kernel, by decide +kernel⟩
theorem scHsInit : FnScope ["self", "depth", "check", "rows"] ["self", "depth", "check", "rows"] (defScope sHsInit) := ⟨rfl, rfl, rfl, by decide +kernel, rfl, by decide +kernel, by decide +kernel⟩
theorem scHsLen : FnScope ["self"] ["self"] (defScope sHsLen) := ⟨rfl, rfl, rfl, by decide +kernel, rfl, by decide +kernel, by decide +kernel⟩
theorem ok_intK {f : Addr} {fd : FuncData} (F : Fun K "is_integer" "is_integer" sIsInt f fd) (T : BltK mg) : FnOk P w K mg base CX0 1 f fd ["value"] spIntI := by
  refine F.ok scIsInt (fun vs H Q E h => ?_) (fun cdv A outer s H vs Q E hr h => ?_)
  · obtain ⟨v, rfl, _⟩ := h
    rfl
  · obtain ⟨i, rfl, q⟩ := h
    refine ⟨_, pss_one (ps_ret (pe_and (pe_callB call_isi (by rfl) T.isi (by decide +kernel) (pa_cons (pv 0) (pa_cons (pe_bltn (v := .ty "int") (by rfl) T.int (by decide +kernel) rfl) pa_nil)))
      (pe_one (pe_not (pe_callB call_isi (by rfl) T.isi (by decide +kernel) (pa_cons (pv 0) (pa_cons (pe_bltn (v := .ty "bool") (by rfl) T.bool (by decide +kernel) rfl) pa_nil))))))), ?_⟩
    refine ⟨_, rfl, _, _, _, _, _, rfl, .ty "int", .base (.int i), (show PySem.W.kitOne K (.type "int") (.type "int") = some true from kit_ty (by decide +kernel)), _, rfl, iteT ?_⟩
    exact ⟨_, rfl, _, _, _, _, _, rfl, .ty "bool", .base (.int i), (show PySem.W.kitOne K (.type "int") (.type "bool") = some false from kit_ty (by decide +kernel)), _, rfl, q⟩
theorem ok_numK {f : Addr} {fd : FuncData} (F : Fun K "is_number" "is_number" sIsNum f fd) (cI : Cal P w K mg base CX0 "is_integer" 1 ["value"] spIntI) : FnOk P w K mg base CX0 2 f fd ["value"] spNumI := by
  obtain ⟨fI, fdI, GI, mI, kI, bI⟩ := cI
  refine F.ok scIsNum (fun vs H Q E h => ?_) (fun cdv A outer s H vs Q E hr h => ?_)
  · obtain ⟨v, rfl, _⟩ := h
    rfl
  · obtain ⟨i, rfl, q⟩ := h
    refine ⟨_, pss_one (ps_ret (pe_and (pe_call GI hr rfl mI kI bI .nil pass0 (pa_cons (pv 0) pa_nil)) (pe_one (pe_cmpR op_ge (pv 0) pe_int (nomark _))))), ?_⟩
    exact ⟨_, rfl, i, rfl, _, rfl, iteT ⟨_, rfl, _, _, rfl, rfl, q⟩⟩
theorem ok_isRows {f : Addr} {c : Rc} {fd : FuncData} (F : Fun K "is_rows" "is_rows" sIsRows f fd) (T : BltK mg) (C : LetI K c) (gL : mg "Let" = some (.ref c.L)) : FnOk P w K mg base CX0 1 f fd ["value"] (spIsRows c) := by
  refine F.ok scIsRows (fun vs H Q E h => ?_) (fun cdv A outer s H vs Q E hr h => ?_)
  · obtain ⟨a, us, ms, rfl, _⟩ := h
    rfl
  · obtain ⟨a, us, ms, rfl, ha, rl, kd, n, k⟩ := h
    refine ⟨_, pss_one (ps_ret (pe_and (pe_callB call_isiT (by rfl) T.isi (by decide +kernel) (pa_cons (pv 0) (pa_cons (pe_tup (pa_cons (pe_bltn (v := .ty "list") (by rfl) T.list (by decide +kernel) rfl) (pa_cons (pe_bltn (v := .ty "tuple") (by rfl) T.tuple (by decide +kernel) rfl) pa_nil))) pa_nil)))
        (pe_one (pe_callB (cr_all rfl) (by rfl) T.all (by decide +kernel) (pa_cons (pe_lc (own := [("item", 1)]) (g := gName 1) (tt := tYes) (te := tCB (rIsi K) (tCons (tVar 1) (tCons (tC (.ref c.L)) tNil))) (by rfl) scIsRows.nd (pi_list (pv 0)) (blkOk_by (own := [("item", 1)]) (N := ["value", "item"]) (sc := defScope sIsRows) (by decide +kernel)) (fun _ _ _ _ _ => pg_name (i := 1) scIsRows.nd rfl (Or.inl rfl)) (fun _ _ _ _ _ => pts_nil)
          (fun _ _ _ _ _ => pe_callB call_isi (by rfl) T.isi (by decide +kernel) (pa_cons (pv 1) (pa_cons (pe_glob (v := .ref c.L) rfl gL rfl) pa_nil)))) pa_nil))))), ?_⟩
    refine ⟨_, rfl, (by show 2 ≤ sizeLine; decide), fun tp ntp => ?_⟩
    have s1 : Same H (upd H tp (.tup [.ty "list", .ty "tuple"])) := Same.new ntp
    have ht : upd H tp (.tup [.ty "list", .ty "tuple"]) tp = some (.tup [.ty "list", .ty "tuple"]) := upd_same
    generalize upd H tp (.tup [.ty "list", .ty "tuple"]) = H1 at s1 ht ⊢
    have ha1 := s1 _ _ ha
    have rl1 := rl.same s1
    have lx : us.length = ms.length := rl.1
    refine ⟨_, tp, _, _, _, _, rfl, ht, .cons (.ty "list") (.cons (.ty "tuple") .nil), .base (.lst ha1), kit_lt, _, rfl, iteT ?_⟩
    refine ⟨_, rfl, a, rfl, ⟨us, SqL.of ha1⟩, fun D nD => ?_⟩
    refine lc_list (K := K) (a := a) (xs := us) (fun i Hh => Same H1 Hh ∧ H1 D = none ∧ Hh D = some (.lst (List.replicate i (V.bl true)))) ⟨Same.new nD, nD, upd_same⟩ (fun i Hh _ p => SqL.of (p.1 _ _ ha1)) ?_ ?_
    · intro i z Hh hi p
      have il : i < us.length := (List.getElem?_eq_some_iff.mp hi).1
      obtain ⟨m, em, mz⟩ := Ls.get rl1 hi
      obtain ⟨y, dy, rfl, hy⟩ := mz.same p.1
      have km := kd m (List.mem_of_getElem? em)
      refine ⟨rfl, ?_⟩
      unfold tYes
      dsimp only
      have hy2 : Hh y = some (.ins c.L dy m.fs) := by
        rw [hy]
        show some (HO.ins (c.at m.kind) dy m.fs) = _
        rw [km]
        rfl
      refine iteT ⟨_, rfl, _, _, _, _, _, rfl, .own c.L, .base (.ins hy2 C.cl C.ca C.gn C.tk C.mr), C.ki, _, p.2.2, ?_, fun d o h => ?_, p.2.1, ?_⟩
      · rw [List.length_replicate]
        exact Nat.lt_of_lt_of_le (m := 1001) (by omega) (by decide)
      · rw [upd_ne (ne_of_none h p.2.1)]
        exact p.1 d o h
      · rw [upd_same, List.replicate_succ']
    · intro Hh p
      obtain ⟨s2, _, e⟩ := p
      refine ⟨D, List.replicate us.length true, rfl, SqL.of (by rw [e, repl_bl]), ?_⟩
      have z : (List.replicate us.length true).all id = true := by
        rw [List.all_eq_true]
        intro x hx
        rw [List.eq_of_mem_replicate hx]
        rfl
      rw [z]
      exact k _ (s1.trans s2)
theorem ok_hsInit {f CA DA C : Addr} {c : Rc} {fd : FuncData} {dvs : List V} (F : FunD K "__init__" "House.__init__" (defArgs sHsInit) (defBody sHsInit) (defScope sHsInit) dvs [] f fd) (T : BltK mg) (X : HsT K mg CA DA) (L : HsC K C)
    (cN : Cal P w K mg base CX0 "is_number" 2 ["value"] spNumI) (cR : Cal P w K mg base CX0 "is_rows" 1 ["value"] (spIsRows c)) : FnOk P w K mg base CX0 4 f fd ["self", "depth", "check", "rows"] (spHsInit K c C) := by
  obtain ⟨fN, fdN, GN, mN, kN, bN⟩ := cN
  obtain ⟨fR, fdR, GR, mR, kR, bR⟩ := cR
  refine F.ok scHsInit (fun vs H Q E h => ?_) (fun cdv A outer s H vs Q E hr h => ?_)
  · obtain ⟨x, dx, l, us, h, rfl, _⟩ := h
    rfl
  · obtain ⟨x, dx, l, us, h, rfl, hx, hl, rl, ok, q⟩ := h
    obtain ⟨d0, d4, hc, hm, hn⟩ := ok
    refine ⟨_, pss_cons (ps_if (pt_not (PW.pt (pw_and (pt_val (pe_call GN (hr.mono (by decide)) rfl mN kN bN .nil pass0 (pa_cons (pv 1) pa_nil))) (pw_and1 (pt_cmpR op_lt (pv 1) (pe_callB call_len_seq (by rfl) T.len PySem.boot_len (pa_cons (pe_glob (v := .ref DA) rfl X.depths rfl) pa_nil)) (nomark _)))))) (pss_one ps_never) pss_nil)
      (pss_cons (ps_if (pt_cmpR op_notIn_seq (pv 2) (pe_glob (v := .ref CA) rfl X.checks rfl) rfl) (pss_one ps_never) pss_nil)
      (pss_cons (ps_if (pt_not (pt_val (pe_call GR (hr.mono (by decide)) rfl mR kR bR .nil pass0 (pa_cons (pv 3) pa_nil)))) (pss_one ps_never) pss_nil)
      (pss_cons (ps_fld (pv 0) (pv 1) rfl)
      (pss_cons (ps_fld (pv 0) (pv 2) rfl)
      (pss_one (ps_fld (pv 0) (pe_callTy call_tuple_of (by rfl) T.tuple (by decide +kernel) (pa_cons (pv 3) pa_nil)) rfl)))))), ?_⟩
    refine ⟨_, rfl, h.d, rfl, _, rfl, ?_⟩
    rw [decide_eq_true d0]
    refine iteT ⟨_, rfl, DA, _, rfl, .inr (X.tD _), _, _, rfl, rfl, _, rfl, ?_⟩
    rw [decide_eq_true (show h.d < ((depthL.map V.str).length : Int) by show h.d < 5; omega)]
    refine iteF ⟨_, rfl, CA, _, rfl, .inr (X.tC _), rfl, flat_strs _, _, rfl, ?_⟩
    rw [inV_str, decide_eq_true hc]
    refine iteF ⟨_, rfl, l, us, h.rs, rfl, hl, rl, fun m z => (hm m z).2, by omega, fun H1 s1 => ⟨_, rfl, iteF ?_⟩⟩
    have hx1 := s1 _ _ hx
    have hl1 := s1 _ _ hl
    have nlx : l ≠ x := fun z => by rw [z, hx] at hl; cases hl
    refine ⟨_, rfl, _, rfl, x, C, dx, _, rfl, hx1, L.cl, L.d, (by show 0 < 1000; decide), ?_⟩
    refine ⟨_, rfl, _, rfl, x, C, dx, _, rfl, upd_same, L.cl, L.ch, (by show 1 < 1000; decide), ?_⟩
    rw [upd_upd]
    refine ⟨_, rfl, l, us, rfl, .inl ⟨SqL.of (by rw [upd_ne nlx]; exact hl1), fun t nt => ?_⟩⟩
    have ntx : x ≠ t := ne_of_none upd_same nt
    refine ⟨_, rfl, x, C, dx, _, rfl, (by rw [upd_ne ntx]; exact upd_same), L.cl, L.rs, (lt_put (n := 999) (lt_put (n := 998) (by show 0 < 998; decide))), ?_⟩
    rw [hs_put]
    have nt1 : H1 t = none := by
      rw [upd_ne (Ne.symm ntx)] at nt
      exact nt
    have sx : ∀ b o, b ≠ x → H b = some o → (upd (upd (upd H1 x (HO.ins C dx (putF "check" (V.str h.ch) (putF "depth" (V.int h.d) [])))) t (.tup us)) x (.ins C dx (hsF (.int h.d) (.str h.ch) (.ref t)))) b = some o := fun b o nb e => by
      rw [upd_ne nb, upd_ne (ne_of_none (s1 _ _ e) nt1), upd_ne nb]
      exact s1 _ _ e
    refine q _ (fun b o nb e => sx b o nb e) ⟨x, dx, t, us, rfl, upd_same, .inl (by rw [upd_ne (Ne.symm ntx)]; exact upd_same), ?_⟩
    refine Ls.imp rl fun v m a => ?_
    obtain ⟨y, dy, rfl, hy⟩ := a
    have nyx : y ≠ x := fun z => by
      rw [z, hx] at hy
      have e := Option.some.inj hy
      cases m <;> cases e
    exact ⟨y, dy, rfl, sx y _ nyx hy⟩
theorem ok_hsLen {f C : Addr} {c : Rc} {fd : FuncData} (F : Fun K "__len__" "House.__len__" sHsLen f fd) (T : BltK mg) (L : HsC K C) : FnOk P w K mg base CX0 1 f fd ["self"] (spHsLen K c C) := by
  refine F.ok scHsLen (fun vs H Q E h => ?_) (fun cdv A outer s H vs Q E hr h => ?_)
  · obtain ⟨v, h, rfl, _⟩ := h
    rfl
  · obtain ⟨v, h, rfl, ⟨x, dx, q, us, rfl, hx, hq, rl⟩, k⟩ := h
    refine ⟨_, pss_one (ps_ret (pe_callB call_len_seq (by rfl) T.len PySem.boot_len (pa_cons (pe_fld (pv 0) rfl) pa_nil))), ?_⟩
    rw [← rl.1] at k
    exact ⟨_, rfl, x, C, dx, _, _, rfl, hx, L.cl, L.rs, hs_rs .., q, us, rfl, .inr hq.sq, k⟩
theorem ok_hasRow {f C : Addr} {c : Rc} {fd : FuncData} (F : Fun K "has_row" "has_row" sHasRow f fd) (T : BltK mg) (L : HsC K C) : FnOk P w K mg base CX0 1 f fd ["house", "at"] (spHasRow K c C) := by
  refine F.ok scHasRow (fun vs H Q E h => ?_) (fun cdv A outer s H vs Q E hr h => ?_)
  · obtain ⟨v, h, i, rfl, _⟩ := h
    rfl
  · obtain ⟨v, h, i, rfl, ⟨x, dx, q, us, rfl, hx, hq, rl⟩, k⟩ := h
    refine ⟨_, pss_one (ps_ret (pe_chain op_le op_lt pe_int (pv 1) (pe_callB call_len_seq (by rfl) T.len PySem.boot_len (pa_cons (pe_fld (pv 0) rfl) pa_nil)))), ?_⟩
    refine ⟨_, rfl, _, _, rfl, rfl, _, rfl, ?_⟩
    by_cases i0 : 0 ≤ i
    · rw [decide_eq_true i0]
      refine iteT ⟨_, rfl, x, C, dx, _, _, rfl, hx, L.cl, L.rs, hs_rs .., q, us, rfl, .inr hq.sq, _, _, rfl, rfl, ?_⟩
      unfold hasRow at k
      rw [decide_eq_true i0, Bool.true_and, ← rl.1] at k
      exact k
    · rw [decide_eq_false i0]
      refine iteF ?_
      unfold hasRow at k
      rw [decide_eq_false i0, Bool.false_and] at k
      exact k
end
end V3

set_option Elab.async false
set_option linter.all false
set_option maxRecDepth 100000
namespace V3
open PySem L2 TL
abbrev sHsStr : Stmt := inClass (top 20) 11
abbrev sHsEq : Stmt := inClass (top 20) 10
abbrev sPlaced : Stmt := inClass (top 20) 2
/-! houses: their texts, ==, the place that a house tells -/
def nlS : Str := "\n"
def Hs.lines (h : Hs) : List Str := (Str.empty ++ "depth " ++ num h.d) :: (Str.empty ++ "check " ++ h.ch) :: h.rs.map Rw.text
def Hs.text (h : Hs) : Str := Str.join nlS h.lines
theorem lt_len {m : Rw} (ok : m.ok) (kd : m.kind = 0) : m.text.length ≤ 27 := by
  cases m with
  | ct k w o => cases kd
  | lt k s d p =>
    have l : ∀ z ∈ (Rw.lt k s d p).words, z.length ≤ 6 := fun z hz => (word_ok ok z hz).2
    simp only [Rw.words, List.mem_cons, List.not_mem_nil, or_false, forall_eq_or_imp, forall_eq] at l
    obtain ⟨l1, l2, l3, l4⟩ := l
    have l0 : (Str.empty).length = 0 := rfl
    have lb : (" " : Str).length = 1 := by decide +kernel
    rw [← let_text]
    simp only [app_len]
    omega
theorem num_dep {d : Int} (a : 0 ≤ d) (b : d ≤ 4) : (num d).length = 1 := by
  have h : d = 0 ∨ d = 1 ∨ d = 2 ∨ d = 3 ∨ d = 4 := by omega
  rcases h with rfl | rfl | rfl | rfl | rfl <;> decide +kernel
theorem ch_len {z : Str} (h : z ∈ checkL) : z.length ≤ 4 := by
  have q : ∀ z ∈ checkL, z.length ≤ 4 := by decide +kernel
  exact q z h
theorem sum_le {n : Nat} : ∀ l : List Str, (∀ z ∈ l, z.length ≤ n) → (l.map (·.length)).sum ≤ n * l.length
  | [], _ => by simp
  | a :: r, h => by
    have h1 := h a (by simp)
    have h2 := sum_le r fun z hz => h z (by simp [hz])
    simp only [List.map_cons, List.sum_cons, List.length_cons]
    have e : n * (r.length + 1) = n * r.length + n := by rw [Nat.mul_add, Nat.mul_one]
    omega
theorem lines_len {h : Hs} (ok : h.ok) : ∀ z ∈ h.lines, z.length ≤ 30 := by
  obtain ⟨d0, d4, hc, hm, hn⟩ := ok
  intro z hz
  have e1 : ("depth " : Str).length = 6 := by decide +kernel
  have e2 : ("check " : Str).length = 6 := by decide +kernel
  have l0 : (Str.empty).length = 0 := rfl
  simp only [Hs.lines, List.mem_cons, List.mem_map] at hz
  rcases hz with rfl | rfl | ⟨m, mm, rfl⟩
  · have := num_dep d0 d4
    simp only [app_len]
    omega
  · have := ch_len hc
    simp only [app_len]
    omega
  · have := lt_len (hm m mm).1 (hm m mm).2
    omega
theorem lines_n {h : Hs} (ok : h.ok) : h.lines.length ≤ 102 := by
  have := ok.2.2.2.2
  simp only [Hs.lines, List.length_cons, List.length_map]
  omega
def spHsStr (K : PySem.W.Frag) (c : Rc) (C : Addr) : Sp := fun vs H Q _ => ∃ (v : V) (h : Hs), vs = [v] ∧ HsAt K c C H v h ∧ h.ok ∧ ∀ H', Same H H' → Q (.str h.text) H'
structure StrH (P : Program) (w : World) (K : PySem.W.Frag) (mg : Str → Option Value) (base : Heap) (c : Rc) : Prop where
  s : ∃ (f : Addr) (fd : FuncData), FnOk P w K mg base CX0 1 f fd ["self"] (spRS c 0) ∧ PySem.W.findIn K (.ref c.L) "__str__" = some (some (.ref f)) ∧ PySem.W.isFn K (.ref f) = true ∧ Binds K fd ["self"] []
def rStrH (c : Rc) : List V → Hp → VK → Prop := fun xs H Q => ∃ v m, xs = [v] ∧ RwAt c H v m ∧ m.ok ∧ m.kind = 0 ∧ Q (.str m.text) H
theorem call_strH {X : Cx} {c : Rc} (T : StrH X.prog X.w X.K X.mg X.base c) (room : Room 3 X.A) : CallR X (.type "str") (rStrH c) := by
  intro pins s σ H xs us Q I r h
  obtain ⟨v, m, rfl, ⟨x, dx, rfl, hx⟩, ok, kd, q⟩ := h
  obtain ⟨f, fd, G, at_, isf, bi⟩ := T.s
  have hx2 : H x = some (.ins c.L dx m.fs) := by
    rw [hx]
    show some (HO.ins (c.at m.kind) dx m.fs) = _
    rw [kd]
    rfl
  refine call_strO (E := fun _ _ _ => False) G at_ isf bi pass0 room pins s σ H _ us Q I r ⟨x, dx, m.fs, rfl, hx2, x, dx, m, rfl, hx, kd, ok, _, rfl, q⟩
theorem take_nxt {α : Type} {l : List α} {i : Nat} {x : α} (h : l[i]? = some x) : l.take (i + 1) = l.take i ++ [x] := by
  rw [List.take_add_one, h]
  rfl
/-- the first fitting row's place -/
def placeIn (k s d : Str) : List Rw → Option Str
  | [] => none
  | .lt k' s' d' p :: r => if k' = k ∧ s' = s ∧ d' = d then some p else placeIn k s d r
  | .ct _ _ _ :: r => placeIn k s d r
def optV : Option Str → V
  | some p => .str p
  | none => .non
def spPlaced (K : PySem.W.Frag) (c : Rc) (C : Addr) : Sp := fun vs H Q _ => ∃ (v : V) (h : Hs) (k s d : Str), vs = [v, .str k, .str s, .str d] ∧ HsAt K c C H v h ∧ h.ok ∧ k ∈ kindL ∧ s ∈ stateL ∧ d ∈ deedL ∧ ∀ H', Same H H' → Q (optV (placeIn k s d h.rs)) H'
theorem word_lay : ∀ z ∈ kindL ++ stateL ++ deedL ++ placeL, PyData.canLay0 (.str z) = true := by decide +kernel
theorem lay_k {z : Str} (h : z ∈ kindL) : PyData.canLay0 (.str z) = true := word_lay z (by simp [h])
theorem lay_s {z : Str} (h : z ∈ stateL) : PyData.canLay0 (.str z) = true := word_lay z (by simp [h])
theorem lay_d {z : Str} (h : z ∈ deedL) : PyData.canLay0 (.str z) = true := word_lay z (by simp [h])
theorem tri_shaped {a b c : Str} (ha : a ∈ kindL) (hb : b ∈ stateL) (hc : c ∈ deedL) : SeqAt.shaped (.tuple [.str a, .str b, .str c]) = true := by
  have kt : ∀ xs : List PyData, PyData.canLay0 (.tuple xs) = PyData.canLayAll0 xs := fun xs => by simp [PyData.canLay0]
  simp [SeqAt.shaped, kt, PyData.canLayAll0, lay_k ha, lay_s hb, lay_d hc, PyData.depth, PyData.depthAll]
theorem str_beq (a b : Str) : (a == b) = decide (a = b) := by
  by_cases h : a = b
  · rw [decide_eq_true h, h]
    simp
  · rw [decide_eq_false h]
    simpa using h
theorem tri_eqv (a b c a' b' c' : Str) : PyData.eqv (.tuple [.str a, .str b, .str c]) (.tuple [.str a', .str b', .str c']) = decide (a = a' ∧ b = b' ∧ c = c') := by
  simp [PyData.eqv, PyData.eqvAll, str_beq, Bool.decide_and]
/-- the two notes of a House object's own str and == -/
structure HsStr (P : Program) (w : World) (K : PySem.W.Frag) (mg : Str → Option Value) (base : Heap) (c : Rc) (C : Addr) : Prop where
  s : ∃ (f : Addr) (fd : FuncData), FnOk P w K mg base CX0 4 f fd ["self"] (spHsStr K c C) ∧ PySem.W.findIn K (.ref C) "__str__" = some (some (.ref f)) ∧ PySem.W.isFn K (.ref f) = true ∧ Binds K fd ["self"] []
def rStrK (K : PySem.W.Frag) (c : Rc) (C : Addr) : List V → Hp → VK → Prop := fun xs H Q => ∃ v h, xs = [v] ∧ HsAt K c C H v h ∧ h.ok ∧ ∀ H', Same H H' → Q (.str h.text) H'
theorem call_strK {X : Cx} {c : Rc} {C : Addr} (T : HsStr X.prog X.w X.K X.mg X.base c C) (room : Room 6 X.A) : CallR X (.type "str") (rStrK X.K c C) := by
  intro pins s σ H xs us Q I r h
  obtain ⟨v, h, rfl, a, ok, q⟩ := h
  obtain ⟨f, fd, G, at_, isf, bi⟩ := T.s
  obtain ⟨x, dx, q1, us1, rfl, hx, hq, rl⟩ := id a
  exact call_strO (E := fun _ _ _ => False) G at_ isf bi pass0 room pins s σ H _ us Q I r ⟨x, dx, _, rfl, hx, _, h, rfl, a, ok, fun H' sm => ⟨_, rfl, q H' sm⟩⟩
/-- what House's class must be to isinstance -/
structure HsI (K : PySem.W.Frag) (C : Addr) : Prop where
  cl : Cls K C
  ca : PySem.W.findIn K (.ref C) "__class__" = some (some (.builtin "object.__class__"))
  mr : PySem.W.mroIn K C (.type "object") = some true
  gn : PySem.W.specialIn K (.builtin "object.__class__") "__get__" = some (some (.builtin "getset_descriptor.__get__"))
  tk : PySem.W.takesIn K (.builtin "object.__class__") = some true
  ki : PySem.W.kitOne K (.ref C) (.ref C) = some true
def spHsEq (K : PySem.W.Frag) (c : Rc) (C : Addr) : Sp := fun vs H Q _ => ∃ (u v : V) (h g : Hs), vs = [u, v] ∧ HsAt K c C H u h ∧ HsAt K c C H v g ∧ h.ok ∧ g.ok ∧ ∀ H', Same H H' → Q (.bl (decide (h.text = g.text))) H'
section
variable {P : Program} {w : World} {K : PySem.W.Frag} {mg : Str → Option Value} {base : Heap}
theorem scHsStr : FnScope ["self", "row"] ["self"] (defScope sHsStr) := ⟨rfl, rfl, rfl, by decide +kernel, rfl, by decide +kernel, by decide +kernel⟩
theorem scHsEq : FnScope ["self", "other"] ["self", "other"] (defScope sHsEq) := ⟨rfl, rfl, rfl, by decide +kernel, rfl, by decide +kernel, by decide +kernel⟩
theorem scPlaced : FnScope ["self", "kind", "state", "deed", "row"] ["self", "kind", "state", "deed"] (defScope sPlaced) := ⟨rfl, rfl, rfl, by decide +kernel, rfl, by decide +kernel, by decide +kernel⟩
theorem ok_hsStr {f C : Addr} {c : Rc} {fd : FuncData} (F : Fun K "__str__" "House.__str__" sHsStr f fd) (T : BltK mg) (S : StrH P w K mg base c) (L : HsC K C) : FnOk P w K mg base CX0 4 f fd ["self"] (spHsStr K c C) := by
  refine F.ok scHsStr (fun vs H Q E h => ?_) (fun cdv A outer s H vs Q E hr h => ?_)
  · obtain ⟨v, h, rfl, _⟩ := h
    rfl
  · obtain ⟨v, h, rfl, ⟨x, dx, q, us, rfl, hx, hq, rl⟩, ok, k⟩ := h
    have lall := lines_len ok
    have ln := lines_n ok
    obtain ⟨d0, d4, hc, hm, hn⟩ := id ok
    have e1 : ("depth " : Str).length = 6 := by decide +kernel
    have e2 : ("check " : Str).length = 6 := by decide +kernel
    have l0 : (Str.empty).length = 0 := rfl
    have l1 := num_dep d0 d4
    have l2 := ch_len hc
    refine ⟨_, pss_one (ps_ret (pe_joinK pe_str (pe_lst (pa_cons (pe_joined (.cons pe_str (.cons (pe_fmt (pe_fld (pv 0) rfl)) .nil))) (pa_cons (pe_joined (.cons pe_str (.cons (pe_fmt (pe_fld (pv 0) rfl)) .nil)))
      (StX.pa_star (pe_lc (own := [("row", 1)]) (g := gName 1) (tt := tYes) (te := tCB (rStrH c) (tCons (tVar 1) tNil)) (by rfl) scHsStr.nd (pi_tup (pe_fld (pv 0) rfl)) (blkOk_by (own := [("row", 1)]) (N := ["self", "row"]) (sc := defScope sHsStr) (by decide +kernel)) (fun _ _ _ _ _ => pg_name (i := 1) scHsStr.nd rfl (Or.inl rfl)) (fun _ _ _ _ _ => pts_nil)
          (fun _ _ _ _ _ => pe_callTy (call_strH S hr) (by rfl) T.str (by decide +kernel) (pa_cons (pv 1) pa_nil))) pa_nil)))))), ?_⟩
    have am : Am h.d := by
      have z : h.d = 0 ∨ h.d = 1 ∨ h.d = 2 ∨ h.d = 3 ∨ h.d = 4 := by omega
      rcases z with z | z | z | z | z <;> (rw [z]; unfold Am; decide)
    refine ⟨⟨_, rfl⟩, _, rfl, small (by rw [app_len]; omega), ?_⟩
    refine ⟨_, rfl, x, C, dx, _, _, rfl, hx, L.cl, L.d, hs_d .., .inr ⟨h.d, rfl, am_log am, num h.d, rfl, small (by simp only [app_len]; omega), ?_⟩⟩
    refine ⟨_, rfl, small (by rw [app_len]; omega), ?_⟩
    refine ⟨_, rfl, x, C, dx, _, _, rfl, hx, L.cl, L.ch, hs_ch .., .inl ⟨h.ch, rfl, small (by omega), _, rfl, small (by simp only [app_len]; omega), ?_⟩⟩
    refine ⟨_, rfl, x, C, dx, _, _, rfl, hx, L.cl, L.rs, hs_rs .., q, rfl, ⟨us, hq.sq⟩, fun D nD => ?_⟩
    have lx : us.length = h.rs.length := rl.1
    refine lc_tup (K := K) (a := q) (xs := us) (fun i Hh => Same H Hh ∧ H D = none ∧ Hh D = some (.lst (((h.rs.take i).map Rw.text).map V.str))) ⟨Same.new nD, nD, upd_same⟩ (fun i Hh _ p => (hq.same p.1).sq) ?_ ?_
    · intro i z Hh hi p
      have il : i < us.length := (List.getElem?_eq_some_iff.mp hi).1
      obtain ⟨m, em, mz⟩ := Ls.get rl hi
      obtain ⟨mo, mk⟩ := hm m (List.mem_of_getElem? em)
      refine ⟨rfl, ?_⟩
      unfold tYes
      dsimp only
      refine iteT ⟨_, rfl, z, m, rfl, mz.same p.1, mo, mk, _, p.2.2, ?_, fun d o e => ?_, p.2.1, ?_⟩
      · rw [List.length_map, List.length_map, List.length_take]
        exact Nat.lt_of_lt_of_le (m := 1001) (by omega) (by decide)
      · rw [upd_ne (ne_of_none e p.2.1)]
        exact p.1 d o e
      · rw [upd_same, take_nxt em, List.map_append, List.map_append]
        rfl
    · intro Hh p
      obtain ⟨s2, _, e⟩ := p
      rw [lx, List.take_length] at e
      refine ⟨D, _, rfl, .inr (SqL.of e), ?_, fun t nt => ?_⟩
      · simp only [List.append_nil, List.length_cons, List.length_map]
        exact Nat.le_trans (m := 1001) (by omega) (by decide)
      refine ⟨_, t, h.lines, rfl, rfl, .inl (SqL.of ?_), ?_, ?_⟩
      · rw [upd_same, List.append_nil]
        rfl
      · have z := sum_le h.lines lall
        have e3 : ("\n" : Str).length = 1 := by decide +kernel
        rw [e3]
        omega
      · rw [join_eq]
        exact k _ (s2.trans (Same.new nt))
theorem ok_hsEq {f C : Addr} {c : Rc} {fd : FuncData} (F : Fun K "__eq__" "House.__eq__" sHsEq f fd) (T : BltK mg) (S : HsStr P w K mg base c C) (I : HsI K C) (gH : mg "House" = some (.ref C)) : FnOk P w K mg base CX0 7 f fd ["self", "other"] (spHsEq K c C) := by
  refine F.ok scHsEq (fun vs H Q E h => ?_) (fun cdv A outer s H vs Q E hr h => ?_)
  · obtain ⟨u, v, h, g, rfl, _⟩ := h
    rfl
  · obtain ⟨u, v, h, g, rfl, hu, hv, ho, go, k⟩ := h
    obtain ⟨y, dy, q2, us2, rfl, hy, hq2, rl2⟩ := id hv
    refine ⟨_, pss_one (ps_ret (pe_and (pe_callB call_isi (by rfl) T.isi (by decide +kernel) (pa_cons (pv 1) (pa_cons (pe_glob (v := .ref C) rfl gH rfl) pa_nil)))
      (pe_one (pe_cmpR op_eq (pe_callTy (call_strK S hr) (by rfl) T.str (by decide +kernel) (pa_cons (pv 0) pa_nil)) (pe_callTy (call_strK S hr) (by rfl) T.str (by decide +kernel) (pa_cons (pv 1) pa_nil)) (nomark _))))), ?_⟩
    refine ⟨_, rfl, _, _, _, _, _, rfl, .own C, .base (.ins hy I.cl I.ca I.gn I.tk I.mr), I.ki, _, rfl, iteT ?_⟩
    refine ⟨_, rfl, u, h, rfl, hu, ho, fun H1 s1 => ⟨_, rfl, _, g, rfl, hv.same s1, go, fun H2 s2 => ⟨rfl, ?_⟩⟩⟩
    have e : decide (V.str h.text = V.str g.text) = decide (h.text = g.text) := by
      by_cases z : h.text = g.text
      · rw [z, decide_eq_true rfl, decide_eq_true rfl]
      · rw [decide_eq_false z, decide_eq_false (fun y => z (by injection y))]
    rw [e]
    exact k _ (s1.trans s2)
theorem ok_placed {f C : Addr} {c : Rc} {fd : FuncData} (F : Fun K "placed" "House.placed" sPlaced f fd) (L : HsC K C) (R : LetC K c) : FnOk P w K mg base CX0 2 f fd ["self", "kind", "state", "deed"] (spPlaced K c C) := by
  refine F.ok scPlaced (fun vs H Q E h => ?_) (fun cdv A outer s H vs Q E hr h => ?_)
  · obtain ⟨v, h, k, s, d, rfl, _⟩ := h
    rfl
  · obtain ⟨v, h, kd, st, de, rfl, ⟨x, dx, q, us, rfl, hx, hq, rl⟩, ok, hk, hs, hd, k⟩ := h
    obtain ⟨d0, d4, hc, hm, hn⟩ := id ok
    refine ⟨_, pss_cons (ps_for PassesOwn.never rfl (pi_tup (pe_fld (pv 0) rfl)) (pg_name (i := 4) scPlaced.nd rfl (Or.inl rfl))
      (pss_one (ps_if (pt_cmpR (op_eqD hr.units) (pe_tup (pa_cons (pe_fld (pv 4) rfl) (pa_cons (pe_fld (pv 4) rfl) (pa_cons (pe_fld (pv 4) rfl) pa_nil)))) (pe_tup (pa_cons (pv 1) (pa_cons (pv 2) (pa_cons (pv 3) pa_nil)))) (nomark _)) (pss_one (ps_ret (pe_fld (pv 4) rfl))) pss_nil)))
      (pss_one (ps_ret pe_non)), ?_⟩
    refine ⟨_, rfl, x, C, dx, _, _, rfl, hx, L.cl, L.rs, hs_rs .., q, rfl, ⟨us, hq.sq⟩, ?_⟩
    refine for_tup (K := K) (a := q) (xs := us) (fun i σ H' => (∃ o, σ = [some (.ref x), some (.str kd), some (.str st), some (.str de), o]) ∧ Same H H' ∧ placeIn kd st de h.rs = placeIn kd st de (h.rs.drop i)) ?_ ?_ ?_ ?_
    · exact ⟨⟨_, rfl⟩, Same.refl H, rfl⟩
    · rintro i σ H' _ ⟨_, s1, _⟩
      exact (hq.same s1).sq
    · rintro i z σ H' hi ⟨⟨o, rfl⟩, s1, pl⟩
      obtain ⟨m, em, mz⟩ := Ls.get rl hi
      obtain ⟨mo, mk⟩ := hm m (List.mem_of_getElem? em)
      have il : i < h.rs.length := (List.getElem?_eq_some_iff.mp em).1
      have dr : h.rs.drop i = m :: h.rs.drop (i + 1) := by
        rw [List.drop_eq_getElem_cons il]
        have z := (List.getElem?_eq_some_iff.mp em).2
        rw [z]
      cases m with
      | ct _ _ _ => cases mk
      | lt k' s' d' p' =>
        obtain ⟨y, dy, rfl, hy0⟩ := mz.same s1
        have hy : H' y = some (.ins c.L dy (letF (.str k') (.str s') (.str d') (.str p'))) := hy0
        obtain ⟨k1, k2, k3, k4, _⟩ := id mo
        refine ⟨_, rfl, y, c.L, dy, _, _, rfl, hy, R.cl, R.k, let_kind .., _, rfl, y, c.L, dy, _, _, rfl, hy, R.cl, R.s, let_state .., _, rfl, y, c.L, dy, _, _, rfl, hy, R.cl, R.d, let_deed .., (by show 3 ≤ sizeLine; decide), fun t1 n1 => ?_⟩
        have s2 : Same H' (upd H' t1 (.tup [.str k', .str s', .str d'])) := Same.new n1
        have ht1 : upd H' t1 (.tup [.str k', .str s', .str d']) t1 = some (.tup [.str k', .str s', .str d']) := upd_same
        dsimp only [tNil]
        generalize upd H' t1 (.tup [.str k', .str s', .str d']) = H1 at s2 ht1 ⊢
        refine ⟨_, rfl, _, rfl, _, rfl, (by show 3 ≤ sizeLine; decide), fun t2 n2 => ?_⟩
        have s3 : Same H1 (upd H1 t2 (.tup [.str kd, .str st, .str de])) := Same.new n2
        have ht2 : upd H1 t2 (.tup [.str kd, .str st, .str de]) t2 = some (.tup [.str kd, .str st, .str de]) := upd_same
        dsimp only [tNil]
        generalize upd H1 t2 (.tup [.str kd, .str st, .str de]) = H2 at s3 ht2 ⊢
        have S := (s1.trans s2).trans s3
        refine ⟨.tuple [.str k', .str s', .str d'], .tuple [.str kd, .str st, .str de], .tup (SqT.of (s3 _ _ ht1)) (.cons (.str _) (.cons (.str _) (.cons (.str _) .nil))), .tup (SqT.of ht2) (.cons (.str _) (.cons (.str _) (.cons (.str _) .nil))), tri_shaped k1 k2 k3, tri_shaped hk hs hd, _, rfl, ?_⟩
        rw [tri_eqv]
        rw [dr, show placeIn kd st de (Rw.lt k' s' d' p' :: h.rs.drop (i + 1)) = if k' = kd ∧ s' = st ∧ d' = de then some p' else placeIn kd st de (h.rs.drop (i + 1)) from rfl] at pl
        by_cases e : k' = kd ∧ s' = st ∧ d' = de
        · rw [decide_eq_true e]
          rw [if_pos e] at pl
          refine iteT ⟨_, rfl, y, c.L, dy, _, _, rfl, (s2.trans s3) _ _ hy, R.cl, R.p, let_place .., ?_⟩
          have z := k _ S
          have pl2 : placeIn kd st de h.rs = some p' := pl
          rw [pl2] at z
          exact z
        · rw [decide_eq_false e]
          rw [if_neg e] at pl
          exact iteF ⟨⟨_, rfl⟩, S, pl⟩
    · rintro σ H' ⟨⟨o, rfl⟩, s1, pl⟩
      have z := k _ s1
      rw [rl.1, List.drop_length] at pl
      rw [pl] at z
      exact z
end
end V3

set_option Elab.async false
set_option linter.all false
set_option maxRecDepth 100000
namespace V3
open PySem L2 TL
abbrev sNrInit : Stmt := inClass (top 10) 0
/-! NoRow; a house without some rows -/
def spIX (C : Addr) : Sp := fun vs H Q _ => ∃ (a : Addr) (y : V), vs = [.ref a, y] ∧ H a = some (exo a C none) ∧
  ∀ d, H d = none → d ≠ a → Q .non (upd (upd H d (exd d [("at", y)])) a (exo a C (some d)))
structure NrTxt (P : Program) (w : World) (K : PySem.W.Frag) (mg : Str → Option Value) (base : Heap) (C : Addr) : Prop where
  g : mg "NoRow" = some (.ref C)
  o : OexI K C
  no : PySem.W.findIn K (.ref C) "at" = some none
  ini : ∃ (f : Addr) (fd : FuncData), FnOk P w K mg base CX0 1 f fd ["self", "at"] (spIX C) ∧ PySem.W.findIn K (.ref C) "__init__" = some (some (.ref f)) ∧ PySem.W.typeIn K (.ref f) = some (.type "function") ∧ Binds K fd ["self", "at"] []
/-- behind a raise: an error with the number, all else as it was -/
def ErI (C : Addr) (H : Hp) (E : XK) (i : Int) : Prop := ∀ (d : Addr) (H' : Hp), Same H H' → H' d = some (.xd [("at", .int i)]) → E (.ref C) (some d) H'
theorem raise_sameI {H : Hp} {a d : Addr} {o1 o2 o3 o4 : HO} (na : H a = none) (nd : upd H a o1 d = none) (ne : d ≠ a) : Same H (upd (del (upd (upd (upd H a o1) d o2) a o3) a) d o4) := by
  intro b o e
  have ba : b ≠ a := ne_of_none e na
  have hd : H d = none := by
    rw [upd_ne ne] at nd
    exact nd
  have bd : b ≠ d := ne_of_none e hd
  rw [upd_ne bd, del_ne ba, upd_ne ba, upd_ne bd, upd_ne ba]
  exact e
theorem er_readI {C : Addr} {H : Hp} {E : XK} {i : Int} (h : ErI C H E i) : ∀ a, H a = none → spIX C (.ref a :: ([V.int i] ++ [])) (upd H a (exo a C none))
    (fun v H2 => v = .non ∧ ∃ (d : Addr) (fs : List (Str × V)), H2 a = some (exo a C (some d)) ∧ H2 d = some (exd d fs) ∧ H d = none ∧ E (.ref C) (some d) (upd (del H2 a) d (.xd fs))) (fun _ _ _ => False) := by
  intro a na
  refine ⟨a, _, rfl, upd_same, fun d nd ne => ⟨rfl, d, [("at", .int i)], upd_same, ?_, ?_, ?_⟩⟩
  · rw [upd_ne ne]
    exact upd_same
  · rw [upd_ne ne] at nd
    exact nd
  · exact h d _ (raise_sameI na nd ne) upd_same
/-- the rows whose numbers, from j on, are none of these -/
def keepFrom (ns : List Int) : Nat → List Rw → List Rw
  | _, [] => []
  | j, m :: r => if ((j : Nat) : Int) ∈ ns then keepFrom ns (j + 1) r else m :: keepFrom ns (j + 1) r
theorem keep_snoc (ns : List Int) (m : Rw) : ∀ (l : List Rw) (j : Nat), keepFrom ns j (l ++ [m]) = keepFrom ns j l ++ (if ((j + l.length : Nat) : Int) ∈ ns then [] else [m])
  | [], j => by
    show (if ((j : Nat) : Int) ∈ ns then keepFrom ns (j + 1) [] else m :: keepFrom ns (j + 1) []) = [] ++ (if ((j + 0 : Nat) : Int) ∈ ns then [] else [m])
    rfl
  | a :: l, j => by
    have ih := keep_snoc ns m l (j + 1)
    have e : j + 1 + l.length = j + (a :: l).length := by
      rw [List.length_cons]
      omega
    rw [e] at ih
    show (if ((j : Nat) : Int) ∈ ns then keepFrom ns (j + 1) (l ++ [m]) else a :: keepFrom ns (j + 1) (l ++ [m])) = (if ((j : Nat) : Int) ∈ ns then keepFrom ns (j + 1) l else a :: keepFrom ns (j + 1) l) ++ _
    by_cases h : ((j : Nat) : Int) ∈ ns
    · rw [if_pos h, if_pos h, ih]
    · rw [if_neg h, if_neg h, ih, List.cons_append]
theorem keep_sub (ns : List Int) : ∀ (l : List Rw) (j : Nat), (keepFrom ns j l).length ≤ l.length ∧ ∀ m ∈ keepFrom ns j l, m ∈ l
  | [], _ => ⟨Nat.le_refl _, fun m h => by cases h⟩
  | a :: l, j => by
    obtain ⟨h1, h2⟩ := keep_sub ns l (j + 1)
    show (if ((j : Nat) : Int) ∈ ns then keepFrom ns (j + 1) l else a :: keepFrom ns (j + 1) l).length ≤ _ ∧ ∀ m ∈ (if ((j : Nat) : Int) ∈ ns then keepFrom ns (j + 1) l else a :: keepFrom ns (j + 1) l), _
    by_cases h : ((j : Nat) : Int) ∈ ns
    · rw [if_pos h]
      exact ⟨by rw [List.length_cons]; omega, fun m z => List.mem_cons_of_mem _ (h2 m z)⟩
    · rw [if_neg h]
      refine ⟨by simp only [List.length_cons]; omega, fun m z => ?_⟩
      rcases List.mem_cons.mp z with z | z
      · rw [z]
        exact List.mem_cons_self
      · exact List.mem_cons_of_mem _ (h2 m z)
def Hs.less (h : Hs) (ns : List Int) : Hs := ⟨h.d, h.ch, keepFrom ns 0 h.rs⟩
theorem less_ok {h : Hs} (ok : h.ok) (ns : List Int) : (h.less ns).ok := by
  obtain ⟨d0, d4, hc, hm, hn⟩ := ok
  obtain ⟨h1, h2⟩ := keep_sub ns h.rs 0
  exact ⟨d0, d4, hc, fun m z => hm m (h2 m z), Nat.le_trans h1 hn⟩
def badRow (h : Hs) (ns : List Int) : Option Int := ns.find? fun i => !hasRow h i
def NumsAt (K : PySem.W.Frag) (H : Hp) (p : Addr) (ns : List Int) : Prop := SqL K H p (ns.map V.int) ∨ SqT K H p (ns.map V.int)
/-- a list or a tuple of whole numbers that stays -/
def NumsIn (H : Hp) (p : Addr) (ns : List Int) : Prop := H p = some (.lst (ns.map V.int)) ∨ H p = some (.tup (ns.map V.int))
theorem NumsIn.same {H H' : Hp} {p : Addr} {ns : List Int} (h : NumsIn H p ns) (s : Same H H') : NumsIn H' p ns := h.elim (fun z => .inl (s _ _ z)) (fun z => .inr (s _ _ z))
theorem NumsIn.sq {K : PySem.W.Frag} {H : Hp} {p : Addr} {ns : List Int} (h : NumsIn H p ns) : SqL K H p (ns.map V.int) ∨ SqT K H p (ns.map V.int) := h.elim (fun z => .inl (SqL.of z)) (fun z => .inr (SqT.of z))
def spWithout (K : PySem.W.Frag) (c : Rc) (C CN : Addr) : Sp := fun vs H Q E => ∃ (v : V) (p : Addr) (h : Hs) (ns : List Int), vs = [v, .ref p] ∧ HsAt K c C H v h ∧ h.ok ∧ NumsIn H p ns ∧
  (badRow h ns = none → ∀ w H', Same H H' → HsAt K c C H' w (h.less ns) → Q w H') ∧ ∀ i, badRow h ns = some i → ErI CN H E i
theorem flat_intsH (L : List Int) : (L.map V.int).all flatV = true := by
  induction L with
  | nil => rfl
  | cons a r ih => simpa [flatV] using ih
theorem inV_int {i : Int} {L : List Int} : inV (.int i) (L.map V.int) = decide (i ∈ L) := by
  induction L with
  | nil => rfl
  | cons a r ih =>
    have e : inV (.int i) ((a :: r).map V.int) = (a == i || inV (.int i) (r.map V.int)) := rfl
    rw [e, ih]
    by_cases q : i = a
    · subst q
      simp
    · have z : (a == i) = false := Bool.eq_false_iff.mpr fun w => q (eq_of_beq w).symm
      rw [z]
      simp [q]
/-- House, how it is made -/
structure MkH (P : Program) (w : World) (K : PySem.W.Frag) (mg : Str → Option Value) (base : Heap) (c : Rc) (C : Addr) : Prop where
  g : mg "House" = some (.ref C)
  ini : ∃ (f : Addr) (fd : FuncData), FnOk P w K mg base CX0 4 f fd ["self", "depth", "check", "rows"] (spHsInit K c C) ∧ Mk K C f ∧ Binds K fd ["self", "depth", "check", "rows"] []
theorem mk_house {K : PySem.W.Frag} {c : Rc} {C x dx l : Addr} {H : Hp} {us : List V} {h : Hs} {R : VK} {E : XK} (hl : H l = some (.lst us)) (rl : RwLs c H us h.rs) (ok : h.ok) (nx : H x = none) (ndx : H dx = none) (q : ∀ H', Same H H' → HsAt K c C H' (.ref x) h → R .non H') :
    spHsInit K c C [.ref x, .int h.d, .str h.ch, .ref l] (upd (upd H dx (.own x)) x (.ins C dx [])) R E := by
  have s0 : Same H (upd (upd H dx (.own x)) x (.ins C dx [])) := made_same nx ndx
  exact ⟨x, dx, l, us, h, rfl, upd_same, s0 _ _ hl, rl.same s0, ok, fun H' s' a => q H' (fun b o e => s' b o (ne_of_none e nx) (s0 b o e)) a⟩
section
variable {P : Program} {w : World} {K : PySem.W.Frag} {mg : Str → Option Value} {base : Heap}
theorem scNrInit : FnScope ["self", "at"] ["self", "at"] (defScope sNrInit) := ⟨rfl, rfl, rfl, by decide +kernel, rfl, by decide +kernel, by decide +kernel⟩
theorem ok_nrInit {f C : Addr} {fd : FuncData} (F : Fun K "__init__" "NoRow.__init__" sNrInit f fd) (o : OexI K C) (no : PySem.W.findIn K (.ref C) "at" = some none) : FnOk P w K mg base CX0 1 f fd ["self", "at"] (spIX C) := by
  refine F.ok scNrInit (fun vs H Q E h => ?_) (fun cdv A outer s H vs Q E hr h => ?_)
  · obtain ⟨a, y, rfl, _⟩ := h
    rfl
  · obtain ⟨a, y, rfl, ha, q⟩ := h
    exact ⟨_, pss_one (ps_ostI (pv 0) (pv 1)), _, rfl, _, rfl, a, C, rfl, o, no, ha, fun dx h1 h2 => q dx h1 h2⟩
end
end V3

set_option Elab.async false
set_option linter.all false
set_option maxRecDepth 100000
namespace V3
open PySem L2 TL
-- no sHouse
-- no sHouseText
/-! the law's own houses: depth, check, rows in a tuple -/
def HtAt (H : Hp) (v : V) (h : Hs) : Prop := ∃ p q us, v = .ref p ∧ H p = some (.tup [.int h.d, .str h.ch, .ref q]) ∧ H q = some (.tup us) ∧ RowLs 0 H us h.rs
theorem HtAt.keep {H H' : Hp} {v : V} {h : Hs} (a : HtAt H v h) (s : Keep H H') : HtAt H' v h := by
  obtain ⟨p, q, us, e, hp, hq, rl⟩ := a
  exact ⟨p, q, us, e, s _ _ (fun _ z => by cases z) hp, s _ _ (fun _ z => by cases z) hq, rl.keep s⟩
theorem HtAt.same {H H' : Hp} {v : V} {h : Hs} (a : HtAt H v h) (s : Same H H') : HtAt H' v h := a.keep (Keep.of s)
theorem Keep.preb {H H' : Hp} {b : Addr} {u v : Int} (hb : H b = some (box u v)) (s : Pre b H H') : Keep H H' := Keep.pre hb s.1
theorem emp_app (a : Str) : Str.empty ++ a = a := ext_tl (by
  rw [tl_append]
  simp [Str.empty, tl])
def spHouse : Sp := fun vs H Q _ => ∃ (b : Addr) (u v n : Int), vs = [.ref b, .int n] ∧ H b = some (box u v) ∧ BoxOk u v ∧ 1 ≤ n ∧ n ≤ 99 ∧ ∀ (x : V) (h : Hs) (H' : Hp), Pre b H H' → HtAt H' x h → h.ok → (h.rs.length : Int) ≤ n → Q x H'
def spHouseText : Sp := fun vs H Q _ => ∃ (v : V) (h : Hs), vs = [v] ∧ HtAt H v h ∧ h.ok ∧ ∀ H', Same H H' → Q (.str h.text) H'
def spPlace : Sp := fun vs H Q _ => ∃ (v : V) (h : Hs) (k s d : Str), vs = [v, .str k, .str s, .str d] ∧ HtAt H v h ∧ h.ok ∧ k ∈ kindL ∧ s ∈ stateL ∧ d ∈ deedL ∧ ∀ H', Same H H' → Q (.str ((placeIn k s d h.rs).getD Str.empty)) H'
def spHouseOf (K : PySem.W.Frag) (c : Rc) (C : Addr) : Sp := fun vs H Q _ => ∃ (v : V) (h : Hs), vs = [v] ∧ HtAt H v h ∧ h.ok ∧ ∀ (x : V) (H' : Hp), Same H H' → HsAt K c C H' x h → Q x H'
abbrev CalCho (P : Program) (w : World) (K : PySem.W.Frag) (mg : Str → Option Value) (base : Heap) : Prop := Cal P w K mg base CX0 "_law_choose" 1 ["_law_box", "_law_many"] spChoose
abbrev CalRws (P : Program) (w : World) (K : PySem.W.Frag) (mg : Str → Option Value) (base : Heap) : Prop := Cal P w K mg base CX0 "_law_rows" 3 ["_law_box", "_law_many"] spRows
section
variable {P : Program} {w : World} {K : PySem.W.Frag} {mg : Str → Option Value} {base : Heap}
end
end V3

set_option Elab.async false
set_option linter.all false
set_option maxRecDepth 100000
namespace V3
open PySem L2 TL
/-! House of a tuple of rows, tracked or written -/
def TupW (K : PySem.W.Frag) (H : Hp) (q : Addr) (us : List V) : Prop := H q = some (.tup us) ∨ ((∃ o, K.lookup q = some o ∧ o.cls = .type "tuple") ∧ ∀ H', SqT K H' q us)
theorem TupW.k {K : PySem.W.Frag} {H : Hp} {q : Addr} {us : List V} (h : TupW K H q us) : TupK K H q us := h.elim .inl fun z => .inr z.2
theorem TupW.sq {K : PySem.W.Frag} {H : Hp} {q : Addr} {us : List V} (h : TupW K H q us) : SqT K H q us := h.k.sq
theorem TupW.ty {K : PySem.W.Frag} {H : Hp} {a : Addr} {us : List V} (h : TupW K H a us) : TyX K H (.ref a) (.type "tuple") := by
  rcases h with h | ⟨⟨o, e, c⟩, _⟩
  · exact .base (.tup h)
  · exact .kTuple e c
theorem TupW.same {K : PySem.W.Frag} {H H' : Hp} {q : Addr} {us : List V} (h : TupW K H q us) (s : Same H H') : TupW K H' q us := h.elim (fun z => .inl (s _ _ z)) .inr
def spIsRowsT (K : PySem.W.Frag) (c : Rc) : Sp := fun vs H Q _ => ∃ (a : Addr) (us : List V) (ms : List Rw), vs = [.ref a] ∧ TupW K H a us ∧ RwLs c H us ms ∧ (∀ m ∈ ms, m.kind = 0) ∧ ms.length ≤ 1000 ∧ ∀ H', Same H H' → Q (.bl true) H'
def spHsInitT (K : PySem.W.Frag) (c : Rc) (C : Addr) : Sp := fun vs H Q _ => ∃ (x dx l : Addr) (us : List V) (h : Hs), vs = [.ref x, .int h.d, .str h.ch, .ref l] ∧ H x = some (.ins C dx []) ∧ TupW K H l us ∧ RwLs c H us h.rs ∧ h.ok ∧
  ∀ H', SameX x H H' → HsAt K c C H' (.ref x) h → Q .non H'
theorem kit_tt {K : PySem.W.Frag} : PySem.W.kitAny K (.type "tuple") [.type "list", .type "tuple"] = some true := by
  refine kitAny_cons (b := false) (show PySem.W.kitOne K (.type "tuple") (.type "list") = some false from kit_ty (by decide +kernel)) (fun _ => ?_) (fun z => nomatch z)
  exact kitAny_cons (show PySem.W.kitOne K (.type "tuple") (.type "tuple") = some true from kit_ty (by decide +kernel)) (fun z => nomatch z) fun z => rfl
theorem mk_houseT {K : PySem.W.Frag} {c : Rc} {C x dx l : Addr} {H : Hp} {us : List V} {h : Hs} {R : VK} {E : XK} (hl : TupW K H l us) (rl : RwLs c H us h.rs) (ok : h.ok) (nx : H x = none) (ndx : H dx = none) (q : ∀ H', Same H H' → HsAt K c C H' (.ref x) h → R .non H') :
    spHsInitT K c C [.ref x, .int h.d, .str h.ch, .ref l] (upd (upd H dx (.own x)) x (.ins C dx [])) R E := by
  have s0 : Same H (upd (upd H dx (.own x)) x (.ins C dx [])) := made_same nx ndx
  exact ⟨x, dx, l, us, h, rfl, upd_same, hl.same s0, rl.same s0, ok, fun H' s' a => q H' (fun b o e => s' b o (ne_of_none e nx) (s0 b o e)) a⟩
section
variable {P : Program} {w : World} {K : PySem.W.Frag} {mg : Str → Option Value} {base : Heap}
theorem ok_isRowsT {f : Addr} {c : Rc} {fd : FuncData} (F : Fun K "is_rows" "is_rows" sIsRows f fd) (T : BltK mg) (C : LetI K c) (gL : mg "Let" = some (.ref c.L)) : FnOk P w K mg base CX0 1 f fd ["value"] (spIsRowsT K c) := by
  refine F.ok scIsRows (fun vs H Q E h => ?_) (fun cdv A outer s H vs Q E hr h => ?_)
  · obtain ⟨a, us, ms, rfl, _⟩ := h
    rfl
  · obtain ⟨a, us, ms, rfl, ha, rl, kd, n, k⟩ := h
    refine ⟨_, pss_one (ps_ret (pe_and (pe_callB call_isiT (by rfl) T.isi (by decide +kernel) (pa_cons (pv 0) (pa_cons (pe_tup (pa_cons (pe_bltn (v := .ty "list") (by rfl) T.list (by decide +kernel) rfl) (pa_cons (pe_bltn (v := .ty "tuple") (by rfl) T.tuple (by decide +kernel) rfl) pa_nil))) pa_nil)))
        (pe_one (pe_callB (cr_all rfl) (by rfl) T.all (by decide +kernel) (pa_cons (pe_lc (own := [("item", 1)]) (g := gName 1) (tt := tYes) (te := tCB (rIsi K) (tCons (tVar 1) (tCons (tC (.ref c.L)) tNil))) (by rfl) scIsRows.nd (pi_tup (pv 0)) (blkOk_by (own := [("item", 1)]) (N := ["value", "item"]) (sc := defScope sIsRows) (by decide +kernel)) (fun _ _ _ _ _ => pg_name (i := 1) scIsRows.nd rfl (Or.inl rfl)) (fun _ _ _ _ _ => pts_nil)
          (fun _ _ _ _ _ => pe_callB call_isi (by rfl) T.isi (by decide +kernel) (pa_cons (pv 1) (pa_cons (pe_glob (v := .ref c.L) rfl gL rfl) pa_nil)))) pa_nil))))), ?_⟩
    refine ⟨_, rfl, (by show 2 ≤ sizeLine; decide), fun tp ntp => ?_⟩
    have s1 : Same H (upd H tp (.tup [.ty "list", .ty "tuple"])) := Same.new ntp
    have ht : upd H tp (.tup [.ty "list", .ty "tuple"]) tp = some (.tup [.ty "list", .ty "tuple"]) := upd_same
    generalize upd H tp (.tup [.ty "list", .ty "tuple"]) = H1 at s1 ht ⊢
    have ha1 := ha.same s1
    have rl1 := rl.same s1
    have lx : us.length = ms.length := rl.1
    refine ⟨_, tp, _, _, _, _, rfl, ht, .cons (.ty "list") (.cons (.ty "tuple") .nil), ha1.ty, kit_tt, _, rfl, iteT ?_⟩
    refine ⟨_, rfl, a, rfl, ⟨us, ha1.sq⟩, fun D nD => ?_⟩
    refine lc_tup (K := K) (a := a) (xs := us) (fun i Hh => Same H1 Hh ∧ H1 D = none ∧ Hh D = some (.lst (List.replicate i (V.bl true)))) ⟨Same.new nD, nD, upd_same⟩ (fun i Hh _ p => (ha1.same p.1).sq) ?_ ?_
    · intro i z Hh hi p
      have il : i < us.length := (List.getElem?_eq_some_iff.mp hi).1
      obtain ⟨m, em, mz⟩ := Ls.get rl1 hi
      obtain ⟨y, dy, rfl, hy⟩ := mz.same p.1
      have km := kd m (List.mem_of_getElem? em)
      refine ⟨rfl, ?_⟩
      unfold tYes
      dsimp only
      have hy2 : Hh y = some (.ins c.L dy m.fs) := by
        rw [hy]
        show some (HO.ins (c.at m.kind) dy m.fs) = _
        rw [km]
        rfl
      refine iteT ⟨_, rfl, _, _, _, _, _, rfl, .own c.L, .base (.ins hy2 C.cl C.ca C.gn C.tk C.mr), C.ki, _, p.2.2, ?_, fun d o h => ?_, p.2.1, ?_⟩
      · rw [List.length_replicate]
        exact Nat.lt_of_lt_of_le (m := 1001) (by omega) (by decide)
      · rw [upd_ne (ne_of_none h p.2.1)]
        exact p.1 d o h
      · rw [upd_same, List.replicate_succ']
    · intro Hh p
      obtain ⟨s2, _, e⟩ := p
      refine ⟨D, List.replicate us.length true, rfl, SqL.of (by rw [e, repl_bl]), ?_⟩
      have z : (List.replicate us.length true).all id = true := by
        rw [List.all_eq_true]
        intro x hx
        rw [List.eq_of_mem_replicate hx]
        rfl
      rw [z]
      exact k _ (s1.trans s2)
theorem ok_hsInitT {f CA DA C : Addr} {c : Rc} {fd : FuncData} {dvs : List V} (F : FunD K "__init__" "House.__init__" (defArgs sHsInit) (defBody sHsInit) (defScope sHsInit) dvs [] f fd) (T : BltK mg) (X : HsT K mg CA DA) (L : HsC K C)
    (cN : Cal P w K mg base CX0 "is_number" 2 ["value"] spNumI) (cR : Cal P w K mg base CX0 "is_rows" 1 ["value"] (spIsRowsT K c)) : FnOk P w K mg base CX0 4 f fd ["self", "depth", "check", "rows"] (spHsInitT K c C) := by
  obtain ⟨fN, fdN, GN, mN, kN, bN⟩ := cN
  obtain ⟨fR, fdR, GR, mR, kR, bR⟩ := cR
  refine F.ok scHsInit (fun vs H Q E h => ?_) (fun cdv A outer s H vs Q E hr h => ?_)
  · obtain ⟨x, dx, l, us, h, rfl, _⟩ := h
    rfl
  · obtain ⟨x, dx, l, us, h, rfl, hx, hl, rl, ok, q⟩ := h
    obtain ⟨d0, d4, hc, hm, hn⟩ := ok
    refine ⟨_, pss_cons (ps_if (pt_not (PW.pt (pw_and (pt_val (pe_call GN (hr.mono (by decide)) rfl mN kN bN .nil pass0 (pa_cons (pv 1) pa_nil))) (pw_and1 (pt_cmpR op_lt (pv 1) (pe_callB call_len_seq (by rfl) T.len PySem.boot_len (pa_cons (pe_glob (v := .ref DA) rfl X.depths rfl) pa_nil)) (nomark _)))))) (pss_one ps_never) pss_nil)
      (pss_cons (ps_if (pt_cmpR op_notIn_seq (pv 2) (pe_glob (v := .ref CA) rfl X.checks rfl) rfl) (pss_one ps_never) pss_nil)
      (pss_cons (ps_if (pt_not (pt_val (pe_call GR (hr.mono (by decide)) rfl mR kR bR .nil pass0 (pa_cons (pv 3) pa_nil)))) (pss_one ps_never) pss_nil)
      (pss_cons (ps_fld (pv 0) (pv 1) rfl)
      (pss_cons (ps_fld (pv 0) (pv 2) rfl)
      (pss_one (ps_fld (pv 0) (pe_callTy call_tuple_of (by rfl) T.tuple (by decide +kernel) (pa_cons (pv 3) pa_nil)) rfl)))))), ?_⟩
    refine ⟨_, rfl, h.d, rfl, _, rfl, ?_⟩
    rw [decide_eq_true d0]
    refine iteT ⟨_, rfl, DA, _, rfl, .inr (X.tD _), _, _, rfl, rfl, _, rfl, ?_⟩
    rw [decide_eq_true (show h.d < ((depthL.map V.str).length : Int) by show h.d < 5; omega)]
    refine iteF ⟨_, rfl, CA, _, rfl, .inr (X.tC _), rfl, flat_strs _, _, rfl, ?_⟩
    rw [inV_str, decide_eq_true hc]
    refine iteF ⟨_, rfl, l, us, h.rs, rfl, hl, rl, fun m z => (hm m z).2, by omega, fun H1 s1 => ⟨_, rfl, iteF ?_⟩⟩
    have hx1 := s1 _ _ hx
    have hl1 := hl.same s1
    refine ⟨_, rfl, _, rfl, x, C, dx, _, rfl, hx1, L.cl, L.d, (by show 0 < 1000; decide), ?_⟩
    refine ⟨_, rfl, _, rfl, x, C, dx, _, rfl, upd_same, L.cl, L.ch, (by show 1 < 1000; decide), ?_⟩
    rw [upd_upd]
    have tx : ∀ o : HO, TupW K (upd H1 x o) l us := fun o => by
      rcases hl1 with z | z
      · exact .inl (by rw [upd_ne (fun e => by rw [e, hx1] at z; cases z)]; exact z)
      · exact .inr z
    refine ⟨_, rfl, l, us, rfl, .inr ⟨(tx _).sq, ?_⟩⟩
    refine ⟨_, rfl, x, C, dx, _, rfl, upd_same, L.cl, L.rs, (lt_put (n := 999) (lt_put (n := 998) (by show 0 < 998; decide))), ?_⟩
    rw [hs_put, upd_upd]
    have sx : ∀ b o, b ≠ x → H b = some o → upd H1 x (.ins C dx (hsF (.int h.d) (.str h.ch) (.ref l))) b = some o := fun b o nb e => by
      rw [upd_ne nb]
      exact s1 _ _ e
    refine q _ sx ⟨x, dx, l, us, rfl, upd_same, (tx _).k, ?_⟩
    refine Ls.imp rl fun v m a => ?_
    obtain ⟨y, dy, rfl, hy⟩ := a
    have nyx : y ≠ x := fun z => by
      rw [z, hx] at hy
      have e := Option.some.inj hy
      cases m <;> cases e
    exact ⟨y, dy, rfl, sx y _ nyx hy⟩
end
end V3

set_option Elab.async false
set_option linter.all false
set_option maxRecDepth 100000
/-! a list comprehension of three clauses: each clause a loop of its own, what stands within it a reading -/
namespace V3
open PySem PySem.Spec PyProof.Rows L2
/-- the tests of a clause -/
abbrev allTrue (ifs : List Expr) (env : Env) : Sem Bool := forIn ifs true fun d q => if q = true then do let y ← isTrue d env (eval d env); pure (ForInStep.yield y) else pure (ForInStep.yield q)
/-- one turn: next, store, tests, what stands within, again -/
def turnW (cd : Code) (p : Pos) (tg : Expr) (ifs : List Expr) (Wn : Sem Fin → Sem Fin) (it : Value) (env : Env) : Sem Fin :=
  standAt p >>= fun _ => pyNext it >>= fun q => match q with
    | none => pure (.done .next)
    | some u => letOwnedTupleGo tg it u >>= fun _ => assign tg env u >>= fun _ => allTrue ifs env >>= fun b => if b = true then Wn (again cd) else again cd
/-- within: a further clause -/
def nextW (lc : Expr) (j : Nat) (src : Expr) (acc : Value) (env : Env) : Sem Fin → Sem Fin := fun k =>
  eval src env >>= fun x => standAt src.pos >>= fun _ => foldedSetIterable src env x >>= fun y => holding [y] (pyIter y) >>= fun it => runOwn (.compStart lc j it acc env) env >>= fun _ => k
/-- within: the item is put into the list -/
def lastW (elt : Expr) (acc : Value) (env : Env) : Sem Fin → Sem Fin := fun k =>
  (eval elt env >>= fun y => call (.builtin "list.append") [acc, y] >>= fun _ => pure ()) >>= fun _ => k
abbrev lc3 (elt t0 i0 t1 i1 t2 i2 : Expr) (f0 f1 f2 : List Expr) (sc : Scope) (p : Pos) : Expr := .ListComp elt [⟨t0, i0, f0, 0⟩, ⟨t1, i1, f1, 0⟩, ⟨t2, i2, f2, 0⟩] sc p
section
variable {elt t0 i0 t1 i1 t2 i2 : Expr} {f0 f1 f2 : List Expr} {sc : Scope} {p : Pos} {it acc : Value} {env : Env}
theorem turn3_0 : compTurn (lc3 elt t0 i0 t1 i1 t2 i2 f0 f1 f2 sc p) 0 it acc env = turnW (.compLoop (lc3 elt t0 i0 t1 i1 t2 i2 f0 f1 f2 sc p) 0 it acc env) i0.pos t0 f0 (nextW (lc3 elt t0 i0 t1 i1 t2 i2 f0 f1 f2 sc p) 1 i1 acc env) it env := by rfl
theorem turn3_1 : compTurn (lc3 elt t0 i0 t1 i1 t2 i2 f0 f1 f2 sc p) 1 it acc env = turnW (.compLoop (lc3 elt t0 i0 t1 i1 t2 i2 f0 f1 f2 sc p) 1 it acc env) i1.pos t1 f1 (nextW (lc3 elt t0 i0 t1 i1 t2 i2 f0 f1 f2 sc p) 2 i2 acc env) it env := by rfl
theorem turn3_2 : compTurn (lc3 elt t0 i0 t1 i1 t2 i2 f0 f1 f2 sc p) 2 it acc env = turnW (.compLoop (lc3 elt t0 i0 t1 i1 t2 i2 f0 f1 f2 sc p) 2 it acc env) i2.pos t2 f2 (lastW elt acc env) it env := by rfl
end
section
variable {prog : Program} {w : World} {A : Around} {R : Result → Shared → Prop} {s : Shared} {elt tg : Expr} {gens : List Comprehension} {ifs : List Expr} {sc : Scope} {p p1 : Pos} {j : Nat} {it acc : Value} {env : Env} {Wn : Sem Fin → Sem Fin}
theorem loopW (ht : compTurn (.ListComp elt gens sc p) j it acc env = turnW (.compLoop (.ListComp elt gens sc p) j it acc env) p1 tg ifs Wn it env) (I : Nat → Shared → Prop)
    (turn : ∀ n s, I n s → wpAny (model prog w) A (pyNext it) (fun q s1 => match q with
      | none => R (.ok .next) s1
      | some u => wpAny (model prog w) A (letOwnedTupleGo tg it u) (fun _ s2 => wpAny (model prog w) A (assign tg env u) (fun _ s3 => wpAny (model prog w) A (allTrue ifs env) (fun b s4 =>
          if b = true then wpAny (model prog w) A (Wn (again (.compLoop (.ListComp elt gens sc p) j it acc env))) (fun fin s5 => fin = .again (.compLoop (.ListComp elt gens sc p) j it acc env) ∧ ∃ m, m < n ∧ I m s5) (fun _ _ => False) s4
          else ∃ m, m < n ∧ I m s4) (fun _ _ => False) s3) (fun _ _ => False) s2) (fun _ _ => False) s1) (fun _ _ => False) s)
    (n : Nat) (h : I n s) : codeAny (model prog w) A (.compLoop (.ListComp elt gens sc p) j it acc env) R s := by
  refine codeAny_loop rfl I (fun n s hI => ?_) n h
  show wpAny (model prog w) A ((compTurn (.ListComp elt gens sc p) j it acc env).onRaise fun x => do noteFrame x env; theTreesLotGoes x) _ _ s
  refine wpAny_noted ?_
  rw [ht]
  refine wpAny_bind (wpAny_standAt (wpAny_bind (thnF (turn n s hI) fun q s1 h1 => ?_)))
  cases q with
  | none => exact wpAny_pure h1
  | some u => exact wpAny_bind (thnF h1 fun _ s2 h2 => wpAny_bind (thnF h2 fun _ s3 h3 => wpAny_bind (thnF h3 fun b s4 h4 => by
      cases b with
      | false => exact wpAny_pure ⟨rfl, h4⟩
      | true =>
        refine thnF h4 fun fin s5 h5 => ?_
        obtain ⟨rfl, h5⟩ := h5
        exact ⟨rfl, h5⟩)))
end
/-- the slots known ahead but those of vs are known behind -/
def Keeps (vs : List Nat) (σ σ' : L2.St) : Prop := σ'.length = σ.length ∧ ∀ (j : Nat) v, (wipe σ vs)[j]? = some (some v) → σ'[j]? = some (some v)
theorem Keeps.refl (σ : L2.St) : Keeps [] σ σ := ⟨rfl, fun _ _ e => e⟩
/-- what stands within a clause runs so and goes on with the loop -/
def InB (X : Cx) (vs : List Nat) (Wn : Sem Fin → Sem Fin) (tb : L2.St → Hp → (Hp → Prop) → Prop) : Prop := ∀ (cd : Code) (pins : List (Addr × Obj)) (s : Shared) (σ : L2.St) (H : Hp) (Nx : Hp → Prop), Inv X pins σ H s → tb σ H Nx →
  wpAny (model X.prog X.w) X.A (Wn (again cd)) (fun fin s' => fin = .again cd ∧ ∃ σ' H', Inv X pins σ' H' s' ∧ Keeps vs σ σ' ∧ Nx H') (fun _ _ => False) s
/-- a clause's loop as a reading -/
def LoopT (J : It) (g : TG) (tt : TT) (vs : List Nat) (tb : L2.St → Hp → (Hp → Prop) → Prop) (σ : L2.St) (H : Hp) (Nx : Hp → Prop) : Prop := ∃ Wt : Nat → Nat → Hp → Prop, (∃ m, Wt 0 m H) ∧ ∀ i m H, Wt i m H →
  (J.stop i H ∧ Nx H) ∨ (J.go i H ∧ ∃ N : Hp → Prop, (∀ H', N H' → ∃ m', m' < m ∧ Wt (i + 1) m' H') ∧ ∀ x H', J.yld i H x H' → g x (wipe σ vs) H' fun σ2 H2 => wipe σ2 vs = wipe σ vs ∧ tt σ2 H2 fun b H3 => if b = true then tb σ2 H3 N else N H3)
section
variable {X : Cx} {pins : List (Addr × Obj)} {s : Shared} {σ : L2.St} {H : Hp} {elt tg iter : Expr} {gens : List Comprehension} {ifs : List Expr} {sc : Scope} {p p1 : Pos} {j : Nat} {it : Addr} {acc : Value} {Wn : Sem Fin → Sem Fin} {J : It} {fp : List Addr} {tn : Nat → Heap → Prop} {g : TG} {tt : TT} {vs vs' : List Nat} {tb : L2.St → Hp → (Hp → Prop) → Prop} {Nx : Hp → Prop} {R : Result → Shared → Prop} {wi : TI}
theorem loop_run (hc : X.calm = true) (hx : X.xe = fun _ _ => False) (T : Turn X.prog X.w X.K tg J fp it tn) (pg : PG X tg g) (pt : PTs X ifs tt) (hb : InB X vs' Wn tb) (sub : ∀ i ∈ vs', i ∈ vs)
    (ht : compTurn (.ListComp elt gens sc p) j (.ref it) acc X.env = turnW (.compLoop (.ListComp elt gens sc p) j (.ref it) acc X.env) p1 tg ifs Wn (.ref it) X.env)
    (I : Inv X pins (wipe σ vs) H s) (st : tn 0 s.heap) (f : ∀ b ∈ fp, FpOk X pins H b) (h : LoopT J g tt vs tb σ H Nx) (hR : ∀ H' s', Inv X pins (wipe σ vs) H' s' → Nx H' → R (.ok .next) s') :
    codeAny (model X.prog X.w) X.A (.compLoop (.ListComp elt gens sc p) j (.ref it) acc X.env) R s := by
  obtain ⟨Wt, ⟨m0, w0⟩, turn⟩ := h
  have fo : ∀ {H'}, (∀ b ∈ fp, H' b = none) → ∀ b ∈ fp, FpOk X pins H' b := fun n b hb => ⟨n b hb, (f b hb).2⟩
  refine loopW ht (fun n s' => ∃ i H', Inv X pins (wipe σ vs) H' s' ∧ tn i s'.heap ∧ (∀ b ∈ fp, H' b = none) ∧ Wt i n H') ?_ m0 ⟨0, H, I, st, fun b hb => (f b hb).1, w0⟩
  rintro n s1 ⟨i, H1, I1, st1, n1, w1⟩
  rcases turn i n H1 w1 with ⟨stop, q⟩ | ⟨go, N, hN, step⟩
  · refine thnF (T.done X rfl rfl rfl hc i pins s1 _ H1 (fun _ _ => False) I1 (fo n1) st1 stop) fun q2 s2 ⟨e, I2⟩ => ?_
    subst e
    exact hR H1 s2 I2 q
  · refine thnF (T.item X rfl rfl rfl hc i pins s1 _ H1 (fun _ _ => False) I1 (fo n1) st1 go) fun q2 s2 ⟨u, e, h2⟩ => ?_
    subst e
    refine thnF h2 fun _ s3 ⟨x, H3, I3, r3, y3, st3, n3⟩ => ?_
    have I3' := I3.pinned (fo n3) (T.obj _ _ st3)
    have z4 := pg.run _ s3 _ H3 x u _ I3' r3 (step x H3 y3)
    rw [hx] at z4
    refine thnF z4 fun _ s4 ⟨σ4, H4, I4, ew, q4⟩ => ?_
    have z5 := pt.run _ s4 σ4 H4 _ I4 q4
    rw [hx] at z5
    refine thnF z5 fun b s5 ⟨H5, I5, q5⟩ => ?_
    have fin : ∀ {σ' H' s'}, Inv X (pins ++ pinsAt fp s3.heap) σ' H' s' → Keeps vs' σ4 σ' → N H' → ∃ m, m < n ∧ ∃ i H', Inv X pins (wipe σ vs) H' s' ∧ tn i s'.heap ∧ (∀ b ∈ fp, H' b = none) ∧ Wt i m H' := fun {σ' H' s'} I' kp nx => by
      obtain ⟨m', hm, w'⟩ := hN H' nx
      have pn : ∀ b ∈ fp, ∀ o, s3.heap.get? b = some o → s'.heap.get? b = some o ∧ H' b = none := fun b hb o e =>
        let z := I'.pin (b, o) (List.mem_append_right _ (List.mem_append_right _ (mem_pinsAt hb e)))
        ⟨z.1, z.2.1⟩
      have el : (wipe σ vs).length = σ'.length := by rw [← ew, wipe_length, kp.1]
      refine ⟨m', hm, i + 1, H', (I'.unpinned (pins := pins)).weak el fun k v e => ?_, T.keep _ _ _ st3 fun b hb o e => (pn b hb o e).1, fun b hb => ?_, w'⟩
      · rw [← ew] at e
        obtain ⟨e1, e2⟩ := wipe_some e
        refine kp.2 k v ?_
        rw [wipe_out fun z => e2 (sub k z)]
        exact e1
      · obtain ⟨o, e, _⟩ := T.obj _ _ st3 b hb
        exact (pn b hb o e).2
    cases b with
    | false =>
      have q5 : N H5 := q5
      exact fin I5 ⟨rfl, fun k v e => (wipe_some e).1⟩ q5
    | true =>
      have q5 : tb σ4 H5 N := q5
      refine thnF (hb _ _ s5 σ4 H5 N I5 q5) fun fn s6 ⟨e, σ6, H6, I6, kp, nx⟩ => ?_
      exact ⟨e, fin I6 kp nx⟩
end
/-- a further clause as what stands within one; the item put into the list at D -/
def tCl (wi : TI) (g : TG) (tt : TT) (vs : List Nat) (tb : L2.St → Hp → (Hp → Prop) → Prop) : L2.St → Hp → (Hp → Prop) → Prop := fun σ H N => wi σ H fun J H1 => LoopT J g tt vs tb σ H1 N
def tPut (te : TE) (D : Addr) : L2.St → Hp → (Hp → Prop) → Prop := fun σ H N => te σ H fun y H1 => ∃ ys, H1 D = some (.lst ys) ∧ ys.length < sizeLine ∧ N (upd H1 D (.lst (ys ++ [y])))
/-- [elt for t0 in i0 if .. for t1 in i1 if .. for t2 in i2 if ..] -/
def tLc3 (wi : TI) (g : TG) (tt : TT) (wi1 : TI) (g1 : TG) (tt1 : TT) (wi2 : TI) (g2 : TG) (tt2 : TT) (te : TE) (vs vs1 vs2 : List Nat) : TE := fun σ H Q =>
  wi σ H fun J H1 => ∀ D, H1 D = none → LoopT J g tt vs (tCl wi1 g1 tt1 vs1 (tCl wi2 g2 tt2 vs2 (tPut te D))) σ (upd H1 D (.lst [])) (Q (.ref D))
section
variable {prog : Program} {w : World} {A : Around} {R : Result → Shared → Prop} {s : Shared} {elt t0 i0 t1 i1 t2 i2 : Expr} {f0 f1 f2 : List Expr} {sc : Scope} {p : Pos} {it acc : Value} {env : Env} {j : Nat}
theorem start3 (hj : j = 1 ∨ j = 2) (h0 : codeAny (model prog w) A (.compLoop (lc3 elt t0 i0 t1 i1 t2 i2 f0 f1 f2 sc p) j it acc env) R s)
    (h : wpAny (model prog w) A (pyIter it) (fun it2 s2 => codeAny (model prog w) A (.compLoop (lc3 elt t0 i0 t1 i1 t2 i2 f0 f1 f2 sc p) j it2 acc env) R s2) (fun _ _ => False) s) :
    codeAny (model prog w) A (.compStart (lc3 elt t0 i0 t1 i1 t2 i2 f0 f1 f2 sc p) j it acc env) R s := by
  have hn : wpAny (model prog w) A (pyIter it) (fun it2 s2 => codeAny (model prog w) A (.compLoop (lc3 elt t0 i0 t1 i1 t2 i2 f0 f1 f2 sc p) j it2 acc env) R s2) (notedBy (model prog w) A env fun x s' => R (.error x) s') s := thnF h fun _ _ z => z
  refine codeAny_of_tree ?_
  show wpAny _ _ ((compStart (lc3 elt t0 i0 t1 i1 t2 i2 f0 f1 f2 sc p) j it acc env).onRaise fun x => do noteFrame x env; standAt theWindowsPlace) _ _ s
  refine wpAny_notedAt ?_
  rcases hj with rfl | rfl <;> unfold compStart <;> (show wpAny _ _ (ask >>= _) _ _ s) <;> refine wpAny_bind (wpAny_askSetting (wpAny_ite ?_)) <;> split <;>
    first
    | exact wpAny_pure ⟨rfl, h0⟩
    | exact wpAny_bind (wpAny_pure (wpAny_pure ⟨rfl, h0⟩))
    | exact wpAny_bind (wpAny_rule (wpAny_bind (wpAny_standAt (wpAny_bind (wpAny_mono hn (fun it2 s2 z => wpAny_pure ⟨rfl, z⟩) fun _ _ z => z)))))
    | (refine wpAny_bind (wpAny_rule ?_)
       show wpAny _ _ (standAt _ >>= _) _ _ s
       exact wpAny_bind (wpAny_standAt (wpAny_bind (wpAny_mono hn (fun it2 s2 z => wpAny_pure ⟨rfl, z⟩) fun _ _ z => z))))
end
section
variable {X : Cx} {elt t0 i0 t1 i1 t2 i2 : Expr} {f0 f1 f2 : List Expr} {sc : Scope} {p p1 : Pos} {acc : Value} {j : Nat} {tg src : Expr} {ifs : List Expr} {Wn : Sem Fin → Sem Fin} {g : TG} {tt : TT} {vs vs' : List Nat} {tb : L2.St → Hp → (Hp → Prop) → Prop} {wi : TI} {te : TE} {D : Addr}
theorem in_last (hx : X.xe = fun _ _ => False) (he : PE X elt te) : InB X [] (lastW elt (.ref D) X.env) (tPut te D) := fun cd pins s σ H Nx I h => by
  have z := he.run pins s σ H _ I h
  rw [hx] at z
  refine wpAny_bind (wpAny_bind (thnF z fun yv s1 ⟨y, H1, I1, r1, ys, hD, hz, q⟩ => ?_))
  exact wpAny_bind (app_ok I1 hD hz r1 fun s2 I2 => wpAny_pure (wpAny_pure ⟨rfl, σ, _, I2, Keeps.refl σ, q⟩))
theorem in_clause (hj : j = 1 ∨ j = 2) (hc : X.calm = true) (hx : X.xe = fun _ _ => False) (hi : PI X tg src wi) (pg : PG X tg g) (pt : PTs X ifs tt) (hs : ∀ x, foldedSetIterable src X.env x = pure x) (hb : InB X vs' Wn tb) (sub : ∀ i ∈ vs', i ∈ vs)
    (ht : ∀ it, compTurn (lc3 elt t0 i0 t1 i1 t2 i2 f0 f1 f2 sc p) j (.ref it) acc X.env = turnW (.compLoop (lc3 elt t0 i0 t1 i1 t2 i2 f0 f1 f2 sc p) j (.ref it) acc X.env) p1 tg ifs Wn (.ref it) X.env) :
    InB X vs (nextW (lc3 elt t0 i0 t1 i1 t2 i2 f0 f1 f2 sc p) j src acc X.env) (tCl wi g tt vs tb) := fun cd pins s σ H Nx I h => by
  have z := hi.run pins s σ H _ I h
  rw [hx] at z
  refine wpAny_bind (thnF z fun xv s1 h1 => wpAny_bind (wpAny_standAt (wpAny_bind (wpAny_of_eq (hs xv) (wpAny_bind (wpAny_holding (thnF h1 fun itv s2 h2 => ?_)))))))
  obtain ⟨it, fp, tn, J, H2, rfl, I2, T, st, f, q⟩ := h2
  refine wpAny_bind (wpAny_runOwn ?_)
  rw [Around.mark_none]
  have lp : codeAny (model X.prog X.w) X.A (.compLoop (lc3 elt t0 i0 t1 i1 t2 i2 f0 f1 f2 sc p) j (.ref it) acc X.env) (fun r s' => match r with
      | .ok _ => ∃ σ' H', Inv X pins σ' H' s' ∧ Keeps vs σ σ' ∧ Nx H'
      | .error _ => False) s2 := loop_run hc hx T pg pt hb sub (ht it) (I2.weak (wipe_length _ _) fun k v e => (wipe_some e).1) st f q fun H' s' I' nx => ⟨_, H', I', ⟨wipe_length _ _, fun _ _ e => e⟩, nx⟩
  refine codeAny_mono (start3 hj lp (T.self X.A 0 _ _ _ st lp)) fun r s3 h3 => ?_
  cases r with
  | ok fl => exact wpAny_pure ⟨rfl, h3⟩
  | error e => exact h3.elim
end
section
variable {X : Cx} {elt t0 i0 t1 i1 t2 i2 : Expr} {f0 f1 f2 : List Expr} {sc : Scope} {own : List (Str × Nat)} {vs1 vs2 : List Nat} {ps : Pos} {wi wi1 wi2 : TI} {g g1 g2 : TG} {tt tt1 tt2 : TT} {te : TE}
theorem pe_lc3 (hc : X.calm = true) (hN : X.N.Nodup) (hi : PI X t0 i0 wi) (ok : BlkOk X.N X.env.scope sc own) (v1 : ∀ i ∈ vs1, i ∈ own.map (·.2)) (v2 : ∀ i ∈ vs2, i ∈ vs1)
    (hg : ∀ (u : Shared) (G : Hp) (C : Addr) (cl : List (Str × Addr)) (fp : List Addr), PG (X.blk u G sc (compEnvC sc cl C X.env) fp) t0 g) (ht : ∀ (u : Shared) (G : Hp) (C : Addr) (cl : List (Str × Addr)) (fp : List Addr), PTs (X.blk u G sc (compEnvC sc cl C X.env) fp) f0 tt) (hi1 : ∀ (u : Shared) (G : Hp) (C : Addr) (cl : List (Str × Addr)) (fp : List Addr), PI (X.blk u G sc (compEnvC sc cl C X.env) fp) t1 i1 wi1) (hg1 : ∀ (u : Shared) (G : Hp) (C : Addr) (cl : List (Str × Addr)) (fp : List Addr), PG (X.blk u G sc (compEnvC sc cl C X.env) fp) t1 g1) (ht1 : ∀ (u : Shared) (G : Hp) (C : Addr) (cl : List (Str × Addr)) (fp : List Addr), PTs (X.blk u G sc (compEnvC sc cl C X.env) fp) f1 tt1)
    (hi2 : ∀ (u : Shared) (G : Hp) (C : Addr) (cl : List (Str × Addr)) (fp : List Addr), PI (X.blk u G sc (compEnvC sc cl C X.env) fp) t2 i2 wi2) (hg2 : ∀ (u : Shared) (G : Hp) (C : Addr) (cl : List (Str × Addr)) (fp : List Addr), PG (X.blk u G sc (compEnvC sc cl C X.env) fp) t2 g2) (ht2 : ∀ (u : Shared) (G : Hp) (C : Addr) (cl : List (Str × Addr)) (fp : List Addr), PTs (X.blk u G sc (compEnvC sc cl C X.env) fp) f2 tt2) (he : ∀ (u : Shared) (G : Hp) (C : Addr) (cl : List (Str × Addr)) (fp : List Addr), PE (X.blk u G sc (compEnvC sc cl C X.env) fp) elt te)
    (hs : ∀ x, foldedSetIterable i0 X.env x = pure x := by intro _; rfl) (hs1 : ∀ e x, foldedSetIterable i1 e x = pure x := by intro _ _; rfl) (hs2 : ∀ e x, foldedSetIterable i2 e x = pure x := by intro _ _; rfl) :
    PE X (lc3 elt t0 i0 t1 i1 t2 i2 f0 f1 f2 sc ps) (tLc3 wi g tt wi1 g1 tt1 wi2 g2 tt2 te (own.map (·.2)) vs1 vs2) := by
  refine ⟨fun pins s σ H Q I h => ?_⟩
  rw [eval_ListComp]
  have clos : ∀ y ∈ sc.names, y.2 = .free → ∃ c, X.env.cells.lookup y.1 = some c := fun y hy e => (ok.free y hy e).elim (fun k => I.ok.has _ (.inl k)) fun k => I.ok.has _ (.inr k)
  refine wpAny_comprehension_free (use := none) rfl hs (closure_ok clos) ok.kind (fun y hy e => by rw [ok.uniq y hy, e]) (thn (hi.run pins s σ H _ I h) fun xv a1 hx => thn hx fun itv a2 z2 => ?_)
  obtain ⟨it, fp, tn, J, H2, rfl, I2, T, st2, fr2, q⟩ := z2
  refine wpAny_newObj_type (newEnv_comp ?_) (by show 0 ≤ sizeLine; decide)
  obtain ⟨D, eD⟩ : ∃ D, D = a2.heap.objs.size := ⟨_, rfl⟩
  have nD : H2 D = none := I2.hok.fresh (Nat.le_of_eq eD.symm)
  have q := q D nD
  rw [← eD]
  have I3 : Inv X pins σ (upd H2 D (.lst [])) { a2 with heap := a2.heap.push { cls := .type "list", data := .seq ([] : List Value).toArray } } := by
    refine I2.laid (t' := a2.toks) (fun b o e => Heap.get?_push_of_some _ e) (Nat.le_of_eq eD.symm) ⟨Nat.zero_le _, [], 0, .nil, ?_⟩
    rw [eD]
    exact Heap.get?_push_size _ rfl
  have st3 : tn 0 (a2.heap.push { cls := .type "list", data := .seq ([] : List Value).toArray }) := T.keep _ _ _ st2 fun b _ o e => Heap.get?_push_of_some _ e
  have fr3 : ∀ b ∈ fp, FpOk X pins (upd H2 D (.lst [])) b ∧ b < (a2.heap.push { cls := .type "list", data := .seq ([] : List Value).toArray }).objs.size := fun b hb => by
    obtain ⟨o, e, _⟩ := T.obj _ _ st2 b hb
    have lt := Heap.lt_size e
    refine ⟨⟨?_, (fr2 b hb).2⟩, by rw [Heap.size_push]; exact Nat.lt_succ_of_lt lt⟩
    rw [upd_ne (by rw [eD]; exact Nat.ne_of_lt lt)]
    exact (fr2 b hb).1
  generalize ha3 : ({ a2 with heap := a2.heap.push { cls := .type "list", data := .seq ([] : List Value).toArray } } : Shared) = a3 at I3 ⊢
  have eh : a3.heap = a2.heap.push { cls := .type "list", data := .seq ([] : List Value).toArray } := by rw [← ha3]
  rw [← eh] at st3 fr3
  generalize upd H2 D (.lst []) = H3 at I3 fr3 q
  have I4 := block_start I3 ok hN fr3
  have st4 : tn 0 (pushCells (a3.heap.push { cls := .type "dict", data := .dict #[] }) sc.names) := T.keep _ _ _ st3 fun b _ o e => pushCells_keeps _ _ _ _ (Heap.get?_push_of_some _ e)
  generalize hcl : cellsFrom (a3.heap.objs.size + 1) sc.names (cloFrom X.env.cells sc.names []) = cl at I4 ⊢
  show codeAny _ _ (.compStart (lc3 elt t0 i0 t1 i1 t2 i2 f0 f1 f2 sc ps) 0 (.ref it) (.ref D) (compEnvC sc cl a3.heap.objs.size X.env)) (compPost (model X.prog X.w) X.A X.xe none _ (.ref D) a3.heap.objs.size) { a3 with heap := pushCells (a3.heap.push { cls := .type "dict", data := .dict #[] }) sc.names }
  generalize ha4 : ({ a3 with heap := pushCells (a3.heap.push { cls := .type "dict", data := .dict #[] }) sc.names } : Shared) = a4 at I4 ⊢
  have st4 : tn 0 a4.heap := by rw [← ha4]; exact st4
  have b2 := in_clause (X := X.blk a3 H3 sc (compEnvC sc cl a3.heap.objs.size X.env) fp) (acc := .ref D) (elt := elt) (t0 := t0) (i0 := i0) (t1 := t1) (i1 := i1) (t2 := t2) (i2 := i2) (f0 := f0) (f1 := f1) (f2 := f2) (sc := sc) (p := ps) (p1 := i2.pos) (vs := vs2) (.inr rfl) hc rfl (hi2 a3 H3 a3.heap.objs.size cl fp) (hg2 a3 H3 a3.heap.objs.size cl fp) (ht2 a3 H3 a3.heap.objs.size cl fp) (hs2 _) (in_last (X := X.blk a3 H3 sc (compEnvC sc cl a3.heap.objs.size X.env) fp) (D := D) rfl (he a3 H3 a3.heap.objs.size cl fp)) (fun i hi => by cases hi) fun it => turn3_2
  have b1 := in_clause (X := X.blk a3 H3 sc (compEnvC sc cl a3.heap.objs.size X.env) fp) (acc := .ref D) (vs := vs1) (.inl rfl) hc rfl (hi1 a3 H3 a3.heap.objs.size cl fp) (hg1 a3 H3 a3.heap.objs.size cl fp) (ht1 a3 H3 a3.heap.objs.size cl fp) (hs1 _) b2 v2 fun it => turn3_1
  have lp : codeAny (model X.prog X.w) X.A (.compLoop (lc3 elt t0 i0 t1 i1 t2 i2 f0 f1 f2 sc ps) 0 (.ref it) (.ref D) (compEnvC sc cl a3.heap.objs.size X.env)) (compPost (model X.prog X.w) X.A X.xe none (EP X pins σ Q) (.ref D) a3.heap.objs.size) a4 := by
    refine loop_run (X := X.blk a3 H3 sc (compEnvC sc cl a3.heap.objs.size X.env) fp) (pins := []) hc rfl T (hg a3 H3 a3.heap.objs.size cl fp) (ht a3 H3 a3.heap.objs.size cl fp) b1 v1 turn3_0 I4 st4 (fun b hb => ?_) q fun H5 a5 I5 qq => ?_
    · exact ⟨(fr3 b hb).1.1, (I4.ok.exf b hb).1, I4.ok.exfs b hb, .inl hb, fun x c e => (I4.ok.exf b hb).2 x c e, fun pn hp => absurd (show pn ∈ ([] : List (Addr × Obj)) ++ [] from hp) (by simp)⟩
    · have I7 : Inv X pins σ H5 a5 := I3.call' (ch := fp) I5.os I5.base I5.hok I5.bare fun b hb => ⟨(fr3 b hb).1.2.2.2.1, (fr3 b hb).1.2.1, (fr3 b hb).1.2.2.2.2.1, (fr3 b hb).1.2.2.2.2.2⟩
      have nC : H5 a3.heap.objs.size = none := I5.free
      obtain ⟨m, hm, _⟩ := I5.loc
      obtain ⟨c0, c1, c2, c3, c4, c5⟩ := I3.fpOk (Nat.le_refl _) nC
      exact ⟨m, hm, fun h2 sb => ⟨.ref D, H5, I7.turned (t' := a5.toks) (fun b o hb e => (sb.2 b hb).trans e) c0 c1 c3 c4 c5, rfl, qq⟩⟩
  exact codeAny_compStart_list lp (T.self X.A 0 _ _ _ st4 lp)
end
end V3

set_option Elab.async false
set_option linter.all false
set_option maxRecDepth 100000
/-! a set comprehension of whole numbers or texts; the len of such a set -/
namespace V3
open PySem PySem.Spec PyProof.Rows L2
abbrev sc1 (elt tg src : Expr) (ifs : List Expr) (sc : Scope) (p : Pos) : Expr := .SetComp elt [⟨tg, src, ifs, 0⟩] sc p
/-- within: the item is put into the set -/
def lastS (elt : Expr) (acc : Value) (env : Env) : Sem Fin → Sem Fin := fun k =>
  (eval elt env >>= fun y => standAt elt.pos >>= fun _ => call (.builtin "set.add") [acc, y] >>= fun _ => pure ()) >>= fun _ => k
section
variable {elt tg src : Expr} {ifs : List Expr} {sc : Scope} {p : Pos} {it acc : Value} {env : Env}
theorem turnS : compTurn (sc1 elt tg src ifs sc p) 0 it acc env = turnW (.compLoop (sc1 elt tg src ifs sc p) 0 it acc env) src.pos tg ifs (lastS elt acc env) it env := by rfl
end
section
variable {prog : Program} {w : World} {A : Around} {R : Result → Shared → Prop} {s : Shared} {elt tg src : Expr} {ifs : List Expr} {sc : Scope} {p p1 : Pos} {it acc : Value} {env : Env} {Wn : Sem Fin → Sem Fin}
theorem loopS (ht : compTurn (sc1 elt tg src ifs sc p) 0 it acc env = turnW (.compLoop (sc1 elt tg src ifs sc p) 0 it acc env) p1 tg ifs Wn it env) (I : Nat → Shared → Prop)
    (turn : ∀ n s, I n s → wpAny (model prog w) A (pyNext it) (fun q s1 => match q with
      | none => R (.ok .next) s1
      | some u => wpAny (model prog w) A (letOwnedTupleGo tg it u) (fun _ s2 => wpAny (model prog w) A (assign tg env u) (fun _ s3 => wpAny (model prog w) A (allTrue ifs env) (fun b s4 =>
          if b = true then wpAny (model prog w) A (Wn (again (.compLoop (sc1 elt tg src ifs sc p) 0 it acc env))) (fun fin s5 => fin = .again (.compLoop (sc1 elt tg src ifs sc p) 0 it acc env) ∧ ∃ m, m < n ∧ I m s5) (fun _ _ => False) s4
          else ∃ m, m < n ∧ I m s4) (fun _ _ => False) s3) (fun _ _ => False) s2) (fun _ _ => False) s1) (fun _ _ => False) s)
    (n : Nat) (h : I n s) : codeAny (model prog w) A (.compLoop (sc1 elt tg src ifs sc p) 0 it acc env) R s := by
  refine codeAny_loop rfl I (fun n s hI => ?_) n h
  show wpAny (model prog w) A ((compTurn (sc1 elt tg src ifs sc p) 0 it acc env).onRaise fun x => do noteFrame x env; theTreesLotGoes x) _ _ s
  refine wpAny_noted ?_
  rw [ht]
  refine wpAny_bind (wpAny_standAt (wpAny_bind (thnF (turn n s hI) fun q s1 h1 => ?_)))
  cases q with
  | none => exact wpAny_pure h1
  | some u => exact wpAny_bind (thnF h1 fun _ s2 h2 => wpAny_bind (thnF h2 fun _ s3 h3 => wpAny_bind (thnF h3 fun b s4 h4 => by
      cases b with
      | false => exact wpAny_pure ⟨rfl, h4⟩
      | true =>
        refine thnF h4 fun fin s5 h5 => ?_
        obtain ⟨rfl, h5⟩ := h5
        exact ⟨rfl, h5⟩)))
end
section
variable {X : Cx} {pins : List (Addr × Obj)} {s : Shared} {σ : L2.St} {H : Hp} {elt tg src : Expr} {ifs : List Expr} {sc : Scope} {p p1 : Pos} {it : Addr} {acc : Value} {Wn : Sem Fin → Sem Fin} {J : It} {fp : List Addr} {tn : Nat → Heap → Prop} {g : TG} {tt : TT} {vs vs' : List Nat} {tb : L2.St → Hp → (Hp → Prop) → Prop} {Nx : Hp → Prop} {R : Result → Shared → Prop} {wi : TI}
theorem loop_runS (hc : X.calm = true) (hx : X.xe = fun _ _ => False) (T : Turn X.prog X.w X.K tg J fp it tn) (pg : PG X tg g) (pt : PTs X ifs tt) (hb : InB X vs' Wn tb) (sub : ∀ i ∈ vs', i ∈ vs)
    (ht : compTurn (sc1 elt tg src ifs sc p) 0 (.ref it) acc X.env = turnW (.compLoop (sc1 elt tg src ifs sc p) 0 (.ref it) acc X.env) p1 tg ifs Wn (.ref it) X.env)
    (I : Inv X pins (wipe σ vs) H s) (st : tn 0 s.heap) (f : ∀ b ∈ fp, FpOk X pins H b) (h : LoopT J g tt vs tb σ H Nx) (hR : ∀ H' s', Inv X pins (wipe σ vs) H' s' → Nx H' → R (.ok .next) s') :
    codeAny (model X.prog X.w) X.A (.compLoop (sc1 elt tg src ifs sc p) 0 (.ref it) acc X.env) R s := by
  obtain ⟨Wt, ⟨m0, w0⟩, turn⟩ := h
  have fo : ∀ {H'}, (∀ b ∈ fp, H' b = none) → ∀ b ∈ fp, FpOk X pins H' b := fun n b hb => ⟨n b hb, (f b hb).2⟩
  refine loopS ht (fun n s' => ∃ i H', Inv X pins (wipe σ vs) H' s' ∧ tn i s'.heap ∧ (∀ b ∈ fp, H' b = none) ∧ Wt i n H') ?_ m0 ⟨0, H, I, st, fun b hb => (f b hb).1, w0⟩
  rintro n s1 ⟨i, H1, I1, st1, n1, w1⟩
  rcases turn i n H1 w1 with ⟨stop, q⟩ | ⟨go, N, hN, step⟩
  · refine thnF (T.done X rfl rfl rfl hc i pins s1 _ H1 (fun _ _ => False) I1 (fo n1) st1 stop) fun q2 s2 ⟨e, I2⟩ => ?_
    subst e
    exact hR H1 s2 I2 q
  · refine thnF (T.item X rfl rfl rfl hc i pins s1 _ H1 (fun _ _ => False) I1 (fo n1) st1 go) fun q2 s2 ⟨u, e, h2⟩ => ?_
    subst e
    refine thnF h2 fun _ s3 ⟨x, H3, I3, r3, y3, st3, n3⟩ => ?_
    have I3' := I3.pinned (fo n3) (T.obj _ _ st3)
    have z4 := pg.run _ s3 _ H3 x u _ I3' r3 (step x H3 y3)
    rw [hx] at z4
    refine thnF z4 fun _ s4 ⟨σ4, H4, I4, ew, q4⟩ => ?_
    have z5 := pt.run _ s4 σ4 H4 _ I4 q4
    rw [hx] at z5
    refine thnF z5 fun b s5 ⟨H5, I5, q5⟩ => ?_
    have fin : ∀ {σ' H' s'}, Inv X (pins ++ pinsAt fp s3.heap) σ' H' s' → Keeps vs' σ4 σ' → N H' → ∃ m, m < n ∧ ∃ i H', Inv X pins (wipe σ vs) H' s' ∧ tn i s'.heap ∧ (∀ b ∈ fp, H' b = none) ∧ Wt i m H' := fun {σ' H' s'} I' kp nx => by
      obtain ⟨m', hm, w'⟩ := hN H' nx
      have pn : ∀ b ∈ fp, ∀ o, s3.heap.get? b = some o → s'.heap.get? b = some o ∧ H' b = none := fun b hb o e =>
        let z := I'.pin (b, o) (List.mem_append_right _ (List.mem_append_right _ (mem_pinsAt hb e)))
        ⟨z.1, z.2.1⟩
      have el : (wipe σ vs).length = σ'.length := by rw [← ew, wipe_length, kp.1]
      refine ⟨m', hm, i + 1, H', (I'.unpinned (pins := pins)).weak el fun k v e => ?_, T.keep _ _ _ st3 fun b hb o e => (pn b hb o e).1, fun b hb => ?_, w'⟩
      · rw [← ew] at e
        obtain ⟨e1, e2⟩ := wipe_some e
        refine kp.2 k v ?_
        rw [wipe_out fun z => e2 (sub k z)]
        exact e1
      · obtain ⟨o, e, _⟩ := T.obj _ _ st3 b hb
        exact (pn b hb o e).2
    cases b with
    | false =>
      have q5 : N H5 := q5
      exact fin I5 ⟨rfl, fun k v e => (wipe_some e).1⟩ q5
    | true =>
      have q5 : tb σ4 H5 N := q5
      refine thnF (hb _ _ s5 σ4 H5 N I5 q5) fun fn s6 ⟨e, σ6, H6, I6, kp, nx⟩ => ?_
      exact ⟨e, fin I6 kp nx⟩
end
/-- the item put into the set at D -/
def tPutS (P : Program) (w : World) (te : TE) (D : Addr) : L2.St → Hp → (Hp → Prop) → Prop := fun σ H N => te σ H fun y H1 => ∃ (k : Key) (S : Key → Bool) (n : Nat), y = kV k ∧ H1 D = some (SetK P w D S n) ∧ n + 1 < scanBound ∧ N (upd H1 D (SetK P w D (fun j => S j || decide (j = k)) (if S k = true then n else n + 1)))
/-- {elt for tg in src if ..} -/
def tScK (P : Program) (w : World) (wi : TI) (g : TG) (tt : TT) (te : TE) (vs : List Nat) : TE := fun σ H Q =>
  wi σ H fun J H1 => ∀ D, H1 D = none → LoopT J g tt vs (tPutS P w te D) σ (upd H1 D (SetK P w D (fun _ => false) 0)) (Q (.ref D))
section
variable {X : Cx} {elt tg src : Expr} {te : TE} {D : Addr}
theorem in_lastS (hx : X.xe = fun _ _ => False) (he : PE X elt te) : InB X [] (lastS elt (.ref D) X.env) (tPutS X.prog X.w te D) := fun cd pins s σ H Nx I h => by
  have z := he.run pins s σ H _ I h
  rw [hx] at z
  refine wpAny_bind (wpAny_bind (thnF z fun yv s1 ⟨y, H1, I1, r1, k, S, n, ey, hD, hz, q⟩ => ?_))
  subst ey
  have put := mt_saddK pins s1 σ H1 (.ref D) [kV k] (.ref D) [yv] (fun _ H2 => Nx H2) I1 rfl (.cons r1 .nil) ⟨D, k, S, n, rfl, rfl, hD, hz, q⟩
  rw [hx] at put
  refine wpAny_bind (wpAny_standAt (wpAny_bind (thnF put fun _ s2 ⟨_, H2, I2, _, q2⟩ => ?_)))
  exact wpAny_pure (wpAny_pure ⟨rfl, σ, _, I2, Keeps.refl σ, q2⟩)
end
section
variable {X : Cx} {elt tg src : Expr} {ifs : List Expr} {sc : Scope} {own : List (Str × Nat)} {ps : Pos} {wi : TI} {g : TG} {tt : TT} {te : TE}
theorem pe_scK (hc : X.calm = true) (hN : X.N.Nodup) (hi : PI X tg src wi) (ok : BlkOk X.N X.env.scope sc own)
    (hg : ∀ (u : Shared) (G : Hp) (C : Addr) (cl : List (Str × Addr)) (fp : List Addr), PG (X.blk u G sc (compEnvC sc cl C X.env) fp) tg g) (ht : ∀ (u : Shared) (G : Hp) (C : Addr) (cl : List (Str × Addr)) (fp : List Addr), PTs (X.blk u G sc (compEnvC sc cl C X.env) fp) ifs tt) (he : ∀ (u : Shared) (G : Hp) (C : Addr) (cl : List (Str × Addr)) (fp : List Addr), PE (X.blk u G sc (compEnvC sc cl C X.env) fp) elt te)
    (hs : ∀ x, foldedSetIterable src X.env x = pure x := by intro _; rfl) :
    PE X (sc1 elt tg src ifs sc ps) (tScK X.prog X.w wi g tt te (own.map (·.2))) := by
  refine ⟨fun pins s σ H Q I h => ?_⟩
  rw [PpSet.eval_SetComp]
  have clos : ∀ y ∈ sc.names, y.2 = .free → ∃ c, X.env.cells.lookup y.1 = some c := fun y hy e => (ok.free y hy e).elim (fun k => I.ok.has _ (.inl k)) fun k => I.ok.has _ (.inr k)
  refine wpAny_comprehension_free (use := none) rfl hs (closure_ok clos) ok.kind (fun y hy e => by rw [ok.uniq y hy, e]) (thn (hi.run pins s σ H _ I h) fun xv a1 hx => thn hx fun itv a2 z2 => ?_)
  obtain ⟨it, fp, tn, J, H2, rfl, I2, T, st2, fr2, q⟩ := z2
  refine PpSet.newSet_ok (newEnv_comp ?_)
  obtain ⟨D, eD⟩ : ∃ D, D = a2.heap.objs.size := ⟨_, rfl⟩
  have nD : H2 D = none := I2.hok.fresh (Nat.le_of_eq eD.symm)
  have q := q D nD
  rw [← eD]
  obtain ⟨fresh, efr⟩ : ∃ o : Obj, o = { cls := .type "set", dict := none, data := .set #[] 0 (.fresh 0 0 (!X.w.params.followText "set-order")) } := ⟨_, rfl⟩
  rw [← efr]
  have new : (a2.heap.push fresh).SetOf (mixKind X.prog X.w) D (fun _ => false) 0 := by
    rw [efr, eD]
    exact ⟨_, #[], 0, _, Heap.get?_push_size _ rfl, ⟨rfl, rfl, rfl⟩, rfl, (fun e he => by simp at he), (fun k => by simp), (by decide), (by rfl), rfl⟩
  have I3 : Inv X pins σ (upd H2 D (SetK X.prog X.w D (fun _ => false) 0)) { a2 with heap := a2.heap.push fresh } :=
    I2.laid (t' := a2.toks) (fun b o e => Heap.get?_push_of_some _ e) (Nat.le_of_eq eD.symm) (setK_new new)
  have st3 : tn 0 (a2.heap.push fresh) := T.keep _ _ _ st2 fun b _ o e => Heap.get?_push_of_some _ e
  have fr3 : ∀ b ∈ fp, FpOk X pins (upd H2 D (SetK X.prog X.w D (fun _ => false) 0)) b ∧ b < (a2.heap.push fresh).objs.size := fun b hb => by
    obtain ⟨o, e, _⟩ := T.obj _ _ st2 b hb
    have lt := Heap.lt_size e
    refine ⟨⟨?_, (fr2 b hb).2⟩, by rw [Heap.size_push]; exact Nat.lt_succ_of_lt lt⟩
    rw [upd_ne (by rw [eD]; exact Nat.ne_of_lt lt)]
    exact (fr2 b hb).1
  generalize ha3 : ({ a2 with heap := a2.heap.push fresh } : Shared) = a3 at I3 ⊢
  have eh : a3.heap = a2.heap.push fresh := by rw [← ha3]
  rw [← eh] at st3 fr3
  generalize upd H2 D (SetK X.prog X.w D (fun _ => false) 0) = H3 at I3 fr3 q
  have I4 := block_start I3 ok hN fr3
  have st4 : tn 0 (pushCells (a3.heap.push { cls := .type "dict", data := .dict #[] }) sc.names) := T.keep _ _ _ st3 fun b _ o e => pushCells_keeps _ _ _ _ (Heap.get?_push_of_some _ e)
  generalize hcl : cellsFrom (a3.heap.objs.size + 1) sc.names (cloFrom X.env.cells sc.names []) = cl at I4 ⊢
  show codeAny _ _ (.compStart (sc1 elt tg src ifs sc ps) 0 (.ref it) (.ref D) (compEnvC sc cl a3.heap.objs.size X.env)) (compPost (model X.prog X.w) X.A X.xe none _ (.ref D) a3.heap.objs.size) { a3 with heap := pushCells (a3.heap.push { cls := .type "dict", data := .dict #[] }) sc.names }
  generalize ha4 : ({ a3 with heap := pushCells (a3.heap.push { cls := .type "dict", data := .dict #[] }) sc.names } : Shared) = a4 at I4 ⊢
  have st4 : tn 0 a4.heap := by rw [← ha4]; exact st4
  have b1 := in_lastS (X := X.blk a3 H3 sc (compEnvC sc cl a3.heap.objs.size X.env) fp) (D := D) rfl (he a3 H3 a3.heap.objs.size cl fp)
  have lp : codeAny (model X.prog X.w) X.A (.compLoop (sc1 elt tg src ifs sc ps) 0 (.ref it) (.ref D) (compEnvC sc cl a3.heap.objs.size X.env)) (compPost (model X.prog X.w) X.A X.xe none (EP X pins σ Q) (.ref D) a3.heap.objs.size) a4 := by
    refine loop_runS (X := X.blk a3 H3 sc (compEnvC sc cl a3.heap.objs.size X.env) fp) (pins := []) hc rfl T (hg a3 H3 a3.heap.objs.size cl fp) (ht a3 H3 a3.heap.objs.size cl fp) b1 (fun i hi => by cases hi) turnS I4 st4 (fun b hb => ?_) q fun H5 a5 I5 qq => ?_
    · exact ⟨(fr3 b hb).1.1, (I4.ok.exf b hb).1, I4.ok.exfs b hb, .inl hb, fun x c e => (I4.ok.exf b hb).2 x c e, fun pn hp => absurd (show pn ∈ ([] : List (Addr × Obj)) ++ [] from hp) (by simp)⟩
    · have I7 : Inv X pins σ H5 a5 := I3.call' (ch := fp) I5.os I5.base I5.hok I5.bare fun b hb => ⟨(fr3 b hb).1.2.2.2.1, (fr3 b hb).1.2.1, (fr3 b hb).1.2.2.2.2.1, (fr3 b hb).1.2.2.2.2.2⟩
      have nC : H5 a3.heap.objs.size = none := I5.free
      obtain ⟨m, hm, _⟩ := I5.loc
      obtain ⟨c0, c1, c2, c3, c4, c5⟩ := I3.fpOk (Nat.le_refl _) nC
      exact ⟨m, hm, fun h2 sb => ⟨.ref D, H5, I7.turned (t' := a5.toks) (fun b o hb e => (sb.2 b hb).trans e) c0 c1 c3 c4 c5, rfl, qq⟩⟩
  exact PpSet.codeAny_compStart_set lp (T.self X.A 0 _ _ _ st4 lp)
/-- len of a set of keys -/
theorem call_lenSK : CallR X (.builtin "len") (fun xs H Q => ∃ (a : Addr) (S : Key → Bool) (n : Nat), xs = [.ref a] ∧ H a = some (SetK X.prog X.w a S n) ∧ n ≤ 1000 ∧ Q (.int (n : Int)) H) := by
  intro pins s σ H xs us Q I r h
  obtain ⟨a, S, n, rfl, ha, hn1, q⟩ := h
  obtain rfl := Vals.ref1 r
  obtain ⟨o, es, ep, t, ho, hex, hd, _, _, _, hf, hn⟩ := setK_get I ha
  exact call_len_set ho hex hd hf (by rw [hn]; exact Int.lt_of_le_of_lt (b := 1000) (by omega) (by decide)) ⟨.int (n : Int), H, I.tok _, ⟨_, by rw [hn]⟩, q⟩
end
end V3

set_option Elab.async false
set_option linter.all false
set_option maxRecDepth 100000
/-! == and != of plain data, by classes -/
namespace V3
open PySem L2 TL
/-- what a thing is as plain data -/
class Dt (K : PySem.W.Frag) {α : Type} (S : α → V → Hp → Prop) where
  d : α → PyData
  ok : α → Prop
  n : Nat
  dp : ∀ a v H, S a v H → Dp K H v (d a)
  lay : ∀ a, ok a → (d a).canLay0 = true
  dep : ∀ a, (d a).depth ≤ n
  inj : ∀ a b, ok a → ok b → (PyData.eqv (d a) (d b) = true ↔ a = b)
variable {K : PySem.W.Frag}
instance : Dt K isIv where
  d := .int
  ok := fun _ => True
  n := 0
  dp := fun a v H h => by cases h; exact .int a
  lay := fun a _ => by simp [PyData.canLay0]
  dep := fun a => by simp [PyData.depth]
  inj := fun a b _ _ => by simp [PyData.eqv]
instance : Dt K isBv where
  d := .bool
  ok := fun _ => True
  n := 0
  dp := fun a v H h => by cases h; exact .bl a
  lay := fun a _ => by simp [PyData.canLay0]
  dep := fun a => by simp [PyData.depth]
  inj := fun a b _ _ => by simp [PyData.eqv]
instance : Dt K isSv where
  d := .str
  ok := fun s => PyData.strOk s = true
  n := 0
  dp := fun a v H h => by cases h; exact .str a
  lay := fun a h => by simp [PyData.canLay0, h]
  dep := fun a => by simp [PyData.depth]
  inj := fun a b _ _ => by simp [PyData.eqv]
theorem eqvAll_map {α : Type} {d : α → PyData} : ∀ {as bs : List α}, (∀ a ∈ as, ∀ b ∈ bs, (PyData.eqv (d a) (d b) = true ↔ a = b)) → (PyData.eqvAll (as.map d) (bs.map d) = true ↔ as = bs)
  | [], [], _ => by simp [PyData.eqvAll]
  | [], _ :: _, _ => by simp [PyData.eqvAll]
  | _ :: _, [], _ => by simp [PyData.eqvAll]
  | a :: as, b :: bs, h => by
    have h1 := h a (by simp) b (by simp)
    have h2 := eqvAll_map (as := as) (bs := bs) fun x hx y hy => h x (by simp [hx]) y (by simp [hy])
    simp only [List.map_cons, PyData.eqvAll, Bool.and_eq_true, h1, h2, List.cons.injEq]
theorem lay_map {α : Type} {d : α → PyData} : ∀ {as : List α}, (∀ a ∈ as, (d a).canLay0 = true) → PyData.canLayAll0 (as.map d) = true
  | [], _ => by simp [PyData.canLayAll0]
  | a :: as, h => by
    have z := lay_map (as := as) fun x hx => h x (by simp [hx])
    simp [PyData.canLayAll0, h a (by simp), z]
theorem dep_map {α : Type} {d : α → PyData} {n : Nat} (h : ∀ a, (d a).depth ≤ n) : ∀ as : List α, PyData.depthAll (as.map d) ≤ n
  | [] => by simp [PyData.depthAll]
  | a :: as => by
    have z := dep_map h as
    have y := h a
    simp only [List.map_cons, PyData.depthAll]
    omega
theorem Ls.nil' {α : Type} {R : V → α → Prop} {us : List V} (h : Ls R us []) : us = [] := List.length_eq_zero_iff.mp h.1
theorem Ls.uncons {α : Type} {R : V → α → Prop} {us : List V} {a : α} {as : List α} (h : Ls R us (a :: as)) : ∃ u r, us = u :: r ∧ R u a ∧ Ls R r as := by
  cases us with
  | nil => cases h.1
  | cons u r =>
    obtain ⟨w, e, t⟩ := h.2 0 a rfl
    have e : u = w := by simpa using e
    subst e
    exact ⟨u, r, rfl, t, by simpa using h.1, fun i m hm => by simpa using h.2 (i + 1) m (by simpa using hm)⟩
theorem dpAll_map {α : Type} {S : α → V → Hp → Prop} {d : α → PyData} {H : Hp} (h : ∀ a v, S a v H → Dp K H v (d a)) : ∀ {as : List α} {us : List V}, Ls (fun u a => S a u H) us as → DpAll K H us (as.map d)
  | [], us, l => by
    rw [l.nil']
    exact .nil
  | a :: as, us, l => by
    obtain ⟨u, r, rfl, t, l2⟩ := l.uncons
    exact .cons (h a u t) (dpAll_map h l2)
instance {α : Type} {S : α → V → Hp → Prop} [i : Dt K S] : Dt K (isL S) where
  d := fun as => .list (as.map i.d)
  ok := fun as => ∀ a ∈ as, i.ok a
  n := i.n + 1
  dp := fun as v H ⟨D, us, e, hD, l⟩ => by
    subst e
    exact .lst (SqL.of hD) (dpAll_map (fun a v h => i.dp a v H h) l)
  lay := fun as h => by
    simp only [PyData.canLay0]
    exact lay_map fun a ha => i.lay a (h a ha)
  dep := fun as => by
    have z := dep_map i.dep as
    simp only [PyData.depth]
    omega
  inj := fun as bs ha hb => by
    simp only [PyData.eqv]
    rw [eqvAll_map fun a h1 b h2 => i.inj a b (ha a h1) (hb b h2)]
instance {α : Type} {S : α → V → Hp → Prop} [i : Dt K S] : Dt K (isU S) where
  d := fun as => .tuple (as.map i.d)
  ok := fun as => ∀ a ∈ as, i.ok a
  n := i.n + 1
  dp := fun as v H ⟨D, us, e, hD, l⟩ => by
    subst e
    exact .tup (SqT.of hD) (dpAll_map (fun a v h => i.dp a v H h) l)
  lay := fun as h => by
    simp only [PyData.canLay0]
    exact lay_map fun a ha => i.lay a (h a ha)
  dep := fun as => by
    have z := dep_map i.dep as
    simp only [PyData.depth]
    omega
  inj := fun as bs ha hb => by
    simp only [PyData.eqv]
    rw [eqvAll_map fun a h1 b h2 => i.inj a b (ha a h1) (hb b h2)]
/-- tuples of two, of three, of four -/
def isP2 {α β : Type} (S : α → V → Hp → Prop) (T : β → V → Hp → Prop) (p : α × β) : V → Hp → Prop := fun v H => ∃ D u w, v = .ref D ∧ H D = some (.tup [u, w]) ∧ S p.1 u H ∧ T p.2 w H
instance {α β : Type} {S : α → V → Hp → Prop} {T : β → V → Hp → Prop} [∀ a, St (S a)] [∀ a, St (T a)] {p : α × β} : St (isP2 S T p) := ⟨fun _ _ _ s ⟨D, u, w, e, h, a, b⟩ => ⟨D, u, w, e, s _ _ h, up s a, up s b⟩⟩
instance {α β : Type} {S : α → V → Hp → Prop} {T : β → V → Hp → Prop} [∀ a, StL (S a)] [∀ a, StL (T a)] {p : α × β} : StL (isP2 S T p) := ⟨fun _ _ _ s ⟨D, u, w, e, h, a, b⟩ => ⟨D, u, w, e, s _ _ (fun _ z => by cases z) h, upL s a, upL s b⟩⟩
instance {α β : Type} {S : α → V → Hp → Prop} {T : β → V → Hp → Prop} [i : Dt K S] [j : Dt K T] : Dt K (isP2 S T) where
  d := fun p => .tuple [i.d p.1, j.d p.2]
  ok := fun p => i.ok p.1 ∧ j.ok p.2
  n := max i.n j.n + 1
  dp := fun p v H ⟨D, u, w, e, h, a, b⟩ => by
    subst e
    exact .tup (SqT.of h) (.cons (i.dp _ _ _ a) (.cons (j.dp _ _ _ b) .nil))
  lay := fun p h => by simp [PyData.canLay0, PyData.canLayAll0, i.lay _ h.1, j.lay _ h.2]
  dep := fun p => by
    have a := i.dep p.1
    have b := j.dep p.2
    simp only [PyData.depth, PyData.depthAll]
    omega
  inj := fun p q hp hq => by
    obtain ⟨a, b⟩ := p
    obtain ⟨c, e⟩ := q
    simp only [PyData.eqv, PyData.eqvAll, Bool.and_eq_true, i.inj _ _ hp.1 hq.1, j.inj _ _ hp.2 hq.2, Prod.mk.injEq, and_true]
def isP3 {α β γ : Type} (S : α → V → Hp → Prop) (T : β → V → Hp → Prop) (U : γ → V → Hp → Prop) (p : α × β × γ) : V → Hp → Prop := fun v H => ∃ D u w x, v = .ref D ∧ H D = some (.tup [u, w, x]) ∧ S p.1 u H ∧ T p.2.1 w H ∧ U p.2.2 x H
instance {α β γ : Type} {S : α → V → Hp → Prop} {T : β → V → Hp → Prop} {U : γ → V → Hp → Prop} [∀ a, St (S a)] [∀ a, St (T a)] [∀ a, St (U a)] {p : α × β × γ} : St (isP3 S T U p) := ⟨fun _ _ _ s ⟨D, u, w, x, e, h, a, b, c⟩ => ⟨D, u, w, x, e, s _ _ h, up s a, up s b, up s c⟩⟩
instance {α β γ : Type} {S : α → V → Hp → Prop} {T : β → V → Hp → Prop} {U : γ → V → Hp → Prop} [∀ a, StL (S a)] [∀ a, StL (T a)] [∀ a, StL (U a)] {p : α × β × γ} : StL (isP3 S T U p) := ⟨fun _ _ _ s ⟨D, u, w, x, e, h, a, b, c⟩ => ⟨D, u, w, x, e, s _ _ (fun _ z => by cases z) h, upL s a, upL s b, upL s c⟩⟩
instance {α β γ : Type} {S : α → V → Hp → Prop} {T : β → V → Hp → Prop} {U : γ → V → Hp → Prop} [i : Dt K S] [j : Dt K T] [l : Dt K U] : Dt K (isP3 S T U) where
  d := fun p => .tuple [i.d p.1, j.d p.2.1, l.d p.2.2]
  ok := fun p => i.ok p.1 ∧ j.ok p.2.1 ∧ l.ok p.2.2
  n := max (max i.n j.n) l.n + 1
  dp := fun p v H ⟨D, u, w, x, e, h, a, b, c⟩ => by
    subst e
    exact .tup (SqT.of h) (.cons (i.dp _ _ _ a) (.cons (j.dp _ _ _ b) (.cons (l.dp _ _ _ c) .nil)))
  lay := fun p h => by simp [PyData.canLay0, PyData.canLayAll0, i.lay _ h.1, j.lay _ h.2.1, l.lay _ h.2.2]
  dep := fun p => by
    have a := i.dep p.1
    have b := j.dep p.2.1
    have c := l.dep p.2.2
    simp only [PyData.depth, PyData.depthAll]
    omega
  inj := fun p q hp hq => by
    obtain ⟨a, b, f⟩ := p
    obtain ⟨c, e, g⟩ := q
    simp only [PyData.eqv, PyData.eqvAll, Bool.and_eq_true, i.inj _ _ hp.1 hq.1, j.inj _ _ hp.2.1 hq.2.1, l.inj _ _ hp.2.2 hq.2.2, Prod.mk.injEq, and_true]
section
variable {σ : L2.St} {ta tb te : TE} {ts : TA} {H0 : Hp} {α β γ : Type} {S : α → V → Hp → Prop} {T : β → V → Hp → Prop} {U : γ → V → Hp → Prop} [∀ a, St (S a)] [∀ a, St (T a)] [∀ a, St (U a)] {a b : α} {c : β} {e : γ}
theorem shaped_dt [i : Dt K S] (n : i.n ≤ 64) (h : i.ok a) : SeqAt.shaped (i.d a) = true := by
  have z := i.dep a
  unfold SeqAt.shaped
  rw [i.lay a h, decide_eq_true (by omega)]
  rfl
theorem ev_neD [i : Dt K S] [Decidable (a = b)] (ha : EvV (Same H0) σ ta (S a)) (hb : EvV (Same H0) σ tb (S b)) (oa : i.ok a) (ob : i.ok b) (n : i.n ≤ 64 := by exact Nat.le_of_ble_eq_true rfl) : EvV (Same H0) σ (tOp (rNeD K) ta tb) (isBv (!decide (a = b))) :=
  ev_o ha hb fun x y H Q w hx hy k => ⟨_, _, i.dp _ _ _ hx, i.dp _ _ _ hy, shaped_dt n oa, shaped_dt n ob, k _ H (Same.refl H) (by
    have z := i.inj a b oa ob
    by_cases h : a = b
    · rw [z.mpr h, decide_eq_true h]
      rfl
    · rw [Bool.eq_false_iff.mpr fun q => h (z.mp q), decide_eq_false h]
      rfl)⟩
theorem ev_eqD [i : Dt K S] [Decidable (a = b)] (ha : EvV (Same H0) σ ta (S a)) (hb : EvV (Same H0) σ tb (S b)) (oa : i.ok a) (ob : i.ok b) (n : i.n ≤ 64 := by exact Nat.le_of_ble_eq_true rfl) : EvV (Same H0) σ (tOp (rEqD K) ta tb) (isBv (decide (a = b))) :=
  ev_o ha hb fun x y H Q w hx hy k => ⟨_, _, i.dp _ _ _ hx, i.dp _ _ _ hy, shaped_dt n oa, shaped_dt n ob, k _ H (Same.refl H) (by
    have z := i.inj a b oa ob
    by_cases h : a = b
    · rw [z.mpr h, decide_eq_true h]
      rfl
    · rw [Bool.eq_false_iff.mpr fun q => h (z.mp q), decide_eq_false h]
      rfl)⟩
theorem ev_p2 (ha : EvV (Same H0) σ ta (S a)) (hb : EvV (Same H0) σ tb (T c)) : EvV (Same H0) σ (tTup (tCons ta (tCons tb tNil))) (isP2 S T (a, c)) := fun H Q w k =>
  ha H _ w fun x H1 s1 w1 hx => hb H1 _ w1 fun y H2 s2 w2 hy => ⟨(by show 2 ≤ sizeLine; decide), fun p np => by
    have s3 : Same H2 (upd H2 p (.tup [x, y])) := Same.new np
    exact k _ _ ((s1.trans s2).trans s3) (w2.trans s3) ⟨p, x, y, rfl, upd_same, up (s2.trans s3) hx, up s3 hy⟩⟩
theorem ev_p3 (ha : EvV (Same H0) σ ta (S a)) (hb : EvV (Same H0) σ tb (T c)) (hc : EvV (Same H0) σ te (U e)) : EvV (Same H0) σ (tTup (tCons ta (tCons tb (tCons te tNil)))) (isP3 S T U (a, c, e)) := fun H Q w k =>
  ha H _ w fun x H1 s1 w1 hx => hb H1 _ w1 fun y H2 s2 w2 hy => hc H2 _ w2 fun z H3 s3 w3 hz => ⟨(by show 3 ≤ sizeLine; decide), fun p np => by
    have s4 : Same H3 (upd H3 p (.tup [x, y, z])) := Same.new np
    exact k _ _ (((s1.trans s2).trans s3).trans s4) (w3.trans s4) ⟨p, x, y, z, rfl, upd_same, up ((s2.trans s3).trans s4) hx, up (s3.trans s4) hy, up s4 hz⟩⟩
end
end V3

set_option Elab.async false
set_option linter.all false
set_option maxRecDepth 100000
/-! operators, answered -/
namespace V3
open PySem L2 TL
section
variable {K : PySem.W.Frag} {σ : L2.St} {ta tb te : TE} {t u : TT} {H0 : Hp} {R : V → Hp → Prop} {i j : Int} {b : Bool}
theorem ev_i0 {g : Int → Int → V} (ha : EvV (Same H0) σ ta (isIv i)) (hb : EvV (Same H0) σ tb (isIv j)) : EvV (Same H0) σ (tOp (rI0 g) ta tb) (isVv (g i j)) :=
  ev_o ha hb fun x y H Q w ex ey k => ⟨i, j, ex, ey, k _ H (Same.refl H) rfl⟩
theorem ev_i1 {C : Int → Int → Prop} {g : Int → Int → V} (c : C i j) (ha : EvV (Same H0) σ ta (isIv i)) (hb : EvV (Same H0) σ tb (isIv j)) : EvV (Same H0) σ (tOp (rI C g) ta tb) (isVv (g i j)) :=
  ev_o ha hb fun x y H Q w ex ey k => ⟨i, j, ex, ey, c, k _ H (Same.refl H) rfl⟩
theorem ev_ad (ha : EvV (Same H0) σ ta (isIv i)) (hb : EvV (Same H0) σ tb (isIv j)) : EvV (Same H0) σ (tOp (rI0 fun i j => .int (i + j)) ta tb) (isIv (i + j)) := ev_i0 (g := fun i j => .int (i + j)) ha hb
theorem ev_sb (ha : EvV (Same H0) σ ta (isIv i)) (hb : EvV (Same H0) σ tb (isIv j)) : EvV (Same H0) σ (tOp (rI0 fun i j => .int (i - j)) ta tb) (isIv (i - j)) := ev_i0 (g := fun i j => .int (i - j)) ha hb
theorem ev_lt (ha : EvV (Same H0) σ ta (isIv i)) (hb : EvV (Same H0) σ tb (isIv j)) : EvV (Same H0) σ (tOp (rI0 fun i j => .bl (decide (i < j))) ta tb) (isBv (decide (i < j))) := ev_i0 (g := fun i j => .bl (decide (i < j))) ha hb
theorem ev_le (ha : EvV (Same H0) σ ta (isIv i)) (hb : EvV (Same H0) σ tb (isIv j)) : EvV (Same H0) σ (tOp (rI0 fun i j => .bl (decide (i ≤ j))) ta tb) (isBv (decide (i ≤ j))) := ev_i0 (g := fun i j => .bl (decide (i ≤ j))) ha hb
theorem ev_gt (ha : EvV (Same H0) σ ta (isIv i)) (hb : EvV (Same H0) σ tb (isIv j)) : EvV (Same H0) σ (tOp (rI0 fun i j => .bl (decide (j < i))) ta tb) (isBv (decide (j < i))) := ev_i0 (g := fun i j => .bl (decide (j < i))) ha hb
theorem ev_ge (ha : EvV (Same H0) σ ta (isIv i)) (hb : EvV (Same H0) σ tb (isIv j)) : EvV (Same H0) σ (tOp (rI0 fun i j => .bl (decide (j ≤ i))) ta tb) (isBv (decide (j ≤ i))) := ev_i0 (g := fun i j => .bl (decide (j ≤ i))) ha hb
theorem ev_mod (c : 0 < j) (ha : EvV (Same H0) σ ta (isIv i)) (hb : EvV (Same H0) σ tb (isIv j)) : EvV (Same H0) σ (tOp (rI (fun _ j => 0 < j) fun i j => .int (i % j)) ta tb) (isIv (i % j)) := ev_i1 (g := fun i j => .int (i % j)) c ha hb
theorem ev_mul (c : CMul i j) (ha : EvV (Same H0) σ ta (isIv i)) (hb : EvV (Same H0) σ tb (isIv j)) : EvV (Same H0) σ (tOp (rI CMul fun i j => .int (i * j)) ta tb) (isIv (i * j)) := ev_i1 (g := fun i j => .int (i * j)) c ha hb
theorem ev_pow (c : CPow i j) (ha : EvV (Same H0) σ ta (isIv i)) (hb : EvV (Same H0) σ tb (isIv j)) : EvV (Same H0) σ (tOp (rI CPow fun i j => .int (i ^ j.toNat)) ta tb) (isIv (i ^ j.toNat)) := ev_i1 (g := fun i j => .int (i ^ j.toNat)) c ha hb
theorem ev_ng (ha : EvV (Same H0) σ ta (isIv i)) : EvV (Same H0) σ (tUn (rU fun i => .int (-i)) ta) (isIv (-i)) := fun H Q w k => ha H _ w fun v H' s w' e => ⟨i, e, k _ H' s w' rfl⟩
theorem ev_int1 (ha : EvV (Same H0) σ ta (isIv i)) : EvV (Same H0) σ (tCB (fun xs H Q => (∃ i, xs = [.int i] ∧ Q (.int i) H) ∨ ∃ k, xs = [.bl k] ∧ Q (.int (if k then 1 else 0)) H) (tCons ta tNil)) (isIv i) := fun H Q w k =>
  ha H _ w fun v H' s w' e => by
    cases e
    exact .inl ⟨i, rfl, k _ H' s w' rfl⟩
theorem ev_cat {x y : Str} (n : x.length + y.length ≤ 100000) (ha : EvV (Same H0) σ ta (isSv x)) (hb : EvV (Same H0) σ tb (isSv y)) : EvV (Same H0) σ (tOp (fun x y H Q => ∃ i j, x = .str i ∧ y = .str j ∧ i.length + j.length ≤ sizeLine ∧ Q (.str (i ++ j)) H) ta tb) (isSv (x ++ y)) :=
  ev_o ha hb fun _ _ H Q w ex ey k => ⟨x, y, ex, ey, Nat.le_trans n (by decide), k _ H (Same.refl H) rfl⟩
theorem ev_eqi (ha : EvV (Same H0) σ ta (isIv i)) (hb : EvV (Same H0) σ tb (isIv j)) : EvV (Same H0) σ (tOp rEq ta tb) (isBv (decide (i = j))) :=
  ev_o ha hb fun x y H Q w ex ey k => by
    cases ex
    cases ey
    refine ⟨rfl, k _ H (Same.refl H) ?_⟩
    have e : (V.int i = V.int j) ↔ (i = j) := ⟨fun z => by injection z, fun z => by rw [z]⟩
    show V.bl (decide (V.int i = V.int j)) = V.bl (decide (i = j))
    by_cases h : i = j
    · rw [decide_eq_true h, decide_eq_true (e.mpr h)]
    · rw [decide_eq_false h, decide_eq_false (fun z => h (e.mp z))]
theorem ev_is {b' : Bool} (h : EvV (Same H0) σ ta (isBv b)) (e : b = b') : EvV (Same H0) σ ta (isBv b') := e ▸ h
theorem ev_at (ha : EvV (Same H0) σ ta (isBv true)) (hb : EvV (Same H0) σ tb R) : EvV (Same H0) σ (tAndV ta tb) R := fun H Q w k => ha H _ w fun v H1 s1 w1 e => ⟨true, e, iteT (hb H1 _ w1 fun v H2 s2 w2 r => k v H2 (s1.trans s2) w2 r)⟩
theorem ev_af (ha : EvV (Same H0) σ ta (isBv false)) : EvV (Same H0) σ (tAndV ta tb) (isBv false) := fun H Q w k => ha H _ w fun v H1 s1 w1 e => ⟨false, e, iteF (k _ H1 s1 w1 rfl)⟩
theorem ev_av {p q : Bool} (ha : EvV (Same H0) σ ta (isBv p)) (hb : p = true → EvV (Same H0) σ tb (isBv q)) : EvV (Same H0) σ (tAndV ta tb) (isBv (p && q)) := by
  cases p with
  | true => exact ev_at ha (hb rfl)
  | false => exact ev_af ha
theorem ev_ov {p q : Bool} (ha : EvV (Same H0) σ ta (isBv p)) (hb : p = false → EvV (Same H0) σ tb (isBv q)) : EvV (Same H0) σ (tOrV ta tb) (isBv (p || q)) := fun H Q w k => ha H _ w fun v H1 s1 w1 e => by
  cases p with
  | true => exact ⟨true, e, iteT (k _ H1 s1 w1 rfl)⟩
  | false => exact ⟨false, e, iteF (hb rfl H1 _ w1 fun v H2 s2 w2 r => k v H2 (s1.trans s2) w2 r)⟩
theorem ev_nv {p : Bool} (ha : EvV (Same H0) σ ta (isBv p)) : EvV (Same H0) σ (tNotV ta) (isBv (!p)) := fun H Q w k => ha H _ w fun v H1 s1 w1 e => ⟨p, e, k _ H1 s1 w1 rfl⟩
/-- len of a list, of a tuple -/
theorem ev_lenL {α : Type} {S : α → V → Hp → Prop} {as : List α} (ha : EvV (Same H0) σ ta (isL S as)) : EvV (Same H0) σ (tCB (fun xs H Q => ∃ p ys, xs = [.ref p] ∧ (SqL K H p ys ∨ SqT K H p ys) ∧ Q (.int (ys.length : Int)) H) (tCons ta tNil)) (isIv (as.length : Int)) := fun H Q w k =>
  ha H _ w fun x H1 s1 w1 hx => by
    obtain ⟨D, us, rfl, hD, l⟩ := hx
    exact ⟨D, us, rfl, .inl (SqL.of hD), k _ H1 s1 w1 (by rw [l.1]; rfl)⟩
theorem ev_lenU {α : Type} {S : α → V → Hp → Prop} {as : List α} (ha : EvV (Same H0) σ ta (isU S as)) : EvV (Same H0) σ (tCB (fun xs H Q => ∃ p ys, xs = [.ref p] ∧ (SqL K H p ys ∨ SqT K H p ys) ∧ Q (.int (ys.length : Int)) H) (tCons ta tNil)) (isIv (as.length : Int)) := fun H Q w k =>
  ha H _ w fun x H1 s1 w1 hx => by
    obtain ⟨D, us, rfl, hD, l⟩ := hx
    exact ⟨D, us, rfl, .inr (SqT.of hD), k _ H1 s1 w1 (by rw [l.1]; rfl)⟩
theorem Ls.eqs {us ws : List V} {H : Hp} (h : Ls (fun u a => isVv a u H) us ws) : us = ws := by
  refine List.ext_getElem? fun i => ?_
  cases e : ws[i]? with
  | none =>
    have z : ws.length ≤ i := List.getElem?_eq_none_iff.mp e
    rw [List.getElem?_eq_none_iff, h.1]
    exact z
  | some m =>
    obtain ⟨v, ev, q⟩ := h.2 i m e
    have q : v = m := q
    rw [ev, q]
end
end V3

set_option Elab.async false
set_option linter.all false
set_option maxRecDepth 100000
/-! lists cut, joined, turned round; texts split and joined, answered -/
namespace V3
open PySem L2 TL
def cutA {α : Type} (xs : List α) (lo hi : Option Int) : List α := (xs.drop (HT.sIx xs.length 0 lo)).take (HT.sIx xs.length xs.length hi - HT.sIx xs.length 0 lo)
theorem cutA_all {α : Type} (xs : List α) : cutA xs none none = xs := by
  unfold cutA
  rw [HT.sIx_none, HT.sIx_none]
  simp
theorem cutA_from {α : Type} (xs : List α) (n : Nat) : cutA xs (some (n : Int)) none = xs.drop n := by
  unfold cutA
  rw [HT.sIx_nat, HT.sIx_none]
  by_cases h : n ≤ xs.length
  · rw [Nat.min_eq_left h]
    exact List.take_of_length_le (Nat.le_of_eq (List.length_drop ..))
  · rw [Nat.min_eq_right (by omega), List.drop_length, List.drop_eq_nil_of_le (by omega)]
    simp
theorem cutA_to {α : Type} (xs : List α) (n : Nat) : cutA xs none (some (n : Int)) = xs.take n := by
  unfold cutA
  rw [HT.sIx_nat, HT.sIx_none, List.drop_zero, Nat.sub_zero]
  by_cases h : n ≤ xs.length
  · rw [Nat.min_eq_left h]
  · rw [Nat.min_eq_right (by omega), List.take_length, List.take_of_length_le (by omega)]
theorem cutA_mid {α : Type} (xs : List α) (n m : Nat) : cutA xs (some (n : Int)) (some (m : Int)) = (xs.take m).drop n := by
  unfold cutA
  rw [HT.sIx_nat, HT.sIx_nat]
  by_cases h : n ≤ xs.length
  · rw [Nat.min_eq_left h, List.drop_take]
    by_cases k : m ≤ xs.length
    · rw [Nat.min_eq_left k]
    · rw [Nat.min_eq_right (by omega), List.take_of_length_le (Nat.le_of_eq (List.length_drop ..)), List.take_of_length_le (by rw [List.length_drop]; omega)]
  · rw [Nat.min_eq_right (a := n) (by omega), List.drop_length, List.drop_eq_nil_of_le (by rw [List.length_take]; omega)]
    simp
theorem Ls.drop {α : Type} {R : V → α → Prop} {us : List V} {as : List α} (l : Ls R us as) (n : Nat) : Ls R (us.drop n) (as.drop n) := ⟨by rw [List.length_drop, List.length_drop, l.1], fun i m h => by
  rw [List.getElem?_drop] at h ⊢
  exact l.2 _ _ h⟩
theorem Ls.take {α : Type} {R : V → α → Prop} {us : List V} {as : List α} (l : Ls R us as) (n : Nat) : Ls R (us.take n) (as.take n) := ⟨by rw [List.length_take, List.length_take, l.1], fun i m h => by
  rw [List.getElem?_take] at h ⊢
  by_cases c : i < n
  · rw [if_pos c] at h ⊢
    exact l.2 _ _ h
  · rw [if_neg c] at h
    cases h⟩
theorem Ls.app {α : Type} {R : V → α → Prop} {us vs : List V} {as bs : List α} (l : Ls R us as) (k : Ls R vs bs) : Ls R (us ++ vs) (as ++ bs) := ⟨by rw [List.length_append, List.length_append, l.1, k.1], fun i m h => by
  by_cases c : i < as.length
  · rw [List.getElem?_append_left c] at h
    rw [List.getElem?_append_left (by rw [l.1]; exact c)]
    exact l.2 _ _ h
  · rw [List.getElem?_append_right (by omega)] at h
    rw [List.getElem?_append_right (by rw [l.1]; omega), l.1]
    exact k.2 _ _ h⟩
theorem Ls.rev {α : Type} {R : V → α → Prop} {us : List V} {as : List α} (l : Ls R us as) : Ls R us.reverse as.reverse := ⟨by rw [List.length_reverse, List.length_reverse, l.1], fun i m h => by
  have lt : i < as.length := by
    have z := (List.getElem?_eq_some_iff.mp h).1
    rw [List.length_reverse] at z
    exact z
  rw [List.getElem?_reverse lt] at h
  rw [List.getElem?_reverse (by rw [l.1]; exact lt), l.1]
  exact l.2 _ _ h⟩
theorem Ls.put {α : Type} {R : V → α → Prop} {us : List V} {as : List α} {v : V} {a : α} (l : Ls R us as) (r : R v a) (j : Nat) : Ls R (us.set j v) (as.set j a) := ⟨by rw [List.length_set, List.length_set, l.1], fun i m h => by
  rw [List.getElem?_set] at h ⊢
  by_cases c : j = i
  · rw [if_pos c] at h ⊢
    by_cases q : j < as.length
    · rw [if_pos q] at h
      rw [if_pos (by rw [l.1]; exact q)]
      cases h
      exact ⟨v, rfl, r⟩
    · rw [if_neg q] at h
      cases h
  · rw [if_neg c] at h ⊢
    exact l.2 _ _ h⟩
theorem Ls.cut {α : Type} {R : V → α → Prop} {us : List V} {as : List α} (l : Ls R us as) (lo hi : Option Int) : Ls R (cutV us lo hi) (cutA as lo hi) := by
  unfold cutV cutA
  rw [l.1]
  exact (l.drop _).take _
theorem Ls.strs : ∀ {H : Hp} (as : List Str), Ls (fun u a => isSv a u H) (as.map V.str) as := fun as => ⟨by rw [List.length_map], fun i m h => ⟨.str m, by rw [List.getElem?_map, h]; rfl, rfl⟩⟩
theorem Ls.toStrs {H : Hp} {us : List V} {as : List Str} (l : Ls (fun u a => isSv a u H) us as) : us = as.map V.str := by
  refine List.ext_getElem? fun i => ?_
  cases e : as[i]? with
  | none =>
    have z : as.length ≤ i := List.getElem?_eq_none_iff.mp e
    rw [List.getElem?_map, e, List.getElem?_eq_none (by rw [l.1]; exact z)]
    rfl
  | some m =>
    obtain ⟨v, ev, q⟩ := l.2 i m e
    have q : v = .str m := q
    rw [ev, q, List.getElem?_map, e]
    rfl
section
variable {K : PySem.W.Frag} {σ : L2.St} {ta tb te : TE} {tl th : TO} {H0 : Hp} {α : Type} {S : α → V → Hp → Prop} {as bs : List α} {x y : Str}
theorem evn_cut [∀ a, St (S a)] {lo hi : Option Int} (ha : EvV (Same H0) σ ta (isL S as)) (hl : EvO (Same H0) σ tl lo) (hh : EvO (Same H0) σ th hi) : EvNL H0 σ (tSl (rSlL K) ta tl th) S (cutA as lo hi) := fun H Q w k =>
  ha H _ w fun v H1 s1 w1 hv => hl H1 _ w1 fun H2 s2 w2 => hh H2 _ w2 fun H3 s3 w3 => by
    obtain ⟨D, us, rfl, hD, l⟩ := up (s2.trans s3) hv
    refine ⟨D, us, rfl, SqL.of hD, fun p np => ?_⟩
    have s4 : Same H3 (upd H3 p (.lst (cutV us lo hi))) := Same.new np
    have S3 := (s1.trans s2).trans s3
    exact k p _ _ (S3.free np) (S3.trans s4) upd_same ((l.cut lo hi).up s4)
theorem evn_cat [∀ a, St (S a)] (ha : EvV (Same H0) σ ta (isL S as)) (hb : EvV (Same H0) σ tb (isL S bs)) (n : as.length + bs.length ≤ 1000) : EvNL H0 σ (tOp rCat ta tb) S (as ++ bs) := fun H Q w k =>
  ha H _ w fun v H1 s1 w1 hv => hb H1 _ w1 fun u H2 s2 w2 hu => by
    obtain ⟨D, us, rfl, hD, l⟩ := up s2 hv
    obtain ⟨B, vs, rfl, hB, m⟩ := hu
    refine ⟨D, B, us, vs, rfl, rfl, hD, hB, Nat.le_trans (by rw [l.1, m.1]; exact n) (by decide), fun p np => ?_⟩
    have s4 : Same H2 (upd H2 p (.lst (us ++ vs))) := Same.new np
    exact k p _ _ ((s1.trans s2).free np) ((s1.trans s2).trans s4) upd_same ((l.app m).up s4)
theorem evn_rev [∀ a, St (S a)] (ha : EvV (Same H0) σ ta (isL S as)) : EvNL H0 σ (tRevL K ta) S as.reverse := fun H Q w k =>
  ha H _ w fun v H1 s1 w1 hv => by
    obtain ⟨D, us, rfl, hD, l⟩ := hv
    refine ⟨D, us, rfl, SqL.of hD, fun p np => ?_⟩
    have s4 : Same H1 (upd H1 p (.lst us.reverse)) := Same.new np
    exact k p _ _ (s1.free np) (s1.trans s4) upd_same (l.rev.up s4)
/-- an item of a list, of a tuple, by its number -/
theorem ev_ixL [∀ a, St (S a)] {n : Nat} {a : α} (e : as[n]? = some a) (ha : EvV (Same H0) σ ta (isL S as)) (hb : EvV (Same H0) σ tb (isIv (n : Int))) : EvV (Same H0) σ (tOp (rIxL K) ta tb) (S a) :=
  ev_o ha hb fun v u H Q w hv hu k => by
    obtain ⟨D, us, rfl, hD, l⟩ := hv
    cases hu
    obtain ⟨z, ez, r⟩ := l.2 n a e
    have lt : n < us.length := (List.getElem?_eq_some_iff.mp ez).1
    refine ⟨D, us, (n : Int), z, rfl, rfl, SqL.of hD, ?_, k z H (Same.refl H) r⟩
    show (ixN us.length (n : Int)).bind (fun j => us[j]?) = _
    have ei : ixN us.length (n : Int) = some n := by
      unfold ixN
      rw [if_pos (by omega), if_pos (by omega)]
      rfl
    rw [ei]
    exact ez
theorem ev_ixU [∀ a, St (S a)] {n : Nat} {a : α} (e : as[n]? = some a) (ha : EvV (Same H0) σ ta (isU S as)) (hb : EvV (Same H0) σ tb (isIv (n : Int))) : EvV (Same H0) σ (tOp (rIxT K) ta tb) (S a) :=
  ev_o ha hb fun v u H Q w hv hu k => by
    obtain ⟨D, us, rfl, hD, l⟩ := hv
    cases hu
    obtain ⟨z, ez, r⟩ := l.2 n a e
    have lt : n < us.length := (List.getElem?_eq_some_iff.mp ez).1
    refine ⟨D, us, (n : Int), z, rfl, rfl, SqT.of hD, ?_, k z H (Same.refl H) r⟩
    show (ixN us.length (n : Int)).bind (fun j => us[j]?) = _
    have ei : ixN us.length (n : Int) = some n := by
      unfold ixN
      rw [if_pos (by omega), if_pos (by omega)]
      rfl
    rw [ei]
    exact ez
/-- text.split(sep) -/
theorem evn_split (n : x.length ≤ 100000) (hy : (y.length == 0) = false) (ha : EvV (Same H0) σ ta (isSv x)) (hb : EvV (Same H0) σ tb (isSv y)) :
    EvNL H0 σ (tM1 (fun x xs H Q => ∃ a b, x = .str a ∧ xs = [.str b] ∧ (b.length == 0) = false ∧ a.length + 2 ≤ sizeLine ∧ rNewStrs (Txt.split a b) H Q) ta tb) isSv (Txt.split x y) := fun H Q w k =>
  ha H _ w fun v H1 s1 w1 e => ⟨⟨x, e⟩, hb H1 _ w1 fun u H2 s2 w2 e2 => by
    cases e
    cases e2
    refine ⟨x, y, rfl, rfl, hy, Nat.le_trans (Nat.add_le_add_right n 2) (by decide), fun p np => ?_⟩
    have s4 : Same H2 (upd H2 p (.lst ((Txt.split x y).map V.str))) := Same.new np
    exact k p _ _ ((s1.trans s2).free np) ((s1.trans s2).trans s4) upd_same (Ls.strs _)⟩
/-- sep.join(texts) -/
theorem ev_joinLs {L : List Str} (hy : y.length ≤ 4) (n : (L.map (·.length)).sum + L.length ≤ 100000) (ha : EvV (Same H0) σ ta (isSv y)) (hb : EvV (Same H0) σ tb (isSs L)) : EvV (Same H0) σ (tM1 (rJoinK K) ta tb) (isSv (Str.join y L)) := fun H Q w k =>
  ha H _ w fun v H1 s1 w1 e => ⟨⟨y, e⟩, hb H1 _ w1 fun u H2 s2 w2 hu => by
    cases e
    obtain ⟨D, us, rfl, hD, l⟩ := hu
    have el := l.toStrs
    subst el
    refine ⟨y, D, L, rfl, rfl, .inl (SqL.of hD), ?_, k _ H2 (s1.trans s2) w2 (by rw [join_eq]; rfl)⟩
    have z : L.length * y.length ≤ L.length * 4 := Nat.mul_le_mul_left _ hy
    refine Nat.le_trans (m := 500000) ?_ (by decide)
    first | omega | (rw [Nat.mul_comm]; omega) | (simp only [List.length_map]; omega)⟩
theorem EvNL.isL {S : α → V → Hp → Prop} (h : EvNL H0 σ te S as) : EvV (Same H0) σ te (isL S as) := h.ev
end
end V3

set_option Elab.async false
set_option linter.all false
set_option maxRecDepth 100000
/-! in, str of a number, enumerate, != of scalars, answered; a class method within a try -/
namespace V3
open PySem L2 TL
theorem inV_strE {k : Str} {L : List Str} : inV (.str k) (L.map V.str) = decide (k ∈ L) := by
  induction L with
  | nil => rfl
  | cons a r ih =>
    have e : inV (.str k) ((a :: r).map V.str) = (a == k || inV (.str k) (r.map V.str)) := rfl
    rw [e, ih]
    by_cases q : k = a
    · subst q
      simp
    · have z : (a == k) = false := Bool.eq_false_iff.mpr fun w => q (eq_of_beq w).symm
      rw [z]
      simp [q]
theorem flat_strE (L : List Str) : (L.map V.str).all flatV = true := by
  induction L with
  | nil => rfl
  | cons a r ih => simpa [flatV] using ih
def negB (neg b : Bool) : Bool := if neg then !b else b
section
variable {K : PySem.W.Frag} {σ : L2.St} {ta tb te : TE} {ts : TA} {H0 : Hp} {R : V → Hp → Prop} {x : Str} {L : List Str} {i : Int} {neg : Bool} {u v : V}
theorem ev_inL (ha : EvV (Same H0) σ ta (isSv x)) (hb : EvV (Same H0) σ tb (isSs L)) : EvV (Same H0) σ (tOp (rIn K neg) ta tb) (isBv (negB neg (decide (x ∈ L)))) :=
  ev_o ha hb fun a b H Q w ea hb k => by
    cases ea
    obtain ⟨D, us, rfl, hD, l⟩ := hb
    have e := l.toStrs
    subst e
    exact ⟨D, _, rfl, .inl (SqL.of hD), rfl, flat_strE _, k _ H (Same.refl H) (by rw [inV_strE]; rfl)⟩
theorem ev_inT (ha : EvV (Same H0) σ ta (isSv x)) (hb : EvV (Same H0) σ tb (isU isSv L)) : EvV (Same H0) σ (tOp (rIn K neg) ta tb) (isBv (negB neg (decide (x ∈ L)))) :=
  ev_o ha hb fun a b H Q w ea hb k => by
    cases ea
    obtain ⟨D, us, rfl, hD, l⟩ := hb
    have e := l.toStrs
    subst e
    exact ⟨D, _, rfl, .inr (SqT.of hD), rfl, flat_strE _, k _ H (Same.refl H) (by rw [inV_strE]; rfl)⟩
theorem ev_num (am : i.natAbs.log2 < 1920) (ha : EvV (Same H0) σ ta (isIv i)) : EvV (Same H0) σ (tCB (fun xs H Q => ∃ i, xs = [.int i] ∧ i.natAbs.log2 < 1920 ∧ Q (.str (toString i)) H) (tCons ta tNil)) (isSv (toString i)) := fun H Q w k =>
  ha H _ w fun y H1 s1 w1 e => by
    cases e
    exact ⟨i, rfl, am, k _ H1 s1 w1 rfl⟩
theorem ev_neV (sc : scal u v = true) (ha : EvV (Same H0) σ ta (isVv u)) (hb : EvV (Same H0) σ tb (isVv v)) : EvV (Same H0) σ (tOp rNe ta tb) (isBv (!decide (u = v))) :=
  ev_o ha hb fun a b H Q w ea eb k => by
    cases ea
    cases eb
    exact ⟨sc, k _ H (Same.refl H) rfl⟩
theorem ev_eqV (sc : scal u v = true) (ha : EvV (Same H0) σ ta (isVv u)) (hb : EvV (Same H0) σ tb (isVv v)) : EvV (Same H0) σ (tOp rEq ta tb) (isBv (decide (u = v))) :=
  ev_o ha hb fun a b H Q w ea eb k => by
    cases ea
    cases eb
    exact ⟨sc, k _ H (Same.refl H) rfl⟩
theorem ev_isN (ha : EvV (Same H0) σ ta (isVv u)) : EvV (Same H0) σ (tOp (fun x y H Q => y = V.non ∧ Q (.bl (decide (x = .non))) H) ta (tC .non)) (isBv (decide (u = .non))) :=
  ev_o (Ra := isVv u) (Rb := isVv .non) ha ev_c fun a b H Q w ea eb k => by
    cases ea
    cases eb
    exact ⟨rfl, k _ H (Same.refl H) rfl⟩
/-- an if, either way -/
theorem if_b {c : TT} {t u : TS} {D : Ends} {H : Hp} {b : Bool} (w : Same H0 H) (h : EvB (Same H0) σ c b) (kt : b = true → ∀ H', Same H H' → t D σ H') (kf : b = false → ∀ H', Same H H' → u D σ H') : tIfS c t u D σ H := h H _ w fun H' s _ => by
  cases b with
  | true => exact iteT (kt rfl H' s)
  | false => exact iteF (kf rfl H' s)
theorem evi_tupU {α : Type} {S : α → V → Hp → Prop} [∀ a, St (S a)] {as : List α} (ha : EvV (Same H0) σ te (isU S as)) : EvI H0 σ (iTup K te) as S :=
  evi_tup (ev_to ha fun v H ⟨D, us, e, hD, l⟩ => ⟨D, us, e, fun H' s => SqT.of (s _ _ hD), l⟩)
theorem evn_lcY {α β : Type} {wi : TI} {i : Nat} {as : List α} {S : α → V → Hp → Prop} {S' : β → V → Hp → Prop} [∀ b, StL (S' b)] (f : α → β) (hi : EvI H0 σ wi as S) (hn : as.length ≤ 1000)
    (hb : ∀ a ∈ as, ∀ x H, Same H0 H → S a x H → EvV (Same H) ((wipe σ [i]).set i (some x)) te (S' (f a))) (hw : ∀ x : V, wipe ((wipe σ [i]).set i (some x)) [i] = wipe σ [i]) :
    EvNL H0 σ (tLc wi (gName i) tYes te [i]) S' (as.map f) := by
  have z := evn_lc (tt := tYes) (te := te) (vs := [i]) (g := gName i) (S' := S') (fun _ => true) f hi hn fun a ha x H w r K2 k => k _ _ (Same.refl H) (hw x) (fun H Q w k => k H (Same.refl H) w) fun _ => hb a ha x H w r
  rw [List.filter_eq_self.mpr fun _ _ => rfl] at z
  exact z
theorem ev_lcY {α β : Type} {wi : TI} {i : Nat} {as : List α} {S : α → V → Hp → Prop} {S' : β → V → Hp → Prop} [∀ b, StL (S' b)] (f : α → β) (hi : EvI H0 σ wi as S) (hn : as.length ≤ 1000)
    (hb : ∀ a ∈ as, ∀ x H, Same H0 H → S a x H → EvV (Same H) ((wipe σ [i]).set i (some x)) te (S' (f a))) (hw : ∀ x : V, wipe ((wipe σ [i]).set i (some x)) [i] = wipe σ [i]) :
    EvV (Same H0) σ (tLc wi (gName i) tYes te [i]) (isL S' (as.map f)) := (evn_lcY f hi hn hb hw).ev
/-- none of them passes the test -/
theorem ev_lcN {α β : Type} {wi : TI} {i : Nat} {as : List α} {S : α → V → Hp → Prop} {tt : TT} (S' : β → V → Hp → Prop) [∀ b, StL (S' b)] (f : α → β) (hi : EvI H0 σ wi as S) (hn : as.length ≤ 1000)
    (hb : ∀ a ∈ as, ∀ x H, Same H0 H → S a x H → EvB (Same H) ((wipe σ [i]).set i (some x)) tt false) (hw : ∀ x : V, wipe ((wipe σ [i]).set i (some x)) [i] = wipe σ [i]) :
    EvV (Same H0) σ (tLc wi (gName i) tt te [i]) (isL S' []) := by
  have z := ev_lc (tt := tt) (te := te) (vs := [i]) (g := gName i) (S' := S') (fun _ => false) f hi hn fun a ha x H w r K2 k => k _ _ (Same.refl H) (hw x) (hb a ha x H w r) fun e => by cases e
  rw [List.filter_eq_nil_iff.mpr fun _ _ => Bool.false_ne_true] at z
  exact z
/-- pairs of places and items -/
def enumF {α : Type} : Nat → List α → List (Nat × α)
  | _, [] => []
  | j, x :: r => (j, x) :: enumF (j + 1) r
theorem enumF_len {α : Type} : ∀ {L : List α} {j : Nat}, (enumF j L).length = L.length
  | [], _ => rfl
  | _ :: r, j => by
    show (enumF (j + 1) r).length + 1 = r.length + 1
    rw [enumF_len]
theorem enumF_get {α : Type} : ∀ {L : List α} {j i : Nat}, (enumF j L)[i]? = L[i]?.map fun x => (j + i, x)
  | [], _, _ => by simp [enumF]
  | x :: r, j, 0 => rfl
  | x :: r, j, i + 1 => by
    show (enumF (j + 1) r)[i]? = r[i]?.map fun x => (j + (i + 1), x)
    rw [enumF_get]
    congr 1
    funext x
    rw [show j + 1 + i = j + (i + 1) by omega]
def isEn {α : Type} (S : α → V → Hp → Prop) (p : Nat × α) : V → Hp → Prop := isP2 (fun n => isIv ((n : Nat) : Int)) S p
instance {α : Type} {S : α → V → Hp → Prop} [∀ a, StL (S a)] {p : Nat × α} : StL (isEn S p) := by unfold isEn; infer_instance
theorem evi_enum {α : Type} {S : α → V → Hp → Prop} [∀ a, St (S a)] {as : List α} (h : EvV (Same H0) σ te (isL S as)) : EvI H0 σ (iEnum K (tCons te tNil)) (enumF 0 as) (isEn S) := fun H Rk w k =>
  h H _ w fun v H1 s1 w1 hv => by
    obtain ⟨D, us, rfl, hD, l⟩ := hv
    refine ⟨D, us, rfl, SqL.of hD, k (Ite K D) H1 s1 ⟨_, _, by rw [enumF_len, ← l.1]; exact walk_enum (K := K) (a := D) (xs := us), fun H2 s => SqL.of (s _ _ hD), fun i H2 x H3 hi s y => ?_⟩⟩
    obtain ⟨T, a, b, rfl, nT, rfl, ea, eb⟩ := y
    obtain rfl := Option.some.inj ea
    obtain ⟨m, em, r⟩ := Ls.get l eb
    refine ⟨Same.new nT, (0 + i, m), by rw [enumF_get, em]; rfl, T, _, b, rfl, upd_same, ?_, up (s.trans (Same.new nT)) r⟩
    show V.int (i : Nat) = V.int ((0 + i : Nat) : Int)
    rw [Nat.zero_add]
end
section
variable {X : Cx} {CX : CXT} {k : Nat} {C p g : Addr} {fd : FuncData} {ps : List Str} {mc : Value} {sp : Sp} {E : L2.St → XK} {o e : Expr} {es : List Expr} {m : Str} {pos apos : Pos} {ta : TE} {t : TA} {pl : Sem Bool}
/-- C.m(..) of a classmethod, what it raises wished for at the slots -/
def tCMethA (C : Addr) (sp : Sp) (E : L2.St → XK) (ta : TE) (t : TA) : TE := fun σ H Q => ta σ H fun x H1 => x = .ref C ∧ t σ H1 fun vs H2 => sp (.ref C :: vs) H2 Q (E σ)
theorem pe_cmethA (he : PE X o ta) (r : ClX.CRead X.K C mc) (c : ClX.CMet X.K C mc m p g) (F : FnOk X.prog X.w X.K X.mg X.base CX k g fd ps sp) (bi : Binds X.K fd ps []) (hr : Room k X.A) (out : ∀ σ, PassesAt CX X σ (E σ)) (ha : PA X (e :: es) t)
    (hst : starEach (e :: es) X.env = (false, eval e X.env) :: starEach es X.env := by rfl) (hpl : (backTo pos (starEach es X.env)).any (·.1) = false := by rfl)
    (ht : eval (.Call (.Attribute o m apos) (e :: es) [] pos) X.env = (do
      let ov ← eval o X.env
      standAt apos.atName
      let (f, first) ← holding [ov] (getMethod ov m pl)
      callWith pos f first (backTo pos (starEach (e :: es) X.env)) (backToKw pos (keywordEach [] X.env))) := by rfl) :
    PE X (.Call (.Attribute o m apos) (e :: es) [] pos) (tCMethA C sp E ta t) := by
  refine ⟨fun pins s σ H Q I h => ?_⟩
  refine PySem.W.methodCall_KW (pl := pl) (thn (he.run pins s σ H _ I h) fun u s1 ⟨x, H1, I1, rx, ex, q⟩ => ?_) ht
  subst ex
  obtain rfl : u = Value.ref C := rx
  refine ClX.getmethcm_ok I1 r c fun s2 I2 => ?_
  refine ClX.callwith_cm I2 (ClX.base_none I1 (Nat.le_refl _)) c.fi (thn (ha.run pos _ s2 σ H1 _ I2 q) fun us s3 ⟨vs, H2, I3, rv, q2⟩ => ⟨⟨ClX.pin_at I3, I3.kIn⟩, ?_⟩) hst hpl
  have rr : Vals (V.ref C :: vs) (Value.ref C :: us) := .cons rfl rv
  have hl : (Value.ref C :: us).length = ps.length := by rw [← rr.length]; exact F.len _ _ _ _ q2
  have b := bi s3 (Value.ref C :: us) I3.kIn (by rw [List.append_nil]; exact hl)
  rw [List.append_nil] at b
  have ran := F.run X.A X.stack s3 H2 ⟨Value.ref C :: us, []⟩ (Value.ref C :: us) (V.ref C :: vs) Q (E σ) hr I3.env0 b rr q2
  refine thn (Q := EP X ((s1.heap.objs.size, PySem.W.methodObj (.ref g) (.ref C)) :: pins) σ Q) (wpAny_call (PySem.W.method_call (ClX.pin_at I3) (codeAny_mono ran fun r s' hq => ?_))) fun _ _ y => ClX.unpinE y
  cases r with
  | error err => exact out σ _ H2 s3 err s' I3 hq
  | ok fl =>
    cases fl with
    | ret w => exact I3.after hq
    | next => exact False.elim hq
    | brk => exact False.elim hq
    | cont => exact False.elim hq
end
end V3

set_option Elab.async false
set_option linter.all false
set_option maxRecDepth 100000
/-! rows of reports, reports: Count, is_counts, Report made, weight_of, month_of -/
namespace V3
open PySem L2 TL
abbrev sWrongPart : Stmt := top 37
abbrev sCInit : Stmt := inClass (top 34) 0
abbrev sIsCounts : Stmt := top 38
abbrev sRpInit : Stmt := inClass (top 35) 0
abbrev sRpWeight : Stmt := inClass (top 35) 2
abbrev sRpMonth : Stmt := inClass (top 35) 3
/-- the tuples of the module reports -/
structure CntT (K : PySem.W.Frag) (mg : Str → Option Value) (KA WA OA : Addr) : Prop where
  kinds : mg "KINDS" = some (.ref KA)
  weights : mg "WEIGHTS" = some (.ref WA)
  whose : mg "WHOSE" = some (.ref OA)
  tK : ∀ H, SqT K H KA (kindL.map V.str)
  tW : ∀ H, SqT K H WA [.int (-1), .int 0, .int 1]
  tO : ∀ H, SqT K H OA (whoseL.map V.str)
structure CntC (K : PySem.W.Frag) (c : Rc) : Prop where
  cl : Cls K c.C
  k : NoAttr K c.C "kind"
  w : NoAttr K c.C "weight"
  o : NoAttr K c.C "whose"
structure CntI (K : PySem.W.Frag) (c : Rc) : Prop where
  cl : Cls K c.C
  ca : PySem.W.findIn K (.ref c.C) "__class__" = some (some (.builtin "object.__class__"))
  mr : PySem.W.mroIn K c.C (.type "object") = some true
  gn : PySem.W.specialIn K (.builtin "object.__class__") "__get__" = some (some (.builtin "getset_descriptor.__get__"))
  tk : PySem.W.takesIn K (.builtin "object.__class__") = some true
  ki : PySem.W.kitOne K (.ref c.C) (.ref c.C) = some true
def spPart : Sp := fun vs H Q _ => ∃ k w o, vs = [.str k, .int w, .str o] ∧ (Rw.ct k w o).ok ∧ Q .non H
def spCInit (c : Rc) : Sp := fun vs H Q _ => ∃ x dx k w o, vs = [.ref x, .str k, .int w, .str o] ∧ H x = some (.ins c.C dx []) ∧ (Rw.ct k w o).ok ∧ ∀ H', SameX x H H' → H' x = some ((Rw.ct k w o).obj c dx) → Q .non H'
/-- the kind that a row is of -/
def Rw.k1 : Rw → Str
  | .lt k _ _ _ => k
  | .ct k _ _ => k
/-- the rows of a report -/
def RpOk (rs : List Rw) : Prop := rs.length ≤ 4 ∧ (∀ m ∈ rs, m.ok ∧ m.kind = 1) ∧ (rs.map Rw.k1).Nodup
def wtOf (x : Str) : List Rw → Int
  | .ct k w _ :: r => if k = x then w else wtOf x r
  | _ :: r => wtOf x r
  | [] => 0
def moOf (x : Str) : List Rw → Str
  | .ct k _ o :: r => if k = x then o else moOf x r
  | _ :: r => moOf x r
  | [] => "own"
/-- a list of rows, or a tuple, tracked or written -/
def SqW (K : PySem.W.Frag) (H : Hp) (q : Addr) (us : List V) : Prop := H q = some (.lst us) ∨ TupW K H q us
theorem SqW.same {K : PySem.W.Frag} {H H' : Hp} {q : Addr} {us : List V} (h : SqW K H q us) (s : Same H H') : SqW K H' q us := h.imp (fun z => s _ _ z) fun z => z.same s
theorem SqW.ty {K : PySem.W.Frag} {H : Hp} {q : Addr} {us : List V} (h : SqW K H q us) : ∃ t, TyX K H (.ref q) t ∧ PySem.W.kitAny K t [.type "list", .type "tuple"] = some true := by
  rcases h with h | h
  · exact ⟨_, .base (.lst h), kit_lt⟩
  · exact ⟨_, h.ty, kit_tt⟩
theorem SqW.sq {K : PySem.W.Frag} {H : Hp} {q : Addr} {us : List V} (h : SqW K H q us) : SqL K H q us ∨ SqT K H q us := h.imp SqL.of TupW.sq
/-- something in a list or a tuple -/
def SqA {α : Type} (K : PySem.W.Frag) (S : α → V → Hp → Prop) (as : List α) : V → Hp → Prop := fun v H => ∃ q us, v = .ref q ∧ SqW K H q us ∧ Ls (fun u a => S a u H) us as
instance {α : Type} {K : PySem.W.Frag} {S : α → V → Hp → Prop} {as : List α} [∀ a, St (S a)] : St (SqA K S as) := ⟨fun _ _ _ s ⟨q, us, e, h, l⟩ => ⟨q, us, e, h.same s, Ls.up l s⟩⟩
section
variable {K : PySem.W.Frag} {σ : L2.St} {ta te : TE} {H0 : Hp} {α : Type} {S : α → V → Hp → Prop} {as : List α}
theorem evi_sqA [∀ a, St (S a)] (h : EvV (Same H0) σ te (SqA K S as)) : EvI H0 σ (iSeq K te) as S := fun H Rk w k =>
  h H _ w fun v H1 s1 w1 ⟨q, us, e, hq, l⟩ => ⟨q, e, by
    rcases hq with hq | hq
    · exact .inl ⟨⟨us, SqL.of hq⟩, k (Itl K q) H1 s1 ⟨_, _, l.1 ▸ walk_list (K := K) (a := q) (xs := us), fun H2 s => SqL.of (s _ _ hq), fun i H2 x H3 hi s y => by
        obtain ⟨rfl, hx⟩ := y
        obtain ⟨a, ea, r⟩ := Ls.get l hx
        exact ⟨Same.refl _, a, ea, up s r⟩⟩⟩
    · exact .inr ⟨⟨us, hq.sq⟩, k (Itt K q) H1 s1 ⟨_, _, l.1 ▸ walk_tup (K := K) (a := q) (xs := us), fun H2 s => (hq.same s).sq, fun i H2 x H3 hi s y => by
        obtain ⟨rfl, hx⟩ := y
        obtain ⟨a, ea, r⟩ := Ls.get l hx
        exact ⟨Same.refl _, a, ea, up s r⟩⟩⟩⟩
/-- a set of texts, all of them different: as many as there are things -/
theorem ev_scK {P : Program} {w0 : World} {wi : TI} {i : Nat} (f : α → Str) (nd : (as.map f).Nodup) (n : as.length ≤ 100) (hi : EvI H0 σ wi as S)
    (hb : ∀ a ∈ as, ∀ x H, Same H0 H → S a x H → EvV (Same H) ((wipe σ [i]).set i (some x)) te (isSv (f a))) (hw : ∀ x : V, wipe ((wipe σ [i]).set i (some x)) [i] = wipe σ [i]) :
    EvV (Same H0) σ (tScK P w0 wi (gName i) tYes te [i]) (fun v H => ∃ D T, v = .ref D ∧ H D = some (SetK P w0 D T as.length)) := fun H Q w k => by
  refine hi H _ w fun J H1 s1 ⟨G, Y, wk, hG, hY⟩ D nD => ?_
  refine ⟨fun j m Hh => m + j = as.length ∧ Same H1 Hh ∧ Hh D = some (SetK P w0 D (fun z => (as.take j).any fun a => decide (z = .inr (f a))) j), ⟨as.length, rfl, Same.new nD, upd_same⟩, ?_⟩
  rintro j m Hh ⟨e, s2, hD⟩
  cases m with
  | zero =>
    have e : j = as.length := by omega
    subst e
    exact .inl ⟨wk.stops Hh (hG _ s2), k _ _ (s1.trans s2) (w.trans (s1.trans s2)) ⟨D, _, rfl, hD⟩⟩
  | succ m =>
    refine .inr ⟨wk.goes j Hh (by omega) (hG _ s2), fun Hh => Same H1 Hh ∧ Hh D = some (SetK P w0 D (fun z => (as.take (j + 1)).any fun a => decide (z = .inr (f a))) (j + 1)), fun H' z => ⟨m, Nat.lt_succ_self m, by omega, z⟩, fun x H' y => ?_⟩
    obtain ⟨s3, a, ea, rx⟩ := hY j Hh x H' (by omega) s2 (wk.yields j Hh x H' (by omega) (hG _ s2) y)
    have tk : as.take (j + 1) = as.take j ++ [a] := by
      rw [List.take_succ, ea]
      rfl
    have S3 := s2.trans s3
    refine ⟨hw x, ?_⟩
    unfold tYes
    dsimp only
    rw [if_pos rfl]
    refine hb a (List.mem_of_getElem? ea) x H' (s1.trans S3 |> fun z => w.trans z) rx H' _ (Same.refl _) fun v H4 s4 _ ev => ?_
    cases ev
    have hD4 := s4 _ _ (s3 _ _ hD)
    have no : ((as.take j).any fun b => decide ((Sum.inr (f a) : Key) = .inr (f b))) = false := by
      rw [List.any_eq_false]
      intro b hb2 z
      have z : f a = f b := Sum.inr.inj (of_decide_eq_true z)
      obtain ⟨i2, hi2, eb⟩ := List.mem_iff_getElem.mp hb2
      rw [List.length_take] at hi2
      rw [List.getElem_take] at eb
      obtain ⟨hj, eja⟩ := List.getElem?_eq_some_iff.mp ea
      have := (List.pairwise_iff_getElem.mp nd) i2 j (by rw [List.length_map]; omega) (by rw [List.length_map]; exact hj) (by omega)
      rw [List.getElem_map, List.getElem_map, eja, eb] at this
      exact this z.symm
    refine ⟨.inr (f a), _, _, rfl, hD4, Nat.lt_of_le_of_lt (m := 101) (by omega) (by decide), fun c o e => ?_, ?_⟩
    · rw [upd_ne (ne_of_none e nD)]
      exact (S3.trans s4) c o e
    · rw [upd_same, no, if_neg Bool.false_ne_true, tk]
      refine congrArg (fun T => some (SetK P w0 D T (j + 1))) (funext fun z => ?_)
      rw [List.any_append]
      simp
end
end V3

set_option Elab.async false
set_option linter.all false
set_option maxRecDepth 100000
/-! Count made; is_counts; Report made, its weight_of and month_of -/
namespace V3
open PySem L2 TL
def RpA (K : PySem.W.Frag) (c : Rc) (RC : Addr) (rs : List Rw) : V → Hp → Prop := fun v H => ∃ x dx q us, v = .ref x ∧ H x = some (.ins RC dx [("rows", .ref q)]) ∧ TupK K H q us ∧ RwLs c H us rs ∧ RpOk rs
instance {K : PySem.W.Frag} {c : Rc} {RC : Addr} {rs : List Rw} : StL (RpA K c RC rs) := ⟨fun _ _ _ s ⟨x, dx, q, us, e, hx, hq, l, ok⟩ => ⟨x, dx, q, us, e, s _ _ (fun _ z => by cases z) hx, hq.keep s, l.keep s, ok⟩⟩
structure RpC (K : PySem.W.Frag) (RC : Addr) : Prop where
  cl : Cls K RC
  n : NoAttr K RC "rows"
def spIsCounts (K : PySem.W.Frag) (c : Rc) : Sp := fun vs H Q _ => ∃ (q : Addr) (us : List V) (rs : List Rw), vs = [.ref q] ∧ SqW K H q us ∧ RwLs c H us rs ∧ RpOk rs ∧ ∀ H', Same H H' → Q (.bl true) H'
def spRpInit (K : PySem.W.Frag) (c : Rc) (RC : Addr) : Sp := fun vs H Q _ => ∃ (x dx q : Addr) (us : List V) (rs : List Rw), vs = [.ref x, .ref q] ∧ H x = some (.ins RC dx []) ∧ SqW K H q us ∧ RwLs c H us rs ∧ RpOk rs ∧ ∀ H', SameX x H H' → RpA K c RC rs (.ref x) H' → Q .non H'
def spRpW (K : PySem.W.Frag) (c : Rc) (RC : Addr) : Sp := fun vs H Q _ => ∃ (v : V) (rs : List Rw) (x : Str), vs = [v, .str x] ∧ RpA K c RC rs v H ∧ ∀ H', Same H H' → Q (.int (wtOf x rs)) H'
def spRpM (K : PySem.W.Frag) (c : Rc) (RC : Addr) : Sp := fun vs H Q _ => ∃ (v : V) (rs : List Rw) (x : Str), vs = [v, .str x] ∧ RpA K c RC rs v H ∧ ∀ H', Same H H' → Q (.str (moOf x rs)) H'
def RwS (c : Rc) (m : Rw) : V → Hp → Prop := fun v H => RwAt c H v m
instance {c : Rc} {m : Rw} : StL (RwS c m) := ⟨fun _ _ _ s a => RwAt.keep a s⟩
theorem ls_blC {H : Hp} {us : List V} {bs : List Bool} (l : Ls (fun u a => isBv a u H) us bs) : us = bs.map V.bl := List.ext_getElem (by rw [l.1, List.length_map]) fun i h1 h2 => by
  obtain ⟨m, em, r⟩ := Ls.get l (List.getElem?_eq_getElem h1)
  have := (List.getElem?_eq_some_iff.mp em).2
  rw [show us[i] = .bl m from r, List.getElem_map, this]
section
variable {K : PySem.W.Frag} {σ : L2.St} {ta te : TE} {H0 : Hp}
theorem ev_lenSK {P : Program} {w0 : World} {n : Nat} (hn : n ≤ 1000) (ha : EvV (Same H0) σ ta (fun v H => ∃ D T, v = .ref D ∧ H D = some (SetK P w0 D T n))) : EvV (Same H0) σ (tCB (fun xs H Q => ∃ (a : Addr) (S : Key → Bool) (n : Nat), xs = [.ref a] ∧ H a = some (SetK P w0 a S n) ∧ n ≤ 1000 ∧ Q (.int (n : Int)) H) (tCons ta tNil)) (isIv (n : Int)) := fun H Q w k =>
  ha H _ w fun v H1 s1 w1 ⟨D, T, e, hD⟩ => by
    subst e
    exact ⟨D, T, n, rfl, hD, hn, k _ H1 s1 w1 rfl⟩
theorem ev_rowK {c : Rc} {m : Rw} (L : CntC K c) (ok : m.kind = 1) (ha : EvV (Same H0) σ ta (RwS c m)) : EvV (Same H0) σ (tFld K ta "kind") (isSv m.k1) := ev_fld ha fun x H w a => by
  obtain ⟨y, dy, e, hy⟩ := a
  cases m with
  | lt _ _ _ _ => cases ok
  | ct k w o => exact ⟨y, c.C, dy, _, _, e, hy, L.cl, L.k, cnt_kind .., rfl⟩
end
structure BltRp (mg : Str → Option Value) : Prop where
  isi : mg "isinstance" = none
  list : mg "list" = none
  tuple : mg "tuple" = none
  all : mg "all" = none
  len : mg "len" = none
section
variable {P : Program} {w : World} {K : PySem.W.Frag} {mg : Str → Option Value} {base : Heap} {KA WA OA : Addr}
theorem scPart : FnScope ["kind", "weight", "whose"] ["kind", "weight", "whose"] (defScope sWrongPart) := ⟨rfl, rfl, rfl, by decide +kernel, rfl, by decide +kernel, by decide +kernel⟩
theorem scCInit : FnScope ["self", "kind", "weight", "whose", "wrong"] ["self", "kind", "weight", "whose"] (defScope sCInit) := ⟨rfl, rfl, rfl, by decide +kernel, rfl, by decide +kernel, by decide +kernel⟩
theorem scIsCounts : FnScope ["value", "item", "row"] ["value"] (defScope sIsCounts) := ⟨rfl, rfl, rfl, by decide +kernel, rfl, by decide +kernel, by decide +kernel⟩
theorem scRpInit : FnScope ["self", "rows"] ["self", "rows"] (defScope sRpInit) := ⟨rfl, rfl, rfl, by decide +kernel, rfl, by decide +kernel, by decide +kernel⟩
theorem scRpW : FnScope ["self", "kind", "row"] ["self", "kind"] (defScope sRpWeight) := ⟨rfl, rfl, rfl, by decide +kernel, rfl, by decide +kernel, by decide +kernel⟩
theorem scRpM : FnScope ["self", "kind", "row"] ["self", "kind"] (defScope sRpMonth) := ⟨rfl, rfl, rfl, by decide +kernel, rfl, by decide +kernel, by decide +kernel⟩
theorem ok_part {f : Addr} {fd : FuncData} (F : Fun K "wrong_part" "wrong_part" sWrongPart f fd) (T : CntT K mg KA WA OA) (cI : Cal P w K mg base CX0 "is_integer" 1 ["value"] spIntI) : FnOk P w K mg base CX0 2 f fd ["kind", "weight", "whose"] spPart := by
  obtain ⟨fI, fdI, GI, mI, kI, bI⟩ := cI
  refine F.ok scPart (fun vs H Q E h => ?_) (fun cdv A outer s H vs Q E hr h => ?_)
  · obtain ⟨k, w, o, rfl, _⟩ := h
    rfl
  · obtain ⟨k, w, o, rfl, ⟨k1, w1, o1⟩, q⟩ := h
    refine ⟨_, pss_cons (ps_if (pt_cmpR op_notIn_seq (pv 0) (pe_glob (v := .ref KA) rfl T.kinds rfl) rfl) (pss_one (ps_ret pe_str)) pss_nil)
      (pss_cons (ps_if (pt_not (PW.pt (pw_and (pt_val (pe_call GI hr rfl mI kI bI .nil pass0 (pa_cons (pv 1) pa_nil))) (pw_and1 (pt_cmpR op_in_seq (pv 1) (pe_glob (v := .ref WA) rfl T.weights rfl) rfl))))) (pss_one (ps_ret pe_str)) pss_nil)
      (pss_cons (ps_if (pt_cmpR op_notIn_seq (pv 2) (pe_glob (v := .ref OA) rfl T.whose rfl) rfl) (pss_one (ps_ret pe_str)) pss_nil)
      (pss_one (ps_ret pe_non)))), ?_⟩
    refine ⟨_, rfl, KA, _, rfl, .inr (T.tK _), rfl, flat_strs _, _, rfl, ?_⟩
    rw [inV_str, decide_eq_true k1]
    refine iteF ⟨_, rfl, w, rfl, _, rfl, iteT ⟨_, rfl, WA, _, rfl, .inr (T.tW _), rfl, rfl, _, rfl, ?_⟩⟩
    have z : inV (.int w) [.int (-1), .int 0, .int 1] = true := by
      rcases w1 with rfl | rfl | rfl <;> decide +kernel
    have z2 : (if false = true then !inV (V.int w) [.int (-1), .int 0, .int 1] else inV (V.int w) [.int (-1), .int 0, .int 1]) = true := by rw [if_neg Bool.false_ne_true, z]
    rw [z2]
    refine iteF ⟨_, rfl, OA, _, rfl, .inr (T.tO _), rfl, flat_strs _, _, rfl, ?_⟩
    rw [inV_str, decide_eq_true o1]
    exact iteF q
theorem ok_cInit {f : Addr} {c : Rc} {fd : FuncData} (F : Fun K "__init__" "Count.__init__" sCInit f fd) (L : CntC K c) (cW : Cal P w K mg base CX0 "wrong_part" 2 ["kind", "weight", "whose"] spPart) : FnOk P w K mg base CX0 3 f fd ["self", "kind", "weight", "whose"] (spCInit c) := by
  obtain ⟨fW, fdW, GW, mW, kW, bW⟩ := cW
  refine F.ok scCInit (fun vs H Q E h => ?_) (fun cdv A outer s H vs Q E hr h => ?_)
  · obtain ⟨x, dx, k, w, o, rfl, _⟩ := h
    rfl
  · obtain ⟨x, dx, k, w, o, rfl, hx, ok, q⟩ := h
    refine ⟨_, pss_cons (ps_set (i := 4) scCInit.nd rfl (Or.inl rfl) (pe_call GW hr rfl mW kW bW .nil pass0 (pa_cons (pv 1) (pa_cons (pv 2) (pa_cons (pv 3) pa_nil)))))
      (pss_cons (ps_if (pt_cmpR op_notN (pv 4) pe_non (nomark _)) (pss_one ps_never) pss_nil)
      (pss_cons (ps_fld (pv 0) (pv 1) rfl)
      (pss_cons (ps_fld (pv 0) (pv 2) rfl)
      (pss_one (ps_fld (pv 0) (pv 3) rfl))))), ?_⟩
    refine ⟨_, rfl, _, rfl, _, rfl, k, w, o, rfl, ok, ?_⟩
    refine ⟨_, rfl, rfl, _, rfl, iteF ?_⟩
    refine ⟨_, rfl, _, rfl, x, c.C, dx, _, rfl, hx, L.cl, L.k, (by show 0 < 1000; decide), ?_⟩
    refine ⟨_, rfl, _, rfl, x, c.C, dx, _, rfl, upd_same, L.cl, L.w, (by show 1 < 1000; decide), ?_⟩
    rw [upd_upd]
    refine ⟨_, rfl, _, rfl, x, c.C, dx, _, rfl, upd_same, L.cl, L.o, (lt_put (n := 999) (lt_put (n := 998) (by show 0 < 998; decide))), ?_⟩
    rw [upd_upd, cnt_put]
    exact q _ SameX.box upd_same
theorem ok_isCounts {f : Addr} {c : Rc} {fd : FuncData} (F : Fun K "is_counts" "is_counts" sIsCounts f fd) (T : BltRp mg) (C : CntI K c) (L : CntC K c) (gC : mg "Count" = some (.ref c.C)) : FnOk P w K mg base CX0 1 f fd ["value"] (spIsCounts K c) := by
  refine F.ok scIsCounts (fun vs H Q E h => ?_) (fun cdv A outer s H vs Q E hr h => ?_)
  · obtain ⟨q, us, rs, rfl, _⟩ := h
    rfl
  · obtain ⟨q, us, rs, rfl, hq, rl, ⟨n, ok, nd⟩, k⟩ := h
    refine ⟨_, (pss_cons (ps_if (pt_not (PW.pt (pw_and (pt_val (pe_callB call_isiT (by rfl) T.isi (by decide +kernel) (pa_cons (pv 0) (pa_cons (pe_tup (pa_cons (pe_bltn (v := .ty "list") (by rfl) T.list (by decide +kernel) rfl) (pa_cons (pe_bltn (v := .ty "tuple") (by rfl) T.tuple (by decide +kernel) rfl) pa_nil))) pa_nil)))) (pw_and1 (pt_val (pe_callB (cr_all rfl) (by rfl) T.all (by decide +kernel) (pa_cons (pe_lc (own := [("item", 1)]) (g := gName 1) (tt := tYes) (te := tCB (rIsi K) (tCons (tVar 1) (tCons (tC (.ref c.C)) tNil))) (by rfl) scIsCounts.nd (pi_seq (pv 0)) (blkOk_by (own := [("item", 1)]) (N := ["value", "item", "row"]) (sc := defScope sIsCounts) (by decide +kernel)) (fun _ _ _ _ _ => (pg_name (i := 1) scIsCounts.nd rfl (Or.inl rfl))) (fun _ _ _ _ _ => pts_nil) (fun _ _ _ _ _ => (pe_callB call_isi (by rfl) T.isi (by decide +kernel) (pa_cons (pv 1) (pa_cons (pe_glob (v := .ref c.C) rfl gC rfl) pa_nil))))) pa_nil))))))) (pss_one (ps_ret pe_bl)) pss_nil)
  (pss_one (ps_ret (pe_cmpR op_eq (pe_callB call_lenSK (by rfl) T.len PySem.boot_len (pa_cons (pe_scK (own := [("row", 2)]) (g := gName 2) (tt := tYes) (te := tFld K (tVar 2) "kind") rfl scIsCounts.nd (pi_seq (pv 0)) (blkOk_by (own := [("row", 2)]) (N := ["value", "item", "row"]) (sc := defScope sIsCounts) (by decide +kernel)) (fun _ _ _ _ _ => (pg_name (i := 2) scIsCounts.nd rfl (Or.inl rfl))) (fun _ _ _ _ _ => pts_nil) (fun _ _ _ _ _ => (pe_fld (pv 2) rfl))) pa_nil)) (pe_callB call_len_seq (by rfl) T.len PySem.boot_len (pa_cons (pv 0) pa_nil)) (nomark _))))), ?_⟩
    refine ⟨_, rfl, (by show 2 ≤ sizeLine; decide), fun tp ntp => ?_⟩
    have s1 : Same H (upd H tp (.tup [.ty "list", .ty "tuple"])) := Same.new ntp
    have ht : upd H tp (.tup [.ty "list", .ty "tuple"]) tp = some (.tup [.ty "list", .ty "tuple"]) := upd_same
    generalize upd H tp (.tup [.ty "list", .ty "tuple"]) = H1 at s1 ht ⊢
    have hq1 := hq.same s1
    have rl1 := rl.same s1
    obtain ⟨t, ty, kt⟩ := hq1.ty
    refine ⟨_, tp, _, _, _, _, rfl, ht, .cons (.ty "list") (.cons (.ty "tuple") .nil), ty, kt, _, rfl, iteT ?_⟩
    have va : ∀ {G : Hp}, Same H1 G → SqA K (RwS c) rs (.ref q) G := fun s => ⟨q, us, rfl, hq1.same s, rl1.same s⟩
    have lc : EvNL H1 [some (.ref q), none, none] (tLc (iSeq K (tVar 0)) (gName 1) tYes (tCB (rIsi K) (tCons (tVar 1) (tCons (tC (.ref c.C)) tNil))) [1]) isBv (rs.map fun _ => true) :=
      evn_lcY (H0 := H1) (σ := [some (.ref q), none, none]) (wi := iSeq K (tVar 0)) (i := 1) (as := rs) (S := RwS c) (S' := isBv) (te := tCB (rIsi K) (tCons (tVar 1) (tCons (tC (.ref c.C)) tNil))) (fun _ => true) (evi_sqA (ev_v (i := 0) rfl (va (Same.refl _)))) (by omega) (fun m hm x G sG r => ev_cb (eva_cons (ev_v (i := 1) rfl r) (eva_cons (ev_c (v := .ref c.C)) eva_nil)) fun vs G2 Q2 w2 rr kk => by
        obtain ⟨v1, rr, rfl, a1, v2, rr, rfl, e2, rfl⟩ := rr
        cases e2
        obtain ⟨y, dy, rfl, hy⟩ := a1
        have km := (ok m hm).2
        cases m with
        | lt _ _ _ _ => cases km
        | ct k w o => exact ⟨_, _, _, _, _, rfl, .own c.C, .base (.ins hy C.cl C.ca C.gn C.tk C.mr), C.ki, kk _ G2 (Same.refl _) rfl⟩) (fun _ => rfl)
    unfold tB tCB tCons
    refine lc H1 _ (Same.refl _) fun D us3 H2 nD s2 hD l3 => ?_
    have e3 := ls_blC l3
    subst e3
    refine ⟨D, _, rfl, SqL.of hD, ?_⟩
    have z : (rs.map fun _ => true).all id = true := by simp
    rw [z]
    refine ⟨_, rfl, iteF ?_⟩
    try dsimp only [gName, tSeq, tAsg, tNext]
    have n4 : rs.length ≤ 100 := by omega
    refine ev_eqi (H0 := H2) (i := (rs.length : Int)) (j := (rs.length : Int)) (ev_lenSK (by omega) (ev_scK (S := RwS c) (as := rs) Rw.k1 nd n4 (evi_sqA (ev_v (i := 0) rfl (va s2))) (fun m hm x G sG r => ev_rowK L (ok m hm).2 (ev_v (i := 2) rfl r)) (fun _ => rfl))) (fun G Q2 w2 kk => ⟨_, rfl, q, us, rfl, ((hq1.same s2).same w2).sq, by rw [rl.1]; exact kk _ G (Same.refl _) w2 rfl⟩) H2 _ (Same.refl _) fun v H3 s3 _ e => ?_
    cases e
    have z := k H3 ((s1.trans s2).trans s3)
    rw [decide_eq_true rfl]
    exact z
theorem ok_rpInit {f RC : Addr} {c : Rc} {fd : FuncData} {dvs : List V} (F : FunD K "__init__" "Report.__init__" (defArgs sRpInit) (defBody sRpInit) (defScope sRpInit) dvs [] f fd) (T : BltRp mg) (C : RpC K RC) (cI : Cal P w K mg base CX0 "is_counts" 1 ["value"] (spIsCounts K c)) : FnOk P w K mg base CX0 2 f fd ["self", "rows"] (spRpInit K c RC) := by
  obtain ⟨fI, fdI, GI, mI, kI, bI⟩ := cI
  refine F.ok scRpInit (fun vs H Q E h => ?_) (fun cdv A outer s H vs Q E hr h => ?_)
  · obtain ⟨x, dx, q, us, rs, rfl, _⟩ := h
    rfl
  · obtain ⟨x, dx, q, us, rs, rfl, hx, hq, rl, ok, k⟩ := h
    refine ⟨_, pss_cons (ps_if (pt_not (pt_val (pe_call GI hr rfl mI kI bI .nil pass0 (pa_cons (pv 1) pa_nil)))) (pss_one ps_never) pss_nil)
      (pss_one (ps_fld (pv 0) (pe_callTy call_tuple_of (by rfl) T.tuple (by decide +kernel) (pa_cons (pv 1) pa_nil)) rfl)), ?_⟩
    refine ⟨_, rfl, q, us, rs, rfl, hq, rl, ok, fun H1 s1 => ⟨_, rfl, iteF ?_⟩⟩
    have hx1 := s1 _ _ hx
    have hq1 := hq.same s1
    have rl1 := rl.same s1
    have sxr : ∀ {G G' : Hp}, G x = some (.ins RC dx []) → RwLs c G us rs → SameX x G G' → RwLs c G' us rs := fun hg l sx => Ls.imp l fun v m a => by
      obtain ⟨y, dy, e, hy⟩ := a
      refine ⟨y, dy, e, sx y _ (fun z => ?_) hy⟩
      rw [z, hg] at hy
      have e := Option.some.inj hy
      cases m <;> cases e
    rcases hq1 with hl | ht
    · have nqx : q ≠ x := fun z => by rw [z, hx1] at hl; cases hl
      refine ⟨_, rfl, q, us, rfl, .inl ⟨SqL.of hl, fun t nt => ?_⟩⟩
      have ntx : x ≠ t := ne_of_none hx1 nt
      have hxt : upd H1 t (.tup us) x = some (.ins RC dx []) := by rw [upd_ne ntx]; exact hx1
      refine ⟨_, rfl, x, RC, dx, _, rfl, hxt, C.cl, C.n, (by show 0 < 1000; decide), ?_⟩
      have s2 : Same H1 (upd H1 t (.tup us)) := Same.new nt
      have sx : SameX x (upd H1 t (.tup us)) (upd (upd H1 t (.tup us)) x (.ins RC dx [("rows", .ref t)])) := SameX.box
      refine k _ (fun b o n e => sx b o n (s2 _ _ (s1 _ _ e))) ⟨x, dx, t, us, rfl, upd_same, .inl (by rw [upd_ne (Ne.symm ntx)]; exact upd_same), sxr hxt (rl1.same s2) sx, ok⟩
    · refine ⟨_, rfl, q, us, rfl, .inr ⟨ht.sq, ?_⟩⟩
      refine ⟨_, rfl, x, RC, dx, _, rfl, hx1, C.cl, C.n, (by show 0 < 1000; decide), ?_⟩
      have sx : SameX x H1 (upd H1 x (.ins RC dx [("rows", .ref q)])) := SameX.box
      refine k _ (fun b o n e => sx b o n (s1 _ _ e)) ⟨x, dx, q, us, rfl, upd_same, ht.k.imp (fun z => by
        rw [upd_ne (fun e => by rw [e, hx1] at z; cases z)]
        exact z) id, sxr hx1 rl1 sx, ok⟩
theorem ok_rpW {f RC : Addr} {c : Rc} {fd : FuncData} (F : Fun K "weight_of" "Report.weight_of" sRpWeight f fd) (C : RpC K RC) (L : CntC K c) : FnOk P w K mg base CX0 1 f fd ["self", "kind"] (spRpW K c RC) := by
  refine F.ok scRpW (fun vs H Q E h => ?_) (fun cdv A outer s H vs Q E hr h => ?_)
  · obtain ⟨v, rs, x, rfl, _⟩ := h
    rfl
  · obtain ⟨v, rs, xk, rfl, ⟨x, dx, q, us, rfl, hx, hq, rl, n, ok, nd⟩, k⟩ := h
    refine ⟨_, pss_cons (ps_for PassesOwn.never rfl (pi_tup (pe_fld (pv 0) rfl)) (pg_name (i := 2) scRpW.nd rfl (Or.inl rfl))
      (pss_one (ps_if (pt_cmpR op_eq (pe_fld (pv 2) rfl) (pv 1) (nomark _)) (pss_one (ps_ret (pe_fld (pv 2) rfl))) pss_nil)))
      (pss_one (ps_ret pe_int)), ?_⟩
    refine ⟨_, rfl, x, RC, dx, _, _, rfl, hx, C.cl, C.n, rfl, q, rfl, ⟨us, hq.sq⟩, ?_⟩
    refine for_tup (K := K) (a := q) (xs := us) (fun i σ H' => (∃ o, σ = [some (.ref x), some (.str xk), o]) ∧ Same H H' ∧ wtOf xk rs = wtOf xk (rs.drop i)) ⟨⟨_, rfl⟩, Same.refl H, rfl⟩ ?_ ?_ ?_
    · rintro i σ H' _ ⟨_, s1, _⟩
      exact (hq.same s1).sq
    · rintro i z σ H' hi ⟨⟨o, rfl⟩, s1, pl⟩
      obtain ⟨m, em, mz⟩ := Ls.get rl hi
      obtain ⟨mo, mk⟩ := ok m (List.mem_of_getElem? em)
      have il : i < rs.length := (List.getElem?_eq_some_iff.mp em).1
      have dr : rs.drop i = m :: rs.drop (i + 1) := by
        rw [List.drop_eq_getElem_cons il]
        have z := (List.getElem?_eq_some_iff.mp em).2
        rw [z]
      cases m with
      | lt _ _ _ _ => cases mk
      | ct k' w' o' =>
        obtain ⟨y, dy, rfl, hy0⟩ := mz.same s1
        have hy : H' y = some (.ins c.C dy (cntF (.str k') (.int w') (.str o'))) := hy0
        rw [dr, show wtOf xk (Rw.ct k' w' o' :: rs.drop (i + 1)) = if k' = xk then w' else wtOf xk (rs.drop (i + 1)) from rfl] at pl
        refine ⟨_, rfl, y, c.C, dy, _, _, rfl, hy, L.cl, L.k, cnt_kind .., _, rfl, rfl, _, rfl, ?_⟩
        by_cases e : k' = xk
        · rw [decide_eq_true (by rw [e])]
          rw [if_pos e] at pl
          refine iteT ⟨_, rfl, y, c.C, dy, _, _, rfl, hy, L.cl, L.w, cnt_weight .., ?_⟩
          have z := k _ s1
          rw [pl] at z
          exact z
        · rw [decide_eq_false (fun z => e (by injection z))]
          rw [if_neg e] at pl
          exact iteF ⟨⟨_, rfl⟩, s1, pl⟩
    · rintro σ H' ⟨⟨o, rfl⟩, s1, pl⟩
      have z := k _ s1
      rw [rl.1, List.drop_length] at pl
      rw [pl] at z
      exact z
theorem ok_rpM {f RC : Addr} {c : Rc} {fd : FuncData} (F : Fun K "month_of" "Report.month_of" sRpMonth f fd) (C : RpC K RC) (L : CntC K c) : FnOk P w K mg base CX0 1 f fd ["self", "kind"] (spRpM K c RC) := by
  refine F.ok scRpM (fun vs H Q E h => ?_) (fun cdv A outer s H vs Q E hr h => ?_)
  · obtain ⟨v, rs, x, rfl, _⟩ := h
    rfl
  · obtain ⟨v, rs, xk, rfl, ⟨x, dx, q, us, rfl, hx, hq, rl, n, ok, nd⟩, k⟩ := h
    refine ⟨_, pss_cons (ps_for PassesOwn.never rfl (pi_tup (pe_fld (pv 0) rfl)) (pg_name (i := 2) scRpM.nd rfl (Or.inl rfl))
      (pss_one (ps_if (pt_cmpR op_eq (pe_fld (pv 2) rfl) (pv 1) (nomark _)) (pss_one (ps_ret (pe_fld (pv 2) rfl))) pss_nil)))
      (pss_one (ps_ret pe_str)), ?_⟩
    refine ⟨_, rfl, x, RC, dx, _, _, rfl, hx, C.cl, C.n, rfl, q, rfl, ⟨us, hq.sq⟩, ?_⟩
    refine for_tup (K := K) (a := q) (xs := us) (fun i σ H' => (∃ o, σ = [some (.ref x), some (.str xk), o]) ∧ Same H H' ∧ moOf xk rs = moOf xk (rs.drop i)) ⟨⟨_, rfl⟩, Same.refl H, rfl⟩ ?_ ?_ ?_
    · rintro i σ H' _ ⟨_, s1, _⟩
      exact (hq.same s1).sq
    · rintro i z σ H' hi ⟨⟨o, rfl⟩, s1, pl⟩
      obtain ⟨m, em, mz⟩ := Ls.get rl hi
      obtain ⟨mo, mk⟩ := ok m (List.mem_of_getElem? em)
      have il : i < rs.length := (List.getElem?_eq_some_iff.mp em).1
      have dr : rs.drop i = m :: rs.drop (i + 1) := by
        rw [List.drop_eq_getElem_cons il]
        have z := (List.getElem?_eq_some_iff.mp em).2
        rw [z]
      cases m with
      | lt _ _ _ _ => cases mk
      | ct k' w' o' =>
        obtain ⟨y, dy, rfl, hy0⟩ := mz.same s1
        have hy : H' y = some (.ins c.C dy (cntF (.str k') (.int w') (.str o'))) := hy0
        rw [dr, show moOf xk (Rw.ct k' w' o' :: rs.drop (i + 1)) = if k' = xk then o' else moOf xk (rs.drop (i + 1)) from rfl] at pl
        refine ⟨_, rfl, y, c.C, dy, _, _, rfl, hy, L.cl, L.k, cnt_kind .., _, rfl, rfl, _, rfl, ?_⟩
        by_cases e : k' = xk
        · rw [decide_eq_true (by rw [e])]
          rw [if_pos e] at pl
          refine iteT ⟨_, rfl, y, c.C, dy, _, _, rfl, hy, L.cl, L.o, cnt_whose .., ?_⟩
          have z := k _ s1
          rw [pl] at z
          exact z
        · rw [decide_eq_false (fun z => e (by injection z))]
          rw [if_neg e] at pl
          exact iteF ⟨⟨_, rfl⟩, s1, pl⟩
    · rintro σ H' ⟨⟨o, rfl⟩, s1, pl⟩
      have z := k _ s1
      rw [rl.1, List.drop_length] at pl
      rw [pl] at z
      exact z
end
end V3

set_option Elab.async false
set_option linter.all false
set_option maxRecDepth 100000
namespace V3
open PySem PySem.Spec PyProof.Rows L2
structure BehindL (K : PySem.W.Frag) (C : Addr) : Prop where
  b : Behind K C
  l : PySem.W.subIn K (.ref C) (.type "list") = some false
inductive PlainL (H : Hp) : V → Prop where
  | str (z : Str) : PlainL H (.str z)
  | non : PlainL H .non
  | tup {b : Addr} {ys : List V} (h : H b = some (.tup ys)) : PlainL H (.ref b)
  | lst {b : Addr} {ys : List V} (h : H b = some (.lst ys)) : PlainL H (.ref b)
section
open PySem PySem.SeqAt
variable {prog : Program} {w : World} {A : Around} {E : Value → Shared → Prop} {s : Shared} {x : Addr} {o : Obj}
theorem lst_declines {K : PySem.W.Frag} {C p : Addr} {od : Option Obj} {items : Array Value} {n : Nat} {Q : Shared → Prop} (X : K.In s.heap) (I : PySem.W.InstAt s.heap x o C od) (hs : PySem.W.subIn K (.ref C) (.type "list") = some false) {d1 : Option Addr} {sl1 : Array (Option Value)} (hp : s.heap.get? p = some { cls := .type "list", dict := d1, data := .seq items n, slots := sl1 }) (hq : Q s) :
    wpAny (model prog w) A (call (.builtin "list.__eq__") [.ref p, .ref x]) (fun v s' => v = .notImplemented ∧ Q s') E s := by
  refine GQ.call_here F.slot_list_eq ⟨_, hp, rfl⟩ F.entry_list_eq (F.args_list_eq_2 _ _) ?_
  obtain ⟨hh, g, d, tk, os⟩ := s
  wp_walk
  refine wpAny_loadPart I.at_ (wpAny_pure ?_)
  rw [I.cls]
  refine (PySem.W.looks_subIn X hs).here ?_
  wp_walk
  exact ⟨rfl, hq⟩
end
section
variable {X : Cx} {n : Nat}
/-- x in (..), x of an own class, no item equal to it -/
def rInL (K : PySem.W.Frag) (FF : Addr → Sp → XK → Prop) : R2 := fun x y H Q => ∃ (a p C dx : Addr) (fs : List (Str × V)) (xs : List V) (sp : Sp) (E : XK), x = .ref a ∧ y = .ref p ∧ H a = some (.ins C dx fs) ∧ H p = some (.tup xs) ∧
  (∀ z ∈ xs, PlainL H z) ∧ BehindL K C ∧ FF C sp E ∧ (∀ z ∈ xs, sp [.ref a, z] H (fun v H' => v = .bl false ∧ H' = H) E) ∧ Q (.bl false) H
theorem op_inL {FF : Addr → Sp → XK → Prop} (hF : ∀ C sp E, FF C sp E → ∃ (CX : CXT) (f : Addr) (fd : FuncData) (ps : List Str), FnOk X.prog X.w X.K X.mg X.base CX n f fd ps sp ∧ EqCls X.K C f ∧ Binds X.K fd ps [] ∧ Passes CX X E) (hr : Room (n + 1) X.A) :
    OpR X (compareOp .In) (rInL X.K FF) := by
  intro pins s σ H x y v u Q I rx ry hq
  obtain ⟨a, p, C, dx, fs, xs, sp, E, rfl, rfl, ha, hp, pl, bh, ff, hsp, q⟩ := hq
  obtain ⟨CX, f, fd, ps, F, ec, bi, hx⟩ := hF C sp E ff
  cases rx
  cases ry
  obtain ⟨its, rv, ht, hz⟩ := I.tuple (SqT.of hp)
  obtain ⟨⟨c0, dd, da, sl⟩, ho, hc, m, hd⟩ := id ht
  simp only at hc hd
  subst hc hd
  show wpAny (model X.prog X.w) X.A (do return .bool (← contains (.ref p) (.ref a))) (EP X pins σ Q) X.xe s
  refine wpAny_bind (wpAny_contains_slot ⟨_, ho, rfl⟩ PySem.F.slot_tuple_contains (wpAny_mono (GQ.call_here (Q := fun v s' => v = .bool false ∧ Inv X pins σ H s') PySem.F.slot_tuple_contains ⟨_, ho, rfl⟩ PySem.F.entry_tuple_contains (PySem.F.args_tuple_contains_2 _ _)
    (tuple_none p its.toArray m dd sl (.ref a) (fun _ s' => Inv X pins σ H s') ?_ (fun s' J => ⟨rfl, J⟩) ho I)) (fun v s' hv => ?_) fun _ _ e => e))
  · intro i hi s' J
    have hi2 : i < its.length := by simpa using hi
    have hi3 : i < xs.length := by rw [rv.length]; exact hi2
    obtain ⟨u, hu, ru⟩ := rv.get (List.getElem?_eq_getElem hi3)
    have eu : its.toArray[i] = u := by
      rw [List.getElem?_eq_getElem hi2] at hu
      simpa using Option.some.inj hu
    rw [eu]
    have mem : xs[i] ∈ xs := List.getElem_mem hi3
    have pz := pl _ mem
    have own := hsp _ mem
    generalize xs[i] = z at ru pz own
    obtain ⟨mA, O, _⟩ := ins_get J.hok ha
    obtain ⟨od, IA, _⟩ := O.look
    obtain ⟨mm, hFr⟩ := J.fr
    have run : wpAny (model X.prog X.w) X.A.in1 (call (.ref f) [.ref a, u]) (fun v s2 => ∃ r, v = .bool r ∧ r = false ∧ Inv X pins σ H s2) X.xe s' :=
      wpAny_mono (run_own (x := .ref a) (y := z) ⟨hr.in1, rfl⟩ F bi hx J rfl ru own) (fun w s2 k => by
        obtain ⟨z2, H', J2, rz, ez, eH⟩ := k
        subst ez
        subst eH
        cases rz
        exact ⟨false, rfl, rfl, J2⟩) fun _ _ e => e
    have hu1 : X.A.in1.units < cLine := hr.in1.units0
    cases pz with
    | str zz =>
      obtain ⟨t, rfl⟩ := ru
      refine eqB_str (turned_K (T := "str") hu1 hFr J.ok.mod.kin IA (typeIs_str _ _ _) PySem.F.slot_str_eq rfl bh.b.s (fun k => str_declines IA.at_ rfl k) ec.eq ec.fn (wpAny_mono run (fun v s2 k => ?_) fun _ _ e => e))
      obtain ⟨r, rfl, e, J2⟩ := k
      exact ⟨r, rfl, r, rfl, e, J2⟩
    | non =>
      cases ru
      refine eqB_non (turned_K (T := "NoneType") hu1 hFr J.ok.mod.kin IA (typeIs_none _) PySem.F.slot_NoneType_eq rfl bh.b.n (fun k => none_declines k) ec.eq ec.fn (wpAny_mono run (fun v s2 k => ?_) fun _ _ e => e))
      obtain ⟨r, rfl, e, J2⟩ := k
      exact ⟨r, rfl, r, rfl, e, J2⟩
    | @tup b ys hb =>
      cases ru
      obtain ⟨its2, r2, ht2, hz2⟩ := J.tuple (SqT.of hb)
      have ne : b ≠ a := by
        intro e
        subst e
        rw [ha] at hb
        cases hb
      obtain ⟨o2, ho2, hc2, _⟩ := id ht2
      refine GQ.eqBool_refG ne (turned_K (T := "tuple") hu1 hFr J.ok.mod.kin IA ⟨o2, ho2, hc2⟩ PySem.F.slot_tuple_eq (by first | rfl | simp [oneThing_ref]) bh.b.t (fun k => tup_declines J.kIn IA bh.b.t ht2 k) ec.eq ec.fn (wpAny_mono run (fun v s2 k => ?_) fun _ _ e => e))
      obtain ⟨r, rfl, e, J2⟩ := k
      exact ⟨r, rfl, r, rfl, e, J2⟩
    | @lst b ys hb =>
      cases ru
      obtain ⟨its2, r2, ht2, hz2⟩ := J.list (SqL.of hb)
      have ne : b ≠ a := by
        intro e
        subst e
        rw [ha] at hb
        cases hb
      obtain ⟨⟨c1, d1, da, sl1⟩, n2, g2, hc2, hdc, hd2⟩ := id ht2
      simp only at hc2 hd2
      subst hc2 hd2
      refine GQ.eqBool_refG ne (turned_K (T := "list") hu1 hFr J.ok.mod.kin IA ⟨_, g2, rfl⟩ PySem.F.slot_list_eq (by first | rfl | simp [oneThing_ref]) bh.l (fun k => lst_declines J.kIn IA bh.l g2 k) ec.eq ec.fn (wpAny_mono run (fun v s2 k => ?_) fun _ _ e => e))
      obtain ⟨r, rfl, e, J2⟩ := k
      exact ⟨r, rfl, r, rfl, e, J2⟩
  · obtain ⟨rfl, J⟩ := hv
    exact wpAny_truthy_bool (wpAny_pure ⟨.bl false, H, J, rfl, q⟩)
end
end V3

set_option Elab.async false
set_option linter.all false
set_option maxRecDepth 100000
/-! reports: text, what they mean, ==, contrary weights -/
namespace V3
open PySem L2 TL
abbrev sCStr : Stmt := inClass (top 34) 2
abbrev sRpStr : Stmt := inClass (top 35) 7
abbrev sMeaning : Stmt := top 41
abbrev sRpEq : Stmt := inClass (top 35) 6
abbrev sRpInv : Stmt := inClass (top 35) 5
def rpT (rs : List Rw) : Str := Str.join nlS (rs.map Rw.text)
def spRpStr (K : PySem.W.Frag) (c : Rc) (RC : Addr) : Sp := fun vs H Q _ => ∃ (v : V) (rs : List Rw), vs = [v] ∧ RpA K c RC rs v H ∧ ∀ H', Same H H' → Q (.str (rpT rs)) H'
/-- a text or None -/
def isOS (o : Option Str) : V → Hp → Prop := fun v _ => v = optV o
instance {o : Option Str} : StL (isOS o) := ⟨fun _ _ _ _ h => h⟩
instance {K : PySem.W.Frag} : Dt K isOS where
  d := fun o => match o with
    | some s => .str s
    | none => .none
  ok := fun o => ∀ s, o = some s → PyData.strOk s = true
  n := 0
  dp := fun o v H h => by
    cases o with
    | none => cases h; exact .non
    | some s => cases h; exact .str s
  lay := fun o h => by
    cases o with
    | none => simp [PyData.canLay0]
    | some s => simp [PyData.canLay0, h s rfl]
  dep := fun o => by cases o <;> simp [PyData.depth]
  inj := fun a b _ _ => by cases a <;> cases b <;> simp [PyData.eqv]
/-- weight and, unless it is 0, owner of each kind -/
def meanAt (rs : List Rw) (k : Str) : Int × Option Str := (wtOf k rs, if wtOf k rs = 0 then none else some (moOf k rs))
def meanL (rs : List Rw) : List (Int × Option Str) := kindL.map (meanAt rs)
abbrev isMn : List (Int × Option Str) → V → Hp → Prop := isL (isP2 isIv isOS)
def spMeaning (K : PySem.W.Frag) (c : Rc) (RC : Addr) : Sp := fun vs H Q _ => ∃ (v : V) (rs : List Rw), vs = [v] ∧ RpA K c RC rs v H ∧ ∀ u H', Same H H' → isMn (meanL rs) u H' → Q u H'
def spRpEq (K : PySem.W.Frag) (c : Rc) (RC : Addr) : Sp := fun vs H Q _ => ∃ (u v : V) (rs qs : List Rw), vs = [u, v] ∧ RpA K c RC rs u H ∧ RpA K c RC qs v H ∧ ∀ H', Same H H' → Q (.bl (decide (meanL rs = meanL qs))) H'
def spRpNe : Sp := fun vs H Q _ => ∃ (u z : V), vs = [u, z] ∧ PlainL H z ∧ Q (.bl false) H
def negW : Rw → Rw
  | .ct k w o => .ct k (-w) o
  | m => m
def spRpInv (K : PySem.W.Frag) (c : Rc) (RC : Addr) : Sp := fun vs H Q _ => ∃ (v : V) (rs : List Rw), vs = [v] ∧ RpA K c RC rs v H ∧ ∀ u H', Same H H' → RpA K c RC (rs.map negW) u H' → Q u H'
structure CntStr (P : Program) (w : World) (K : PySem.W.Frag) (mg : Str → Option Value) (base : Heap) (c : Rc) : Prop where
  s : ∃ (f : Addr) (fd : FuncData), FnOk P w K mg base CX0 1 f fd ["self"] (spRS c 1) ∧ PySem.W.findIn K (.ref c.C) "__str__" = some (some (.ref f)) ∧ PySem.W.isFn K (.ref f) = true ∧ Binds K fd ["self"] []
def rStrC (c : Rc) : List V → Hp → VK → Prop := fun xs H Q => ∃ v m, xs = [v] ∧ RwAt c H v m ∧ m.ok ∧ m.kind = 1 ∧ Q (.str m.text) H
theorem call_strC {X : Cx} {c : Rc} (T : CntStr X.prog X.w X.K X.mg X.base c) (room : Room 3 X.A) : CallR X (.type "str") (rStrC c) := by
  intro pins s σ H xs us Q I r h
  obtain ⟨v, m, rfl, ⟨x, dx, rfl, hx⟩, ok, kd, q⟩ := h
  obtain ⟨f, fd, G, at_, isf, bi⟩ := T.s
  have hx2 : H x = some (.ins c.C dx m.fs) := by
    rw [hx]
    show some (HO.ins (c.at m.kind) dx m.fs) = _
    rw [kd]
    rfl
  exact call_strO (E := fun _ _ _ => False) G at_ isf bi pass0 room pins s σ H _ us Q I r ⟨x, dx, m.fs, rfl, hx2, x, dx, m, rfl, hx, kd, ok, _, rfl, q⟩
/-- what is done with reports by their methods -/
structure RpM (P : Program) (w : World) (K : PySem.W.Frag) (mg : Str → Option Value) (base : Heap) (c : Rc) (RC : Addr) : Prop where
  wt : ∃ (f : Addr) (fd : FuncData), FnOk P w K mg base CX0 1 f fd ["self", "kind"] (spRpW K c RC) ∧ Meth K RC "weight_of" f ∧ Binds K fd ["self", "kind"] []
  mo : ∃ (f : Addr) (fd : FuncData), FnOk P w K mg base CX0 1 f fd ["self", "kind"] (spRpM K c RC) ∧ Meth K RC "month_of" f ∧ Binds K fd ["self", "kind"] []
structure RpI (K : PySem.W.Frag) (RC : Addr) : Prop where
  ca : PySem.W.findIn K (.ref RC) "__class__" = some (some (.builtin "object.__class__"))
  mr : PySem.W.mroIn K RC (.type "object") = some true
  gn : PySem.W.specialIn K (.builtin "object.__class__") "__get__" = some (some (.builtin "getset_descriptor.__get__"))
  tk : PySem.W.takesIn K (.builtin "object.__class__") = some true
  self : PySem.W.kitOne K (.ref RC) (.ref RC) = some true
structure RpNot (K : PySem.W.Frag) (C : Addr) : Prop where
  s : PySem.W.kitOne K (.type "str") (.ref C) = some false
  n : PySem.W.kitOne K (.type "NoneType") (.ref C) = some false
  t : PySem.W.kitOne K (.type "tuple") (.ref C) = some false
  l : PySem.W.kitOne K (.type "list") (.ref C) = some false
structure MkRp (P : Program) (w : World) (K : PySem.W.Frag) (mg : Str → Option Value) (base : Heap) (c : Rc) (RC : Addr) : Prop where
  g : mg "Report" = some (.ref RC)
  ini : ∃ (f : Addr) (fd : FuncData), FnOk P w K mg base CX0 2 f fd ["self", "rows"] (spRpInit K c RC) ∧ Mk K RC f ∧ Binds K fd ["self", "rows"] []
section
variable {K : PySem.W.Frag} {σ : L2.St} {ta tb tc te : TE} {H0 : Hp} {c : Rc} {RC : Addr} {rs qs : List Rw} {x : Str}
theorem ev_rpRows (C : RpC K RC) (ha : EvV (Same H0) σ ta (RpA K c RC rs)) : EvV (Same H0) σ (tFld K ta "rows") (fun v H => ∃ D us, v = .ref D ∧ (∀ H', Same H H' → SqT K H' D us) ∧ Ls (fun u m => RwS c m u H) us rs) := ev_fld ha fun x H w a => by
  obtain ⟨x, dx, q, us, e, hx, hq, l, ok⟩ := a
  exact ⟨x, RC, dx, _, _, e, hx, C.cl, C.n, rfl, q, us, rfl, fun H' s => (hq.same s).sq, l⟩
theorem ev_rpW (ha : EvV (Same H0) σ ta (RpA K c RC rs)) (hb : EvV (Same H0) σ tb (isSv x)) : EvV (Same H0) σ (tMeth RC "weight_of" (spRpW K c RC) [] E0 ta (tCons tb tNil)) (isIv (wtOf x rs)) :=
  ev_meth ha (fun x H a => by
    obtain ⟨x, dx, q, us, e, hx, _⟩ := a
    exact ⟨x, dx, _, e, hx, by rw [lk_ne (by decide +kernel)]; rfl⟩) (eva_cons hb eva_nil) fun y vs H Q w rx r kk => by
    obtain ⟨v1, r, rfl, e1, rfl⟩ := r
    cases e1
    exact ⟨y, rs, x, rfl, rx, fun H' s => kk _ H' s rfl⟩
theorem ev_rpM (ha : EvV (Same H0) σ ta (RpA K c RC rs)) (hb : EvV (Same H0) σ tb (isSv x)) : EvV (Same H0) σ (tMeth RC "month_of" (spRpM K c RC) [] E0 ta (tCons tb tNil)) (isSv (moOf x rs)) :=
  ev_meth ha (fun x H a => by
    obtain ⟨x, dx, q, us, e, hx, _⟩ := a
    exact ⟨x, dx, _, e, hx, by rw [lk_ne (by decide +kernel)]; rfl⟩) (eva_cons hb eva_nil) fun y vs H Q w rx r kk => by
    obtain ⟨v1, r, rfl, e1, rfl⟩ := r
    cases e1
    exact ⟨y, rs, x, rfl, rx, fun H' s => kk _ H' s rfl⟩
theorem ev_cnt {k : Str} {w : Int} {o : Str} (ok : (Rw.ct k w o).ok) (h1 : EvV (Same H0) σ ta (isSv k)) (h2 : EvV (Same H0) σ tb (isIv w)) (h3 : EvV (Same H0) σ tc (isSv o)) : EvV (Same H0) σ (tMake c.C (spCInit c) [] E0 (tCons ta (tCons tb (tCons tc tNil)))) (RwS c (.ct k w o)) := fun H Q ww kk =>
  h1 H _ ww fun v1 H1 s1 w1 e1 => h2 H1 _ w1 fun v2 H2 s2 w2 e2 => h3 H2 _ w2 fun v3 H3 s3 w3 e3 => by
    cases e1
    cases e2
    cases e3
    exact fun x dx nx ndx ne => ⟨x, dx, k, w, o, rfl, upd_same, ok, fun H' sx hx => ⟨rfl, by
      have z : Same H3 H' := fun c1 o1 e => sx c1 o1 (ne_of_none e nx) (made_same nx ndx c1 o1 e)
      exact kk _ H' (((s1.trans s2).trans s3).trans z) (w3.trans z) ⟨x, dx, rfl, hx⟩⟩⟩
theorem ev_mkRp (ok : RpOk rs) (ha : EvV (Same H0) σ ta (isL (RwS c) rs)) : EvV (Same H0) σ (tMake RC (spRpInit K c RC) [] E0 (tCons ta tNil)) (RpA K c RC rs) := fun H Q w k =>
  ha H _ w fun v H1 s1 w1 r => by
    obtain ⟨D, us, rfl, hD, l⟩ := r
    intro x dx nx ndx ne
    have z0 : Same H1 (upd (upd H1 dx (.own x)) x (.ins RC dx [])) := made_same nx ndx
    refine ⟨x, dx, D, us, rs, rfl, upd_same, .inl (z0 _ _ hD), RwLs.same l z0, ok, fun H' sx ra => ⟨rfl, ?_⟩⟩
    have z : Same H1 H' := fun c1 o1 e => sx c1 o1 (ne_of_none e nx) (z0 c1 o1 e)
    exact k _ H' (s1.trans z) (w1.trans z) ra
theorem ev_mean (ha : EvV (Same H0) σ ta (RpA K c RC rs)) : EvV (Same H0) σ (tCall (spMeaning K c RC) [] E0 (tCons ta tNil)) (isMn (meanL rs)) :=
  ev_call (eva_cons ha eva_nil) fun vs H Q _ r k => by
    obtain ⟨v1, r, rfl, e1, rfl⟩ := r
    exact ⟨v1, rs, rfl, e1, fun u H' s hu => k u H' s hu⟩
end
theorem neg_ok {rs : List Rw} (ok : RpOk rs) : RpOk (rs.map negW) := by
  obtain ⟨n, o, nd⟩ := ok
  refine ⟨by rw [List.length_map]; exact n, fun m hm => ?_, ?_⟩
  · obtain ⟨m0, h0, rfl⟩ := List.mem_map.mp hm
    obtain ⟨a, b⟩ := o m0 h0
    cases m0 with
    | lt _ _ _ _ => cases b
    | ct k w oo =>
      obtain ⟨k1, w1, o1⟩ := a
      refine ⟨⟨k1, ?_, o1⟩, rfl⟩
      rcases w1 with rfl | rfl | rfl
      · exact .inr (.inr rfl)
      · exact .inr (.inl rfl)
      · exact .inl rfl
  · rw [List.map_map]
    have e : rs.map (Rw.k1 ∘ negW) = rs.map Rw.k1 := List.map_congr_left fun m _ => by cases m <;> rfl
    rw [e]
    exact nd
theorem ct_len {m : Rw} (ok : m.ok) (kd : m.kind = 1) : m.text.length ≤ 20 := by
  cases m with
  | lt _ _ _ _ => cases kd
  | ct k w o =>
    have l : ∀ z ∈ (Rw.ct k w o).words, z.length ≤ 6 := fun z hz => (word_ok ok z hz).2
    simp only [Rw.words, List.mem_cons, List.not_mem_nil, or_false, forall_eq_or_imp, forall_eq] at l
    obtain ⟨l1, l2, l3⟩ := l
    have l0 : (Str.empty).length = 0 := rfl
    have lb : (" " : Str).length = 1 := by decide +kernel
    rw [← cnt_text]
    simp only [app_len]
    omega
theorem rp_text_len {rs : List Rw} (ok : RpOk rs) : ((rs.map Rw.text).map (·.length)).sum + (rs.map Rw.text).length ≤ 1000 := by
  have z : ∀ m ∈ rs, m.text.length ≤ 30 := fun m hm => Nat.le_trans (ct_len (ok.2.1 m hm).1 (ok.2.1 m hm).2) (by decide)
  have n := ok.1
  rw [List.map_map, List.length_map]
  have : ∀ (l : List Rw), (∀ m ∈ l, m.text.length ≤ 30) → (l.map ((fun x : Str => x.length) ∘ Rw.text)).sum ≤ l.length * 30 := fun l h => by
    induction l with
    | nil => simp
    | cons a r ih =>
      have h1 := ih fun m hm => h m (List.mem_cons_of_mem _ hm)
      have h2 : a.text.length ≤ 30 := h a List.mem_cons_self
      rw [List.map_cons, List.sum_cons, List.length_cons]
      show a.text.length + _ ≤ _
      omega
  have := this rs z
  omega
section
variable {P : Program} {w : World} {K : PySem.W.Frag} {mg : Str → Option Value} {base : Heap} {KA WA OA : Addr}
theorem scCStr : FnScope ["self"] ["self"] (defScope sCStr) := ⟨rfl, rfl, rfl, by decide +kernel, rfl, by decide +kernel, by decide +kernel⟩
theorem scRpStr : FnScope ["self", "row"] ["self"] (defScope sRpStr) := ⟨rfl, rfl, rfl, by decide +kernel, rfl, by decide +kernel, by decide +kernel⟩
theorem scMeaning : FnScope ["report", "kind"] ["report"] (defScope sMeaning) := ⟨rfl, rfl, rfl, by decide +kernel, rfl, by decide +kernel, by decide +kernel⟩
theorem scRpEq : FnScope ["self", "other"] ["self", "other"] (defScope sRpEq) := ⟨rfl, rfl, rfl, by decide +kernel, rfl, by decide +kernel, by decide +kernel⟩
theorem scRpInv : FnScope ["self", "row"] ["self"] (defScope sRpInv) := ⟨rfl, rfl, rfl, by decide +kernel, rfl, by decide +kernel, by decide +kernel⟩
theorem ok_cStr {f : Addr} {c : Rc} {fd : FuncData} (F : Fun K "__str__" "Count.__str__" sCStr f fd) (L : CntC K c) : FnOk P w K mg base CX0 1 f fd ["self"] (spRS c 1) := by
  refine F.ok scCStr (fun vs H Q E h => ?_) (fun cdv A outer s H vs Q E hr h => ?_)
  · obtain ⟨x, dx, m, rfl, _⟩ := h
    rfl
  · obtain ⟨x, dx, m, rfl, hx, hk, ok, q⟩ := h
    cases m with
    | lt k s d p => cases hk
    | ct k w o =>
      have l : ∀ z ∈ (Rw.ct k w o).words, z.length ≤ 6 := fun z hz => (word_ok ok z hz).2
      simp only [Rw.words, List.mem_cons, List.not_mem_nil, or_false, forall_eq_or_imp, forall_eq] at l
      obtain ⟨l1, l2, l3⟩ := l
      have l0 : (Str.empty).length = 0 := rfl
      have lb : (" " : Str).length = 1 := by decide +kernel
      have am : Am w := by
        rcases ok.2.1 with rfl | rfl | rfl <;> (unfold Am; decide)
      refine ⟨_, (pss_one (ps_ret (pe_joined (.cons (pe_fmt (pe_fld (pv 0) rfl)) (.cons pe_str (.cons (pe_fmt (pe_fld (pv 0) rfl)) (.cons pe_str (.cons (pe_fmt (pe_fld (pv 0) rfl)) .nil)))))))), ?_⟩
      refine ⟨_, rfl, x, c.C, dx, _, _, rfl, hx, L.cl, L.k, cnt_kind .., .inl ⟨k, rfl, small (by omega), _, rfl, small (by rw [app_len]; omega), ?_⟩⟩
      refine ⟨_, rfl, small (by simp only [app_len]; omega), ?_⟩
      refine ⟨_, rfl, x, c.C, dx, _, _, rfl, hx, L.cl, L.w, cnt_weight .., .inr ⟨w, rfl, am_log am, num w, rfl, small (by simp only [app_len]; omega), ?_⟩⟩
      refine ⟨_, rfl, small (by simp only [app_len]; omega), ?_⟩
      refine ⟨_, rfl, x, c.C, dx, _, _, rfl, hx, L.cl, L.o, cnt_whose .., .inl ⟨o, rfl, small (by omega), _, rfl, small (by simp only [app_len]; omega), ?_⟩⟩
      rw [← cnt_text] at q
      exact q
theorem ok_rpStr {f RC : Addr} {c : Rc} {fd : FuncData} (F : Fun K "__str__" "Report.__str__" sRpStr f fd) (C : RpC K RC) (S : CntStr P w K mg base c) (zs : mg "str" = none) : FnOk P w K mg base CX0 4 f fd ["self"] (spRpStr K c RC) := by
  refine F.ok scRpStr (fun vs H Q E h => ?_) (fun cdv A outer s H vs Q E hr h => ?_)
  · obtain ⟨v, rs, rfl, _⟩ := h
    rfl
  · obtain ⟨v, rs, rfl, hv, k⟩ := h
    have ok : RpOk rs := by
      obtain ⟨x, dx, q, us, _, _, _, _, ok⟩ := id hv
      exact ok
    refine ⟨_, (pss_one (ps_ret (pe_joinK pe_str (pe_lc (own := [("row", 1)]) (g := gName 1) (tt := tYes) (te := tCB (rStrC c) (tCons (tVar 1) tNil)) (by rfl) scRpStr.nd (pi_tup (pe_fld (pv 0) rfl)) (blkOk_by (own := [("row", 1)]) (N := ["self", "row"]) (sc := defScope sRpStr) (by decide +kernel)) (fun _ _ _ _ _ => (pg_name (i := 1) scRpStr.nd rfl (Or.inl rfl))) (fun _ _ _ _ _ => pts_nil) (fun _ _ _ _ _ => (pe_callTy (call_strC S (hr.mono (by decide))) (by rfl) zs (by decide +kernel) (pa_cons (pv 1) pa_nil))))))), ?_⟩
    have nl1 : nlS.length = 1 := by decide +kernel
    refine ev_joinLs (H0 := H) (y := nlS) (L := rs.map Rw.text) (by omega) (Nat.le_trans (rp_text_len ok) (by decide)) ev_str (evn_lcY (S := RwS c) (S' := isSv) Rw.text (evi_tup (ev_rpRows C (ev_v (i := 0) rfl hv))) (by have := ok.1; omega) (fun m hm x G sG r => ev_cb (eva_cons (ev_v (i := 1) rfl r) eva_nil) fun vs G2 Q2 w2 rr kk => by
      obtain ⟨v1, rr, rfl, a1, rfl⟩ := rr
      obtain ⟨o1, o2⟩ := ok.2.1 m hm
      exact ⟨v1, m, rfl, a1, o1, o2, kk _ G2 (Same.refl _) rfl⟩) (fun _ => rfl)).ev H _ (Same.refl _) fun u H1 s1 _ e => ?_
    cases e
    exact k H1 s1
theorem ok_meaning {f RC : Addr} {c : Rc} {fd : FuncData} (F : Fun K "meaning_of" "meaning_of" sMeaning f fd) (T : CntT K mg KA WA OA) (C : RpC K RC) (M : RpM P w K mg base c RC) : FnOk P w K mg base CX0 2 f fd ["report"] (spMeaning K c RC) := by
  obtain ⟨fW, fdW, GW, mW, bW⟩ := M.wt
  obtain ⟨fM, fdM, GM, mM, bM⟩ := M.mo
  refine F.ok scMeaning (fun vs H Q E h => ?_) (fun cdv A outer s H vs Q E hr h => ?_)
  · obtain ⟨v, rs, rfl, _⟩ := h
    rfl
  · obtain ⟨v, rs, rfl, hv, k⟩ := h
    refine ⟨_, (pss_one (ps_ret (pe_lc (own := [("kind", 1)]) (g := gName 1) (tt := tYes) (te := tTup (tCons (tMeth RC "weight_of" (spRpW K c RC) [] E0 (tVar 0) (tCons (tVar 1) tNil)) (tCons (tIf (tTest (tOp rEq (tMeth RC "weight_of" (spRpW K c RC) [] E0 (tVar 0) (tCons (tVar 1) tNil)) (tC (.int 0)))) (tC .non) (tMeth RC "month_of" (spRpM K c RC) [] E0 (tVar 0) (tCons (tVar 1) tNil))) tNil))) (by rfl) scMeaning.nd (pi_tup (pe_glob (v := .ref KA) rfl T.kinds rfl)) (blkOk_by (own := [("kind", 1)]) (N := ["report", "kind"]) (sc := defScope sMeaning) (by decide +kernel)) (fun _ _ _ _ _ => (pg_name (i := 1) scMeaning.nd rfl (Or.inl rfl))) (fun _ _ _ _ _ => pts_nil) (fun _ _ _ _ _ => (pe_tup (pa_cons (pe_meth (E := E0) (pv 0) C.cl mW GW hr bW .nil pass0 (pa_cons (pv 1) pa_nil)) (pa_cons (pe_ifExp (pt_cmpR op_eq (pe_meth (E := E0) (pv 0) C.cl mW GW hr bW .nil pass0 (pa_cons (pv 1) pa_nil)) pe_int (nomark _)) pe_non (pe_meth (E := E0) (pv 0) C.cl mM GM hr bM .nil pass0 (pa_cons (pv 1) pa_nil))) pa_nil))))))), ?_⟩
    refine evn_lcY (H0 := H) (S := isSv) (S' := isP2 isIv isOS) (meanAt rs) (evi_tup (K := K) (S := isSv) (as := kindL) (fun G Q2 w2 kk => kk _ G (Same.refl _) w2 ⟨KA, _, rfl, fun H' _ => T.tK H', Ls.strs kindL⟩)) (by decide) (fun x hx y G sG r => by
      have v0 : ∀ {H1 : Hp}, Same G H1 → EvV (Same H1) [some v, some y] (tVar 0) (RpA K c RC rs) := fun s => ev_v (i := 0) rfl (up (sG.trans s) hv)
      have e1 : EvV (Same G) [some v, some y] (tVar 1) (isSv x) := ev_v (i := 1) rfl r
      refine ev_p2 (a := wtOf x rs) (c := if wtOf x rs = 0 then none else some (moOf x rs)) (ev_rpW (v0 (Same.refl _)) e1) ?_
      refine ev_if (b := decide (wtOf x rs = 0)) (ev_test (ev_eqi (ev_rpW (v0 (Same.refl _)) e1) ev_int)) (fun z => ?_) fun z => ?_
      · rw [if_pos (of_decide_eq_true z)]
        exact fun H Q w k => k _ H (Same.refl H) w rfl
      · rw [if_neg (of_decide_eq_false z)]
        exact ev_to (ev_rpM (v0 (Same.refl _)) e1) fun _ _ e => e) (fun _ => rfl) H _ (Same.refl _) fun D us H1 nD s1 hD l => ?_
    exact k _ H1 s1 ⟨D, us, rfl, hD, l⟩
theorem wt_or {x : Str} : ∀ {rs : List Rw}, (∀ m ∈ rs, m.ok ∧ m.kind = 1) → moOf x rs ∈ whoseL
  | [], _ => by
    show ("own" : Str) ∈ whoseL
    decide +kernel
  | .lt _ _ _ _ :: r, h => by cases (h _ List.mem_cons_self).2
  | .ct k w o :: r, h => by
    show (if k = x then o else moOf x r) ∈ whoseL
    split
    · exact (h _ List.mem_cons_self).1.2.2
    · exact wt_or fun m hm => h m (List.mem_cons_of_mem _ hm)
theorem mean_ok {rs : List Rw} (ok : RpOk rs) : ∀ p ∈ meanL rs, True ∧ ∀ s, p.2 = some s → PyData.strOk s = true := fun p hp => ⟨trivial, fun s e => by
  obtain ⟨k, _, rfl⟩ := List.mem_map.mp hp
  have w : ∀ s ∈ whoseL, PyData.strOk s = true := by decide +kernel
  unfold meanAt at e
  dsimp only at e
  split at e
  · cases e
  · cases e
    exact w _ (wt_or ok.2.1)⟩
theorem ok_rpEq {f RC : Addr} {c : Rc} {fd : FuncData} (F : Fun K "__eq__" "Report.__eq__" sRpEq f fd) (C : RpC K RC) (I : RpI K RC) (zi : mg "isinstance" = none) (gR : mg "Report" = some (.ref RC)) (cM : Cal P w K mg base CX0 "meaning_of" 2 ["report"] (spMeaning K c RC)) : FnOk P w K mg base CX0 3 f fd ["self", "other"] (spRpEq K c RC) := by
  obtain ⟨fM, fdM, GM, mM, kM, bM⟩ := cM
  refine F.ok scRpEq (fun vs H Q E h => ?_) (fun cdv A outer s H vs Q E hr h => ?_)
  · obtain ⟨u, v, rs, qs, rfl, _⟩ := h
    rfl
  · obtain ⟨u, v, rs, qs, rfl, hu, hv, k⟩ := h
    refine ⟨_, pss_one (ps_ret (pe_and (pe_callB call_isi (by rfl) zi (by decide +kernel) (pa_cons (pv 1) (pa_cons (pe_glob (v := .ref RC) rfl gR rfl) pa_nil)))
      (pe_one (pe_cmpR (op_eqD hr.units) (pe_call GM hr rfl mM kM bM .nil pass0 (pa_cons (pv 0) pa_nil)) (pe_call GM hr rfl mM kM bM .nil pass0 (pa_cons (pv 1) pa_nil)) (nomark _))))), ?_⟩
    obtain ⟨y, dy, q2, us2, rfl, hy, hq2, l2, ok2⟩ := id hv
    obtain ⟨x, dx, q1, us1, rfl, hx, hq1, l1, ok1⟩ := id hu
    refine ⟨_, rfl, _, _, _, _, _, rfl, .own RC, .base (.ins hy C.cl I.ca I.gn I.tk I.mr), I.self, _, rfl, iteT ?_⟩
    refine ev_eqD (K := K) (H0 := H) (S := isMn) (a := meanL rs) (b := meanL qs) (ev_mean (ev_v (i := 0) rfl hu)) (ev_mean (ev_v (i := 1) rfl hv)) (mean_ok ok1) (mean_ok ok2) (by exact Nat.le_of_ble_eq_true rfl) H _ (Same.refl _) fun v4 H4 s4 _ e4 => ?_
    cases e4
    exact k H4 s4
theorem ok_rpNe {f RC : Addr} {fd : FuncData} {c : Rc} (F : Fun K "__eq__" "Report.__eq__" sRpEq f fd) (N : RpNot K RC) (zi : mg "isinstance" = none) (gR : mg "Report" = some (.ref RC)) (cM : Cal P w K mg base CX0 "meaning_of" 2 ["report"] (spMeaning K c RC)) : FnOk P w K mg base CX0 3 f fd ["self", "other"] spRpNe := by
  obtain ⟨fM, fdM, GM, mM, kM, bM⟩ := cM
  refine F.ok scRpEq (fun vs H Q E h => ?_) (fun cdv A outer s H vs Q E hr h => ?_)
  · obtain ⟨u, z, rfl, _⟩ := h
    rfl
  · obtain ⟨u, z, rfl, pl, k⟩ := h
    refine ⟨_, pss_one (ps_ret (pe_and (pe_callB call_isi (by rfl) zi (by decide +kernel) (pa_cons (pv 1) (pa_cons (pe_glob (v := .ref RC) rfl gR rfl) pa_nil)))
      (pe_one (pe_cmpR (op_eqD hr.units) (pe_call GM hr rfl mM kM bM .nil pass0 (pa_cons (pv 0) pa_nil)) (pe_call GM hr rfl mM kM bM .nil pass0 (pa_cons (pv 1) pa_nil)) (nomark _))))), ?_⟩
    cases pl with
    | str x => exact ⟨_, rfl, _, _, _, _, _, rfl, .own RC, .base (.str x), N.s, _, rfl, iteF k⟩
    | non => exact ⟨_, rfl, _, _, _, _, _, rfl, .own RC, .base .non, N.n, _, rfl, iteF k⟩
    | tup h => exact ⟨_, rfl, _, _, _, _, _, rfl, .own RC, .base (.tup h), N.t, _, rfl, iteF k⟩
    | lst h => exact ⟨_, rfl, _, _, _, _, _, rfl, .own RC, .base (.lst h), N.l, _, rfl, iteF k⟩
theorem ok_rpInv {f RC : Addr} {c : Rc} {fd : FuncData} (F : Fun K "__invert__" "Report.__invert__" sRpInv f fd) (C : RpC K RC) (L : CntC K c) (MR : MkRp P w K mg base c RC) (MC : MkR P w K mg base "Count" ["self", "kind", "weight", "whose"] c.C 3 (spCInit c)) : FnOk P w K mg base CX0 5 f fd ["self"] (spRpInv K c RC) := by
  obtain ⟨fR, fdR, GR, MR1, bR⟩ := MR.ini
  obtain ⟨fC, fdC, GC, MC1, bC⟩ := MC.ini
  refine F.ok scRpInv (fun vs H Q E h => ?_) (fun cdv A outer s H vs Q E hr h => ?_)
  · obtain ⟨v, rs, rfl, _⟩ := h
    rfl
  · obtain ⟨v, rs, rfl, hv, k⟩ := h
    have ok : RpOk rs := by
      obtain ⟨x, dx, q, us, _, _, _, _, ok⟩ := id hv
      exact ok
    have hr3 : Room 3 _ := hr.mono (by decide)
    refine ⟨_, (pss_one (ps_ret (pe_make (E := E0) MR1 GR hr3 rfl MR.g bR .nil pass0 (pa_cons (pe_lc (own := [("row", 1)]) (g := gName 1) (tt := tYes) (te := tMake c.C (spCInit c) [] E0 (tCons (tFld K (tVar 1) "kind") (tCons (tUn (rU fun i => .int (-i)) (tFld K (tVar 1) "weight")) (tCons (tFld K (tVar 1) "whose") tNil)))) (by rfl) scRpInv.nd (pi_tup (pe_fld (pv 0) rfl)) (blkOk_by (own := [("row", 1)]) (N := ["self", "row"]) (sc := defScope sRpInv) (by decide +kernel)) (fun _ _ _ _ _ => (pg_name (i := 1) scRpInv.nd rfl (Or.inl rfl))) (fun _ _ _ _ _ => pts_nil) (fun _ _ _ _ _ => (pe_make (E := E0) MC1 GC hr rfl MC.g bC .nil pass0 (pa_cons (pe_fld (pv 1) rfl) (pa_cons (pe_un un_neg (pe_fld (pv 1) rfl)) (pa_cons (pe_fld (pv 1) rfl) pa_nil)))))) pa_nil)))), ?_⟩
    refine ev_mkRp (H0 := H) (neg_ok ok) (evn_lcY (S := RwS c) (S' := RwS c) negW (evi_tup (ev_rpRows C (ev_v (i := 0) rfl hv))) (by have := ok.1; omega) (fun m hm x G sG r => by
      obtain ⟨o1, o2⟩ := (neg_ok ok).2.1 (negW m) (List.mem_map.mpr ⟨m, hm, rfl⟩)
      have kd := (ok.2.1 m hm).2
      cases m with
      | lt _ _ _ _ => cases kd
      | ct k w o =>
        exact ev_cnt (k := k) (w := -w) (o := o) o1 (ev_rowK L kd (ev_v (i := 1) rfl r)) (fun H Q ww kk => ev_fld (R := isIv w) (ev_v (i := 1) rfl r) (fun x H w2 a => by
            obtain ⟨y, dy, e, hy⟩ := a
            exact ⟨y, c.C, dy, _, _, e, hy, L.cl, L.w, cnt_weight .., rfl⟩) H _ ww fun v H1 s1 w1 e1 => ⟨w, e1, kk _ H1 s1 w1 rfl⟩)
          (ev_fld (R := isSv o) (ev_v (i := 1) rfl r) fun x H w2 a => by
            obtain ⟨y, dy, e, hy⟩ := a
            exact ⟨y, c.C, dy, _, _, e, hy, L.cl, L.o, cnt_whose .., rfl⟩)) (fun _ => rfl)).ev H _ (Same.refl _) fun u H1 s1 _ a => k u H1 s1 a
end
end V3

set_option Elab.async false
set_option linter.all false
set_option maxRecDepth 100000
/-! is a value a list or a tuple of things of some classes (F5's and G5's lemmas, beside no text of moves; never join them) -/
namespace V3
open PySem L2
/-- is it an instance of one of the classes of moves -/
def isMvO (mv : List Addr) : Option HO → Bool
  | some (.ins C _ _) => decide (C ∈ mv)
  | _ => false
def isMv (mv : List Addr) (H : Hp) : V → Bool
  | .ref a => isMvO mv (H a)
  | _ => false
/-- are all items moves, if it is a list or a tuple -/
def okV (mv : List Addr) (H : Hp) (v : V) : Bool := match itemsOf H v with
  | some xs => xs.all (isMv mv H)
  | none => false
/-- what the written part says of the classes cs, of which mv are moves (MV their base) -/
structure ClsF (K : PySem.W.Frag) (mv cs : List Addr) (MV : Addr) : Prop where
  cl : ∀ C ∈ cs, Cls K C ∧ PySem.W.findIn K (.ref C) "__class__" = some (some (.builtin "object.__class__")) ∧ PySem.W.mroIn K C (.type "object") = some true ∧
    PySem.W.subIn K (.ref C) (.type "list") = some false ∧ PySem.W.subIn K (.ref C) (.type "tuple") = some false ∧ PySem.W.kitOne K (.ref C) (.ref MV) = some (decide (C ∈ mv))
  gn : PySem.W.specialIn K (.builtin "object.__class__") "__get__" = some (some (.builtin "getset_descriptor.__get__"))
  tk : PySem.W.takesIn K (.builtin "object.__class__") = some true
  is : PySem.W.isClsIn K MV = true
  ty : PySem.W.typeIn K (.ref MV) = some (.type "type")
  flat : PySem.W.subIn K (.type "NoneType") (.ref MV) = some false ∧ PySem.W.subIn K (.type "bool") (.ref MV) = some false ∧ PySem.W.subIn K (.type "int") (.ref MV) = some false ∧
    PySem.W.subIn K (.type "str") (.ref MV) = some false ∧ PySem.W.subIn K (.type "list") (.ref MV) = some false ∧ PySem.W.subIn K (.type "tuple") (.ref MV) = some false
theorem kit_tr {K : PySem.W.Frag} {T : String} {C : Addr} (h1 : PySem.W.isClsIn K C = true) (h2 : PySem.W.typeIn K (.ref C) = some (.type "type")) {b : Bool} (h3 : PySem.W.subIn K (.type T) (.ref C) = some b) : PySem.W.kitOne K (.type T) (.ref C) = some b := by
  unfold PySem.W.kitOne
  rw [if_neg (by intro z; cases (beq_iff_eq.mp z))]
  have q : ((PySem.W.clsIn K C).isSome && PySem.W.typeIn K (.ref C) == some (.type "type")) = true := by
    have z : (PySem.W.clsIn K C).isSome = true := h1
    rw [z, h2] <;> rfl
  show (if ((PySem.W.clsIn K C).isSome && PySem.W.typeIn K (.ref C) == some (.type "type")) = true then PySem.W.subIn K (.type T) (.ref C) else none) = some b
  rw [if_pos q]
  exact h3
theorem kit_rt {K : PySem.W.Frag} {T : String} {C : Addr} {b : Bool} (hm : PySem.W.kitMeta T = true) (h3 : PySem.W.subIn K (.ref C) (.type T) = some b) : PySem.W.kitOne K (.ref C) (.type T) = some b := by
  unfold PySem.W.kitOne
  rw [if_neg (by intro z; cases (beq_iff_eq.mp z))]
  show (if PySem.W.kitMeta T = true then PySem.W.subIn K (.ref C) (.type T) else none) = some b
  rw [if_pos hm]
  exact h3
theorem kit2 {K : PySem.W.Frag} {t : Value} {b1 b2 : Bool} (h1 : PySem.W.kitOne K t (.type "list") = some b1) (h2 : PySem.W.kitOne K t (.type "tuple") = some b2) : PySem.W.kitAny K t [.type "list", .type "tuple"] = some (b1 || b2) := by
  refine kitAny_cons h1 (fun z => kitAny_cons h2 (fun z2 => ?_) (fun z2 => ?_)) (fun z => ?_)
  · rw [z, z2]
    exact kitAny_nil
  · rw [z, z2]
    rfl
  · rw [z]
    rfl
/-- its type, and what isinstance says of it -/
theorem tk_ty {K : PySem.W.Frag} {mv cs : List Addr} {MV : Addr} {H : Hp} {v : V} (F : ClsF K mv cs MV) (h : TK cs H v) : ∃ t, TyX K H v t ∧ PySem.W.kitAny K t [.type "list", .type "tuple"] = some (itemsOf H v).isSome ∧ PySem.W.kitOne K t (.ref MV) = some (isMv mv H v) := by
  obtain ⟨f1, f2, f3, f4, f5, f6⟩ := F.flat
  have k (n m : String) {b : Bool} (h : kitB n m = some b) : PySem.W.kitOne K (.type n) (.type m) = some b := kit_ty h
  cases h with
  | non => exact ⟨_, .base .non, kit2 (b1 := false) (b2 := false) (k "NoneType" "list" (by decide +kernel)) (k "NoneType" "tuple" (by decide +kernel)), kit_tr F.is F.ty f1⟩
  | bl b => exact ⟨_, .base (.bl b), kit2 (b1 := false) (b2 := false) (k "bool" "list" (by decide +kernel)) (k "bool" "tuple" (by decide +kernel)), kit_tr F.is F.ty f2⟩
  | int i => exact ⟨_, .base (.int i), kit2 (b1 := false) (b2 := false) (k "int" "list" (by decide +kernel)) (k "int" "tuple" (by decide +kernel)), kit_tr F.is F.ty f3⟩
  | str z => exact ⟨_, .base (.str z), kit2 (b1 := false) (b2 := false) (k "str" "list" (by decide +kernel)) (k "str" "tuple" (by decide +kernel)), kit_tr F.is F.ty f4⟩
  | @lst a xs h =>
    have e : (itemsOf H (.ref a)).isSome = true := by
      show (seqOf (H a)).isSome = true
      rw [h]
      rfl
    have e2 : isMv mv H (.ref a) = false := by
      show isMvO mv (H a) = false
      rw [h]
      rfl
    rw [e, e2]
    exact ⟨_, .base (.lst h), kit2 (b1 := true) (b2 := false) (k "list" "list" (by decide +kernel)) (k "list" "tuple" (by decide +kernel)), kit_tr F.is F.ty f5⟩
  | @tup a xs h =>
    have e : (itemsOf H (.ref a)).isSome = true := by
      show (seqOf (H a)).isSome = true
      rw [h]
      rfl
    have e2 : isMv mv H (.ref a) = false := by
      show isMvO mv (H a) = false
      rw [h]
      rfl
    rw [e, e2]
    exact ⟨_, .base (.tup h), kit2 (b1 := false) (b2 := true) (k "tuple" "list" (by decide +kernel)) (k "tuple" "tuple" (by decide +kernel)), kit_tr F.is F.ty f6⟩
  | @ins a C dx fs h c =>
    obtain ⟨cl, ca, mo, sl, st, km⟩ := F.cl C c
    have e : (itemsOf H (.ref a)).isSome = false := by
      show (seqOf (H a)).isSome = false
      rw [h]
      rfl
    have e2 : isMv mv H (.ref a) = decide (C ∈ mv) := by
      show isMvO mv (H a) = _
      rw [h]
      rfl
    rw [e, e2]
    exact ⟨_, .base (.ins h cl ca F.gn F.tk mo), kit2 (b1 := false) (b2 := false) (kit_rt (by decide +kernel) sl) (kit_rt (by decide +kernel) st), km⟩
theorem isMv_same {mv cs : List Addr} {H H' : Hp} {v : V} (h : TK cs H v) (s : Same H H') : isMv mv H' v = isMv mv H v := by
  cases h with
  | non => rfl
  | bl b => rfl
  | int i => rfl
  | str z => rfl
  | @lst a xs h =>
    show isMvO mv (H' a) = isMvO mv (H a)
    rw [h, s _ _ h]
  | @tup a xs h =>
    show isMvO mv (H' a) = isMvO mv (H a)
    rw [h, s _ _ h]
  | @ins a C dx fs h c =>
    show isMvO mv (H' a) = isMvO mv (H a)
    rw [h, s _ _ h]
theorem all_congr {f g : V → Bool} : ∀ {xs : List V}, (∀ z ∈ xs, f z = g z) → xs.all f = xs.all g
  | [], _ => rfl
  | x :: xs, h => by
    rw [List.all_cons, List.all_cons, h x (List.mem_cons_self ..), all_congr fun z hz => h z (List.mem_cons_of_mem _ hz)]
theorem okV_same {mv cs : List Addr} {H H' : Hp} {v : V} (h : AW cs H v) (s : Same H H') : okV mv H' v = okV mv H v := by
  unfold okV
  rw [items_same h.1 s]
  cases e : itemsOf H v with
  | none => rfl
  | some xs => exact all_congr fun z hz => isMv_same ((h.2 xs e).2 z hz) s
structure BltD (mg : Str → Option Value) : Prop where
  isi : mg "isinstance" = none
  list : mg "list" = none
  tuple : mg "tuple" = none
  all : mg "all" = none
section
variable {P : Program} {w : World} {K : PySem.W.Frag} {mg : Str → Option Value} {base : Heap}
/-- [isinstance(item, Move) for item in value]: what the new list holds behind i items -/
def Told (mv cs : List Addr) (H : Hp) (xs : List V) (D : Addr) (i : Nat) (Hh : Hp) : Prop := Same H Hh ∧ H D = none ∧ Hh D = some (.lst ((xs.take i).map fun z => V.bl (isMv mv H z)))
theorem told_turn {mv cs : List Addr} {MV D : Addr} {H Hh : Hp} {xs : List V} {i : Nat} {z : V} {σ : L2.St} (C : ClsF K mv cs MV) (kz : ∀ z ∈ xs, TK cs H z) (l : xs.length ≤ 100) (hi : xs[i]? = some z) (p : Told mv cs H xs D i Hh) (hσ : σ[1]? = some (some z)) :
    tCB (rIsi K) (tCons (tVar 1) (tCons (tC (.ref MV)) tNil)) σ Hh (fun y H4 => ∃ acc, H4 D = some (.lst acc) ∧ acc.length < sizeLine ∧ Told mv cs H xs D (i + 1) (upd H4 D (.lst (acc ++ [y])))) := by
  obtain ⟨s1, n, e⟩ := p
  have hz : z ∈ xs := List.mem_of_getElem? hi
  obtain ⟨t, ty, _, km⟩ := tk_ty (K := K) C ((kz z hz).same s1)
  refine ⟨_, hσ, _, _, t, _, _, rfl, .own MV, ty, km, _, e, ?_, fun c o h => ?_, n, ?_⟩
  · refine small1000 ?_
    rw [List.length_map, List.length_take]
    omega
  · rw [upd_ne (ne_of_none h n)]
    exact s1 c o h
  · rw [upd_same, take_next hi, List.map_append, isMv_same (kz z hz) s1]
    rfl
theorem told_end {mv cs : List Addr} {D : Addr} {H Hh : Hp} {xs : List V} {Q : VK} (p : Told mv cs H xs D xs.length Hh) (k : ∀ H', Same H H' → Q (.bl (xs.all (isMv mv H))) H') : rAll K [.ref D] Hh Q := by
  obtain ⟨s1, n, e⟩ := p
  refine ⟨D, xs.map (isMv mv H), rfl, SqL.of (by rw [e, List.take_length, List.map_map]; rfl), ?_⟩
  have z : (xs.map (isMv mv H)).all id = xs.all (isMv mv H) := by
    rw [List.all_map]
    rfl
  rw [z]
  exact k _ s1
end
theorem seq_of_ok {mv cs : List Addr} {H : Hp} {v : V} (aw : AW cs H v) (h : okV mv H v = true) : ∃ a xs, v = .ref a ∧ itemsOf H v = some xs ∧ (H a = some (.lst xs) ∨ H a = some (.tup xs)) := by
  unfold okV at h
  cases ei : itemsOf H v with
  | none =>
    rw [ei] at h
    cases h
  | some xs =>
    by_cases n : ∃ a, v = .ref a
    · obtain ⟨a, rfl⟩ := n
      obtain ⟨o, eo, c⟩ := aw.1.at
      have q : seqOf (H a) = some xs := ei
      rw [eo] at q
      rcases c with ⟨ys, rfl⟩ | ⟨ys, rfl⟩ | ⟨_, _, _, rfl, _⟩
      · injection q with q
        subst q
        exact ⟨a, ys, rfl, rfl, .inl eo⟩
      · injection q with q
        subst q
        exact ⟨a, ys, rfl, rfl, .inr eo⟩
      · cases q
    · rw [items_none (fun a z => n ⟨a, z⟩)] at ei
      cases ei
end V3

set_option Elab.async false
set_option linter.all false
set_option maxRecDepth 100000
/-! x + y of two classes, x += y -/
namespace V3
open PySem PySem.Spec PyProof.Rows L2
/-- no class up the line of D has one of these names -/
def Silent (K : PySem.W.Frag) (D : Addr) (ns : List Str) : Prop := ∃ (oc : Value) (od : Option Addr) (cd : ClassData) (sl : Array (Option Value)), K.lookup D = some ⟨oc, od, .cls cd, sl⟩ ∧ ∀ c ∈ cd.mro, ∀ n ∈ ns, PySem.W.findIn K c n = some none
section
variable {M : Model} {h : Heap} {K : PySem.W.Frag} {D : Addr}
theorem anyM_off {f : Value → Sem Bool} : ∀ {l : List Value}, (∀ c ∈ l, PySem.W.Looks M h (f c) false) → PySem.W.Looks M h (l.anyM f) false
  | [], _ => .now
  | c :: r, e => (e c (List.mem_cons_self ..)).andThen (anyM_off (l := r) fun d hd => e d (List.mem_cons_of_mem _ hd))
theorem cls_mro {oc : Value} {od : Option Addr} {cd : ClassData} {sl : Array (Option Value)} (X : K.In h) (e : K.lookup D = some ⟨oc, od, .cls cd, sl⟩) : PySem.W.Looks M h (mroOf (.ref D)) cd.mro := by
  have z : PySem.W.clsIn K D = some cd := by
    unfold PySem.W.clsIn
    rw [e]
  exact (PySem.W.looks_clsIn X z).andThen (f := fun cd => pure cd.mro) .now
theorem silent_fills {nm : String} (X : K.In h) (s : Silent K D [dunder nm, dunderR nm]) : PySem.W.Looks M h (fillsNumberSlot (.ref D) nm) false := by
  obtain ⟨oc, od, cd, sl, e, al⟩ := s
  unfold fillsNumberSlot
  refine (cls_mro X e).andThen (anyM_off fun c hc => ?_)
  have h1 := PySem.W.looks_findIn (M := M) X (al c hc (dunder nm) (by simp))
  have h2 := PySem.W.looks_findIn (M := M) X (al c hc (dunderR nm) (by simp))
  cases c with
  | type n => exact h1.andThen (h2.andThen .now)
  | ref a => exact (h1.andThen (b := false) .now).andThen ((h2.andThen (b := false) .now).andThen .now)
  | _ => exact absurd (al _ hc (dunder nm) (by simp)) (by simp [PySem.W.findIn])
theorem silent_inp {nm : String} {add : Bool} (X : K.In h) (s : Silent K D [dunderI nm]) : PySem.W.Looks M h (fillsInplaceSlot (.ref D) nm add) false := by
  obtain ⟨oc, od, cd, sl, e, al⟩ := s
  unfold fillsInplaceSlot
  refine (cls_mro X e).andThen (anyM_off fun c hc => ?_)
  have h1 := PySem.W.looks_findIn (M := M) X (al c hc (dunderI nm) (by simp))
  exact h1.andThen .now
end
section
variable {prog : Program} {w : World} {A : Around} {E : Value → Shared → Prop} {s : Shared} {K : PySem.W.Frag} {x C D f : Addr} {ox : Obj} {od : Option Obj}
theorem bin1_same {nm : String} {b : Value} {Q : Value → Shared → Prop} (X : K.In s.heap) (I : PySem.W.InstAt s.heap x ox C od) (hb : PySem.W.Looks (model prog w) s.heap (typeOf b) (.ref C)) (hc : PySem.W.selfFirst K C = true)
    (hs : PySem.W.findIn K (.ref C) (dunder nm) = some (some (.ref f))) (hf : PySem.W.isFn K (.ref f) = true)
    (h : wpAny (model prog w) A (call (.ref f) [.ref x, b]) (PySem.W.CmpBack Q) E s) : wpAny (model prog w) A (binaryOp1 nm (.ref x) b) (fun r s' => ∃ v, r = some v ∧ Q v s') E s := by
  obtain ⟨cd, rest, hcd, hm⟩ := PySem.W.ksp_first hc
  have one := PySem.W.ksp_try X I hs hf h
  unfold binaryOp1
  refine wpAny_bind (I.type.here (wpAny_bind (hb.here (wpAny_bind ((PySem.W.fills_K X hcd hm hs).here ?_)))))
  simp only [beq_self_eq_true, if_true]
  refine wpAny_bind (wpAny_pure ?_)
  simp only [Bool.and_false, Bool.false_eq_true, if_false, Bool.false_and]
  refine wpAny_bind (wpAny_pure ?_)
  simp only [Bool.false_eq_true, if_false]
  refine wpAny_bind (wpAny_mono one (fun r s' z => ?_) fun _ _ e => e)
  obtain ⟨v, rfl, q⟩ := z
  exact wpAny_pure ⟨v, rfl, q⟩
theorem bin1_mix {nm : String} {b : Value} {Q : Value → Shared → Prop} (X : K.In s.heap) (I : PySem.W.InstAt s.heap x ox C od) (hb : PySem.W.Looks (model prog w) s.heap (typeOf b) (.ref D)) (hne : C ≠ D) (hc : PySem.W.selfFirst K C = true)
    (hs : PySem.W.findIn K (.ref C) (dunder nm) = some (some (.ref f))) (hf : PySem.W.isFn K (.ref f) = true) (sil : Silent K D [dunder nm, dunderR nm])
    (h : wpAny (model prog w) A (call (.ref f) [.ref x, b]) (PySem.W.CmpBack Q) E s) : wpAny (model prog w) A (binaryOp1 nm (.ref x) b) (fun r s' => ∃ v, r = some v ∧ Q v s') E s := by
  obtain ⟨cd, rest, hcd, hm⟩ := PySem.W.ksp_first hc
  have one := PySem.W.ksp_try X I hs hf h
  have ne : (Value.ref C == Value.ref D) = false := Bool.eq_false_iff.mpr fun q => hne (by
    have z := beq_iff_eq.mp q
    injection z)
  unfold binaryOp1
  refine wpAny_bind (I.type.here (wpAny_bind (hb.here (wpAny_bind ((PySem.W.fills_K X hcd hm hs).here ?_)))))
  simp only [ne, Bool.false_eq_true, if_false]
  refine wpAny_bind ((silent_fills X sil).here ?_)
  simp only [Bool.and_false, Bool.false_eq_true, if_false, Bool.false_and]
  refine wpAny_bind (wpAny_pure ?_)
  simp only [Bool.false_eq_true, if_false]
  refine wpAny_bind (wpAny_mono one (fun r s' z => ?_) fun _ _ e => e)
  obtain ⟨v, rfl, q⟩ := z
  exact wpAny_pure ⟨v, rfl, q⟩
end
section
variable {X : Cx} {n : Nat}
/-- the classes of x and y, at x op y -/
def BinTwo (K : PySem.W.Frag) (C D : Addr) (op : Operator) : Prop := C = D ∨ (C ≠ D ∧ Silent K D [dunder op.info.2, dunderR op.info.2])
def rBinD (K : PySem.W.Frag) (op : Operator) (inp : Bool) (FF : Addr → Sp → XK → Prop) : R2 := fun x y H Q => ∃ (a C dx : Addr) (fs : List (Str × V)) (b D dy : Addr) (gs : List (Str × V)) (sp : Sp) (E : XK), x = .ref a ∧ y = .ref b ∧ H a = some (.ins C dx fs) ∧ H b = some (.ins D dy gs) ∧
  BinTwo K C D op ∧ (inp = true → Silent K C [dunderI op.info.2]) ∧ FF C sp E ∧ sp [x, y] H Q E
abbrev OpF (X : Cx) (n : Nat) (op : Operator) (FF : Addr → Sp → XK → Prop) : Prop := ∀ C sp E, FF C sp E → ∃ (CX : CXT) (f : Addr) (fd : FuncData) (ps : List Str), FnOk X.prog X.w X.K X.mg X.base CX n f fd ps sp ∧ BinCls X.K C f op ∧ Binds X.K fd ps [] ∧ Passes CX X E
theorem bin_run {op : Operator} {inp : Bool} {FF : Addr → Sp → XK → Prop} (hF : OpF X n op FF) (hr : Room n X.A) {pins : List (Addr × Obj)} {s : Shared} {σ : L2.St} {H : Hp} {x y : V} {v u : Value} {Q : VK} (I : Inv X pins σ H s) (rx : RelV x v) (ry : RelV y u)
    (hq : rBinD X.K op inp FF x y H Q) : ∃ (a C : Addr) (ox : Obj) (od : Option Obj), v = .ref a ∧ PySem.W.InstAt s.heap a ox C od ∧ (inp = true → Silent X.K C [dunderI op.info.2]) ∧ wpAny (model X.prog X.w) X.A (binaryOp1 op.info.2 v u) (fun r s' => ∃ z, r = some z ∧ EP X pins σ Q z s') X.xe s := by
  obtain ⟨a, C, dx, fs, b, D, dy, gs, sp, E, rfl, rfl, ha, hb, two, no, ff, hsp⟩ := hq
  obtain ⟨CX, f, fd, ps, F, ec, bi, hx⟩ := hF C sp E ff
  cases rx
  cases ry
  obtain ⟨mA, J, _⟩ := ins_get I.hok ha
  obtain ⟨mB, J', _⟩ := ins_get I.hok hb
  obtain ⟨od, J, _⟩ := J.look
  obtain ⟨od', J', _⟩ := J'.look
  have go : wpAny (model X.prog X.w) X.A (call (.ref f) [.ref a, .ref b]) (PySem.W.CmpBack (EP X pins σ Q)) X.xe s := by
    refine wpAny_mono (run_own (x := .ref a) (y := .ref b) ⟨hr, rfl⟩ F bi hx I rfl rfl hsp) (fun w s' q => ?_) fun _ _ e => e
    obtain ⟨z, H', I', rz, q⟩ := q
    exact vals_back rz ⟨z, H', I', rz, q⟩
  refine ⟨a, C, _, _, rfl, J, no, ?_⟩
  rcases two with rfl | ⟨ne, sil⟩
  · exact bin1_same I.kIn J J'.type ec.sf ec.at_ ec.fn go
  · exact bin1_mix I.kIn J J'.type ne ec.sf ec.at_ ec.fn sil go
theorem op_binD {op : Operator} {FF : Addr → Sp → XK → Prop} (hF : OpF X n op FF) (hr : Room n X.A) : OpR X (binaryOp op) (rBinD X.K op false FF) := by
  intro pins s σ H x y v u Q I rx ry hq
  obtain ⟨a, C, ox, od, rfl, J, no, go⟩ := bin_run hF hr I rx ry hq
  unfold binaryOp
  refine wpAny_holding (wpAny_bind (wpAny_mono go (fun r s' z => ?_) fun _ _ e => e))
  obtain ⟨v, rfl, q⟩ := z
  exact wpAny_pure q
theorem ip_own {op : Operator} {FF : Addr → Sp → XK → Prop} (hF : OpF X n op FF) (hr : Room n X.A) : PIp X op (rBinD X.K op true FF) := by
  intro pins s σ H x y v u Q I rx ry hq
  obtain ⟨a, C, ox, od, rfl, J, no, go⟩ := bin_run hF hr I rx ry hq
  unfold inplaceOp
  refine wpAny_holding (wpAny_bind (J.type.here (wpAny_bind ((silent_inp I.kIn (no rfl)).here ?_))))
  simp only [Bool.false_eq_true, if_false]
  refine wpAny_bind (wpAny_mono go (fun r s' z => ?_) fun _ _ e => e)
  obtain ⟨v, rfl, q⟩ := z
  exact wpAny_pure q
end
end V3

set_option Elab.async false
set_option linter.all false
set_option maxRecDepth 100000
/-! a method call within a try (a piece of HS: never join the two) -/
namespace V3
open PySem L2 TL
section
variable {X : Cx} {CX : CXT} {k : Nat} {f C : Addr} {fd : FuncData} {ps : List Str} {sp : Sp} {E : L2.St → XK} {m : Str} {pos apos : Pos} {e o : Expr} {es : List Expr} {ta : TE} {t : TA}
/-- o.m(..) within a try -/
def tMethA (C : Addr) (m : Str) (sp : Sp) (E : L2.St → XK) (ta : TE) (t : TA) : TE := fun σ H Q => ta σ H fun x H1 => ∃ a dx fs, x = .ref a ∧ H1 a = some (.ins C dx fs) ∧ fs.lookup m = none ∧
  t σ H1 fun vs H2 => sp (x :: vs) H2 Q (E σ)
theorem pe_methA {pl : Sem Bool} (ho : PE X o ta) (c : Cls X.K C) (me : Meth X.K C m f) (F : FnOk X.prog X.w X.K X.mg X.base CX k f fd ps sp) (room : Room k X.A) (bi : Binds X.K fd ps []) (out : ∀ σ, PassesAt CX X σ (E σ)) (ha : PA X (e :: es) t)
    (st : starEach (e :: es) X.env = (false, eval e X.env) :: starEach es X.env := by rfl) (pl' : (backTo pos (starEach es X.env)).any (·.1) = false := by rfl)
    (ht : eval (.Call (.Attribute o m apos) (e :: es) [] pos) X.env = (do
      let ov ← eval o X.env
      standAt apos.atName
      let (f, first) ← holding [ov] (getMethod ov m pl)
      callWith pos f first (backTo pos (starEach (e :: es) X.env)) (backToKw pos (keywordEach [] X.env))) := by rfl) :
    PE X (.Call (.Attribute o m apos) (e :: es) [] pos) (tMethA C m sp E ta t) := by
  refine ⟨fun pins s σ H Q J h => ?_⟩
  refine PySem.W.methodCall_KW (pl := pl) (thn (ho.run pins s σ H _ J h) fun u s1 ⟨x, H1, I1, rx, a, dx, fs, ex, ea, l, q⟩ => ?_) ht
  subst ex
  obtain rfl : u = Value.ref a := rx
  refine getmeth_ok I1 ea c me l ?_
  refine PySem.W.callWith_K (first := [.ref a]) (h₀ := X.base) J.ok.mod.kin me.kp (thn (ha.run pos pins s1 σ H1 _ I1 q) fun us s2 ⟨vs, H2, I2, r, q2⟩ => ⟨I2.kIn, ?_⟩) st pl'
  exact run_fnS (us := .ref a :: us) (vs := .ref a :: vs) F room bi (out σ) I2 (.cons rfl r) q2
end
end V3

set_option Elab.async false
set_option linter.all false
set_option maxRecDepth 100000
namespace V3
open PySem PySem.Spec PyProof.Rows L2
/-! x[i] by an own subscript, within a try; House's own subscript -/
section
variable {X : Cx} {CX : CXT} {n : Nat} {f C : Addr} {fd : FuncData} {ps : List Str} {sp : Sp} {E : L2.St → XK}
/-- f called at a pair, somewhere below the running body; what it raises goes on -/
theorem run_ownA {A : Around} {pins : List (Addr × Obj)} {s : Shared} {σ : L2.St} {H : Hp} {x y : V} {u v : Value} {Q : VK} (sb : Sub X n A) (F : FnOk X.prog X.w X.K X.mg X.base CX n f fd ps sp) (bi : Binds X.K fd ps []) (out : PassesAt CX X σ (E σ))
    (J : L2.Inv X pins σ H s) (rx : L2.RelV x u) (ry : L2.RelV y v) (h : sp [x, y] H Q (E σ)) : wpAny (model X.prog X.w) A (call (.ref f) [u, v]) (EP X pins σ Q) X.xe s := by
  have e := J.env0
  have e0 : L2.Env0 X.prog X.w X.K X.mg X.base A X.stack s H := ⟨by rw [sb.fr] <;> exact e.frames, e.mod, e.bs, e.bsz, e.funs, e.frf, e.hok, e.bare⟩
  have len := F.len _ _ _ _ h
  have r2 : L2.Vals [x, y] [u, v] := .cons rx (.cons ry .nil)
  have b2 : BindsTo s fd ⟨[u, v], []⟩ (ps.zip [u, v]) := by
    have z := bi s [u, v] J.kIn (by simpa using len)
    simpa using z
  refine wpAny_call (codeAny_mono (F.run A X.stack s H ⟨[u, v], []⟩ [u, v] [x, y] _ (E σ) sb.room e0 b2 r2 h) fun r s' z => ?_)
  cases r with
  | error er => exact out pins H s er s' J z
  | ok fl =>
    cases fl with
    | ret w => exact J.after z
    | next => exact z.elim
    | brk => exact z.elim
    | cont => exact z.elim
/-- x[i] within a try: x of the class at C -/
def tIxA (C : Addr) (sp : Sp) (E : L2.St → XK) (ta tb : TE) : TE := fun σ H Q => ta σ H fun x H1 => tb σ H1 fun y H2 => ∃ (a dx : Addr) (fs : List (Str × V)), x = .ref a ∧ H2 a = some (.ins C dx fs) ∧ sp [x, y] H2 Q (E σ)
theorem pe_ixA {a b : Expr} {ta tb : TE} {pos : Pos} (F : FnOk X.prog X.w X.K X.mg X.base CX n f fd ps sp) (G : GetCls X.K C f) (bi : Binds X.K fd ps []) (out : ∀ σ, PassesAt CX X σ (E σ)) (room : Room (n + 1) X.A) (ha : PE X a ta) (hb : PE X b tb)
    (hsl : ∀ (o : Addr) (u : Value), subscripted b true (.ref o) u = runValue (.builtin "lifetime.subscript" ⟨[.ref o, u], []⟩) := by intro _ _; with_unfolding_all rfl) : PE X (.Subscript a b pos) (tIxA C sp E ta tb) := by
  refine ⟨fun pins s σ H Q J h => ?_⟩
  refine Subscript_ (binT (R := fun x y H2 => ∃ (a dx : Addr) (fs : List (Str × V)), x = .ref a ∧ H2 a = some (.ins C dx fs) ∧ sp [x, y] H2 Q (E σ)) ha hb J h fun v u s2 x y H2 I2 rx ry q => ?_)
  obtain ⟨o, dx, fs, rfl, ho, q⟩ := q
  cases rx
  obtain ⟨mA, O, _⟩ := ins_get I2.hok ho
  obtain ⟨od, O, _⟩ := O.look
  obtain ⟨m, fr⟩ := I2.fr
  refine PySem.W.sub_K fr I2.ok.mod.kin O G.at_ G.fi G.fn ?_ (hsl o _)
  exact run_ownA (x := .ref o) (y := y) (A := X.A.in1) ⟨room.in1, rfl⟩ F bi (out σ) I2 rfl ry q
end
end V3

set_option Elab.async false
set_option linter.all false
set_option maxRecDepth 100000
set_option maxHeartbeats 2000000
/-! several clauses `except x as n`; x op= y by an own method that may raise; a def that keeps two promises -/
namespace V3
open PySem PySem.Spec PyProof.Rows L2
/-- what the clauses wish of what the body raised: each one's slot stands beside its class -/
def wTurns (K : PySem.W.Frag) (W0 : WX) (D : Ends) : List (Value × Nat × (Addr → Value → Option Addr → TS)) → WX
  | [] => W0
  | (c, j, t) :: more => fun cls d σ H => ∃ b, PySem.W.exmOne K cls c = some b ∧
      (b = true → ∀ a, H a = none → t a cls d { nx := fun σ' H' => D.nx (σ'.set j none) H', rt := D.rt, bk := fun σ' H' => D.bk (σ'.set j none) H', ct := fun σ' H' => D.ct (σ'.set j none) H' } (σ.set j (some (.ref a))) H) ∧
      (b = false → wTurns K W0 D more cls d σ H)
/-- the clauses, one after another -/
inductive Turns (X : Cx) : List ExceptHandler → List (Value × Nat × (Addr → Value → Option Addr → TS)) → Prop
  | last : Turns X [] []
  | turn {x n : Str} {c : Value} {j : Nat} {t : Addr → Value → Option Addr → TS} {s0 : Stmt} {ss : List Stmt} {p q : Pos} {more : List ExceptHandler} {l : List (Value × Nat × (Addr → Value → Option Addr → TS))}
      (cn : Names X x c) (sj : X.N[j]? = some n) (lj : X.env.kindOf n = some .local)
      (su : ∀ (a : Addr) (oe : Obj) (cls : Value) (d : Option Addr) (pn : List (Addr × Obj)), Zc cls d oe → (∃ vs, oe.data = .fields vs) → PSs (X.suite a ((a, oe) :: pn)) (s0 :: ss) (t a cls d)) (rest : Turns X more l) :
      Turns X (.ExceptHandler (some (.Name x p)) (some n) (s0 :: ss) q :: more) ((c, j, t) :: l)
section
variable {X : Cx} {pins : List (Addr × Obj)} {D : Ends} {W0 : WX} {hs : List ExceptHandler} {l : List (Value × Nat × (Addr → Value → Option Addr → TS))} {B : Heap} {sI g : Shared} {a : Addr} {σ : L2.St} {H : Hp} {cls : Value} {d : Option Addr}
/-- what flies meets the clauses -/
theorem turns_go (tk : Takes X W0) (st : X.stack = X.env :: X.outer) (hf : X.env.frame = some X.env.locals) (nd : X.N.Nodup) (T : Turns X hs l) (I : Inv X pins σ H sI)
    (nb : ∀ b o, sI.heap.get? b = some o → b ∉ frs X.stack → B.get? b = some o) (up : sI.heap.UpToSlots g.heap) (os : g.os = sI.os) (ag : AllBare g.gens) (na : H a = none)
    (fl : HandSPX.FlyingZ B (X.env :: X.outer) a (Zc cls d) g.heap) (w : wTurns X.K W0 D l cls d σ H) : wpAny (model X.prog X.w) X.A (handleBy (.ref a) X.env hs) (SP X pins D) X.xe g := by
  have away : ∀ {m : Heap} {o : Obj} {vs : Array Value}, m.FunFrames B (X.env :: X.outer) → m.get? a = some o → o.data = .fields vs → a ∉ frs (X.env :: X.outer) := fun {m o vs} ff e q z => by
    obtain ⟨_, o', e', no⟩ := ff.mem z
    cases e'.symm.trans e
    exact no _ q
  have Ig : Inv X pins σ H g := I.landed nb fl.1 up os ag
  obtain ⟨og, vg, eg, zg, dg⟩ := fl.there
  have nfr := away fl.2.2.1 eg dg
  have nL : a ≠ X.env.locals := fun z => nfr (List.mem_filterMap.mpr ⟨X.env, List.mem_cons_self, by rw [hf, z]⟩)
  have nF : a ∉ X.fs := fun z => by
    obtain ⟨e, he, q⟩ := List.mem_filterMap.mp z
    exact nfr (List.mem_filterMap.mpr ⟨e, List.mem_cons_of_mem _ he, q⟩)
  have Sg := Ig.suite eg dg na nL nF
  induction T with
  | last =>
    refine wpAny_handleBy_nil ?_
    obtain ⟨_, _, _, oe, vs, T, oT, ts, he, _, hd, h1, _⟩ := id fl
    unfold PySem.passOn
    refine wpAny_bind (wpAny_field he hd h1 ?_)
    rw [if_neg (show ¬ ((Value.ref T == Value.none) = true) from by simp)]
    have off : wpAny (model X.prog X.w) X.A (setFlight (.ref a) X.env.frame) (fun _ s4 => wpAny (model X.prog X.w) X.A (throw (.ref a) : Sem Flow) (SP X pins D) X.xe s4) X.xe g := by
      rw [hf]
      exact HandSPX.setFlight_upZ fl fun m held um => wpAny_throw (tk _ _ ⟨a, B, sI, pins, σ, H, cls, d, rfl, I, nb, up.trans um, .inr (.inr (by rw [st]; exact held)), na, os, ag, w⟩)
    first
      | exact wpAny_bind (wpAny_pure (wpAny_bind off))
      | exact wpAny_bind off
  | @turn x n c j t s0 ss p q more lm cn sj lj su rest ih =>
    obtain ⟨b, eb, yes, no⟩ := w
    refine wpAny_handleBy_cons (codeAny_handlers_test ?_) (by intro q; cases q)
    have ty : PySem.W.Looks (model X.prog X.w) g.heap (typeOf (.ref a)) cls := fun A Q E s k z => wpAny_typeOf_ref (k _ _ eg) (by rw [zg.1]; exact z)
    have asks := PySem.W.exm_one (M := model X.prog X.w) Ig.kIn ty eb
    have named : ∀ {Q : Value → Shared → Prop} {E : Value → Shared → Prop}, Q c g → wpAny (model X.prog X.w) (X.A.mark (some (.ref a))) (eval (.Name x p) X.env) Q E g := fun {Q E} z => by
      obtain ⟨hg, hdbg, hm | ⟨hm, hv, hnn⟩⟩ := cn
      · exact ld_glob (X := X.suite a ((a, og) :: (X.pn ++ pins))) Sg hg hm z hdbg
      · exact ld_blt (X := X.suite a ((a, og) :: (X.pn ++ pins))) Sg hg hm hv z hnn hdbg
    refine named (asks.here ?_)
    cases b with
    | false => exact ih (no rfl)
    | true =>
      refine codeAny_handlers_suite_as ?_
      refine HandSPX.lands_againZ fl fun m fm um => ?_
      have Im : Inv X pins σ H { g with heap := m } := I.landed nb fm.1 (up.trans um) os ag
      obtain ⟨om, vm, em, zm, dm⟩ := fm.there
      have Sm := Im.suite em dm na nL nF
      refine store_ok (X := X.suite a ((a, om) :: (X.pn ++ pins))) (v := .ref a) Sm nd sj (.inl lj) rfl (fun s5 S5 => ?_) (.inr lj)
      refine wpAny_mono ((su a om cls d (X.pn ++ pins) zm ⟨_, dm⟩).run [] s5 _ H _ S5 (yes rfl a na)) (fun f s6 sp => ?_) (fun _ _ z => False.elim z)
      have gone : ∀ {σ6 : L2.St} {H6 : Hp} {Q : Shared → Prop}, Inv (X.suite a ((a, om) :: (X.pn ++ pins))) [] σ6 H6 s6 → (∀ s7, Inv X pins (σ6.set j none) H6 s7 → Q s7) →
          wpAny (model X.prog X.w) X.A (do bindName X.env n .none; unbindBehindTheSuite X.env n q) (fun _ s7 => Q s7) X.xe s6 := fun {σ6 H6 Q} S6 k => gone_ok (S6.unsuite Ig.ok) nd sj lj k
      cases f with
      | next =>
        obtain ⟨_, _, S6, z⟩ := sp
        exact gone S6 fun s7 J7 => ⟨_, _, J7, z⟩
      | brk =>
        obtain ⟨_, _, S6, z⟩ := sp
        exact gone S6 fun s7 J7 => ⟨_, _, J7, z⟩
      | cont =>
        obtain ⟨_, _, S6, z⟩ := sp
        exact gone S6 fun s7 J7 => ⟨_, _, J7, z⟩
      | ret u =>
        obtain ⟨_, _, _, S6, rv, z⟩ := sp
        exact gone S6 fun s7 J7 => ⟨_, _, _, J7, rv, z⟩
theorem ps_tryTurns {body : List Stmt} {h0 : ExceptHandler} {pos : Pos} {tb : WX → TS} (st : X.stack = X.env :: X.outer) (hf : X.env.frame = some X.env.locals) (nd : X.N.Nodup) (tk : Takes X W0)
    (bo : ∀ (W : WX) (pn : List (Addr × Obj)) (xe : Value → Shared → Prop), Takes (X.tr pn xe) W → PassesOwn (model X.prog X.w) X.A X.env xe → PSs (X.tr pn xe) body (tb W)) (T : Turns X (h0 :: hs) l) :
    PS X (.Try body (h0 :: hs) [] [] pos) (fun D σ H => tb (wTurns X.K W0 D l) D σ H) := by
  refine ⟨fun pins s σ H D I h => ?_⟩
  have ok := I.ok
  refine wpAny_Try_except ?_
  refine wpAny_mono ((bo (wTurns X.K W0 D l) (X.pn ++ pins) (fun e s1 => wpAny (model X.prog X.w) X.A (noteFrame e X.env) (fun _ s2 => wpAny (model X.prog X.w) X.A (setFlight e none) (fun _ s3 =>
    wpAny (model X.prog X.w) X.A (handleBy e X.env (h0 :: hs)) (SP X pins D) X.xe s3) X.xe s2) X.xe s1) (fun u s' air => ?_) PassesOwn.looking).run [] s σ H D (I.toTry _) h) (fun f s1 sp => ?_) (fun e s1 z => z)
  · obtain ⟨a, B, sI, _, σ', H', cls, d, rfl, It, nb, up, sky, na, os, ag, w⟩ := air
    have sk : Sky B (X.env :: X.outer) a (Zc cls d) X.env.locals s'.heap := by rw [← st]; exact sky
    show wpAny (model X.prog X.w) X.A (noteFrame (.ref a) X.env) _ _ _
    exact Sky.land Zc.steady (by rw [ok.frames, st]) hf sk fun m fl um => turns_go (g := { s' with heap := m }) tk st hf nd T (It.ofTry ok) nb (up.trans um) os ag na fl w
  · cases f with
    | next =>
      obtain ⟨_, _, It, z⟩ := sp
      exact wpAny_execs_nil ⟨_, _, It.ofTry ok, z⟩
    | ret u =>
      obtain ⟨_, _, _, It, rv, z⟩ := sp
      exact ⟨_, _, _, It.ofTry ok, rv, z⟩
    | brk =>
      obtain ⟨_, _, It, z⟩ := sp
      exact ⟨_, _, It.ofTry ok, z⟩
    | cont =>
      obtain ⟨_, _, It, z⟩ := sp
      exact ⟨_, _, It.ofTry ok, z⟩
end
/-- the method of x op= y -/
structure InpCls (K : PySem.W.Frag) (C f : Addr) (op : Operator) : Prop where
  sf : PySem.W.selfFirst K C = true
  at_ : PySem.W.findIn K (.ref C) (dunderI op.info.2) = some (some (.ref f))
  fn : PySem.W.isFn K (.ref f) = true
/-- x op= y by an own method: what leaves it is told with the names as they stand -/
def tAugM (C : Addr) (sp : Sp) (E : L2.St → XK) (i : Nat) (te : TE) : TS := fun D σ H => ∃ x, σ[i]? = some (some x) ∧ te σ H fun y H1 => ∃ (a dx : Addr) (fs : List (Str × V)), x = .ref a ∧ H1 a = some (.ins C dx fs) ∧ sp [x, y] H1 (fun z H2 => D.nx (σ.set i (some z)) H2) (E σ)
section
variable {X : Cx} {CX : CXT} {n : Nat} {f C : Addr} {fd : FuncData} {ps : List Str} {sp : Sp} {E : L2.St → XK} {i : Nat} {x : Str} {e : Expr} {te : TE} {op : Operator} {pos pos' : Pos}
theorem ps_augM (nd : X.N.Nodup) (hi : X.N[i]? = some x) (lx : X.env.kindOf x = some .local) (he : PE X e te) (F : FnOk X.prog X.w X.K X.mg X.base CX n f fd ps sp) (ic : InpCls X.K C f op) (bi : Binds X.K fd ps []) (out : ∀ σ, PassesAt CX X σ (E σ)) (room : Room n X.A) :
    PS X (.AugAssign (.Name x pos') op e pos) (tAugM C sp E i te) := by
  refine ⟨fun pins s σ H D I h => ?_⟩
  obtain ⟨v, e1, h⟩ := h
  obtain ⟨m, hn, hl⟩ := I.loc
  obtain ⟨u, r, l⟩ := hl i x v hi e1 (.inl lx)
  refine wpAny_AugAssign_Name ?_
  have go : wpAny (model X.prog X.w) X.A (eval e X.env) (fun w s2 => wpAny (model X.prog X.w) X.A (inplaceOp op u w) (fun r s3 => wpAny (model X.prog X.w) X.A (storeName X.env x r) (fun _ => SP X pins D .next) X.xe s3) X.xe s2) X.xe s := by
    refine thn (he.run pins s σ H _ I h) fun w s1 ⟨y, H1, I1, ry, a, dx, fs, ex, ea, q⟩ => ?_
    subst ex
    cases r
    obtain ⟨mA, J, _⟩ := ins_get I1.hok ea
    obtain ⟨od, J, _⟩ := J.look
    obtain ⟨m1, fr⟩ := I1.fr
    refine PySem.W.ksp_inplace fr I1.ok.mod.kin J ic.sf ic.at_ ic.fn ?_
    refine wpAny_mono (run_ownA (x := .ref a) (y := y) (A := X.A) ⟨room, rfl⟩ F bi (out σ) I1 rfl ry q) (fun z s2 hz => ?_) fun _ _ z => z
    obtain ⟨zv, H2, I2, rz, q2⟩ := hz
    exact vals_back rz (store_ok I2 nd hi (.inl lx) rz (fun s3 I3 => ⟨_, H2, I3, q2⟩) (.inr lx))
  rcases l with ⟨hk, hm⟩ | ⟨hk, c, hc, hcell⟩
  · exact wpAny_loadName_local I.ok.kind hk hn hm go
  · rcases hk with hk | hk
    · exact wpAny_loadName_cell I.ok.kind hk hc hcell go
    · cases lx.symm.trans hk
end
/-- two promises of one def -/
theorem FnOk.both {P : Program} {w : World} {K : PySem.W.Frag} {mg : Str → Option Value} {base : Heap} {CX : CXT} {k : Nat} {f : Addr} {fd : FuncData} {ps : List Str} {sp sq : Sp} (F : FnOk P w K mg base CX k f fd ps sp) (G : FnOk P w K mg base CX k f fd ps sq) :
    FnOk P w K mg base CX k f fd ps (fun vs H Q E => sp vs H Q E ∨ sq vs H Q E) :=
  ⟨fun vs H Q E h => h.elim (F.len vs H Q E) (G.len vs H Q E), fun A outer s H args us vs Q E r e b v h => h.elim (F.run A outer s H args us vs Q E r e b v) (G.run A outer s H args us vs Q E r e b v)⟩
end V3

set_option Elab.async false
set_option linter.all false
set_option maxRecDepth 100000
/-! xs == []; what follows two ways, read once -/
namespace V3
open PySem PySem.Spec PyProof.Rows L2 TL
/-- xs == [] -/
def rEqE : R2 := fun x y H Q => ∃ l b xs, x = .ref l ∧ y = .ref b ∧ H l = some (.lst xs) ∧ H b = some (.lst []) ∧ Q (.bl xs.isEmpty) H
theorem op_eqE {X : Cx} (hu : X.A.units < cLine) : OpR X (compareOp .Eq) rEqE := by
  intro pins s σ H x y v u Q I rx ry h
  obtain ⟨l, b, xs, rfl, rfl, hl, hb, q⟩ := h
  cases rx
  cases ry
  obtain ⟨z, its, k, r, e⟩ := I.hok l _ hl
  obtain ⟨z2, its2, k2, r2, e2⟩ := I.hok b _ hb
  cases r2
  have L1 : s.heap.IsList l its.toArray := ⟨_, e, rfl, k, rfl⟩
  have L2' : s.heap.IsList b ([] : List Value).toArray := ⟨_, e2, rfl, k2, rfl⟩
  refine PySem.W.cmp_ofEq ?_
  cases r with
  | nil =>
    have c := PySem.SeqAt.RcAt.lists (e := fun _ => true) L1 L2' rfl hu (fun j h1 _ => absurd h1 (Nat.not_lt_zero _))
    exact c X.prog X.w X.xe _ ⟨.bl true, H, I, rfl, q⟩
  | @cons x0 u0 xs0 us0 r0 rr =>
    have c := PySem.SeqAt.RcAt.lists_lengths L1 L2' (by simp) hu
    exact c X.prog X.w X.xe _ ⟨.bl false, H, I, rfl, q⟩
section
variable {K : PySem.W.Frag} {σ : L2.St} {ta tb tc : TE} {H0 : Hp}
theorem ev_eqNil {α : Type} {S : α → V → Hp → Prop} {as : List α} (ha : EvV (Same H0) σ ta (isL S as)) : EvV (Same H0) σ (tOp rEqE ta (tLst tNil)) (isBv as.isEmpty) := fun H Q w k =>
  ha H _ w fun v H1 s1 w1 r => by
    obtain ⟨D, us, rfl, hD, l⟩ := r
    refine ⟨(by show 0 ≤ sizeLine; decide), fun p np => ?_⟩
    have s2 : Same H1 (upd H1 p (.lst [])) := Same.new np
    refine ⟨D, p, us, rfl, rfl, s2 _ _ hD, upd_same, k _ _ (s1.trans s2) (w1.trans s2) ?_⟩
    show V.bl us.isEmpty = V.bl as.isEmpty
    congr 1
    have e := l.1
    cases us <;> cases as <;> first | rfl | (simp at e)
theorem ev_toW {R R' : V → Hp → Prop} (h : EvV (Same H0) σ ta R) (e : ∀ v H, Same H0 H → R v H → R' v H) : EvV (Same H0) σ ta R' := fun H Q w k => h H Q w fun v H' s w' r => k v H' s w' (e v H' w' r)
theorem tif_cut {t : TT} {H : Hp} {Q : VK} (M : V → Hp → Prop) (tail : ∀ v H', M v H' → Q v H') (main : ∀ Q' : VK, (∀ v H', M v H' → Q' v H') → tIf t ta tb σ H Q') : tIf t ta tb σ H Q := main Q tail
theorem cut_here {t : TS} {D : Ends} {H : Hp} (M : L2.St → Hp → Prop) (tail : ∀ σ' H', M σ' H' → D.nx σ' H') (main : ∀ X : L2.St → Hp → Prop, (∀ σ' H', M σ' H' → X σ' H') → t { D with nx := X } σ H) : t D σ H := main D.nx tail
end
end V3

set_option Elab.async false
set_option linter.all false
set_option maxRecDepth 100000
/-! houses made of any values -/
namespace V3
open PySem PySem.Spec PyProof.Rows L2 TL
abbrev sIhInit : Stmt := inClass (top 7) 0
abbrev sIpInit : Stmt := inClass (top 8) 0
/-- an error with a word -/
structure ErW (P : Program) (w : World) (K : PySem.W.Frag) (mg : Str → Option Value) (base : Heap) (name : Str) (C : Addr) : Prop where
  g : mg name = some (.ref C)
  o : OexC K C
  no : PySem.W.findIn K (.ref C) "word" = some none
  ini : ∃ (f : Addr) (fd : FuncData), FnOk P w K mg base CX0 1 f fd ["self", "word"] (spIM C) ∧ PySem.W.findIn K (.ref C) "__init__" = some (some (.ref f)) ∧ PySem.W.typeIn K (.ref f) = some (.type "function") ∧ Binds K fd ["self", "word"] []
theorem Er.up {C : Addr} {H H1 : Hp} {E : XK} {z : Str} (h : Er C H E z) (s : Same H H1) : Er C H1 E z := fun d H' s' e => h d H' (s.trans s') e
def isDep (d : PyData) : Bool := match fOf d with
  | some (.int i) => decide (0 ≤ i) && decide (i < 5)
  | _ => false
/-- what is wrong with a house -/
def wrongHs (dd cd : PyData) (rb : Bool) : Option Str := if isDep dd then (if amV (wordsV checkL) cd then (if rb then none else some "rows") else some "check") else some "depth"
theorem Sm.av {n : Nat} {d : PyData} {N : Addr → Prop} {H : Hp} {v : V} (h : Sm n d) (a : Ad N H v d) : AV H v := by
  cases e : fOf d with
  | none =>
    obtain ⟨p, xs, rfl, _, z | z⟩ := a.deep e
    · exact .lst z
    · exact .tup z
  | some x =>
    rw [of_f e] at a
    have ev := a.flat
    subst ev
    cases h with
    | @flat n y hy =>
      rw [f_of] at e
      cases e
      have small : ∀ x ∈ flats, (match x with
        | .int i => decide (i.natAbs ≤ 10000000000000000000000000000000000000000)
        | _ => true) = true := by decide +kernel
      have z := small x hy
      cases x with
      | non => exact .non
      | bl b => exact .bl b
      | int i => exact .int i (of_decide_eq_true z)
      | str y => exact .str y
    | lst => cases e
    | tup => cases e
def spIsRowsA (mv cs : List Addr) : Sp := fun vs H Q _ => ∃ v, vs = [v] ∧ AW cs H v ∧ ∀ H', Same H H' → Q (.bl (okV mv H v)) H'
def spHouseD (mv cs : List Addr) (C CH : Addr) : Sp := fun vs H Q E => ∃ (x dx : Addr) (d ch r : V) (dd cd : PyData), vs = [.ref x, d, ch, r] ∧ H x = some (.ins C dx []) ∧ Ad NT H d dd ∧ Sm 3 dd ∧ Ad NT H ch cd ∧ AW cs H r ∧
  (wrongHs dd cd (okV mv H r) = none → ∀ H', SameX x H H' → Q .non H') ∧ ∀ z, wrongHs dd cd (okV mv H r) = some z → Er CH H E z
section
variable {P : Program} {w : World} {K : PySem.W.Frag} {mg : Str → Option Value} {base : Heap}
theorem ok_mostly {f : Addr} {fd : FuncData} (F : Fun K "_law_mostly" "_law_mostly" sMostly f fd) (cC : CalChoose P w K mg base) (cO : CalOneOf P w K mg base) (cA : Cal P w K mg base CX0 "_law_any" 6 ["_law_box", "_law_deep"] (spAnyV 3)) : FnOk P w K mg base CX0 7 f fd ["_law_box", "_law_some"] spMostly := by
  obtain ⟨fC, fdC, GC, mC, kC, bC⟩ := cC
  obtain ⟨fO, fdO, GO, mO, kO, bO⟩ := cO
  obtain ⟨fA, fdA, GA, mA, kA, bA⟩ := cA
  refine F.ok scMostly (fun vs H Q E h => ?_) (fun cdv A outer s H vs Q E hr h => ?_)
  · obtain ⟨b, l, u, v, L, rfl, _⟩ := h
    rfl
  · obtain ⟨b, l, u, v, L, rfl, hb, ok, ne, hl, l1, l2, fl, k⟩ := h
    refine ⟨_, (pss_one (ps_ret (pe_ifExp (pt_cmpR op_eq (pe_call GC (hr.mono (by decide)) rfl mC kC bC .nil pass0 (pa_cons (pv 0) (pa_cons pe_int pa_nil))) pe_int (nomark _)) (pe_call GA hr rfl mA kA bA .nil pass0 (pa_cons (pv 0) (pa_cons pe_int pa_nil))) (pe_call GO (hr.mono (by decide)) rfl mO kO bO .nil pass0 (pa_cons (pv 0) (pa_cons (pv 1) pa_nil)))))), ?_⟩
    refine ⟨_, rfl, b, u, v, 4, rfl, hb, ok, (by decide), (by decide), fun d u1 v1 d0 d5 ok1 => ?_⟩
    have S1 : Pre b H (upd H b (box u1 v1)) := Pre.box ok1
    have hb1 : upd H b (box u1 v1) b = some (box u1 v1) := upd_same
    have hl1 : upd H b (box u1 v1) l = some (.lst (L.map Fv.v)) := by rw [upd_ne ne]; exact hl
    generalize upd H b (box u1 v1) = H1 at S1 hb1 hl1
    refine ⟨rfl, _, rfl, ite2 (fun c => ?_) (fun c => ?_)⟩
    · refine ⟨_, rfl, b, u1, v1, rfl, hb1, ok1, fun y dy H' S2 ay sy => k y dy H' (S1.trans S2) (Ad.mv (fun a na => S1.none hb na) (fun a o _ e _ => e) dy y ay) sy⟩
    · refine ⟨_, rfl, _, rfl, b, l, u1, v1, _, rfl, hb1, ok1, ne, SqL.of hl1, (by rw [List.length_map]; exact l1), (by rw [List.length_map]; exact l2), fun x u' v' hx ok' => ?_⟩
      obtain ⟨fx, hf, ex⟩ := List.mem_map.mp hx
      subst ex
      exact k _ _ _ (S1.trans (Pre.box ok')) (Ad.of _ _ fx) (.flat (fl fx hf))
theorem scIhInit : FnScope ["self", "word"] ["self", "word"] (defScope sIhInit) := ⟨rfl, rfl, rfl, by decide +kernel, rfl, by decide +kernel, by decide +kernel⟩
theorem scIpInit : FnScope ["self", "word"] ["self", "word"] (defScope sIpInit) := ⟨rfl, rfl, rfl, by decide +kernel, rfl, by decide +kernel, by decide +kernel⟩
theorem ok_ihInit {f C : Addr} {fd : FuncData} (F : Fun K "__init__" "InvalidHouse.__init__" sIhInit f fd) (o : OexC K C) (no : PySem.W.findIn K (.ref C) "word" = some none) : FnOk P w K mg base CX0 1 f fd ["self", "word"] (spIM C) := by
  refine F.ok scIhInit (fun vs H Q E h => ?_) (fun cdv A outer s H vs Q E hr h => ?_)
  · obtain ⟨a, y, rfl, _⟩ := h
    rfl
  · obtain ⟨a, y, rfl, ha, q⟩ := h
    refine ⟨_, pss_one (ps_ost (pv 0) (pv 1)), ?_⟩
    exact ⟨_, rfl, _, rfl, a, C, rfl, o, no, .inl ⟨ha, fun dx h1 h2 => q dx h1 h2⟩⟩
theorem ok_ipInit {f C : Addr} {fd : FuncData} (F : Fun K "__init__" "InvalidReport.__init__" sIpInit f fd) (o : OexC K C) (no : PySem.W.findIn K (.ref C) "word" = some none) : FnOk P w K mg base CX0 1 f fd ["self", "word"] (spIM C) := by
  refine F.ok scIpInit (fun vs H Q E h => ?_) (fun cdv A outer s H vs Q E hr h => ?_)
  · obtain ⟨a, y, rfl, _⟩ := h
    rfl
  · obtain ⟨a, y, rfl, ha, q⟩ := h
    refine ⟨_, pss_one (ps_ost (pv 0) (pv 1)), ?_⟩
    exact ⟨_, rfl, _, rfl, a, C, rfl, o, no, .inl ⟨ha, fun dx h1 h2 => q dx h1 h2⟩⟩
theorem ok_isRowsA {f MV : Addr} {mv cs : List Addr} {fd : FuncData} (F : Fun K "is_rows" "is_rows" sIsRows f fd) (T : BltD mg) (C : ClsF K mv cs MV) (gM : mg "Let" = some (.ref MV)) : FnOk P w K mg base CX0 1 f fd ["value"] (spIsRowsA mv cs) := by
  refine F.ok scIsRows (fun vs H Q E h => ?_) (fun cdv A outer s H vs Q E hr h => ?_)
  · obtain ⟨v, rfl, _⟩ := h
    rfl
  · obtain ⟨v, rfl, aw, k⟩ := h
    by_cases isT : ∃ a xs, v = .ref a ∧ H a = some (.tup xs)
    · obtain ⟨a, xs, rfl, ha⟩ := isT
      have ei : itemsOf H (.ref a) = some xs := by
        show seqOf (H a) = _
        rw [ha]
        rfl
      obtain ⟨l100, kz⟩ := aw.2 xs ei
      refine ⟨_, pss_one (ps_ret (pe_and (pe_callB call_isiT (by rfl) T.isi (by decide +kernel) (pa_cons (pv 0) (pa_cons (pe_tup (pa_cons (pe_bltn (v := .ty "list") (by rfl) T.list (by decide +kernel) rfl) (pa_cons (pe_bltn (v := .ty "tuple") (by rfl) T.tuple (by decide +kernel) rfl) pa_nil))) pa_nil)))
        (pe_one (pe_callB (cr_all rfl) (by rfl) T.all (by decide +kernel) (pa_cons (pe_lc (own := [("item", 1)]) (g := gName 1) (tt := tYes) (te := tCB (rIsi K) (tCons (tVar 1) (tCons (tC (.ref MV)) tNil))) (by rfl) scIsRows.nd (pi_tup (pv 0)) (blkOk_by (own := [("item", 1)]) (N := ["value", "item"]) (sc := defScope sIsRows) (by decide +kernel)) (fun _ _ _ _ _ => pg_name (i := 1) scIsRows.nd rfl (Or.inl rfl)) (fun _ _ _ _ _ => pts_nil)
          (fun _ _ _ _ _ => pe_callB call_isi (by rfl) T.isi (by decide +kernel) (pa_cons (pv 1) (pa_cons (pe_glob (v := .ref MV) rfl gM rfl) pa_nil)))) pa_nil))))), ?_⟩
      refine ⟨_, rfl, (by show 2 ≤ sizeLine; decide), fun tp ntp => ?_⟩
      have s1 : Same H (upd H tp (.tup [.ty "list", .ty "tuple"])) := Same.new ntp
      have aw1 := aw.same s1
      have k1 : ∀ H', Same (upd H tp (.tup [.ty "list", .ty "tuple"])) H' → Q (.bl (xs.all (isMv mv (upd H tp (.tup [.ty "list", .ty "tuple"]))))) H' := fun H' s2 => by
        rw [all_congr fun z hz => isMv_same (kz z hz) s1]
        have q := k H' (s1.trans s2)
        unfold okV at q
        rw [ei] at q
        exact q
      have kz1 : ∀ z ∈ xs, TK cs (upd H tp (.tup [.ty "list", .ty "tuple"])) z := fun z hz => (kz z hz).same s1
      obtain ⟨t, ty, ka, km⟩ := tk_ty (K := K) C aw1.1
      rw [items_same aw.1 s1, ei] at ka
      refine ⟨_, tp, _, t, _, _, rfl, upd_same, .cons (.ty "list") (.cons (.ty "tuple") .nil), ty, ka, _, rfl, iteT ?_⟩
      refine ⟨_, rfl, a, rfl, ⟨xs, SqT.of (s1 _ _ ha)⟩, fun D nD => ?_⟩
      refine lc_tup (K := K) (a := a) (xs := xs) (fun i Hh => Told mv cs (upd H tp (.tup [.ty "list", .ty "tuple"])) xs D i Hh) ⟨Same.new nD, nD, upd_same⟩ (fun i Hh _ p => SqT.of (p.1 _ _ (s1 _ _ ha))) ?_ ?_
      · intro i z Hh hi p
        refine ⟨rfl, ?_⟩
        unfold tYes
        dsimp only
        exact iteT (told_turn C kz1 l100 hi p rfl)
      · intro Hh p
        exact told_end p k1
    · refine ⟨_, pss_one (ps_ret (pe_and (pe_callB call_isiT (by rfl) T.isi (by decide +kernel) (pa_cons (pv 0) (pa_cons (pe_tup (pa_cons (pe_bltn (v := .ty "list") (by rfl) T.list (by decide +kernel) rfl) (pa_cons (pe_bltn (v := .ty "tuple") (by rfl) T.tuple (by decide +kernel) rfl) pa_nil))) pa_nil)))
        (pe_one (pe_callB (cr_all rfl) (by rfl) T.all (by decide +kernel) (pa_cons (pe_lc (own := [("item", 1)]) (g := gName 1) (tt := tYes) (te := tCB (rIsi K) (tCons (tVar 1) (tCons (tC (.ref MV)) tNil))) (by rfl) scIsRows.nd (pi_list (pv 0)) (blkOk_by (own := [("item", 1)]) (N := ["value", "item"]) (sc := defScope sIsRows) (by decide +kernel)) (fun _ _ _ _ _ => pg_name (i := 1) scIsRows.nd rfl (Or.inl rfl)) (fun _ _ _ _ _ => pts_nil)
          (fun _ _ _ _ _ => pe_callB call_isi (by rfl) T.isi (by decide +kernel) (pa_cons (pv 1) (pa_cons (pe_glob (v := .ref MV) rfl gM rfl) pa_nil)))) pa_nil))))), ?_⟩
      refine ⟨_, rfl, (by show 2 ≤ sizeLine; decide), fun tp ntp => ?_⟩
      have s1 : Same H (upd H tp (.tup [.ty "list", .ty "tuple"])) := Same.new ntp
      have aw1 := aw.same s1
      obtain ⟨t, ty, ka, km⟩ := tk_ty (K := K) C aw1.1
      rw [items_same aw.1 s1] at ka
      refine ⟨_, tp, _, t, _, _, rfl, upd_same, .cons (.ty "list") (.cons (.ty "tuple") .nil), ty, ka, _, rfl, ?_⟩
      cases ei : itemsOf H v with
      | none =>
        refine iteF ?_
        have q := k _ s1
        unfold okV at q
        rw [ei] at q
        exact q
      | some xs =>
        refine iteT ?_
        obtain ⟨l100, kz⟩ := aw.2 xs ei
        obtain ⟨a, rfl, ha⟩ : ∃ a, v = .ref a ∧ H a = some (.lst xs) := by
          by_cases n : ∃ a, v = .ref a
          · obtain ⟨a, rfl⟩ := n
            obtain ⟨o, eo, c⟩ := aw.1.at
            have q : seqOf (H a) = some xs := ei
            rw [eo] at q
            rcases c with ⟨ys, rfl⟩ | ⟨ys, rfl⟩ | ⟨_, _, _, rfl, _⟩
            · injection q with q
              subst q
              exact ⟨a, rfl, eo⟩
            · exact absurd ⟨a, ys, rfl, eo⟩ isT
            · cases q
          · rw [items_none (fun a z => n ⟨a, z⟩)] at ei
            cases ei
        have k1 : ∀ H', Same (upd H tp (.tup [.ty "list", .ty "tuple"])) H' → Q (.bl (xs.all (isMv mv (upd H tp (.tup [.ty "list", .ty "tuple"]))))) H' := fun H' s2 => by
          rw [all_congr fun z hz => isMv_same (kz z hz) s1]
          have q := k H' (s1.trans s2)
          unfold okV at q
          rw [ei] at q
          exact q
        have kz1 : ∀ z ∈ xs, TK cs (upd H tp (.tup [.ty "list", .ty "tuple"])) z := fun z hz => (kz z hz).same s1
        refine ⟨_, rfl, a, rfl, ⟨xs, SqL.of (s1 _ _ ha)⟩, fun D nD => ?_⟩
        refine lc_list (K := K) (a := a) (xs := xs) (fun i Hh => Told mv cs (upd H tp (.tup [.ty "list", .ty "tuple"])) xs D i Hh) ⟨Same.new nD, nD, upd_same⟩ (fun i Hh _ p => SqL.of (p.1 _ _ (s1 _ _ ha))) ?_ ?_
        · intro i z Hh hi p
          refine ⟨rfl, ?_⟩
          unfold tYes
          dsimp only
          exact iteT (told_turn C kz1 l100 hi p rfl)
        · intro Hh p
          exact told_end p k1
end
end V3

set_option Elab.async false
set_option linter.all false
set_option maxRecDepth 100000
namespace V3
open PySem PySem.Spec PyProof.Rows L2 TL
section
variable {P : Program} {w : World} {K : PySem.W.Frag} {mg : Str → Option Value} {base : Heap}
theorem ok_hsInitD {f CA DA C CH : Addr} {mv cs : List Addr} {fd : FuncData} {dvs : List V} (F : FunD K "__init__" "House.__init__" (defArgs sHsInit) (defBody sHsInit) (defScope sHsInit) dvs [] f fd) (T : BltK mg) (X : HsT K mg CA DA) (L : HsC K C) (M : ErW P w K mg base "InvalidHouse" CH)
    (cN : Cal P w K mg base CX0 "is_number" 2 ["value"] spNum) (cR : Cal P w K mg base CX0 "is_rows" 1 ["value"] (spIsRowsA mv cs)) : FnOk P w K mg base (L2.CX P w) 4 f fd ["self", "depth", "check", "rows"] (spHouseD mv cs C CH) := by
  obtain ⟨fN, fdN, GN, mN, kN, bN⟩ := cN
  obtain ⟨fR, fdR, GR, mR, kR, bR⟩ := cR
  obtain ⟨fI, fdI, GI, iI, tI, bI⟩ := M.ini
  refine F.ok scHsInit (fun vs H Q E h => ?_) (fun cdv A outer s H vs Q E hr h => ?_)
  · obtain ⟨x, dx, d, ch, r, dd, cd, rfl, _⟩ := h
    rfl
  · obtain ⟨x, dx, d, ch, r, dd, cd, rfl, hx, ad, sm, ac, aw, q1, q2⟩ := h
    have hr1 : Room 1 _ := hr.mono (by decide)
    have hr2 : Room 2 _ := hr.mono (by decide)
    refine ⟨_, pss_cons (ps_if (pt_not (PW.pt (pw_and (pt_val (pe_call GN hr2 rfl mN kN bN .nil pass0 (pa_cons (pv 1) pa_nil))) (pw_and1 (pt_cmpR op_lt (pv 1) (pe_callB call_len_seq (by rfl) T.len PySem.boot_len (pa_cons (pe_glob (v := .ref DA) rfl X.depths rfl) pa_nil)) (nomark _)))))) (pss_one (ps_raise rfl (takes_of rfl rfl rfl rfl) (pmk_oex M.o iI tI GI hr2 bI .nil pass0 rfl M.g (by exact (pa_cons pe_str pa_nil))))) pss_nil)
      (pss_cons (ps_if (pt_cmpR (op_ninA hr1) (pv 2) (pe_glob (v := .ref CA) rfl X.checks rfl) rfl) (pss_one (ps_raise rfl (takes_of rfl rfl rfl rfl) (pmk_oex M.o iI tI GI hr2 bI .nil pass0 rfl M.g (by exact (pa_cons pe_str pa_nil))))) pss_nil)
      (pss_cons (ps_if (pt_not (pt_val (pe_call GR (hr.mono (by decide)) rfl mR kR bR .nil pass0 (pa_cons (pv 3) pa_nil)))) (pss_one (ps_raise rfl (takes_of rfl rfl rfl rfl) (pmk_oex M.o iI tI GI hr2 bI .nil pass0 rfl M.g (by exact (pa_cons pe_str pa_nil))))) pss_nil)
      (pss_cons (ps_fld (pv 0) (pv 1) rfl)
      (pss_cons (ps_fld (pv 0) (pv 2) rfl)
      (pss_one (ps_fld (pv 0) (pe_callTy call_tuple_of (by rfl) T.tuple (by decide +kernel) (pa_cons (pv 3) pa_nil)) rfl)))))), ?_⟩
    have dep : isDep dd = (isNum d 0 && (match d with
      | .int i => decide (i < 5)
      | _ => false)) := by
      cases e : fOf dd with
      | none =>
        obtain ⟨p, xs, rfl, _, _⟩ := ad.deep e
        unfold isDep
        rw [e]
        rfl
      | some y =>
        have ad2 := ad
        rw [of_f e] at ad2
        have ed := ad2.flat
        subst ed
        unfold isDep
        rw [e]
        cases y <;> rfl
    have bad : isDep dd = false → Er CH H E "depth" := fun e => q2 "depth" (by unfold wrongHs; rw [e]; rfl)
    refine ⟨_, rfl, d, rfl, sm.av ad, _, rfl, ?_⟩
    cases en : isNum d 0 with
    | false =>
      rw [en] at dep
      exact iteF (iteT ⟨(by show 1 ≤ 1000; decide), er_read (bad dep)⟩)
    | true =>
      obtain ⟨i, rfl, i0⟩ := num_of en
      rw [en, Bool.true_and] at dep
      refine iteT ⟨_, rfl, DA, _, rfl, .inr (X.tD _), _, _, rfl, rfl, _, rfl, ?_⟩
      have e5 : ((depthL.map V.str).length : Int) = 5 := rfl
      rw [e5]
      have dep : isDep dd = decide (i < 5) := dep
      by_cases i5 : i < 5
      case neg =>
        rw [decide_eq_false i5] at dep ⊢
        exact iteT ⟨(by show 1 ≤ 1000; decide), er_read (bad dep)⟩
      rw [decide_eq_true i5] at dep ⊢
      refine iteF ⟨_, rfl, CA, checkL, NT, cd, rfl, .inr (X.tC _), ac, _, rfl, ?_⟩
      unfold wrongHs at q1 q2
      rw [dep, if_pos rfl] at q1 q2
      cases ec : amV (wordsV checkL) cd with
      | false =>
        rw [ec] at q2
        exact iteT ⟨(by show 1 ≤ 1000; decide), er_read (q2 "check" rfl)⟩
      | true =>
        rw [ec, if_pos rfl] at q1 q2
        refine iteF ⟨_, rfl, r, rfl, aw, fun H1 s1 => ⟨_, rfl, ?_⟩⟩
        cases er : okV mv H r with
        | false =>
          rw [er] at q2
          exact iteT ⟨(by show 1 ≤ 1000; decide), er_read ((q2 "rows" rfl).up s1)⟩
        | true =>
          rw [er] at q1
          obtain ⟨a, xs, rfl, ei, hseq⟩ := seq_of_ok aw er
          have hx1 := s1 _ _ hx
          refine iteF ⟨_, rfl, _, rfl, x, C, dx, _, rfl, hx1, L.cl, L.d, (by show 0 < 1000; decide), ?_⟩
          refine ⟨_, rfl, _, rfl, x, C, dx, _, rfl, upd_same, L.cl, L.ch, (by show 1 < 1000; decide), ?_⟩
          rw [upd_upd]
          have nax : a ≠ x := fun z => by
            rw [z, hx] at hseq
            rcases hseq with h | h <;> cases h
          refine ⟨_, rfl, a, xs, rfl, ?_⟩
          rcases hseq with hl | ht
          · refine .inl ⟨SqL.of (by rw [upd_ne nax]; exact s1 _ _ hl), fun t nt => ?_⟩
            have ntx : x ≠ t := ne_of_none upd_same nt
            refine ⟨_, rfl, x, C, dx, _, rfl, (by rw [upd_ne ntx]; exact upd_same), L.cl, L.rs, (lt_put (n := 999) (lt_put (n := 998) (by show 0 < 998; decide))), ?_⟩
            refine q1 rfl _ fun c o nc h => ?_
            have nt1 : H1 t = none := by
              rw [upd_ne (Ne.symm ntx)] at nt
              exact nt
            rw [upd_ne nc, upd_ne (ne_of_none (s1 _ _ h) nt1), upd_ne nc]
            exact s1 _ _ h
          · refine .inr ⟨SqT.of (by rw [upd_ne nax]; exact s1 _ _ ht), ?_⟩
            refine ⟨_, rfl, x, C, dx, _, rfl, upd_same, L.cl, L.rs, (lt_put (n := 999) (lt_put (n := 998) (by show 0 < 998; decide))), ?_⟩
            refine q1 rfl _ fun c o nc h => ?_
            rw [upd_ne nc, upd_ne nc]
            exact s1 _ _ h
end
end V3

set_option Elab.async false
set_option linter.all false
set_option maxRecDepth 100000
/-! reports made of what are no rows, or rows of one kind twice -/
namespace V3
open PySem PySem.Spec PyProof.Rows L2 TL
section
variable {K : PySem.W.Frag} {σ : L2.St} {ta te : TE} {H0 : Hp} {α : Type} {S : α → V → Hp → Prop} {as : List α}
/-- a set of texts, the last one twice: fewer than there are things -/
theorem ev_scD {P : Program} {w0 : World} {wi : TI} {i : Nat} (f : α → Str) (dup : ∀ a, as[as.length - 1]? = some a → ∃ b ∈ as.take (as.length - 1), f a = f b) (n0 : 1 ≤ as.length) (n : as.length ≤ 100) (hi : EvI H0 σ wi as S)
    (hb : ∀ a ∈ as, ∀ x H, Same H0 H → S a x H → EvV (Same H) ((wipe σ [i]).set i (some x)) te (isSv (f a))) (hw : ∀ x : V, wipe ((wipe σ [i]).set i (some x)) [i] = wipe σ [i]) :
    EvV (Same H0) σ (tScK P w0 wi (gName i) tYes te [i]) (fun v H => ∃ D T m, v = .ref D ∧ H D = some (SetK P w0 D T m) ∧ m < as.length) := fun H Q w k => by
  refine hi H _ w fun J H1 s1 ⟨G, Y, wk, hG, hY⟩ D nD => ?_
  refine ⟨fun j m Hh => m + j = as.length ∧ Same H1 Hh ∧ ∃ c, Hh D = some (SetK P w0 D (fun z => (as.take j).any fun a => decide (z = .inr (f a))) c) ∧ c ≤ j ∧ (j = as.length → c < j), ⟨as.length, rfl, Same.new nD, 0, upd_same, Nat.le_refl _, fun e => by omega⟩, ?_⟩
  rintro j m Hh ⟨e, s2, c0, hD, cj, cl⟩
  cases m with
  | zero =>
    have e : j = as.length := by omega
    subst e
    exact .inl ⟨wk.stops Hh (hG _ s2), k _ _ (s1.trans s2) (w.trans (s1.trans s2)) ⟨D, _, c0, rfl, hD, cl rfl⟩⟩
  | succ m =>
    refine .inr ⟨wk.goes j Hh (by omega) (hG _ s2), fun Hh => Same H1 Hh ∧ ∃ c, Hh D = some (SetK P w0 D (fun z => (as.take (j + 1)).any fun a => decide (z = .inr (f a))) c) ∧ c ≤ j + 1 ∧ (j + 1 = as.length → c < j + 1), fun H' z => ⟨m, Nat.lt_succ_self m, by omega, z⟩, fun x H' y => ?_⟩
    obtain ⟨s3, a, ea, rx⟩ := hY j Hh x H' (by omega) s2 (wk.yields j Hh x H' (by omega) (hG _ s2) y)
    have tk : as.take (j + 1) = as.take j ++ [a] := by
      rw [List.take_succ, ea]
      rfl
    have S3 := s2.trans s3
    refine ⟨hw x, ?_⟩
    unfold tYes
    dsimp only
    rw [if_pos rfl]
    refine hb a (List.mem_of_getElem? ea) x H' (s1.trans S3 |> fun z => w.trans z) rx H' _ (Same.refl _) fun v H4 s4 _ ev => ?_
    cases ev
    have hD4 := s4 _ _ (s3 _ _ hD)
    refine ⟨.inr (f a), _, _, rfl, hD4, Nat.lt_of_le_of_lt (m := 101) (by omega) (by decide), fun c o e => ?_, ?_⟩
    · rw [upd_ne (ne_of_none e nD)]
      exact (S3.trans s4) c o e
    · rw [upd_same]
      have fn : (fun z => (((as.take j).any fun b => decide (z = (Sum.inr (f b) : Key))) || decide (z = .inr (f a)))) = fun z => (as.take (j + 1)).any fun b => decide (z = (Sum.inr (f b) : Key)) := funext fun z => by
        rw [tk, List.any_append]
        simp
      rw [fn]
      cases q : ((as.take j).any fun b => decide ((Sum.inr (f a) : Key) = .inr (f b))) with
      | true => exact ⟨c0, rfl, by omega, fun z => by omega⟩
      | false =>
        refine ⟨c0 + 1, rfl, by omega, fun z => ?_⟩
        have ej : as.length - 1 = j := by omega
        rw [ej] at dup
        obtain ⟨b, hb2, eb⟩ := dup a ea
        rw [List.any_eq_false] at q
        exact absurd (decide_eq_true (congrArg Sum.inr eb)) (q b hb2)
end
/-- no rows of a report -/
def NoCts (mv cs : List Addr) (v : V) (H : Hp) : Prop := TK cs H v ∧ (itemsOf H v = none ∨ ∃ q xs, v = .ref q ∧ H q = some (.lst xs) ∧ xs.length ≤ 100 ∧ (∀ z ∈ xs, TK cs H z) ∧ xs.all (isMv mv H) = false)
def DupCts (c : Rc) (v : V) (H : Hp) : Prop := ∃ q us rs m, v = .ref q ∧ H q = some (.lst us) ∧ RwLs c H us (rs ++ [m, m]) ∧ rs.length ≤ 10 ∧ ∀ x ∈ rs ++ [m, m], x.kind = 1
def OkCts (K : PySem.W.Frag) (c : Rc) (v : V) (H : Hp) : Prop := ∃ q us rs, v = .ref q ∧ SqW K H q us ∧ RwLs c H us rs ∧ RpOk rs
def spIsCountsB (c : Rc) (mv cs : List Addr) : Sp := fun vs H Q _ => ∃ v, vs = [v] ∧ (NoCts mv cs v H ∨ DupCts c v H) ∧ ∀ H', Same H H' → Q (.bl false) H'
/-- what no report is made of, or what one is made of -/
abbrev spIsCountsA (K : PySem.W.Frag) (c : Rc) (mv cs : List Addr) : Sp := fun vs H Q E => spIsCountsB c mv cs vs H Q E ∨ spIsCounts K c vs H Q E
section
variable {P : Program} {w : World} {K : PySem.W.Frag} {mg : Str → Option Value} {base : Heap}
theorem ok_isCountsB {f : Addr} {c : Rc} {mv cs : List Addr} {fd : FuncData} (F : Fun K "is_counts" "is_counts" sIsCounts f fd) (T : BltRp mg) (C : CntI K c) (L : CntC K c) (D : ClsF K mv cs c.C) (gC : mg "Count" = some (.ref c.C)) : FnOk P w K mg base CX0 1 f fd ["value"] (spIsCountsB c mv cs) := by
  refine F.ok scIsCounts (fun vs H Q E h => ?_) (fun cdv A outer s H vs Q E hr h => ?_)
  · obtain ⟨v, rfl, _⟩ := h
    rfl
  · obtain ⟨v, rfl, h, k⟩ := h
    refine ⟨_, (pss_cons (ps_if (pt_not (PW.pt (pw_and (pt_val (pe_callB call_isiT (by rfl) T.isi (by decide +kernel) (pa_cons (pv 0) (pa_cons (pe_tup (pa_cons (pe_bltn (v := .ty "list") (by rfl) T.list (by decide +kernel) rfl) (pa_cons (pe_bltn (v := .ty "tuple") (by rfl) T.tuple (by decide +kernel) rfl) pa_nil))) pa_nil)))) (pw_and1 (pt_val (pe_callB (cr_all rfl) (by rfl) T.all (by decide +kernel) (pa_cons (pe_lc (own := [("item", 1)]) (g := gName 1) (tt := tYes) (te := tCB (rIsi K) (tCons (tVar 1) (tCons (tC (.ref c.C)) tNil))) (by rfl) scIsCounts.nd (pi_seq (pv 0)) (blkOk_by (own := [("item", 1)]) (N := ["value", "item", "row"]) (sc := defScope sIsCounts) (by decide +kernel)) (fun _ _ _ _ _ => (pg_name (i := 1) scIsCounts.nd rfl (Or.inl rfl))) (fun _ _ _ _ _ => pts_nil) (fun _ _ _ _ _ => (pe_callB call_isi (by rfl) T.isi (by decide +kernel) (pa_cons (pv 1) (pa_cons (pe_glob (v := .ref c.C) rfl gC rfl) pa_nil))))) pa_nil))))))) (pss_one (ps_ret pe_bl)) pss_nil)
  (pss_one (ps_ret (pe_cmpR op_eq (pe_callB call_lenSK (by rfl) T.len PySem.boot_len (pa_cons (pe_scK (own := [("row", 2)]) (g := gName 2) (tt := tYes) (te := tFld K (tVar 2) "kind") rfl scIsCounts.nd (pi_seq (pv 0)) (blkOk_by (own := [("row", 2)]) (N := ["value", "item", "row"]) (sc := defScope sIsCounts) (by decide +kernel)) (fun _ _ _ _ _ => (pg_name (i := 2) scIsCounts.nd rfl (Or.inl rfl))) (fun _ _ _ _ _ => pts_nil) (fun _ _ _ _ _ => (pe_fld (pv 2) rfl))) pa_nil)) (pe_callB call_len_seq (by rfl) T.len PySem.boot_len (pa_cons (pv 0) pa_nil)) (nomark _))))), ?_⟩
    refine ⟨_, rfl, (by show 2 ≤ sizeLine; decide), fun tp ntp => ?_⟩
    have s1 : Same H (upd H tp (.tup [.ty "list", .ty "tuple"])) := Same.new ntp
    have ht : upd H tp (.tup [.ty "list", .ty "tuple"]) tp = some (.tup [.ty "list", .ty "tuple"]) := upd_same
    generalize upd H tp (.tup [.ty "list", .ty "tuple"]) = H1 at s1 ht ⊢
    rcases h with ⟨tk, h⟩ | ⟨q, us, rs, m, rfl, hq, rl, n10, ok⟩
    · obtain ⟨t, ty, ka, km⟩ := tk_ty (K := K) D (tk.same s1)
      rw [items_same tk s1] at ka
      refine ⟨_, tp, _, t, _, _, rfl, ht, .cons (.ty "list") (.cons (.ty "tuple") .nil), ty, ka, _, rfl, ?_⟩
      rcases h with e | ⟨q, xs, rfl, hq, l100, kz, no⟩
      · rw [e]
        exact iteF (iteT (k _ s1))
      · have ei : itemsOf H (.ref q) = some xs := by
          show seqOf (H q) = _
          rw [hq]
          rfl
        rw [ei]
        have kz1 : ∀ z ∈ xs, TK cs H1 z := fun z hz => (kz z hz).same s1
        refine iteT ⟨_, rfl, q, rfl, .inl ⟨⟨xs, SqL.of (s1 _ _ hq)⟩, fun D2 nD => ?_⟩⟩
        refine lc_list (K := K) (a := q) (xs := xs) (fun i Hh => Told mv cs H1 xs D2 i Hh) ⟨Same.new nD, nD, upd_same⟩ (fun i Hh _ p => SqL.of (p.1 _ _ (s1 _ _ hq))) ?_ ?_
        · intro i z Hh hi p
          refine ⟨rfl, ?_⟩
          unfold tYes
          dsimp only
          exact iteT (told_turn D kz1 l100 hi p rfl)
        · intro Hh p
          obtain ⟨s2, n, e⟩ := p
          refine ⟨D2, xs.map (isMv mv H1), rfl, SqL.of (by rw [e, List.take_length, List.map_map]; rfl), ?_⟩
          have z : (xs.map (isMv mv H1)).all id = xs.all (isMv mv H1) := by
            rw [List.all_map]
            rfl
          rw [z, all_congr fun z hz => isMv_same (kz z hz) s1, no]
          exact ⟨_, rfl, iteT (k _ (s1.trans s2))⟩
    · have hq0 : SqW K H q us := .inl hq
      have hq1 := hq0.same s1
      have rl1 := rl.same s1
      obtain ⟨t, ty, kt⟩ := hq1.ty
      have ln : (rs ++ [m, m]).length = rs.length + 2 := by rw [List.length_append]; rfl
      refine ⟨_, tp, _, _, _, _, rfl, ht, .cons (.ty "list") (.cons (.ty "tuple") .nil), ty, kt, _, rfl, iteT ?_⟩
      have va : ∀ {G : Hp}, Same H1 G → SqA K (RwS c) (rs ++ [m, m]) (.ref q) G := fun s => ⟨q, us, rfl, hq1.same s, rl1.same s⟩
      have lc : EvNL H1 [some (.ref q), none, none] (tLc (iSeq K (tVar 0)) (gName 1) tYes (tCB (rIsi K) (tCons (tVar 1) (tCons (tC (.ref c.C)) tNil))) [1]) isBv ((rs ++ [m, m]).map fun _ => true) :=
        evn_lcY (H0 := H1) (σ := [some (.ref q), none, none]) (wi := iSeq K (tVar 0)) (i := 1) (as := rs ++ [m, m]) (S := RwS c) (S' := isBv) (te := tCB (rIsi K) (tCons (tVar 1) (tCons (tC (.ref c.C)) tNil))) (fun _ => true) (evi_sqA (ev_v (i := 0) rfl (va (Same.refl _)))) (by omega) (fun m' hm x G sG r => ev_cb (eva_cons (ev_v (i := 1) rfl r) (eva_cons (ev_c (v := .ref c.C)) eva_nil)) fun vs G2 Q2 w2 rr kk => by
          obtain ⟨v1, rr, rfl, a1, v2, rr, rfl, e2, rfl⟩ := rr
          cases e2
          obtain ⟨y, dy, rfl, hy⟩ := a1
          have km := ok m' hm
          cases m' with
          | lt _ _ _ _ => cases km
          | ct k w o => exact ⟨_, _, _, _, _, rfl, .own c.C, .base (.ins hy C.cl C.ca C.gn C.tk C.mr), C.ki, kk _ G2 (Same.refl _) rfl⟩) (fun _ => rfl)
      unfold tB tCB tCons
      refine lc H1 _ (Same.refl _) fun D us3 H2 nD s2 hD l3 => ?_
      have e3 := ls_blC l3
      subst e3
      refine ⟨D, _, rfl, SqL.of hD, ?_⟩
      have z : ((rs ++ [m, m]).map fun _ => true).all id = true := by simp
      rw [z]
      refine ⟨_, rfl, iteF ?_⟩
      try dsimp only [gName, tSeq, tAsg, tNext]
      have sc := ev_scD (P := P) (w0 := w) (H0 := H2) (σ := [some (.ref q), none, none]) (i := 2) (wi := iSeq K (tVar 0)) (te := tFld K (tVar 2) "kind") (S := RwS c) (as := rs ++ [m, m]) Rw.k1 (fun a ea => ?_) (by omega) (by omega) (evi_sqA (ev_v (i := 0) rfl (va s2))) (fun m' hm x G sG r => ev_rowK L (ok m' hm) (ev_v (i := 2) rfl r)) (fun _ => rfl)
      · have hl : EvV (Same H2) [some (.ref q), none, none] (tCB (fun xs H Q => ∃ (a : Addr) (S : Key → Bool) (n : Nat), xs = [.ref a] ∧ H a = some (SetK P w a S n) ∧ n ≤ 1000 ∧ Q (.int (n : Int)) H) (tCons (tScK P w (iSeq K (tVar 0)) (gName 2) tYes (tFld K (tVar 2) "kind") [2]) tNil)) (fun v _ => ∃ n : Nat, v = .int (n : Int) ∧ n < us.length) :=
          ev_cb1 sc fun x G Q2 w2 a kk => by
            obtain ⟨D3, T3, m3, rfl, hD3, lt⟩ := a
            exact ⟨D3, T3, m3, rfl, hD3, (by omega), kk _ G (Same.refl _) w2 ⟨m3, rfl, by rw [rl.1]; exact lt⟩⟩
        have hn : EvV (Same H2) [some (.ref q), none, none] (tCB (fun xs H Q => ∃ (p : Addr) (ys : List V), xs = [.ref p] ∧ (SqL K H p ys ∨ SqT K H p ys) ∧ Q (.int (ys.length : Nat)) H) (tCons (tVar 0) tNil)) (isIv (us.length : Int)) := fun G Q2 w2 kk => ⟨_, rfl, q, us, rfl, ((hq1.same s2).same w2).sq, kk _ G (Same.refl _) w2 rfl⟩
        refine (ev_op (r := rEq) (R := isBv false) (fun _ _ _ _ e => e) hl hn fun x y G Q2 w2 a1 a2 kk => ?_) H2 _ (Same.refl _) fun v H3 s3 _ e => ?_
        · obtain ⟨m3, rfl, lt⟩ := a1
          cases a2
          refine ⟨rfl, ?_⟩
          rw [decide_eq_false (show ¬ V.int (m3 : Int) = V.int (us.length : Int) from fun e => by
            injection e with e
            omega)]
          exact kk _ G (Same.refl _) w2 rfl
        · cases e
          exact k _ ((s1.trans s2).trans s3)
      · have e1 : (rs ++ [m, m]).length - 1 = rs.length + 1 := by omega
        rw [e1] at ea ⊢
        have ea2 : a = m := by
          rw [List.getElem?_append_right (by omega)] at ea
          have z : rs.length + 1 - rs.length = 1 := by omega
          rw [z] at ea
          cases ea
          rfl
        subst ea2
        refine ⟨a, ?_, rfl⟩
        have tk : (rs ++ [a, a]).take (rs.length + 1) = rs ++ [a] := by
          have e : rs ++ [a, a] = (rs ++ [a]) ++ [a] := by simp
          rw [e]
          exact List.take_left' (by rw [List.length_append]; rfl)
        rw [tk]
        exact List.mem_append_right _ (List.mem_singleton.mpr rfl)
end
end V3

set_option Elab.async false
set_option linter.all false
set_option maxRecDepth 100000
/-! reports made of any values; how something is refused -/
namespace V3
open PySem PySem.Spec PyProof.Rows L2 TL LamX
abbrev sWordL : Stmt := top 55
def spReportD (K : PySem.W.Frag) (c : Rc) (mv cs : List Addr) (RC CE : Addr) : Sp := fun vs H Q E => ∃ (x dx : Addr) (v : V), vs = [.ref x, v] ∧ H x = some (.ins RC dx []) ∧
  (((NoCts mv cs v H ∨ DupCts c v H) ∧ Er CE H E "rows") ∨ (∃ (q : Addr) (us : List V) (rs : List Rw), v = .ref q ∧ SqW K H q us ∧ RwLs c H us rs ∧ RpOk rs ∧ ∀ H', SameX x H H' → Q .non H'))
section
variable {P : Program} {w : World} {K : PySem.W.Frag} {mg : Str → Option Value} {base : Heap}
theorem ok_rpInitD {f RC CE : Addr} {c : Rc} {mv cs : List Addr} {fd : FuncData} {dvs : List V} (F : FunD K "__init__" "Report.__init__" (defArgs sRpInit) (defBody sRpInit) (defScope sRpInit) dvs [] f fd) (T : BltRp mg) (C : RpC K RC) (M : ErW P w K mg base "InvalidReport" CE) (cI : Cal P w K mg base CX0 "is_counts" 1 ["value"] (spIsCountsA K c mv cs)) :
    FnOk P w K mg base (L2.CX P w) 3 f fd ["self", "rows"] (spReportD K c mv cs RC CE) := by
  obtain ⟨fI, fdI, GI, mI, kI, bI⟩ := cI
  obtain ⟨fE, fdE, GE, iE, tE, bE⟩ := M.ini
  refine F.ok scRpInit (fun vs H Q E h => ?_) (fun cdv A outer s H vs Q E hr h => ?_)
  · obtain ⟨x, dx, v, rfl, _⟩ := h
    rfl
  · obtain ⟨x, dx, v, rfl, hx, way⟩ := h
    refine ⟨_, pss_cons (ps_if (pt_not (pt_val (pe_call GI (hr.mono (by decide)) rfl mI kI bI .nil pass0 (pa_cons (pv 1) pa_nil)))) (pss_one (ps_raise rfl (takes_of rfl rfl rfl rfl) (pmk_oex M.o iE tE GE (hr.mono (by decide)) bE .nil pass0 rfl M.g (by exact (pa_cons pe_str pa_nil))))) pss_nil)
      (pss_one (ps_fld (pv 0) (pe_callTy call_tuple_of (by rfl) T.tuple (by decide +kernel) (pa_cons (pv 1) pa_nil)) rfl)), ?_⟩
    rcases way with ⟨no, er⟩ | ⟨q, us, rs, rfl, hq, rl, ok, k⟩
    · exact ⟨_, rfl, .inl ⟨v, rfl, no, fun H1 s1 => ⟨_, rfl, iteT ⟨(by show 1 ≤ 1000; decide), er_read (er.up s1)⟩⟩⟩⟩
    · refine ⟨_, rfl, .inr ⟨q, us, rs, rfl, hq, rl, ok, fun H1 s1 => ⟨_, rfl, iteF ?_⟩⟩⟩
      have hx1 := s1 _ _ hx
      have hq1 := hq.same s1
      rcases hq1 with hl | ht
      · refine ⟨_, rfl, q, us, rfl, .inl ⟨SqL.of hl, fun t nt => ?_⟩⟩
        have ntx : x ≠ t := ne_of_none hx1 nt
        refine ⟨_, rfl, x, RC, dx, _, rfl, (by rw [upd_ne ntx]; exact hx1), C.cl, C.n, (by show 0 < 1000; decide), ?_⟩
        refine k _ fun b o n e => ?_
        rw [upd_ne n, upd_ne (ne_of_none (s1 _ _ e) nt)]
        exact s1 _ _ e
      · refine ⟨_, rfl, q, us, rfl, .inr ⟨ht.sq, ?_⟩⟩
        refine ⟨_, rfl, x, RC, dx, _, rfl, hx1, C.cl, C.n, (by show 0 < 1000; decide), ?_⟩
        refine k _ fun b o n e => ?_
        rw [upd_ne n]
        exact s1 _ _ e
end
structure WoT (K : PySem.W.Frag) (mg : Str → Option Value) (CH CE CB CI : Addr) : Prop where
  xH : XClass K CH
  fH : XfC K CH
  noH : PySem.W.findIn K (.ref CH) "word" = some none
  xE : XClass K CE
  fE : XfC K CE
  noE : PySem.W.findIn K (.ref CE) "word" = some none
  tH : PySem.W.exmOne K (.ref CH) (.ref CH) = some true
  tEH : PySem.W.exmOne K (.ref CE) (.ref CH) = some false
  tE : PySem.W.exmOne K (.ref CE) (.ref CE) = some true
  gH : mg "InvalidHouse" = some (.ref CH)
  gE : mg "InvalidReport" = some (.ref CE)
  gB : mg "BookError" = some (.ref CB)
  gI : mg "InvalidRow" = some (.ref CI)
  isi : mg "isinstance" = none
  hB : PySem.W.kitOne K (.ref CH) (.ref CB) = some true
  hI : PySem.W.kitOne K (.ref CH) (.ref CI) = some false
  eB : PySem.W.kitOne K (.ref CE) (.ref CB) = some true
  eI : PySem.W.kitOne K (.ref CE) (.ref CI) = some false
/-- what is raised in what is handed over -/
def EWd (CH CE : Addr) (Q : VK) : XK := fun cls d H => ∃ (n : Str) (dx : Addr) (z : Str), (cls = .ref CH ∧ n = "house" ∨ cls = .ref CE ∧ n = "report") ∧ d = some dx ∧ H dx = some (.xd [("word", .str z)]) ∧ ∀ t, H t = none → Q (.ref t) (upd H t (.tup [.str n, .str z, .bl true]))
def TTw (CH CE : Addr) : (XK → Hp → VK → Prop) → Hp → VK → Prop := fun tl H Q => tl (EWd CH CE Q) H fun _ H' => Q .non H'
def tryBw (s : Stmt) : List Stmt := match s with
  | .Try b _ _ _ _ => b
  | _ => []
def trySw (i : Nat) : Stmt → List Stmt
  | .Try _ hs _ _ _ => match hs[i]? with
    | some (.ExceptHandler _ _ b _) => b
    | none => []
  | _ => []
abbrev sTryW : Stmt := (defBody sWordL).getD 1 (.Pass ⟨0, 0, 0, 0⟩)
abbrev NWl : List Str := ["_law_make", "_law_found", "e"]
section
variable {K : PySem.W.Frag} {mg : Str → Option Value} {CH CE CB CI : Addr}
theorem scWordL : FnScope NWl ["_law_make"] (defScope sWordL) := ⟨rfl, rfl, rfl, by decide +kernel, rfl, by decide +kernel, by decide +kernel⟩
abbrev tIsX (K : PySem.W.Frag) (C D : Addr) (a : Addr) (cls : Value) (d : Option Addr) : TE := tCB (rIsX K C a cls d) (tCons (tVar 2) (tCons (tC (.ref D)) tNil))
theorem gives_word {X : Cx} {g : Addr} {cdg : Value} {q : Str} (T : WoT X.K X.mg CH CE CB CI) : GivesTo X NWl "_law_word" (defScope sWordL) g cdg (defBody sWordL) "_law_make" q (TTw CH CE) := by
  intro f c' s H Q tl act hc h
  let Y : Cx := (cxOf CX0 X.prog X.w X.K X.mg X.base NWl "_law_word" (defScope sWordL) g cdg X.A X.stack s H E0).nox
  let tb : WX → TS := fun W D σ H => ∃ (E : XK) (Q' : VK), (∀ cls d σ' H', E cls d H' → σ'.length = 3 → W cls d σ' H') ∧ (∀ v H2, Q' v H2 → D.nx σ H2) ∧ σ[0]? = some (some (.ref f)) ∧ H c' = some (CodeO c' q) ∧ tl E H Q'
  have body1 : ∀ (W : WX) (pn : List (Addr × Obj)) (xe : Value → Shared → Prop), Takes (Y.tr pn xe) W → PSs (Y.tr pn xe) (tryBw sTryW) (tb W) := by
    intro W pn xe tk
    refine ⟨fun pins s' σ H' D I h' => ?_⟩
    obtain ⟨E, Q', hW, hQ, h1, h2, h3⟩ := h'
    have hq : PSs (Y.tr pn xe) (tryBw sTryW) _ := pss_one (ps_expr (pe_weak (act (fun cls d σ H => σ.length = 3 → W cls d σ H) pn xe E _ _ (takes_len tk) hW)))
    exact hq.run pins s' σ H' D I ⟨Q', hQ, h1, h2, h3⟩
  refine ⟨_, pss_cons (ps_set (i := 1) scWordL.nd rfl (Or.inl rfl) pe_non) (pss_cons (ps_tryTurns (X := Y) (tb := tb) (W0 := fun _ _ _ _ => False) rfl rfl scWordL.nd L2.takes0 (fun W pn xe tk _ => body1 W pn xe tk)
    (.turn (j := 2) ⟨rfl, by decide, Or.inl T.gH⟩ rfl rfl (fun ax oe cls d pn hz hfl => by exact pss_one (ps_set (i := 1) scWordL.nd rfl (Or.inl rfl) (pe_tup (pa_cons pe_str (pa_cons (pe_xf T.fH T.noH hz hfl (pv 2)) (pa_cons (pe_and (pe_callB (call_isX T.xH hz hfl) (by rfl) T.isi (by decide +kernel) (by exact (pa_cons (pv 2) (pa_cons (pe_glob (v := .ref CB) rfl T.gB rfl) pa_nil)))) (pe_one (pe_not (pe_callB (call_isX T.xH hz hfl) (by rfl) T.isi (by decide +kernel) (by exact (pa_cons (pv 2) (pa_cons (pe_glob (v := .ref CI) rfl T.gI rfl) pa_nil))))))) pa_nil))))))
    (.turn (j := 2) ⟨rfl, by decide, Or.inl T.gE⟩ rfl rfl (fun ax oe cls d pn hz hfl => by exact pss_one (ps_set (i := 1) scWordL.nd rfl (Or.inl rfl) (pe_tup (pa_cons pe_str (pa_cons (pe_xf T.fE T.noE hz hfl (pv 2)) (pa_cons (pe_and (pe_callB (call_isX T.xE hz hfl) (by rfl) T.isi (by decide +kernel) (by exact (pa_cons (pv 2) (pa_cons (pe_glob (v := .ref CB) rfl T.gB rfl) pa_nil)))) (pe_one (pe_not (pe_callB (call_isX T.xE hz hfl) (by rfl) T.isi (by decide +kernel) (by exact (pa_cons (pv 2) (pa_cons (pe_glob (v := .ref CI) rfl T.gI rfl) pa_nil))))))) pa_nil)))))) .last))) (pss_one (ps_ret (pv 1)))), ?_⟩
  refine ⟨EWd CH CE Q, fun _ H' => Q .non H', fun cls d σ' H' he hl => ?_, fun v H2 q2 => ⟨_, rfl, q2⟩, rfl, hc, h⟩
  obtain ⟨n, dx, z, way, rfl, hd, qz⟩ := he
  match σ', hl with
  | [o0, o1, o2], _ =>
    rcases way with ⟨rfl, rfl⟩ | ⟨rfl, rfl⟩
    · refine ⟨true, T.tH, fun _ ax nax => ?_, fun q => Bool.noConfusion q⟩
      refine ⟨_, rfl, rfl, rfl, dx, _, _, rfl, hd, rfl, _, rfl, dx, _, _, _, _, rfl, rfl, hd, rfl, .own CB, T.hB, _, rfl, iteT ⟨_, rfl, dx, _, _, _, _, rfl, rfl, hd, rfl, .own CI, T.hI, _, rfl, ?_⟩⟩
      exact ⟨(by show 3 ≤ sizeLine; decide), fun t nt => ⟨_, rfl, qz t nt⟩⟩
    · refine ⟨false, T.tEH, fun q => Bool.noConfusion q, fun _ => ⟨true, T.tE, fun _ ax nax => ?_, fun q => Bool.noConfusion q⟩⟩
      refine ⟨_, rfl, rfl, rfl, dx, _, _, rfl, hd, rfl, _, rfl, dx, _, _, _, _, rfl, rfl, hd, rfl, .own CB, T.eB, _, rfl, iteT ⟨_, rfl, dx, _, _, _, _, rfl, rfl, hd, rfl, .own CI, T.eI, _, rfl, ?_⟩⟩
      exact ⟨(by show 3 ≤ sizeLine; decide), fun t nt => ⟨_, rfl, qz t nt⟩⟩
end
end V3

set_option Elab.async false
set_option linter.all false
set_option maxRecDepth 100000
/-! how a house is to be refused -/
namespace V3
open PySem PySem.Spec PyProof.Rows L2 TL
abbrev sHouseDue : Stmt := top 56
def isTxV : V → Bool
  | .str _ => true
  | _ => false
theorem av_ty3 {K : PySem.W.Frag} {H : Hp} {v : V} (h : AV H v) : ∃ t, TyX K H v t ∧ PySem.W.kitOne K t (.type "int") = some (isI v) ∧ PySem.W.kitOne K t (.type "bool") = some (isB v) ∧ PySem.W.kitOne K t (.type "str") = some (isTxV v) := by
  have k (n m : String) {b : Bool} (h : kitB n m = some b) : PySem.W.kitOne K (.type n) (.type m) = some b := kit_ty h
  cases h with
  | non => exact ⟨_, .base .non, k "NoneType" "int" (b := false) (by decide +kernel), k "NoneType" "bool" (b := false) (by decide +kernel), k "NoneType" "str" (b := false) (by decide +kernel)⟩
  | bl b => exact ⟨_, .base (.bl b), k "bool" "int" (b := true) (by decide +kernel), k "bool" "bool" (b := true) (by decide +kernel), k "bool" "str" (b := false) (by decide +kernel)⟩
  | int i h => exact ⟨_, .base (.int i), k "int" "int" (b := true) (by decide +kernel), k "int" "bool" (b := false) (by decide +kernel), k "int" "str" (b := false) (by decide +kernel)⟩
  | str z => exact ⟨_, .base (.str z), k "str" "int" (b := false) (by decide +kernel), k "str" "bool" (b := false) (by decide +kernel), k "str" "str" (b := true) (by decide +kernel)⟩
  | lst h => exact ⟨_, .base (.lst h), k "list" "int" (b := false) (by decide +kernel), k "list" "bool" (b := false) (by decide +kernel), k "list" "str" (b := false) (by decide +kernel)⟩
  | tup h => exact ⟨_, .base (.tup h), k "tuple" "int" (b := false) (by decide +kernel), k "tuple" "bool" (b := false) (by decide +kernel), k "tuple" "str" (b := false) (by decide +kernel)⟩
/-- what is told: None, or a new tuple -/
def TolA (n : Str) (o : Option Str) (v : V) (H : Hp) : Prop := match o with
  | none => v = .non
  | some z => ∃ t, v = .ref t ∧ H t = some (.tup [.str n, .str z, .bl true])
def spHouseDue : Sp := fun vs H Q _ => ∃ (ta : Addr) (d ch r : V) (dd cd : PyData) (g : Bool), vs = [.ref ta, .bl g] ∧ H ta = some (.lst [d, ch, r]) ∧ Ad NT H d dd ∧ Sm 3 dd ∧ Ad NT H ch cd ∧ Sm 3 cd ∧ ∀ v H', Same H H' → TolA "house" (wrongHs dd cd g) v H' → Q v H'
structure BltU (mg : Str → Option Value) : Prop where
  isi : mg "isinstance" = none
  int : mg "int" = none
  bool : mg "bool" = none
  str : mg "str" = none
section
variable {P : Program} {w : World} {K : PySem.W.Frag} {mg : Str → Option Value} {base : Heap}
theorem scHouseDue : FnScope ["_law_told", "_law_is_good"] ["_law_told", "_law_is_good"] (defScope sHouseDue) := ⟨rfl, rfl, rfl, by decide +kernel, rfl, by decide +kernel, by decide +kernel⟩
theorem ok_houseDue {f : Addr} {fd : FuncData} (F : Fun K "_law_house_due" "_law_house_due" sHouseDue f fd) (T : BltU mg) : FnOk P w K mg base CX0 2 f fd ["_law_told", "_law_is_good"] spHouseDue := by
  refine F.ok scHouseDue (fun vs H Q E h => ?_) (fun cdv A outer s H vs Q E hr h => ?_)
  · obtain ⟨ta, d, ch, r, dd, cd, g, rfl, _⟩ := h
    rfl
  · obtain ⟨ta, d, ch, r, dd, cd, g, rfl, ht, ad, sd, ac, sc, k⟩ := h
    refine ⟨_, (pss_cons (ps_if (PW.pt (pw_or (pt_val (pe_callB call_isi (by rfl) T.isi (by decide +kernel) (pa_cons (pe_ix ix_list (pv 0) pe_int (fun _ _ => rfl)) (pa_cons (pe_bltn (v := .ty "bool") (by rfl) T.bool (by decide +kernel) rfl) pa_nil)))) (pw_or (pt_not (pt_val (pe_callB call_isi (by rfl) T.isi (by decide +kernel) (pa_cons (pe_ix ix_list (pv 0) pe_int (fun _ _ => rfl)) (pa_cons (pe_bltn (v := .ty "int") (by rfl) T.int (by decide +kernel) rfl) pa_nil))))) (pw_or1 (pt_not (pt_chain op_le op_le pe_int (pe_ix ix_list (pv 0) pe_int (fun _ _ => rfl)) pe_int)))))) (pss_one (ps_ret (pe_tup (pa_cons pe_str (pa_cons pe_str (pa_cons pe_bl pa_nil)))))) pss_nil)
      (pss_cons (ps_if (PW.pt (pw_or (pt_not (pt_val (pe_callB call_isi (by rfl) T.isi (by decide +kernel) (pa_cons (pe_ix ix_list (pv 0) pe_int (fun _ _ => rfl)) (pa_cons (pe_bltn (v := .ty "str") (by rfl) T.str (by decide +kernel) rfl) pa_nil))))) (pw_or1 (pt_cmpR (op_ninA hr) (pe_ix ix_list (pv 0) pe_int (fun _ _ => rfl)) (pe_tup (pa_cons pe_str (pa_cons pe_str pa_nil))) rfl)))) (pss_one (ps_ret (pe_tup (pa_cons pe_str (pa_cons pe_str (pa_cons pe_bl pa_nil)))))) pss_nil)
      (pss_one (ps_ret (pe_ifExp (pt_val (pv 1)) pe_non (pe_tup (pa_cons pe_str (pa_cons pe_str (pa_cons pe_bl pa_nil))))))))), ?_⟩
    have due : ∀ {H1 : Hp} {z : Str}, Same H H1 → wrongHs dd cd g = some z → 3 ≤ sizeLine ∧ ∀ t, H1 t = none → Q (.ref t) (upd H1 t (.tup [.str "house", .str z, .bl true])) := fun s e => ⟨by decide, fun t nt => k _ _ (s.trans (Same.new nt)) (by rw [e]; exact ⟨t, rfl, upd_same⟩)⟩
    obtain ⟨t1, ty1, ki, kb, _⟩ := av_ty3 (K := K) (sd.av ad)
    obtain ⟨t2, ty2, _, _, ks⟩ := av_ty3 (K := K) (sc.av ac)
    have bad : isDep dd = false → wrongHs dd cd g = some "depth" := fun e => by
      unfold wrongHs
      rw [e]
      rfl
    -- behind the depth
    have rest : isDep dd = true → ∀ {D : Ends}, D.rt = Q → tSeq (tIfS (tOr (tNot (tB (tCB (rIsi K) (tCons (tOp (rIxL K) (tVar 0) (tC (.int 1))) (tCons (tC (.ty "str")) tNil))))) (tTest (tOp (rInA K true) (tOp (rIxL K) (tVar 0) (tC (.int 1))) (tTup (tCons (tC (.str "left")) (tCons (tC (.str "all")) tNil)))))) (tRet (tTup (tCons (tC (.str "house")) (tCons (tC (.str "check")) (tCons (tC (.bl true)) tNil))))) (fun D σ H => D.nx σ H))
        (tRet (tIf (tB (tVar 1)) (tC .non) (tTup (tCons (tC (.str "house")) (tCons (tC (.str "rows")) (tCons (tC (.bl true)) tNil)))))) D [some (.ref ta), some (.bl g)] H := by
      rintro dep D rfl
      have w1 : wrongHs dd cd g = (if amV (wordsV checkL) cd then (if g then none else some ("rows" : Str)) else some ("check" : Str)) := by
        unfold wrongHs
        rw [dep, if_pos rfl]
      refine ⟨_, rfl, ta, _, 1, _, rfl, rfl, SqL.of ht, rfl, _, _, t2, _, _, rfl, .ty "str", ty2, ks, _, rfl, ?_⟩
      cases es : isTxV ch with
      | false =>
        have e2 : amV (wordsV checkL) cd = false := by
          cases e : fOf cd with
          | none =>
            unfold amV
            rw [e]
          | some x =>
            have ac2 := ac
            rw [of_f e] at ac2
            have ec := ac2.flat
            subst ec
            unfold amV
            rw [e]
            cases x with
            | str z => cases es
            | _ => rfl
        rw [e2] at w1
        exact iteT (due (Same.refl _) w1)
      | true =>
        refine iteF ⟨_, rfl, ta, _, 1, _, rfl, rfl, SqL.of ht, rfl, (by show 2 ≤ sizeLine; decide), fun p np => ⟨p, ["left", "all"], NT, cd, rfl, .inr (SqT.of upd_same), Ad.mv (fun _ z => z) (fun c o _ e _ => Same.new np c o e) cd ch ac, _, rfl, ?_⟩⟩
        have am : amV (wordsV ["left", "all"]) cd = amV (wordsV checkL) cd := rfl
        rw [am]
        cases e2 : amV (wordsV checkL) cd with
        | false =>
          rw [e2] at w1
          exact iteT (due (Same.new np) w1)
        | true =>
          rw [e2, if_pos rfl] at w1
          refine iteF ⟨_, rfl, g, rfl, ?_⟩
          cases g with
          | true => exact iteT (k _ _ (Same.new np) (by rw [w1]; rfl))
          | false => exact iteF (due (Same.new np) w1)
    refine ⟨_, rfl, ta, _, 0, _, rfl, rfl, SqL.of ht, rfl, _, _, t1, _, _, rfl, .ty "bool", ty1, kb, _, rfl, ?_⟩
    have dp : ∀ x, fOf dd = some x → d = x.v := fun x e => by
      have ad2 := ad
      rw [of_f e] at ad2
      exact ad2.flat
    have off : isI d = false → isDep dd = false := fun z => by
      unfold isDep
      cases e : fOf dd with
      | none => rfl
      | some x =>
        rw [dp x e] at z
        cases x <;> first | rfl | cases z
    cases eb : isB d with
    | true =>
      have e : isDep dd = false := by
        unfold isDep
        cases e : fOf dd with
        | none => rfl
        | some x =>
          rw [dp x e] at eb
          cases x <;> first | rfl | cases eb
      exact iteT (due (Same.refl _) (bad e))
    | false =>
      refine iteF ⟨_, rfl, ta, _, 0, _, rfl, rfl, SqL.of ht, rfl, _, _, t1, _, _, rfl, .ty "int", ty1, ki, _, rfl, ?_⟩
      cases ei : isI d with
      | false => exact iteT (due (Same.refl _) (bad (off ei)))
      | true =>
        obtain ⟨i, rfl⟩ : ∃ i, d = .int i := by
          cases d <;> first | exact ⟨_, rfl⟩ | (cases ei; done) | (cases eb; done)
        have dep : isDep dd = (decide (0 ≤ i) && decide (i < 5)) := by
          unfold isDep
          cases e : fOf dd with
          | none =>
            obtain ⟨p, xs, ev, _⟩ := ad.deep e
            cases ev
          | some x =>
            have ex := dp x e
            cases x <;> cases ex
            rfl
        refine iteF ⟨_, rfl, ta, _, 0, _, rfl, rfl, SqL.of ht, rfl, _, _, rfl, rfl, _, rfl, ?_⟩
        by_cases i0 : 0 ≤ i
        case neg =>
          rw [decide_eq_false i0] at dep ⊢
          exact iteF ⟨_, rfl, iteT (due (Same.refl _) (bad dep))⟩
        rw [decide_eq_true i0] at dep ⊢
        refine iteT ⟨_, _, rfl, rfl, _, rfl, ?_⟩
        by_cases i5 : i ≤ 4
        case neg =>
          rw [decide_eq_false i5]
          exact iteT (due (Same.refl _) (bad (by rw [dep, decide_eq_false (by omega)]; rfl)))
        rw [decide_eq_true i5]
        exact iteF (rest (by rw [dep, decide_eq_true (by omega)]; rfl) rfl)
end
end V3

set_option Elab.async false
set_option linter.all false
set_option maxRecDepth 100000
/-! texts taken apart: words, lines, rows; the lines of a house -/
namespace V3
open PySem L2 TL
theorem sp_eq : sp1 = (⟨#[32]⟩ : Str) := by decide +kernel
theorem nl_eq : nlS = (⟨#[10]⟩ : Str) := by decide +kernel
theorem nl_tl : tl nlS = [10] := by decide +kernel
theorem words_no {x : Str} : ∀ p ∈ Txt.split x sp1, 32 ∉ tl p := by
  rw [sp_eq]
  exact StrLaws.split_free x 32
theorem lines_no {x : Str} : ∀ p ∈ Txt.split x nlS, 10 ∉ tl p := by
  rw [nl_eq]
  exact StrLaws.split_free x 10
theorem split_ne (x y : Str) : Txt.split x y ≠ [] := fun e => by
  have z := PyProof.Rows.split_pos x y
  rw [e] at z
  exact absurd z (by decide)
theorem mem_joinL {S : List Nat} {s : Nat} : ∀ {ps : List (List Nat)} {p : List Nat}, p ∈ ps → s ∈ p → s ∈ joinL S ps
  | [], _, h, _ => by cases h
  | [a], p, h, q => by
    rw [List.mem_singleton.mp h] at q
    exact q
  | a :: b :: r, p, h, q => by
    show s ∈ a ++ (S ++ joinL S (b :: r))
    rcases List.mem_cons.mp h with rfl | h
    · exact List.mem_append_left _ q
    · exact List.mem_append_right _ (List.mem_append_right _ (mem_joinL h q))
theorem free_joinL {S : List Nat} {s : Nat} (hS : s ∉ S) : ∀ {ps : List (List Nat)}, (∀ p ∈ ps, s ∉ p) → s ∉ joinL S ps
  | [], _ => fun z => nomatch z
  | [a], h => h a (List.mem_cons_self ..)
  | a :: b :: r, h => by
    show s ∉ a ++ (S ++ joinL S (b :: r))
    intro z
    rcases List.mem_append.mp z with z | z
    · exact h a (List.mem_cons_self ..) z
    · rcases List.mem_append.mp z with z | z
      · exact hS z
      · exact free_joinL hS (fun p hp => h p (List.mem_cons_of_mem _ hp)) z
theorem part_no {x y : Str} {s : Nat} (h : s ∉ tl x) : ∀ p ∈ Txt.split x y, s ∉ tl p := fun p hp q => h (by
  have e := congrArg tl (StrLaws.join_split x y)
  rw [tl_join] at e
  rw [← e]
  exact mem_joinL (List.mem_map.mpr ⟨p, hp, rfl⟩) q)
theorem join_no {y : Str} {ps : List Str} {s : Nat} (hy : s ∉ tl y) (h : ∀ p ∈ ps, s ∉ tl p) : s ∉ tl (Str.join y ps) := by
  rw [tl_join]
  refine free_joinL hy fun p hp => ?_
  obtain ⟨z, hz, rfl⟩ := List.mem_map.mp hp
  exact h z hz
theorem split_lines {L : List Str} (h : L ≠ []) (f : ∀ p ∈ L, 10 ∉ tl p) : Txt.split (Str.join nlS L) nlS = L := by
  have z := split_join nl_tl (by decide +kernel) h f
  rw [join_eq] at z
  exact z
/-! a row -/
def rowB (k s d p : Str) : Bool := decide (k ∈ kindL) && (decide (s ∈ stateL) && (decide (d ∈ deedL) && (decide (p ∈ placeL) && (!decide (d = "right") || (decide (k = "first") || decide (k = "new"))))))
theorem rowB_iff {k s d p : Str} : rowB k s d p = true ↔ (Rw.lt k s d p).ok := by
  unfold rowB Rw.ok
  simp only [Bool.and_eq_true, decide_eq_true_eq, Bool.or_eq_true, Bool.not_eq_true', decide_eq_false_iff_not]
  constructor
  · rintro ⟨a, b, c, e, f⟩
    exact ⟨a, b, c, e, fun z => f.resolve_left fun y => y z⟩
  · rintro ⟨a, b, c, e, f⟩
    refine ⟨a, b, c, e, ?_⟩
    by_cases z : d = "right"
    · exact .inr (f z)
    · exact .inl z
def rowW : List Str → Option Rw
  | [k, s, d, p] => if rowB k s d p = true then some (.lt k s d p) else none
  | _ => none
def rowOf (x : Str) : Option Rw := rowW (Txt.split x sp1)
theorem rowW_some {ws : List Str} {m : Rw} (h : rowW ws = some m) : m.ok ∧ m.kind = 0 ∧ m.words = ws := by
  match ws, h with
  | [k, s, d, p], h =>
    have h : (if rowB k s d p = true then some (Rw.lt k s d p) else none) = some m := h
    by_cases c : rowB k s d p = true
    · rw [if_pos c] at h
      cases h
      exact ⟨rowB_iff.mp c, rfl, rfl⟩
    · rw [if_neg c] at h
      cases h
  | [], h => cases h
  | [_], h => cases h
  | [_, _], h => cases h
  | [_, _, _], h => cases h
  | _ :: _ :: _ :: _ :: _ :: _, h => cases h
theorem rowOf_some {x : Str} {m : Rw} (h : rowOf x = some m) : m.ok ∧ m.kind = 0 ∧ m.text = x := by
  obtain ⟨a, b, e⟩ := rowW_some h
  refine ⟨a, b, ?_⟩
  unfold Rw.text
  rw [e]
  exact StrLaws.join_split x sp1
theorem rowOf_text {m : Rw} (ok : m.ok) (kd : m.kind = 0) : rowOf m.text = some m := by
  unfold rowOf
  rw [rw_split ok]
  cases m with
  | ct _ _ _ => cases kd
  | lt k s d p =>
    show (if rowB k s d p = true then some (Rw.lt k s d p) else none) = _
    rw [if_pos (rowB_iff.mpr ok)]
/-! lines -/
def checkLn : List Str := ["check left", "check all"]
def standB (j : Nat) (x : Str) : Bool := if j = 0 then decide (x ∈ depthL) else if j = 1 then decide (x ∈ checkLn) else (rowOf x).isSome
def badFrom : Nat → List Str → Option Nat
  | _, [] => none
  | j, x :: r => if standB j x = true then badFrom (j + 1) r else some j
def badLine (L : List Str) : Option Nat := match badFrom 0 L with
  | some i => some i
  | none => if L.length < 2 then some L.length else none
theorem bad_none : ∀ {L : List Str} {j : Nat}, badFrom j L = none → ∀ i x, L[i]? = some x → standB (j + i) x = true
  | [], _, _, i, x, e => by simp at e
  | y :: r, j, h, i, x, e => by
    have h' : (if standB j y = true then badFrom (j + 1) r else some j) = none := h
    by_cases c : standB j y = true
    · rw [if_pos c] at h'
      cases i with
      | zero =>
        have e : y = x := by simpa using e
        subst e
        exact c
      | succ i =>
        have z := bad_none h' i x (by simpa using e)
        have e2 : j + 1 + i = j + (i + 1) := by omega
        rw [e2] at z
        exact z
    · rw [if_neg c] at h'
      cases h'
theorem bad_all : ∀ {L : List Str} {j : Nat}, (∀ i x, L[i]? = some x → standB (j + i) x = true) → badFrom j L = none
  | [], _, _ => rfl
  | y :: r, j, h => by
    show (if standB j y = true then badFrom (j + 1) r else some j) = none
    have h0 : standB j y = true := h 0 y rfl
    rw [if_pos h0]
    refine bad_all fun i x e => ?_
    have z := h (i + 1) x (by simpa using e)
    have e2 : j + 1 + i = j + (i + 1) := by omega
    rw [e2]
    exact z
theorem badFrom_step {j i : Nat} : ∀ {L : List Str} {x : Str}, badFrom j L = badFrom (j + i) (L.drop i) → L[i]? = some x → standB (j + i) x = true → badFrom j L = badFrom (j + (i + 1)) (L.drop (i + 1)) := by
  intro L x h e s
  have il : i < L.length := (List.getElem?_eq_some_iff.mp e).1
  have ex := (List.getElem?_eq_some_iff.mp e).2
  rw [List.drop_eq_getElem_cons il, ex] at h
  rw [h]
  show (if standB (j + i) x = true then badFrom (j + i + 1) (L.drop (i + 1)) else some (j + i)) = _
  rw [if_pos s]
  rfl
theorem badFrom_hit {j i : Nat} {L : List Str} {x : Str} (h : badFrom j L = badFrom (j + i) (L.drop i)) (e : L[i]? = some x) (s : standB (j + i) x = false) : badFrom j L = some (j + i) := by
  have il : i < L.length := (List.getElem?_eq_some_iff.mp e).1
  have ex := (List.getElem?_eq_some_iff.mp e).2
  rw [List.drop_eq_getElem_cons il, ex] at h
  rw [h]
  show (if standB (j + i) x = true then badFrom (j + i + 1) (L.drop (i + 1)) else some (j + i)) = _
  rw [if_neg (by rw [s]; exact Bool.false_ne_true)]
/-- the rows that some lines are -/
theorem rows_of : ∀ {L : List Str}, (∀ x ∈ L, (rowOf x).isSome = true) → ∃ ms : List Rw, ms.map Rw.text = L ∧ (∀ m ∈ ms, m.ok ∧ m.kind = 0) ∧ L.map rowOf = ms.map some
  | [], _ => ⟨[], rfl, (fun m h => by cases h), rfl⟩
  | x :: r, h => by
    obtain ⟨ms, e, k, q⟩ := rows_of (L := r) fun y hy => h y (List.mem_cons_of_mem _ hy)
    have z := h x (List.mem_cons_self ..)
    cases em : rowOf x with
    | none => rw [em] at z; cases z
    | some m =>
      obtain ⟨a, b, c⟩ := rowOf_some em
      refine ⟨m :: ms, by rw [List.map_cons, c, e], fun n hn => ?_, by rw [List.map_cons, List.map_cons, em, q]⟩
      rcases List.mem_cons.mp hn with rfl | hn
      · exact ⟨a, b⟩
      · exact k n hn
theorem depth_at : ∀ j : Nat, j < 5 → depthL[j]? = some (Str.empty ++ "depth " ++ num (j : Int)) := by decide +kernel
theorem check_at : ∀ j : Nat, j < 2 → ∃ c, checkL[j]? = some c ∧ checkLn[j]? = some (Str.empty ++ "check " ++ c) := by decide +kernel
theorem first_at : ∀ j : Nat, j < 5 → ∀ i : Nat, i < j → depthL[i]? ≠ depthL[j]? := by decide +kernel
theorem firstC_at : ∀ j : Nat, j < 2 → ∀ i : Nat, i < j → checkLn[i]? ≠ checkLn[j]? := by decide +kernel
/-- lines that can stand are those of a house; where its first two stand in the tables -/
theorem house_of {L : List Str} (h : badLine L = none) (n : L.length ≤ 102) : ∃ (g : Hs) (j i : Nat) (a b : Str), g.ok ∧ g.lines = L ∧ g.d = (j : Int) ∧ L[0]? = some a ∧ L[1]? = some b ∧ depthL[j]? = some a ∧ (∀ m, m < j → depthL[m]? ≠ some a) ∧
    checkLn[i]? = some b ∧ (∀ m, m < i → checkLn[m]? ≠ some b) ∧ checkL[i]? = some g.ch ∧ (L.drop 2).map rowOf = g.rs.map some := by
  unfold badLine at h
  cases e : badFrom 0 L with
  | some i => rw [e] at h; cases h
  | none =>
    rw [e] at h
    have h : (if L.length < 2 then some L.length else none) = none := h
    have l2 : ¬ L.length < 2 := fun c => by rw [if_pos c] at h; cases h
    have all := bad_none e
    match L, l2, n, all with
    | a :: b :: r, _, n, all =>
      have sa := all 0 a rfl
      have sb := all 1 b rfl
      have sa : decide (a ∈ depthL) = true := sa
      have sb : decide (b ∈ checkLn) = true := sb
      have sr : ∀ x ∈ r, (rowOf x).isSome = true := fun x hx => by
        obtain ⟨i, hi, ei⟩ := List.mem_iff_getElem.mp hx
        have z := all (i + 2) x (by simp [hi, ei])
        unfold standB at z
        rw [if_neg (by omega), if_neg (by omega)] at z
        exact z
      obtain ⟨j, hj, ej⟩ := List.mem_iff_getElem.mp (of_decide_eq_true sa)
      obtain ⟨i, hi, ei⟩ := List.mem_iff_getElem.mp (of_decide_eq_true sb)
      have j5 : j < 5 := hj
      have i2 : i < 2 := hi
      have ej : depthL[j]? = some a := by rw [List.getElem?_eq_getElem hj, ej]
      have ei : checkLn[i]? = some b := by rw [List.getElem?_eq_getElem hi, ei]
      obtain ⟨c, ec, eb⟩ := check_at i i2
      have eb : b = Str.empty ++ "check " ++ c := by rw [ei] at eb; exact Option.some.inj eb
      have ea : a = Str.empty ++ "depth " ++ num (j : Int) := by rw [depth_at j j5] at ej; exact (Option.some.inj ej).symm
      obtain ⟨ms, em, km, qm⟩ := rows_of sr
      have lm : ms.length = r.length := by rw [← em, List.length_map]
      refine ⟨⟨(j : Int), c, ms⟩, j, i, a, b, ⟨by show (0 : Int) ≤ (j : Int); omega, by show (j : Int) ≤ 4; omega, List.mem_of_getElem? ec, km, by show ms.length ≤ 100; simp only [List.length_cons] at n; omega⟩, ?_, rfl, rfl, rfl, ej, fun m hm z => ?_, ei, fun m hm z => ?_, ec, qm⟩
      · show (Str.empty ++ Str.ofString "depth " ++ num (j : Int)) :: (Str.empty ++ Str.ofString "check " ++ c) :: ms.map Rw.text = a :: b :: r
        rw [em, ea, eb]
      · exact first_at j j5 m hm (z.trans ej.symm)
      · exact firstC_at i i2 m hm (z.trans ei.symm)
    | [], l2, _, _ => exact absurd (by decide) l2
    | [_], l2, _, _ => exact absurd (by show 1 < 2; decide) l2
theorem num5 {d : Int} (a : 0 ≤ d) (b : d ≤ 4) : ∃ j : Nat, j < 5 ∧ d = (j : Int) := ⟨d.toNat, by omega, by omega⟩
/-- the lines of a house can stand -/
theorem lines_ok {g : Hs} (ok : g.ok) : badLine g.lines = none := by
  obtain ⟨d0, d4, hc, hm, hn⟩ := ok
  have z : badFrom 0 g.lines = none := bad_all fun i x e => by
    rw [Nat.zero_add]
    match i, e with
    | 0, e =>
      have e : Str.empty ++ "depth " ++ num g.d = x := by simpa [Hs.lines] using e
      obtain ⟨j, j5, ej⟩ := num5 d0 d4
      rw [ej] at e
      show decide (x ∈ depthL) = true
      rw [← e]
      exact decide_eq_true (List.mem_of_getElem? (depth_at j j5))
    | 1, e =>
      have e : Str.empty ++ "check " ++ g.ch = x := by simpa [Hs.lines] using e
      have q : ∀ c ∈ checkL, Str.empty ++ "check " ++ c ∈ checkLn := by decide +kernel
      show decide (x ∈ checkLn) = true
      rw [← e]
      exact decide_eq_true (q _ hc)
    | i + 2, e =>
      have e : (g.rs.map Rw.text)[i]? = some x := by simpa [Hs.lines] using e
      unfold standB
      rw [if_neg (by omega), if_neg (by omega)]
      rw [List.getElem?_map] at e
      cases em : g.rs[i]? with
      | none => rw [em] at e; cases e
      | some m =>
        rw [em] at e
        have e : m.text = x := Option.some.inj e
        obtain ⟨a, b⟩ := hm m (List.mem_of_getElem? em)
        rw [← e, rowOf_text a b]
        rfl
  unfold badLine
  rw [z]
  show (if g.lines.length < 2 then some g.lines.length else none) = none
  rw [if_neg (by simp only [Hs.lines, List.length_cons]; omega)]
theorem lines_no10 {g : Hs} (ok : g.ok) : ∀ p ∈ g.lines, 10 ∉ tl p := by
  obtain ⟨d0, d4, hc, hm, hn⟩ := ok
  intro p hp
  simp only [Hs.lines, List.mem_cons, List.mem_map] at hp
  rcases hp with rfl | rfl | ⟨m, mm, rfl⟩
  · obtain ⟨j, j5, ej⟩ := num5 d0 d4
    have q : ∀ x ∈ depthL, 10 ∉ tl x := by decide +kernel
    rw [ej]
    exact q _ (List.mem_of_getElem? (depth_at j j5))
  · have q : ∀ c ∈ checkL, 10 ∉ tl (Str.empty ++ "check " ++ c) := by decide +kernel
    exact q _ hc
  · unfold Rw.text
    exact join_no (by decide +kernel) fun w hw => (word_ok (hm m mm).1 w hw).1.2
theorem text_split {g : Hs} (ok : g.ok) : Txt.split g.text nlS = g.lines := split_lines (by simp [Hs.lines]) (lines_no10 ok)
theorem lines_inj {g h : Hs} (go : g.ok) (ho : h.ok) (e : g.lines = h.lines) : g = h := by
  have q : ∀ a ∈ [(0 : Int), 1, 2, 3, 4], ∀ b ∈ [(0 : Int), 1, 2, 3, 4], Str.empty ++ "depth " ++ num a = Str.empty ++ "depth " ++ num b → a = b := by decide +kernel
  have q2 : ∀ a ∈ checkL, ∀ b ∈ checkL, Str.empty ++ "check " ++ a = Str.empty ++ "check " ++ b → a = b := by decide +kernel
  have m : ∀ d : Int, 0 ≤ d → d ≤ 4 → d ∈ [(0 : Int), 1, 2, 3, 4] := fun d a b => by
    have : d = 0 ∨ d = 1 ∨ d = 2 ∨ d = 3 ∨ d = 4 := by omega
    simpa using this
  obtain ⟨d, c, rs⟩ := g
  obtain ⟨d', c', rs'⟩ := h
  simp only [Hs.lines, List.cons.injEq] at e
  obtain ⟨e1, e2, e3⟩ := e
  have e1 := q d (m _ go.1 go.2.1) d' (m _ ho.1 ho.2.1) e1
  have e2 := q2 c go.2.2.1 c' ho.2.2.1 e2
  have e4 : ∀ {rs rs' : List Rw}, (∀ m ∈ rs, m.ok ∧ m.kind = 0) → (∀ m ∈ rs', m.ok ∧ m.kind = 0) → rs.map Rw.text = rs'.map Rw.text → rs = rs' := by
    intro rs
    induction rs with
    | nil => intro rs' _ _ e; cases rs' with
      | nil => rfl
      | cons _ _ => cases e
    | cons a r ih => intro rs' ka kb e; cases rs' with
      | nil => cases e
      | cons b r' =>
        simp only [List.map_cons, List.cons.injEq] at e
        rw [rw_inj (ka a (List.mem_cons_self ..)).1 (kb b (List.mem_cons_self ..)).1 e.1, ih (fun m hm => ka m (List.mem_cons_of_mem _ hm)) (fun m hm => kb m (List.mem_cons_of_mem _ hm)) e.2]
  have e5 : rs = rs' := e4 go.2.2.2.1 ho.2.2.2.1 e3
  rw [e1, e2, e5]
/-! weights -/
def wgt (L : List Str) : Nat := (L.map (·.length)).sum + L.length
theorem wgt_app (a b : List Str) : wgt (a ++ b) = wgt a + wgt b := by
  unfold wgt
  simp only [List.map_append, List.sum_append, List.length_append]
  omega
theorem wgt_cut (a : List Str) (n : Nat) : wgt (a.take n) + wgt (a.drop n) = wgt a := by rw [← wgt_app, List.take_append_drop]
theorem wgt_take (a : List Str) (n : Nat) : wgt (a.take n) ≤ wgt a := by have := wgt_cut a n; omega
theorem wgt_drop (a : List Str) (n : Nat) : wgt (a.drop n) ≤ wgt a := by have := wgt_cut a n; omega
theorem wgt_rev (a : List Str) : wgt a.reverse = wgt a := by
  unfold wgt
  rw [List.map_reverse, List.sum_reverse, List.length_reverse]
theorem wgt_mem {a : List Str} {x : Str} (h : x ∈ a) : x.length + 1 ≤ wgt a := by
  obtain ⟨i, hi, e⟩ := List.mem_iff_getElem.mp h
  have z := wgt_cut a i
  rw [List.drop_eq_getElem_cons hi, e] at z
  have y : wgt (x :: a.drop (i + 1)) = x.length + 1 + wgt (a.drop (i + 1)) := by
    unfold wgt
    simp only [List.map_cons, List.sum_cons, List.length_cons]
    omega
  omega
theorem wgt_split (x y : Str) (hy : 1 ≤ y.length) : wgt (Txt.split x y) ≤ x.length + 1 := PyProof.Rows.split_weight x y hy
theorem len_join1 {y : Str} (hy : y.length = 1) (L : List Str) : (Str.join y L).length ≤ wgt L := by
  cases L with
  | nil => show (Str.join y []).length ≤ 0; exact Nat.le_of_eq rfl
  | cons a l =>
    rw [PyProof.Rows.len_join_cons, hy]
    unfold wgt
    simp only [List.length_cons]
    omega
end V3

set_option Elab.async false
set_option linter.all false
set_option maxRecDepth 100000
/-! InvalidText -/
namespace V3
open PySem L2 TL
abbrev sItInit : Stmt := inClass (top 9) 0
structure ItTxt (P : Program) (w : World) (K : PySem.W.Frag) (mg : Str → Option Value) (base : Heap) (C : Addr) : Prop where
  g : mg "InvalidText" = some (.ref C)
  o : OexC K C
  no : PySem.W.findIn K (.ref C) "at" = some none
  ini : ∃ (f : Addr) (fd : FuncData), FnOk P w K mg base CX0 1 f fd ["self", "at"] (spIX C) ∧ PySem.W.findIn K (.ref C) "__init__" = some (some (.ref f)) ∧ PySem.W.typeIn K (.ref f) = some (.type "function") ∧ Binds K fd ["self", "at"] []
section
variable {P : Program} {w : World} {K : PySem.W.Frag} {mg : Str → Option Value} {base : Heap}
theorem scItInit : FnScope ["self", "at"] ["self", "at"] (defScope sItInit) := ⟨rfl, rfl, rfl, by decide +kernel, rfl, by decide +kernel, by decide +kernel⟩
theorem ok_itInit {f C : Addr} {fd : FuncData} (F : Fun K "__init__" "InvalidText.__init__" sItInit f fd) (o : OexC K C) (no : PySem.W.findIn K (.ref C) "at" = some none) : FnOk P w K mg base CX0 1 f fd ["self", "at"] (spIX C) := by
  refine F.ok scItInit (fun vs H Q E h => ?_) (fun cdv A outer s H vs Q E hr h => ?_)
  · obtain ⟨a, y, rfl, _⟩ := h
    rfl
  · obtain ⟨a, y, rfl, ha, q⟩ := h
    exact ⟨_, pss_one (ps_ost (pv 0) (pv 1)), _, rfl, _, rfl, a, C, rfl, o, no, .inl ⟨ha, fun dx h1 h2 => q dx h1 h2⟩⟩
end
end V3

set_option Elab.async false
set_option linter.all false
set_option maxRecDepth 100000
/-! a, b, c = x, y, z with plain local names -/
namespace V3
open PySem PySem.Spec PyProof.Rows L2
def tPar3 (i j k : Nat) (ta : TA) : TS := fun D σ H => ta σ H fun vs H1 => ∃ v w z, vs = [v, w, z] ∧ D.nx (((σ.set i (some v)).set j (some w)).set k (some z)) H1
theorem ps_par3 {X : Cx} {i j k : Nat} {x y z : Str} {a b c : Expr} {ta : TA} {px py pz pt : Pos} {kt k2 pt2} {pos : Pos} (hc : X.calm = true) (hN : X.N.Nodup) (hi : X.N[i]? = some x) (hj : X.N[j]? = some y) (hk : X.N[k]? = some z) (hij : i ≠ j) (hik : i ≠ k) (hjk : j ≠ k)
    (hx : X.env.scope.names.lookup x = some .local) (hy : X.env.scope.names.lookup y = some .local) (hz : X.env.scope.names.lookup z = some .local) (ha : PA X [a, b, c] ta)
    (hw : swappedStores [.Tuple [.Name x px, .Name y py, .Name z pz] kt pt] (.Tuple [a, b, c] k2 pt2) X.env = pure (some [x, y, z]))
    (hs : swapsWithSole [.Tuple [.Name x px, .Name y py, .Name z pz] kt pt] (.Tuple [a, b, c] k2 pt2) pos.line X.env = pure false := by rfl) :
    PS X (.Assign [.Tuple [.Name x px, .Name y py, .Name z pz] kt pt] (.Tuple [a, b, c] k2 pt2) pos) (tPar3 i j k ta) := by
  refine ⟨fun pins s σ H D I h => ?_⟩
  rw [exec_Assign_arm]
  refine wpAny_bind (wpAny_standAt ?_)
  rw [hs]
  refine wpAny_bind (wpAny_pure ?_)
  rw [if_neg (by decide)]
  refine wpAny_bind (Tuple_ (thn (ha.run _ pins s σ H _ I h) fun us s1 ⟨vs, H1, I1, r1, q1⟩ => ?_))
  obtain ⟨v, w, t, e1, q1⟩ := q1
  subst e1
  obtain ⟨u1, u2, u3, rfl, rv, rw', rt⟩ : ∃ u1 u2 u3, us = [u1, u2, u3] ∧ RelV v u1 ∧ RelV w u2 ∧ RelV t u3 := by
    cases r1 with
    | cons p q =>
      cases q with
      | cons p' q' =>
        cases q' with
        | cons p2 q2 =>
          cases q2
          exact ⟨_, _, _, rfl, p, p', p2⟩
  refine wpAny_newObj_type ?_ (by show 3 ≤ sizeLine; decide)
  have I2 : Inv X pins σ H1 { s1 with heap := s1.heap.push { cls := .type "tuple", data := .seq [u1, u2, u3].toArray } } := I1.kept (t' := s1.toks) fun b o e => Heap.get?_push_of_some _ e
  rw [hw]
  refine wpAny_bind (wpAny_pure ?_)
  show wpAny (model X.prog X.w) X.A (do rule "assign.swapped-stores"; let items ← unpackItems (.ref s1.heap.objs.size) 3 none; assignInOrder [fun v => bindName X.env z v, fun v => bindName X.env y v, fun v => bindName X.env x v] items.reverse; pure Flow.next) _ _ _
  refine wpAny_bind (wpAny_rule (wpAny_bind (unpackItems_tuple (items := #[u1, u2, u3]) (I.ok.hd hc) (IsTup.new s1.heap _) fun h' hx' => ?_)))
  have I3 := I2.kept (h' := h') (t' := s1.toks) fun b o e => hx' b o (Nat.ne_of_lt (Heap.lt_size e)) e
  show wpAny _ _ (assignInOrder [fun v => bindName X.env z v, fun v => bindName X.env y v, fun v => bindName X.env x v] [u3, u2, u1] >>= fun _ => pure Flow.next) _ _ _
  refine wpAny_bind (assignInOrder_cons (wpAny_bindName (store_ok I3 hN hk (.inl hz) rt (fun s2 I4 => ?_) (.inr hz))))
  refine assignInOrder_cons (wpAny_bindName (store_ok I4 hN hj (.inl hy) rw' (fun s3 I5 => ?_) (.inr hy)))
  refine assignInOrder_cons (wpAny_bindName (store_ok I5 hN hi (.inl hx) rv (fun s4 I6 => assignInOrder_nil (wpAny_pure ?_)) (.inr hx)))
  rw [List.set_comm _ _ (Ne.symm hij), List.set_comm _ _ (Ne.symm hik), List.set_comm _ _ (Ne.symm hjk)] at I6
  exact ⟨_, H1, I6, q1⟩
end V3

set_option Elab.async false
set_option linter.all false
set_option maxRecDepth 100000
/-! texts of reports read -/
namespace V3
open PySem L2 TL
abbrev sReadCount : Stmt := top 40
abbrev sReadCounts : Stmt := top 39
abbrev sRpRead : Stmt := inClass (top 35) 1
def wtL : List Str := ["-1", "0", "1"]
def wtV (w : Str) : Int := if w = "-1" then -1 else if w = "0" then 0 else 1
def cntW : List Str → Option Rw
  | [k, w, o] => if w ∈ wtL ∧ k ∈ kindL ∧ o ∈ whoseL then some (.ct k (wtV w) o) else none
  | _ => none
def cntOf (x : Str) : Option Rw := cntW (Txt.split x sp1)
theorem wtV_ok : ∀ w ∈ wtL, Wt (wtV w) ∧ num (wtV w) = w := by
  have z : ∀ w ∈ wtL, (decide (wtV w = -1) || decide (wtV w = 0) || decide (wtV w = 1)) = true ∧ num (wtV w) = w := by decide +kernel
  intro w hw
  obtain ⟨a, b⟩ := z w hw
  refine ⟨?_, b⟩
  simp only [Bool.or_eq_true, decide_eq_true_eq] at a
  unfold Wt
  omega
theorem wt_num {w : Int} (h : Wt w) : num w ∈ wtL ∧ wtV (num w) = w := by
  rcases h with rfl | rfl | rfl <;> decide +kernel
theorem cntW_some {ws : List Str} {m : Rw} (h : cntW ws = some m) : m.ok ∧ m.kind = 1 ∧ m.words = ws := by
  match ws, h with
  | [k, w, o], h =>
    have h : (if w ∈ wtL ∧ k ∈ kindL ∧ o ∈ whoseL then some (Rw.ct k (wtV w) o) else none) = some m := h
    by_cases c : w ∈ wtL ∧ k ∈ kindL ∧ o ∈ whoseL
    · rw [if_pos c] at h
      cases h
      obtain ⟨a, b⟩ := wtV_ok w c.1
      exact ⟨⟨c.2.1, a, c.2.2⟩, rfl, by show [k, num (wtV w), o] = _; rw [b]⟩
    · rw [if_neg c] at h
      cases h
  | [], h => cases h
  | [_], h => cases h
  | [_, _], h => cases h
  | _ :: _ :: _ :: _ :: _, h => cases h
theorem cntOf_some {x : Str} {m : Rw} (h : cntOf x = some m) : m.ok ∧ m.kind = 1 ∧ m.text = x := by
  obtain ⟨a, b, e⟩ := cntW_some h
  refine ⟨a, b, ?_⟩
  unfold Rw.text
  rw [e]
  exact StrLaws.join_split x sp1
theorem cntOf_text {m : Rw} (ok : m.ok) (kd : m.kind = 1) : cntOf m.text = some m := by
  unfold cntOf
  rw [rw_split ok]
  cases m with
  | lt _ _ _ _ => cases kd
  | ct k w o =>
    obtain ⟨a, b, c⟩ := ok
    obtain ⟨d, e⟩ := wt_num b
    show (if num w ∈ wtL ∧ k ∈ kindL ∧ o ∈ whoseL then some (Rw.ct k (wtV (num w)) o) else none) = _
    rw [if_pos ⟨d, a, c⟩, e]
/-- the first line that is no row, or is of a kind that has been -/
def badC : Nat → List Str → List Str → Option Nat
  | _, _, [] => none
  | j, seen, x :: r => match cntOf x with
    | none => some j
    | some m => if m.k1 ∈ seen then some j else badC (j + 1) (seen ++ [m.k1]) r
def linesC (t : Str) : List Str := if t.length = 0 then [] else Txt.split t nlS
theorem badC_none {j : Nat} {seen : List Str} {x : Str} {r : List Str} (h : cntOf x = none) : badC j seen (x :: r) = some j := by
  show (match cntOf x with | none => some j | some m => if m.k1 ∈ seen then some j else badC (j + 1) (seen ++ [m.k1]) r) = _
  rw [h]
theorem badC_in {j : Nat} {seen : List Str} {x : Str} {r : List Str} {m : Rw} (h : cntOf x = some m) (k : m.k1 ∈ seen) : badC j seen (x :: r) = some j := by
  show (match cntOf x with | none => some j | some m => if m.k1 ∈ seen then some j else badC (j + 1) (seen ++ [m.k1]) r) = _
  rw [h]
  show (if m.k1 ∈ seen then some j else badC (j + 1) (seen ++ [m.k1]) r) = _
  rw [if_pos k]
theorem badC_new {j : Nat} {seen : List Str} {x : Str} {r : List Str} {m : Rw} (h : cntOf x = some m) (k : m.k1 ∉ seen) : badC j seen (x :: r) = badC (j + 1) (seen ++ [m.k1]) r := by
  show (match cntOf x with | none => some j | some m => if m.k1 ∈ seen then some j else badC (j + 1) (seen ++ [m.k1]) r) = _
  rw [h]
  show (if m.k1 ∈ seen then some j else badC (j + 1) (seen ++ [m.k1]) r) = _
  rw [if_neg k]
/-- rows of unlike kinds are read -/
theorem badC_rows : ∀ {rs : List Rw} {j : Nat} {seen : List Str}, (∀ m ∈ rs, m.ok ∧ m.kind = 1) → (seen ++ rs.map Rw.k1).Nodup → badC j seen (rs.map Rw.text) = none
  | [], _, _, _, _ => rfl
  | m :: r, j, seen, ok, nd => by
    obtain ⟨a, b⟩ := ok m List.mem_cons_self
    have no : m.k1 ∉ seen := fun z => by
      rw [List.nodup_append] at nd
      exact nd.2.2 _ z _ List.mem_cons_self rfl
    rw [List.map_cons, badC_new (cntOf_text a b) no]
    refine badC_rows (fun n hn => ok n (List.mem_cons_of_mem _ hn)) ?_
    rw [List.append_assoc]
    exact nd
theorem take3C {α : Type} {l : List α} (h : l.length = 3) : ∃ a b c, l = [a, b, c] := by
  match l, h with
  | [a, b, c], _ => exact ⟨a, b, c, rfl⟩
theorem cntW_ne {l : List Str} (h : l.length ≠ 3) : cntW l = none := by
  match l, h with
  | [], _ => rfl
  | [_], _ => rfl
  | [_, _], _ => rfl
  | [_, _, _], h => exact absurd rfl h
  | _ :: _ :: _ :: _ :: _, _ => rfl
theorem wt_at : ∀ w ∈ wtL, ∃ i : Nat, i < 3 ∧ wtL[i]? = some w ∧ (∀ m, m < i → wtL[m]? ≠ some w) ∧ atI ([.int (-1), .int 0, .int 1] : List V) (i : Int) = some (.int (wtV w)) := by
  intro w hw
  have hw : w = "-1" ∨ w = "0" ∨ w = "1" := by simpa [wtL] using hw
  rcases hw with rfl | rfl | rfl
  · exact ⟨0, by decide, rfl, (fun m h => by omega), by decide +kernel⟩
  · refine ⟨1, by decide, rfl, (fun m h => ?_), by decide +kernel⟩
    obtain rfl : m = 0 := by omega
    decide +kernel
  · refine ⟨2, by decide, rfl, (fun m h => ?_), by decide +kernel⟩
    obtain rfl | rfl : m = 0 ∨ m = 1 := by omega
    · decide +kernel
    · decide +kernel
theorem rp_four {rs : List Rw} (ok : ∀ m ∈ rs, m.ok ∧ m.kind = 1) (nd : (rs.map Rw.k1).Nodup) : RpOk rs := by
  refine ⟨?_, ok, nd⟩
  have sub : ∀ x ∈ rs.map Rw.k1, x ∈ kindL := fun x hx => by
    obtain ⟨m, hm, rfl⟩ := List.mem_map.mp hx
    obtain ⟨a, b⟩ := ok m hm
    cases m with
    | lt _ _ _ _ => cases b
    | ct k w o => exact a.1
  have z := List.Nodup.length_le_of_subset nd sub
  rw [List.length_map] at z
  exact z
structure WwT (K : PySem.W.Frag) (mg : Str → Option Value) (BA WA : Addr) : Prop where
  g : mg "WEIGHT_WORDS" = some (.ref BA)
  o : ∃ o, K.lookup BA = some o ∧ o.cls = .type "tuple" ∧ o.dict = none
  t : ∀ H, SqT K H BA (wtL.map V.str)
def spPartA : Sp := fun vs H Q _ => ∃ (k : Str) (w : Int) (o : Str), vs = [.str k, .int w, .str o] ∧ Wt w ∧ ∀ v, ((k ∈ kindL ∧ o ∈ whoseL) ∧ v = .non ∨ ¬ (k ∈ kindL ∧ o ∈ whoseL) ∧ ∃ z, v = .str z) → Q v H
def spReadCount (c : Rc) : Sp := fun vs H Q _ => ∃ x : Str, vs = [.str x] ∧ x.length ≤ 100000 ∧ (cntOf x = none → ∀ H', Same H H' → Q .non H') ∧ ∀ m, cntOf x = some m → ∀ y H', Same H H' → RwAt c H' y m → Q y H'
def spReadCounts (c : Rc) (CT : Addr) : Sp := fun vs H Q E => ∃ t : Str, vs = [.str t] ∧ t.length ≤ 100000 ∧ (linesC t).length ≤ 1000 ∧
  (badC 0 [] (linesC t) = none → ∀ rs, RpOk rs → rs.map Rw.text = linesC t → ∀ D us H', H D = none → Same H H' → H' D = some (.lst us) → RwLs c H' us rs → Q (.ref D) H') ∧ ∀ i : Nat, badC 0 [] (linesC t) = some i → ErI CT H E (i : Int)
def spRpRead (K : PySem.W.Frag) (c : Rc) (RC CT : Addr) : Sp := fun vs H Q E => ∃ t : Str, vs = [.ref RC, .str t] ∧ t.length ≤ 100000 ∧ (linesC t).length ≤ 1000 ∧
  (badC 0 [] (linesC t) = none → ∀ rs, RpOk rs → rs.map Rw.text = linesC t → ∀ v H', Same H H' → RpA K c RC rs v H' → Q v H') ∧ ∀ i : Nat, badC 0 [] (linesC t) = some i → ErI CT H E (i : Int)
section
variable {K : PySem.W.Frag} {σ : L2.St} {ta : TE} {H0 : Hp} {x : Str} {L : List Str} {A : Addr} {neg : Bool}
theorem ev_inC (t : ∀ H, SqT K H A (L.map V.str)) (ha : EvV (Same H0) σ ta (isSv x)) : EvV (Same H0) σ (tOp (rIn K neg) ta (tC (.ref A))) (isBv (negB neg (decide (x ∈ L)))) := fun H Q w k =>
  ha H _ w fun a H1 s1 w1 e => by
    cases e
    exact ⟨A, _, rfl, .inr (t _), rfl, flat_strE _, k _ H1 s1 w1 (by rw [inV_strE]; rfl)⟩
end
section
variable {K : PySem.W.Frag} {σ : L2.St} {ta tb : TE} {t : TT} {H0 : Hp} {α : Type} {S : α → V → Hp → Prop} {as : List α}
theorem evn_if {b : Bool} (c : EvB (Same H0) σ t b) (h1 : b = true → EvNL H0 σ ta S as) (h2 : b = false → EvNL H0 σ tb S as) : EvNL H0 σ (tIf t ta tb) S as := fun H Q w k => c H _ w fun H1 s1 w1 => by
  cases b with
  | true => exact iteT (h1 rfl H1 Q w1 fun D us H' nD s hD l => k D us H' (s1.free nD) (s1.trans s) hD l)
  | false => exact iteF (h2 rfl H1 Q w1 fun D us H' nD s hD l => k D us H' (s1.free nD) (s1.trans s) hD l)
theorem ev_truS {x : Str} (n : x.length ≤ 100000) (ha : EvV (Same H0) σ ta (isSv x)) : EvB (Same H0) σ (fun σ H Q => ta σ H fun x H' => ∃ k, TruV K x H' k ∧ Q k H') (decide (x.length ≠ 0)) := fun H Q w k =>
  ha H _ w fun v H1 s1 w1 e => by
    cases e
    refine ⟨_, ⟨Nat.le_trans n (by decide), ?_⟩, k H1 s1 w1⟩
    by_cases z : x.length = 0
    · rw [z]
      rfl
    · rw [decide_eq_true z]
      exact (bne_iff_ne.mpr (by omega)).symm
theorem cnt_texts : ∀ {L : List Str} {ms : List Rw}, L.map cntOf = ms.map some → ms.map Rw.text = L
  | [], [], _ => rfl
  | [], _ :: _, h => by cases h
  | _ :: _, [], h => by cases h
  | x :: L, m :: ms, h => by
    simp only [List.map_cons, List.cons.injEq] at h
    rw [List.map_cons, (cntOf_some h.1).2.2, cnt_texts h.2]
end
section
variable {P : Program} {w : World} {K : PySem.W.Frag} {mg : Str → Option Value} {base : Heap} {KA WA OA BA : Addr}
theorem scReadCount : FnScope ["text", "words", "kind", "weight", "whose"] ["text"] (defScope sReadCount) := ⟨rfl, rfl, rfl, by decide +kernel, rfl, by decide +kernel, by decide +kernel⟩
theorem scReadCounts : FnScope ["text", "rows", "lines", "at", "line", "row", "earlier"] ["text"] (defScope sReadCounts) := ⟨rfl, rfl, rfl, by decide +kernel, rfl, by decide +kernel, by decide +kernel⟩
theorem scRpRead : FnScope ["cls", "text"] ["cls", "text"] (defScope sRpRead) := ⟨rfl, rfl, rfl, by decide +kernel, rfl, by decide +kernel, by decide +kernel⟩
theorem ok_partA {f : Addr} {fd : FuncData} (F : Fun K "wrong_part" "wrong_part" sWrongPart f fd) (T : CntT K mg KA WA OA) (cI : Cal P w K mg base CX0 "is_integer" 1 ["value"] spIntI) : FnOk P w K mg base CX0 2 f fd ["kind", "weight", "whose"] spPartA := by
  obtain ⟨fI, fdI, GI, mI, kI, bI⟩ := cI
  refine F.ok scPart (fun vs H Q E h => ?_) (fun cdv A outer s H vs Q E hr h => ?_)
  · obtain ⟨k, w, o, rfl, _⟩ := h
    rfl
  · obtain ⟨k, w, o, rfl, w1, q⟩ := h
    refine ⟨_, pss_cons (ps_if (pt_cmpR op_notIn_seq (pv 0) (pe_glob (v := .ref KA) rfl T.kinds rfl) rfl) (pss_one (ps_ret pe_str)) pss_nil)
      (pss_cons (ps_if (pt_not (PW.pt (pw_and (pt_val (pe_call GI hr rfl mI kI bI .nil pass0 (pa_cons (pv 1) pa_nil))) (pw_and1 (pt_cmpR op_in_seq (pv 1) (pe_glob (v := .ref WA) rfl T.weights rfl) rfl))))) (pss_one (ps_ret pe_str)) pss_nil)
      (pss_cons (ps_if (pt_cmpR op_notIn_seq (pv 2) (pe_glob (v := .ref OA) rfl T.whose rfl) rfl) (pss_one (ps_ret pe_str)) pss_nil)
      (pss_one (ps_ret pe_non)))), ?_⟩
    refine ⟨_, rfl, KA, _, rfl, .inr (T.tK _), rfl, flat_strs _, _, rfl, ?_⟩
    rw [inV_str]
    by_cases k1 : k ∈ kindL
    case neg =>
      rw [decide_eq_false k1]
      exact iteT (q _ (.inr ⟨fun z => k1 z.1, _, rfl⟩))
    rw [decide_eq_true k1]
    refine iteF ⟨_, rfl, w, rfl, _, rfl, iteT ⟨_, rfl, WA, _, rfl, .inr (T.tW _), rfl, rfl, _, rfl, ?_⟩⟩
    have z : inV (.int w) [.int (-1), .int 0, .int 1] = true := by
      rcases w1 with rfl | rfl | rfl <;> decide +kernel
    have z2 : (if false = true then !inV (V.int w) [.int (-1), .int 0, .int 1] else inV (V.int w) [.int (-1), .int 0, .int 1]) = true := by rw [if_neg Bool.false_ne_true, z]
    rw [z2]
    refine iteF ⟨_, rfl, OA, _, rfl, .inr (T.tO _), rfl, flat_strs _, _, rfl, ?_⟩
    rw [inV_str]
    by_cases o1 : o ∈ whoseL
    · rw [decide_eq_true o1]
      exact iteF (q _ (.inl ⟨⟨k1, o1⟩, rfl⟩))
    · rw [decide_eq_false o1]
      exact iteT (q _ (.inr ⟨fun z => o1 z.2, _, rfl⟩))
theorem ok_readCount {f : Addr} {c : Rc} {fd : FuncData} (F : Fun K "read_count" "read_count" sReadCount f fd) (zl : mg "len" = none) (T : CntT K mg KA WA OA) (B : WwT K mg BA WA) (tWo : ∃ o, K.lookup WA = some o ∧ o.cls = .type "tuple" ∧ o.dict = none) (cW : Cal P w K mg base CX0 "wrong_part" 2 ["kind", "weight", "whose"] spPartA) (M : MkR P w K mg base "Count" ["self", "kind", "weight", "whose"] c.C 3 (spCInit c)) :
    FnOk P w K mg base CX0 5 f fd ["text"] (spReadCount c) := by
  obtain ⟨fW, fdW, GW, mW, kW, bW⟩ := cW
  obtain ⟨f1, fd1, G1, M1, b1⟩ := M.ini
  refine F.ok scReadCount (fun vs H Q E h => ?_) (fun cdv A outer s H vs Q E hr h => ?_)
  · obtain ⟨x, rfl, _⟩ := h
    rfl
  · obtain ⟨x, rfl, n, q0, q1⟩ := h
    refine ⟨_, (pss_cons (ps_set (i := 1) scReadCount.nd rfl (Or.inl rfl) (pe_split (pv 0) pe_str))
  (pss_cons (ps_if (PW.pt (pw_or (pt_cmpR op_ne (pe_callB call_len_seq (by rfl) zl PySem.boot_len (pa_cons (pv 1) pa_nil)) pe_int (nomark _)) (pw_or1 (pt_cmpR op_notIn_seq (pe_ix ix_list (pv 1) pe_int (fun _ _ => rfl)) (pe_glob (v := .ref BA) rfl B.g rfl) rfl)))) (pss_one (ps_ret pe_non)) pss_nil)
  (pss_cons (ps_par3 (i := 2) (j := 3) (k := 4) rfl scReadCount.nd rfl rfl rfl (by decide) (by decide) (by decide) rfl rfl rfl (pa_cons (pe_ix ix_list (pv 1) pe_int (fun _ _ => rfl)) (pa_cons (pe_ix ix_tup (pe_glob (v := .ref WA) rfl T.weights rfl) (pe_bm PySem.F.plainAttrs_tuple PySem.F.slot_tuple_index PySem.F.type_tuple_index mt_tup_index (pe_glob (v := .ref BA) rfl B.g rfl) (pa_cons (pe_ix ix_list (pv 1) pe_int (fun _ _ => rfl)) pa_nil)) (fun _ _ => rfl)) (pa_cons (pe_ix ix_list (pv 1) pe_int (fun _ _ => rfl)) pa_nil))) (by rfl))
  (pss_one (ps_ret (pe_ifExp (pt_cmpR op_isN (pe_call GW (hr.mono (by decide)) rfl mW kW bW .nil pass0 (pa_cons (pv 2) (pa_cons (pv 3) (pa_cons (pv 4) pa_nil)))) pe_non (nomark _))
    (pe_make (E := E0) M1 G1 hr rfl M.g b1 .nil pass0 (pa_cons (pv 2) (pa_cons (pv 3) (pa_cons (pv 4) pa_nil)))) pe_non)))))), ?_⟩
    try dsimp only [gName, tSeq, tAsg]
    refine evn_split (H0 := H) (y := sp1) n (by decide +kernel) (ev_v rfl rfl) ev_str H _ (Same.refl _) fun D us H1 nD s1 hD l => ?_
    have hL : isSs (Txt.split x sp1) (.ref D) H1 := ⟨D, us, rfl, hD, l⟩
    have er : cntOf x = cntW (Txt.split x sp1) := rfl
    generalize Txt.split x sp1 = ws at hL er l
    by_cases l3 : ws.length = 3
    case neg =>
      refine if_t (H0 := H1) (Same.refl _) (ev_orB (p := true) (q := true) (ev_bool (ev_test (ev_neI (j := 3) (ev_lenL (K := K) (ev_v (i := 1) rfl hL)) ev_int)) (by rw [decide_eq_false (fun z => l3 (by omega))]; rfl)) (fun e => by cases e)) fun H2 s2 => ?_
      exact q0 (by rw [er, cntW_ne l3]) _ (s1.trans s2)
    obtain ⟨a, b, d, rfl⟩ := take3C l3
    have e3 : cntW [a, b, d] = if b ∈ wtL ∧ a ∈ kindL ∧ d ∈ whoseL then some (.ct a (wtV b) d) else none := rfl
    rw [e3] at er
    have x1 : EvV (Same H1) [some (.str x), some (.ref D), none, none, none] (tOp (rIxL K) (tVar 1) (tC (.int 1))) (isSv b) := ev_ixL (n := 1) rfl (ev_v rfl hL) ev_int
    refine if_b (H0 := H1) (b := negB true (decide (b ∈ wtL))) (Same.refl _) (ev_orB (p := false) (ev_bool (ev_test (ev_neI (j := 3) (ev_lenL (K := K) (ev_v (i := 1) rfl hL)) ev_int)) (by rfl)) fun _ => ev_test (ev_inC (K := K) (neg := true) B.t x1)) (fun e H2 s2 => ?_) fun e H2 s2 => ?_
    · have nb : b ∉ wtL := fun z => by
        rw [decide_eq_true z] at e
        cases e
      rw [if_neg (fun z => nb z.1)] at er
      exact q0 er _ (s1.trans s2)
    · have hb : b ∈ wtL := Decidable.byContradiction fun z => by
        rw [decide_eq_false z] at e
        cases e
      have S2 := s1.trans s2
      have hL2 := up s2 hL
      have hD2 := s2 _ _ hD
      have l2 := l.toStrs
      subst l2
      obtain ⟨i, i3, ei, fi, ai⟩ := wt_at b hb
      refine ev_ixL (H0 := H2) (K := K) (n := 0) (a := a) rfl (ev_v (i := 1) rfl hL2) ev_int H2 _ (Same.refl _) fun v3 H3 s3 _ e3 => ?_
      cases e3
      have hD3 := s3 _ _ hD2
      have hL3 := up s3 hL2
      refine ⟨.inr (.inl ⟨rfl, B.o⟩), _, rfl, D, _, 1, _, rfl, rfl, SqL.of hD3, rfl, BA, wtL, b, i, rfl, rfl, B.t _, ei, fi, WA, _, (i : Int), _, rfl, rfl, T.tW _, ai, ?_⟩
      refine ev_ixL (H0 := H3) (K := K) (n := 2) (a := d) rfl (ev_v (i := 1) rfl hL3) ev_int H3 _ (Same.refl _) fun v4 H4 s4 _ e4 => ?_
      cases e4
      have S4 := (S2.trans s3).trans s4
      refine ⟨_, _, _, rfl, ?_⟩
      refine ⟨_, rfl, _, rfl, _, rfl, a, wtV b, d, rfl, (wtV_ok b hb).1, fun v hv => ?_⟩
      rcases hv with ⟨c1, rfl⟩ | ⟨c1, z, rfl⟩
      · rw [if_pos ⟨hb, c1⟩] at er
        refine ⟨rfl, _, rfl, iteT ?_⟩
        refine ev_cnt (c := c) (H0 := H4) (k := a) (w := wtV b) (o := d) ⟨c1.1, (wtV_ok b hb).1, c1.2⟩ (ev_v rfl rfl) (ev_v rfl rfl) (ev_v rfl rfl) H4 _ (Same.refl _) fun v5 H5 s5 _ a5 => ?_
        exact q1 _ er _ _ (S4.trans s5) a5
      · rw [if_neg (fun z => c1 z.2)] at er
        refine ⟨rfl, _, rfl, iteF ?_⟩
        exact q0 er _ S4
theorem ok_readCounts {f CT : Addr} {c : Rc} {fd : FuncData} (F : Fun K "read_counts" "read_counts" sReadCounts f fd) (ze : mg "enumerate" = none) (L : CntC K c) (N : ItTxt P w K mg base CT) (cR : Cal P w K mg base CX0 "read_count" 5 ["text"] (spReadCount c)) : FnOk P w K mg base (L2.CX P w) 6 f fd ["text"] (spReadCounts c CT) := by
  obtain ⟨fR, fdR, GR, mR, kR, bR⟩ := cR
  obtain ⟨fI, fdI, GI, iI, tI, bI⟩ := N.ini
  refine F.okX scReadCounts (fun vs H Q E h => ?_) (fun cdv A outer s H vs Q E hr h => ?_)
  · obtain ⟨t, rfl, _⟩ := h
    rfl
  · obtain ⟨t, rfl, n, ln, q0, q1⟩ := h
    refine ⟨_, (pss_cons (ps_set (i := 1) scReadCounts.nd rfl (Or.inl rfl) (pe_lst pa_nil))
  (pss_cons (ps_set (i := 2) scReadCounts.nd rfl (Or.inl rfl) (pe_ifExp (pt_truth (pv 0) (by intro _; rfl)) (pe_split (pv 0) pe_str) (pe_lst pa_nil)))
  (pss_cons (ps_for (passes_of rfl) rfl (pi_enum (by rfl) ze (pa_cons (pv 2) pa_nil)) (pg_tup rfl (pgs_cons (pg_name (i := 3) scReadCounts.nd rfl (Or.inl rfl)) (pgs_cons (pg_name (i := 4) scReadCounts.nd rfl (Or.inl rfl)) pgs_nil)))
  (pss_cons (ps_set (i := 5) scReadCounts.nd rfl (Or.inl rfl) (pe_call GR hr rfl mR kR bR .nil pass0 (pa_cons (pv 4) pa_nil)))
  (pss_cons (ps_if (PW.pt (pw_or (pt_cmpR op_isN (pv 5) pe_non (nomark _)) (pw_or1 (pt_cmpR op_in_seq (pe_fld (pv 5) rfl) (pe_lc (own := [("earlier", 6)]) (g := gName 6) (tt := tYes) (te := tFld K (tVar 6) "kind") (by rfl) scReadCounts.nd (pi_list (pv 1)) (blkOk_by (own := [("earlier", 6)]) (N := ["text", "rows", "lines", "at", "line", "row", "earlier"]) (sc := defScope sReadCounts) (by decide +kernel)) (fun _ _ _ _ _ => (pg_name (i := 6) scReadCounts.nd rfl (Or.inl rfl))) (fun _ _ _ _ _ => pts_nil) (fun _ _ _ _ _ => (pe_fld (pv 6) rfl))) rfl)))) (pss_one (ps_raise rfl (takes_of rfl rfl rfl rfl) (pmk_oex N.o iI tI GI (hr.mono (by decide)) bI .nil pass0 rfl N.g (by exact (pa_cons (pv 3) pa_nil))))) pss_nil)
  (pss_one (ps_expr (pe_bm PySem.F.plainAttrs_list PySem.F.slot_list_append PySem.F.type_list_append mt_append (pv 1) (pa_cons (pv 5) pa_nil)))))))
  (pss_one (ps_ret (pv 1)))))), ?_⟩
    try dsimp only [gName, tSeq, tAsg, tNext]
    refine ⟨(by show (0 : Nat) ≤ sizeLine; exact Nat.zero_le _), fun D nD => ?_⟩
    have hD : upd H D (.lst []) D = some (.lst []) := upd_same
    have S1 : Same H (upd H D (.lst [])) := Same.new nD
    generalize upd H D (.lst []) = H1 at S1 hD ⊢
    have wl : ∀ x ∈ linesC t, x.length ≤ 100000 := fun x hx => by
      unfold linesC at hx
      split at hx
      · cases hx
      · have a := wgt_mem hx
        have b := wgt_split t nlS (by decide +kernel)
        omega
    have eL : ∀ {σ : L2.St}, σ[0]? = some (some (.str t)) → EvNL H1 σ (tIf (fun σ H Q => tVar 0 σ H fun x H' => ∃ k, TruV K x H' k ∧ Q k H') (tM1 (fun x xs H Q => ∃ a b, x = .str a ∧ xs = [.str b] ∧ (b.length == 0) = false ∧ a.length + 2 ≤ sizeLine ∧ rNewStrs (Txt.split a b) H Q) (tVar 0) (tC (.str nlS))) (tLst tNil)) isSv (linesC t) := fun h0 =>
      evn_if (b := decide (t.length ≠ 0)) (ev_truS n (ev_v h0 rfl)) (fun e => by
        unfold linesC
        rw [if_neg (of_decide_eq_true e)]
        exact evn_split n (by decide +kernel) (ev_v h0 rfl) ev_str) (fun e => by
        unfold linesC
        rw [if_pos (Decidable.byContradiction (of_decide_eq_false e))]
        exact evn_lst evl_nil (by decide))
    refine eL rfl H1 _ (Same.refl _) fun p us H2 np s2 hp l => ?_
    have e := l.toStrs
    subst e
    have S2 := S1.trans s2
    have hD2 := s2 _ _ hD
    have pD : p ≠ D := fun e => by rw [e, hD] at np; cases np
    generalize linesC t = LL at ln q0 q1 wl hp l
    have lm : (LL.map V.str).length = LL.length := List.length_map ..
    try dsimp only [gName, tSeq, tAsg, tNext]
    refine ⟨_, rfl, p, _, rfl, SqL.of hp, ?_⟩
    refine for_it (walk_enum (K := K) (a := p) (xs := LL.map V.str)) (fun i σ Hh => (∃ o3 o4 o5 o6, σ = [some (.str t), some (.ref D), some (.ref p), o3, o4, o5, o6]) ∧ Same H Hh ∧ Hh p = some (.lst (LL.map V.str)) ∧ ∃ us ms, Hh D = some (.lst us) ∧ RwLs c Hh us ms ∧ (LL.take i).map cntOf = ms.map some ∧ (ms.map Rw.k1).Nodup ∧ badC 0 [] LL = badC i (ms.map Rw.k1) (LL.drop i)) ⟨⟨_, _, _, _, rfl⟩, S2, hp, [], [], hD2, Ls.nil, rfl, List.nodup_nil, rfl⟩ (fun i σ Hh _ q => SqL.of q.2.2.1) ?_ ?_
    · rintro i v σ1 Hh Hh' hi ⟨⟨o3, o4, o5, o6, rfl⟩, s3, hp3, us, ms, hD3, rl, em, nd, bf⟩ ⟨T, x, y, rfl, nT, rfl, ex, ey⟩
      obtain rfl := (Option.some.inj ex)
      rw [lm] at hi
      have hx : LL[i]? = some LL[i] := List.getElem?_eq_getElem hi
      have ey2 : y = .str LL[i] := by
        dsimp only at ey
        rw [List.getElem?_map, hx] at ey
        exact (Option.some.inj ey).symm
      subst ey2
      have dr : LL.drop i = LL[i] :: LL.drop (i + 1) := List.drop_eq_getElem_cons hi
      have xm : LL[i] ∈ LL := List.getElem_mem hi
      generalize LL[i] = x at hx dr xm ⊢
      refine ⟨T, _, rfl, SqT.of upd_same, rfl, _, _, rfl, ⟨_, _, rfl, rfl, ?_⟩⟩
      have sT : Same Hh (upd Hh T (.tup [.int (i : Nat), .str x])) := Same.new nT
      generalize upd Hh T (.tup [.int (i : Nat), .str x]) = H3 at sT ⊢
      rw [dr] at bf
      have lms : ms.length = i := by
        have z := congrArg List.length em
        rw [List.length_map, List.length_map, List.length_take, Nat.min_eq_left (by omega)] at z
        exact z.symm
      have okm : ∀ m ∈ ms, m.ok ∧ m.kind = 1 := fun m hm => by
        have z : some m ∈ (LL.take i).map cntOf := by
          rw [em]
          exact List.mem_map.mpr ⟨m, hm, rfl⟩
        obtain ⟨y, _, e⟩ := List.mem_map.mp z
        obtain ⟨a, b, _⟩ := cntOf_some e
        exact ⟨a, b⟩
      try dsimp only [gName, tSeq, tAsg, tNext]
      refine ⟨_, rfl, x, rfl, wl _ xm, fun e H4 s4 => ?_, fun m e y H4 s4 hy => ?_⟩
      · have S4 := (s3.trans sT).trans s4
        have bb : badC 0 [] LL = some i := by rw [bf, badC_none e]
        try dsimp only [gName, tSeq, tAsg, tNext]
        refine if_t (H0 := H4) (Same.refl _) (ev_orB (p := true) (q := true) (ev_bool (ev_test (ev_isN (u := .non) (ev_v rfl rfl))) (by rfl)) (fun e => by cases e)) fun H5 s5 => ?_
        exact ⟨_, rfl, (by show 1 ≤ 1000; decide), er_readI (fun d H6 s6 hd => q1 i bb d H6 ((S4.trans s5).trans s6) hd)⟩
      · have S4 := (s3.trans sT).trans s4
        have sD := sT.trans s4
        have hD4 := sD _ _ hD3
        have hp4 := sD _ _ hp3
        have rl4 := rl.same sD
        obtain ⟨mo, mk, mt⟩ := cntOf_some e
        obtain ⟨z0, dz, rfl, hz0⟩ := id hy
        try dsimp only [gName, tSeq, tAsg, tNext]
        refine if_b (H0 := H4) (b := decide (m.k1 ∈ ms.map Rw.k1)) (Same.refl _) (ev_orB (p := false) (q := decide (m.k1 ∈ ms.map Rw.k1)) (ev_bool (ev_test (ev_isN (u := .ref z0) (ev_v rfl rfl))) (decide_eq_false (fun e => nomatch e))) fun _ => ev_test (ev_inL (neg := false) (ev_rowK L mk (ev_v (i := 5) rfl hy)) (evn_lcY (S := RwS c) (S' := isSv) Rw.k1 (evi_list (ev_v (R := isL (RwS c) ms) (i := 1) rfl ⟨D, us, rfl, hD4, rl4⟩)) (by omega) (fun m2 hm2 u G sG r => ev_rowK L (okm m2 hm2).2 (ev_v (i := 6) rfl r)) (fun _ => rfl)).ev)) (fun e2 H5 s5 => ?_) fun e2 H5 s5 => ?_
        · have bb : badC 0 [] LL = some i := by rw [bf, badC_in e (of_decide_eq_true e2)]
          exact ⟨_, rfl, (by show 1 ≤ 1000; decide), er_readI (fun d H6 s6 hd => q1 i bb d H6 ((S4.trans s5).trans s6) hd)⟩
        · have hD5 := s5 _ _ hD4
          have hp5 := s5 _ _ hp4
          have kl : Keep H5 (upd H5 D (.lst (us ++ [.ref z0]))) := Keep.lst hD5
          refine ⟨_, rfl, .inl ⟨rfl, _, SqL.of hD5⟩, _, rfl, D, us, _, rfl, rfl, hD5, Nat.lt_of_le_of_lt (m := 1000) (by rw [rl.1]; omega) (by decide), ?_⟩
          refine ⟨⟨_, _, _, _, rfl⟩, fun b o e => ?_, ?_, us ++ [.ref z0], ms ++ [m], upd_same, ((rl4.same s5).keep kl).push ((hy.same s5).keep kl), ?_, ?_, ?_⟩
          · rw [upd_ne (ne_of_none e nD)]
            exact s5 b o (S4 b o e)
          · rw [upd_ne pD]
            exact hp5
          · rw [take_nxt hx, List.map_append, em, List.map_append, List.map_cons, List.map_cons, e]
            rfl
          · rw [List.map_append, List.nodup_append]
            refine ⟨nd, by simp, fun a ha b hb => ?_⟩
            simp only [List.map_cons, List.map_nil, List.mem_singleton] at hb
            rw [hb]
            exact fun z => of_decide_eq_false e2 (z ▸ ha)
          · rw [bf, badC_new e (of_decide_eq_false e2), List.map_append]
            rfl
    · rintro σ1 H3 ⟨⟨o3, o4, o5, o6, rfl⟩, s3, hp3, us, ms, hD3, rl, em, nd, bf⟩
      rw [lm, List.drop_length] at bf
      rw [lm, List.take_length] at em
      have okm : ∀ m ∈ ms, m.ok ∧ m.kind = 1 := fun m hm => by
        have z : some m ∈ LL.map cntOf := by
          rw [em]
          exact List.mem_map.mpr ⟨m, hm, rfl⟩
        obtain ⟨y, _, e⟩ := List.mem_map.mp z
        obtain ⟨a, b, _⟩ := cntOf_some e
        exact ⟨a, b⟩
      exact ⟨_, rfl, q0 bf ms (rp_four okm nd) (cnt_texts em) D us H3 nD s3 hD3 rl⟩
theorem ok_rpRead {f RC CT : Addr} {c : Rc} {fd : FuncData} (F : Fun K "read" "Report.read" sRpRead f fd) (M : MkRp P w K mg base c RC) (cC : Cal P w K mg base (L2.CX P w) "read_counts" 6 ["text"] (spReadCounts c CT)) : FnOk P w K mg base (L2.CX P w) 7 f fd ["cls", "text"] (spRpRead K c RC CT) := by
  obtain ⟨fC, fdC, GC, mC, kC, bC⟩ := cC
  obtain ⟨fR, fdR, GR, MR, bR⟩ := M.ini
  refine F.okX scRpRead (fun vs H Q E h => ?_) (fun cdv A outer s H vs Q E hr h => ?_)
  · obtain ⟨t, rfl, _⟩ := h
    rfl
  · obtain ⟨t, rfl, n, ln, q0, q1⟩ := h
    refine ⟨_, (pss_one (ps_ret (pe_makeL (E := E0) (i := 0) MR GR (hr.mono (by decide)) rfl (Or.inl rfl) bR .nil pass0 (pa_cons (pe_call (E := E) GC hr rfl mC kC bC .nil (passes_call (takes_of rfl rfl rfl rfl) fun _ _ _ _ z => z) (pa_cons (pv 1) pa_nil)) pa_nil)))), ?_⟩
    refine ⟨rfl, _, rfl, t, rfl, n, ln, fun bad rs ok e D us H1 nD s1 hD l => ?_, q1⟩
    intro x dx nx ndx ne
    have z0 : Same H1 (upd (upd H1 dx (.own x)) x (.ins RC dx [])) := made_same nx ndx
    refine ⟨x, dx, D, us, rs, rfl, upd_same, .inl (z0 _ _ hD), RwLs.same l z0, ok, fun H' sx ra => ⟨rfl, ?_⟩⟩
    have z : Same H1 H' := fun c1 o1 e => sx c1 o1 (ne_of_none e nx) (z0 c1 o1 e)
    exact q0 bad rs ok e _ H' (s1.trans z) ra
end
end V3

set_option Elab.async false
set_option linter.all false
set_option maxRecDepth 100000
/-! readings that draw: all but the box stays -/
namespace V3
open PySem L2 TL
theorem Pre.keep' {b : Addr} {H H' : Hp} (hb : ∃ u v, H b = some (V3.box u v)) (s : Pre b H H') : Keep H H' := by
  obtain ⟨u, v, hb⟩ := hb
  exact Keep.pre hb s.1
def isLb {α : Type} (b : Addr) (S : α → V → Hp → Prop) (as : List α) : V → Hp → Prop := fun v H => ∃ D us, v = .ref D ∧ D ≠ b ∧ H D = some (.lst us) ∧ Ls (fun u a => S a u H) us as
/-- stays where only the box at b changes -/
class StP (b : Addr) (R : V → Hp → Prop) : Prop where
  st : ∀ v H0 H H', Pre b H0 H → Pre b H H' → R v H → R v H'
theorem Pre.bx {b : Addr} {H H' : Hp} (s : Pre b H H') : ∃ u v, H' b = some (V3.box u v) := by
  obtain ⟨_, u, v, _, e⟩ := s
  exact ⟨u, v, e⟩
theorem Pre.same {b : Addr} {H0 H H' : Hp} (p : Pre b H0 H) (s : Same H H') : Pre b H H' := by
  obtain ⟨_, u, v, ok, e⟩ := p
  exact (Pre.start ok e).then s
theorem Pre.id {b : Addr} {H0 H : Hp} (p : Pre b H0 H) : Pre b H H := p.same (Same.refl H)
theorem Pre.ne {b D : Addr} {H0 H : Hp} (p : Pre b H0 H) (n : H D = Option.none) : D ≠ b := fun e => by
  obtain ⟨u, v, hb⟩ := p.bx
  rw [e, hb] at n
  cases n
instance {b : Addr} {R : V → Hp → Prop} [i : StL R] : StP b R := ⟨fun v H0 H H' p s r => i.st v H H' (s.keep' p.bx) r⟩
instance {α : Type} {b : Addr} {S : α → V → Hp → Prop} {as : List α} [∀ a, StL (S a)] : StP b (isLb b S as) := ⟨fun v H0 H H' p s ⟨D, us, e, ne, h, l⟩ => ⟨D, us, e, ne, s.1 _ _ ne h, l.imp fun _ _ r => upL (s.keep' p.bx) r⟩⟩
theorem upP {b : Addr} {R : V → Hp → Prop} [i : StP b R] {v : V} {H0 H H' : Hp} (p : Pre b H0 H) (s : Pre b H H') (h : R v H) : R v H' := i.st v H0 H H' p s h
def EvP (b : Addr) (H0 : Hp) (σ : L2.St) (te : TE) (R : V → Hp → Prop) : Prop := ∀ H Q, Pre b H0 H → (∀ v H', Pre b H H' → R v H' → Q v H') → te σ H Q
/-- a number drawn -/
def isDr (m : Int) : V → Hp → Prop := fun v _ => ∃ d, v = .int d ∧ 0 ≤ d ∧ d < m
def isOne {α : Type} (S : α → V → Hp → Prop) (as : List α) : V → Hp → Prop := fun v H => ∃ a ∈ as, S a v H
instance {m : Int} : StL (isDr m) := ⟨fun _ _ _ _ h => h⟩
instance {α : Type} {S : α → V → Hp → Prop} {as : List α} [∀ a, StL (S a)] : StL (isOne S as) := ⟨fun _ _ _ s ⟨a, m, h⟩ => ⟨a, m, upL s h⟩⟩
section
variable {K : PySem.W.Frag} {σ : L2.St} {ta tb te tl : TE} {ts : TA} {H0 : Hp} {R Ra Rb : V → Hp → Prop} {b : Addr} {i : Nat} {m : Int}
theorem evp_pure (h : ∀ H, Pre b H0 H → EvV (Same H) σ te R) : EvP b H0 σ te R := fun H Q p k => h H p H Q (Same.refl H) fun v H' s _ r => k v H' (p.same s) r
theorem evp_choose (hi : σ[i]? = some (some (.ref b))) (m1 : 1 ≤ m) (m2 : m ≤ 10000000000000000000000000000000000000000) (hm : EvP b H0 σ te (isIv m)) : EvP b H0 σ (tCall spChoose [] E0 (tCons (tVar i) (tCons te tNil))) (isDr m) := fun H Q p k =>
  ⟨_, hi, hm H _ p fun v H1 p1 e => by
    cases e
    obtain ⟨_, u, w, ok, hb⟩ := id p1
    exact ⟨b, u, w, m, rfl, hb, ok, m1, m2, fun d u' v' d0 d1 ok' => k _ _ (p1.trans (Pre.box ok')) ⟨d, rfl, d0, d1⟩⟩⟩
theorem evp_one {α : Type} {S : α → V → Hp → Prop} [∀ a, StL (S a)] {as : List α} (hi : σ[i]? = some (some (.ref b))) (n1 : 1 ≤ as.length) (n2 : as.length ≤ 1000) (hl : EvP b H0 σ tl (isLb b S as)) : EvP b H0 σ (tCall (spOneOf K) [] E0 (tCons (tVar i) (tCons tl tNil))) (isOne S as) := fun H Q p k =>
  ⟨_, hi, hl H _ p fun v H1 p1 hv => by
    obtain ⟨D, us, rfl, ne, hD, l⟩ := hv
    obtain ⟨_, u, w, ok, hb⟩ := id p1
    refine ⟨b, D, u, w, us, rfl, hb, ok, ne, SqL.of hD, by rw [l.1]; exact n1, by rw [l.1]; exact n2, fun x u' v' hx ok' => ?_⟩
    have p2 : Pre b H1 (upd H1 b (box u' v')) := Pre.box ok'
    obtain ⟨j, hj⟩ := List.getElem?_of_mem hx
    obtain ⟨a, ea, r⟩ := Ls.get l hj
    exact k x _ (p1.trans p2) ⟨a, List.mem_of_getElem? ea, upL (p2.keep' p1.bx) r⟩⟩
/-- a list display -/
theorem evp_lst {α : Type} {S : α → V → Hp → Prop} [∀ a, St (S a)] {as : List α} (h : ∀ H, Pre b H0 H → EvL H σ ts S as) (n : as.length ≤ 1000) : EvP b H0 σ (tLst ts) (isLb b S as) := fun H Q p k =>
  evn_lst (h H p) n H Q (Same.refl H) fun D us H' nD s hD l => k _ H' (p.same s) ⟨D, us, rfl, Pre.ne p nD, hD, l⟩
theorem evp_nl {α : Type} {S : α → V → Hp → Prop} {as : List α} (h : ∀ H, Pre b H0 H → EvNL H σ te S as) : EvP b H0 σ te (isLb b S as) := fun H Q p k =>
  h H p H Q (Same.refl H) fun D us H' nD s hD l => k _ H' (p.same s) ⟨D, us, rfl, Pre.ne p nD, hD, l⟩
theorem evp_o {r : R2} [i : StP b Ra] (ha : EvP b H0 σ ta Ra) (hb : EvP b H0 σ tb Rb) (h : ∀ x y H Q, Pre b H0 H → Ra x H → Rb y H → (∀ v H', Pre b H H' → R v H' → Q v H') → r x y H Q) : EvP b H0 σ (tOp r ta tb) R := fun H Q p k =>
  ha H _ p fun x H1 p1 rx => hb H1 _ (p.trans p1) fun y H2 p2 ry => h x y H2 Q ((p.trans p1).trans p2) (upP p1 p2 rx) ry fun v H' p3 rv => k v H' ((p1.trans p2).trans p3) rv
theorem evp_to {R' : V → Hp → Prop} (h : EvP b H0 σ te R) (e : ∀ v H, R v H → R' v H) : EvP b H0 σ te R' := fun H Q p k => h H Q p fun v H' s r => k v H' s (e v H' r)
theorem isLb.L {α : Type} {S : α → V → Hp → Prop} {as : List α} {v : V} {H : Hp} (h : isLb b S as v H) : isL S as v H := by
  obtain ⟨D, us, e, _, hD, l⟩ := h
  exact ⟨D, us, e, hD, l⟩
end
end V3

set_option Elab.async false
set_option linter.all false
set_option maxRecDepth 100000
/-! numbers drawn, within bounds -/
namespace V3
open PySem L2 TL
def isWh (P : Int → Prop) : V → Hp → Prop := fun v _ => ∃ a, v = .int a ∧ P a
instance {P : Int → Prop} : StL (isWh P) := ⟨fun _ _ _ _ h => h⟩
/-- a test whose answer stays unknown -/
def EvPB (b : Addr) (H0 : Hp) (σ : L2.St) (t : TT) : Prop := ∀ H Q, Pre b H0 H → (∀ r H', Pre b H H' → Q r H') → t σ H Q
section
variable {K : PySem.W.Frag} {σ : L2.St} {ta tb te tl : TE} {t : TT} {H0 : Hp} {R : V → Hp → Prop} {b : Addr} {i : Nat} {m k : Int} {P P' : Int → Prop}
theorem evp_if (c : EvPB b H0 σ t) (h1 : EvP b H0 σ ta R) (h2 : EvP b H0 σ tb R) : EvP b H0 σ (tIf t ta tb) R := fun H Q p k => c H _ p fun r H' p1 => by
  cases r with
  | true => exact iteT (h1 H' Q (p.trans p1) fun v H2 p2 r => k v H2 (p1.trans p2) r)
  | false => exact iteF (h2 H' Q (p.trans p1) fun v H2 p2 r => k v H2 (p1.trans p2) r)
theorem evpb_eq (h : EvP b H0 σ te (isWh P)) : EvPB b H0 σ (tTest (tOp rEq te (tC (.int k)))) := fun H Q p kk => h H _ p fun v H1 p1 ⟨a, ev, _⟩ => by
  cases ev
  exact ⟨rfl, _, rfl, kk _ _ p1⟩
theorem evpb_lt (h : EvP b H0 σ te (isWh P)) : EvPB b H0 σ (tTest (tOp (rI0 fun i j => .bl (decide (i < j))) te (tC (.int k)))) := fun H Q p kk => h H _ p fun v H1 p1 ⟨a, ev, _⟩ => by
  cases ev
  exact ⟨_, _, rfl, rfl, _, rfl, kk _ _ p1⟩
theorem ev_notN {u : V} (ha : EvV (Same H0) σ ta (isVv u)) : EvV (Same H0) σ (tOp (fun x y H Q => y = V.non ∧ Q (.bl (!decide (x = .non))) H) ta (tC .non)) (isBv (!decide (u = .non))) :=
  ev_o (Ra := isVv u) (Rb := isVv .non) ha ev_c fun a b H Q w ea eb k => by
    cases ea
    cases eb
    exact ⟨rfl, k _ H (Same.refl H) rfl⟩
theorem evp_w (h : EvP b H0 σ te (isIv m)) (c : P m) : EvP b H0 σ te (isWh P) := evp_to h fun v H e => ⟨m, e, c⟩
theorem evp_imp (h : EvP b H0 σ te (isWh P)) (c : ∀ a, P a → P' a) : EvP b H0 σ te (isWh P') := evp_to h fun v H ⟨a, e, r⟩ => ⟨a, e, c a r⟩
theorem evp_chooseW (hi : σ[i]? = some (some (.ref b))) (m2 : m ≤ 10000000000000000000000000000000000000000) (hm : EvP b H0 σ te (isWh fun x => 1 ≤ x ∧ x ≤ m)) : EvP b H0 σ (tCall spChoose [] E0 (tCons (tVar i) (tCons te tNil))) (isWh fun d => 0 ≤ d ∧ d < m) := fun H Q p k =>
  ⟨_, hi, hm H _ p fun v H1 p1 e => by
    obtain ⟨x, rfl, x1, xm⟩ := e
    obtain ⟨_, u, w, ok, hb⟩ := id p1
    exact ⟨b, u, w, x, rfl, hb, ok, x1, (by omega), fun d u' v' d0 d1 ok' => k _ _ (p1.trans (Pre.box ok')) ⟨d, rfl, d0, by omega⟩⟩⟩
/-- 1 + a number drawn -/
theorem evp_succ (h : EvP b H0 σ te (isWh fun d => 0 ≤ d ∧ d < m)) : EvP b H0 σ (tOp (rI0 fun i j => .int (i + j)) (tC (.int 1)) te) (isWh fun a => 1 ≤ a ∧ a ≤ m) := fun H Q p k =>
  h H _ p fun v H1 p1 ⟨d, e, d0, d1⟩ => by
    cases e
    exact ⟨1, d, rfl, rfl, k _ _ p1 ⟨1 + d, rfl, by omega, by omega⟩⟩
theorem evp_tm2 {s : Str} (ha : EvP b H0 σ ta (isWh P)) : EvP b H0 σ (tTup (tCons (tC (.str s)) (tCons ta tNil))) (fun v H => ∃ a, P a ∧ ∃ p, v = .ref p ∧ H p = some (.tup [.str s, .int a])) := fun H Q p k =>
  ha H _ p fun v H1 p1 ⟨a, e, r⟩ => by
    cases e
    exact ⟨(by show 2 ≤ sizeLine; decide), fun D nD => k _ _ (p1.then (Same.new nD)) ⟨a, r, D, rfl, upd_same⟩⟩
theorem evp_tm3 {s : Str} (ha : EvP b H0 σ ta (isWh P)) (hb : EvP b H0 σ tb (isWh P')) : EvP b H0 σ (tTup (tCons (tC (.str s)) (tCons ta (tCons tb tNil)))) (fun v H => ∃ a c, P a ∧ P' c ∧ ∃ p, v = .ref p ∧ H p = some (.tup [.str s, .int a, .int c])) := fun H Q p k =>
  ha H _ p fun v H1 p1 ⟨a, e, r⟩ => hb H1 _ (p.trans p1) fun y H2 p2 ⟨c, e2, r2⟩ => by
    cases e
    cases e2
    exact ⟨(by show 3 ≤ sizeLine; decide), fun D nD => k _ _ ((p1.trans p2).then (Same.new nD)) ⟨a, c, r, r2, D, rfl, upd_same⟩⟩
end
end V3

set_option Elab.async false
set_option linter.all false
set_option maxRecDepth 100000
/-! figures times a number, a number times figures, -figures: an own class beside int -/
namespace V3
open PySem PySem.Spec PyProof.Rows L2
section
variable {prog : Program} {w : World} {A : Around} {E : Value → Shared → Prop} {s : Shared} {K : PySem.W.Frag} {x C f g : Addr} {ox : Obj} {od : Option Obj} {n : Int} {t : Tok}
/-- int's __mul__ with what is no int -/
theorem int_declinesO {Q : Shared → Prop} (X : K.In s.heap) (I : PySem.W.InstAt s.heap x ox C od) (hd : ∀ i u, ox.data ≠ .prim (.int i u)) (hq : Q s) :
    wpAny (model prog w) A (call (.builtin "int.__mul__") [.int n t, .ref x]) (fun v s' => v = .notImplemented ∧ Q s') E s := by
  refine GQ.call_here F.slot_int_mul (typeIs_int s n t) F.entry_int_mul (F.args_int_mul_2 _ _) ?_
  obtain ⟨hh, g, d, tk, os⟩ := s
  wp_walk
  refine wpAny_loadPart I.at_ ?_
  split
  · rename_i e
    exact absurd e (hd _ _)
  · refine wpAny_pure ?_
    wp_walk
    exact ⟨rfl, hq⟩
structure IntCls (K : PySem.W.Frag) (C f g : Addr) : Prop where
  sf : PySem.W.selfFirst K C = true
  mul : PySem.W.findIn K (.ref C) "__mul__" = some (some (.ref f))
  rmul : PySem.W.findIn K (.ref C) "__rmul__" = some (some (.ref g))
  fm : PySem.W.isFn K (.ref f) = true
  fr : PySem.W.isFn K (.ref g) = true
  ci : PySem.W.subIn K (.ref C) (.type "int") = some false
  ic : PySem.W.subIn K (.type "int") (.ref C) = some false
theorem bin1_int {Q : Value → Shared → Prop} (X : K.In s.heap) (I : PySem.W.InstAt s.heap x ox C od) (c : IntCls K C f g)
    (h : wpAny (model prog w) A (call (.ref f) [.ref x, .int n t]) (PySem.W.CmpBack Q) E s) : wpAny (model prog w) A (binaryOp1 "mul" (.ref x) (.int n t)) (fun r s' => ∃ v, r = some v ∧ Q v s') E s := by
  obtain ⟨cd, rest, hcd, hm⟩ := PySem.W.ksp_first c.sf
  have one := PySem.W.ksp_try X I c.mul c.fm h
  obtain ⟨hh, gg, d, tt, os⟩ := s
  have L1 : PySem.W.Looks (model prog w) hh (typeOf (.ref x)) (.ref C) := I.type
  have L2 : PySem.W.Looks (model prog w) hh (typeOf (.int n t)) (.type "int") := PySem.W.Looks.of_pure rfl
  have L3 : PySem.W.Looks (model prog w) hh (fillsNumberSlot (.ref C) "mul") true := PySem.W.fills_K X hcd hm c.mul
  have L4 : PySem.W.Looks (model prog w) hh (fillsNumberSlot (.type "int") "mul") true := PySem.W.Looks.of_pure F.fills_int_mul
  have L5 : PySem.W.Looks (model prog w) hh (isSubtype (.type "int") (.ref C)) false := PySem.W.looks_subIn X c.ic
  have L6 : PySem.W.Looks (model prog w) hh (numberSlotInPython (.ref C) "mul") true := PySem.W.ksp_inPy X c.mul c.rmul (.inr ⟨_, rfl⟩)
  have L7 : PySem.W.Looks (model prog w) hh (numberSlotInPython (.type "int") "mul") false := PySem.W.Looks.of_pure rfl
  have L8 : PySem.W.Looks (model prog w) hh (typeLookup (.type "int") (dunderR "mul")) _ := PySem.W.Looks.of_pure F.slot_int_rmul.lookup
  have hne : (Value.ref C == Value.type "int") = false := Bool.eq_false_iff.mpr fun q => by cases beq_iff_eq.mp q
  unfold binaryOp1
  refine wpAny_bind (L1.at (wpAny_bind (L2.at (wpAny_bind (L3.at ?_)))))
  simp only [hne, Bool.false_eq_true, if_false]
  ksp_lk
  refine wpAny_mono one (fun r s' z => ?_) fun _ _ e => e
  obtain ⟨v, rfl, q⟩ := z
  ksp_lk
  exact ⟨v, rfl, q⟩
theorem try_declines {a b : Value} (ha : s.TypeIs a "int") (hc : wpAny (model prog w) A (call (.builtin "int.__mul__") [a, b]) (fun v s' => v = .notImplemented ∧ s' = s) E s) :
    wpAny (model prog w) A (tryMethod a (PySem.dunder "mul") b) (fun r s' => r = none ∧ s' = s) E s := by
  unfold tryMethod
  refine wpAny_bind (wpAny_callSpecial?_slot (name := PySem.dunder "mul") ha F.slot_int_mul (wpAny_mono hc (fun v s' h' => ?_) fun _ _ h' => h'))
  obtain ⟨e, hq⟩ := h'
  subst e
  exact wpAny_pure ⟨rfl, hq⟩
theorem bin1_rint {Q : Value → Shared → Prop} (X : K.In s.heap) (I : PySem.W.InstAt s.heap x ox C od) (hd : ∀ i u, ox.data ≠ .prim (.int i u)) (c : IntCls K C f g)
    (h : wpAny (model prog w) A (call (.ref g) [.ref x, .int n t]) (PySem.W.CmpBack Q) E s) : wpAny (model prog w) A (binaryOp1 "mul" (.int n t) (.ref x)) (fun r s' => ∃ v, r = some v ∧ Q v s') E s := by
  obtain ⟨cd, rest, hcd, hm⟩ := PySem.W.ksp_first c.sf
  have one := PySem.W.ksp_try X I c.rmul c.fr h
  have ti : s.TypeIs (.int n t) "int" := typeIs_int s n t
  have z := int_declinesO (prog := prog) (w := w) (A := A) (E := E) (n := n) (t := t) (Q := fun s' => s' = s) X I hd rfl
  have dec := try_declines ti z
  obtain ⟨hh, gg, d, tt, os⟩ := s
  have L1 : PySem.W.Looks (model prog w) hh (typeOf (.ref x)) (.ref C) := I.type
  have L2 : PySem.W.Looks (model prog w) hh (typeOf (.int n t)) (.type "int") := PySem.W.Looks.of_pure rfl
  have L3 : PySem.W.Looks (model prog w) hh (fillsNumberSlot (.ref C) "mul") true := PySem.W.fills_K X hcd hm c.mul
  have L4 : PySem.W.Looks (model prog w) hh (fillsNumberSlot (.type "int") "mul") true := PySem.W.Looks.of_pure F.fills_int_mul
  have L5 : PySem.W.Looks (model prog w) hh (isSubtype (.ref C) (.type "int")) false := PySem.W.looks_subIn X c.ci
  have L7 : PySem.W.Looks (model prog w) hh (numberSlotInPython (.type "int") "mul") false := PySem.W.Looks.of_pure rfl
  have hne : (Value.type "int" == Value.ref C) = false := Bool.eq_false_iff.mpr fun q => by cases beq_iff_eq.mp q
  unfold binaryOp1
  refine wpAny_bind (L2.at (wpAny_bind (L1.at (wpAny_bind (L4.at ?_)))))
  simp only [hne, Bool.false_eq_true, if_false]
  ksp_lk
  refine wpAny_mono dec (fun r s' z => ?_) fun _ _ e => e
  obtain ⟨rfl, rfl⟩ := z
  ksp_lk
  refine wpAny_mono one (fun r s' z => ?_) fun _ _ e => e
  obtain ⟨v, rfl, q⟩ := z
  ksp_lk
  exact ⟨v, rfl, q⟩
end
section
variable {X : Cx} {n : Nat}
/-- figures * a number -/
def rMulI (K : PySem.W.Frag) (inp : Bool) (FF : Addr → Sp → XK → Prop) : R2 := fun x y H Q => ∃ (a C dx : Addr) (fs : List (Str × V)) (m : Int) (sp : Sp) (E : XK), x = .ref a ∧ y = .int m ∧ H a = some (.ins C dx fs) ∧
  (inp = true → Silent K C [dunderI (Operator.Mult).info.2]) ∧ FF C sp E ∧ sp [x, y] H Q E
/-- a number * figures -/
def rIMul (FF : Addr → Sp → XK → Prop) : R2 := fun x y H Q => ∃ (a C dx : Addr) (fs : List (Str × V)) (m : Int) (sp : Sp) (E : XK), x = .int m ∧ y = .ref a ∧ H a = some (.ins C dx fs) ∧ FF C sp E ∧ sp [y, x] H Q E
abbrev IntF (X : Cx) (n : Nat) (left : Bool) (FF : Addr → Sp → XK → Prop) : Prop := ∀ C sp E, FF C sp E → ∃ (CX : CXT) (f g : Addr) (fd : FuncData) (ps : List Str), FnOk X.prog X.w X.K X.mg X.base CX n (if left then f else g) fd ps sp ∧ IntCls X.K C f g ∧ Binds X.K fd ps [] ∧ Passes CX X E
theorem mul_run {inp : Bool} {FF : Addr → Sp → XK → Prop} (hF : IntF X n true FF) (hr : Room n X.A) {pins : List (Addr × Obj)} {s : Shared} {σ : L2.St} {H : Hp} {x y : V} {v u : Value} {Q : VK} (I : Inv X pins σ H s) (rx : RelV x v) (ry : RelV y u)
    (hq : rMulI X.K inp FF x y H Q) : ∃ (a C : Addr) (ox : Obj) (od : Option Obj), v = .ref a ∧ PySem.W.InstAt s.heap a ox C od ∧ (inp = true → Silent X.K C [dunderI (Operator.Mult).info.2]) ∧ wpAny (model X.prog X.w) X.A (binaryOp1 "mul" v u) (fun r s' => ∃ z, r = some z ∧ EP X pins σ Q z s') X.xe s := by
  obtain ⟨a, C, dx, fs, m, sp, E, rfl, rfl, ha, no, ff, hsp⟩ := hq
  obtain ⟨CX, f, g, fd, ps, F, ec, bi, hx⟩ := hF C sp E ff
  cases rx
  obtain ⟨t, rfl⟩ := ry
  obtain ⟨mA, J, _⟩ := ins_get I.hok ha
  obtain ⟨od, J, _⟩ := J.look
  refine ⟨a, C, _, _, rfl, J, no, bin1_int I.kIn J ec ?_⟩
  refine wpAny_mono (run_own (x := .ref a) (y := .int m) ⟨hr, rfl⟩ F bi hx I rfl ⟨t, rfl⟩ hsp) (fun w s' q => ?_) fun _ _ e => e
  obtain ⟨z, H', I', rz, q⟩ := q
  exact vals_back rz ⟨z, H', I', rz, q⟩
theorem op_mulI {FF : Addr → Sp → XK → Prop} (hF : IntF X n true FF) (hr : Room n X.A) : OpR X (binaryOp .Mult) (rMulI X.K false FF) := by
  intro pins s σ H x y v u Q I rx ry hq
  obtain ⟨a, C, ox, od, rfl, J, no, go⟩ := mul_run hF hr I rx ry hq
  unfold binaryOp
  refine wpAny_holding (wpAny_bind (wpAny_mono go (fun r s' z => ?_) fun _ _ e => e))
  obtain ⟨v, rfl, q⟩ := z
  exact wpAny_pure q
theorem ip_mulI {FF : Addr → Sp → XK → Prop} (hF : IntF X n true FF) (hr : Room n X.A) : PIp X .Mult (rMulI X.K true FF) := by
  intro pins s σ H x y v u Q I rx ry hq
  obtain ⟨a, C, ox, od, rfl, J, no, go⟩ := mul_run hF hr I rx ry hq
  unfold inplaceOp
  refine wpAny_holding (wpAny_bind (J.type.here (wpAny_bind ((silent_inp I.kIn (no rfl)).here ?_))))
  simp only [Bool.false_eq_true, if_false]
  refine wpAny_bind (wpAny_mono go (fun r s' z => ?_) fun _ _ e => e)
  obtain ⟨v, rfl, q⟩ := z
  exact wpAny_pure q
theorem op_imul {FF : Addr → Sp → XK → Prop} (hF : IntF X n false FF) (hr : Room n X.A) : OpR X (binaryOp .Mult) (rIMul FF) := by
  intro pins s σ H x y v u Q I rx ry hq
  obtain ⟨a, C, dx, fs, m, sp, E, rfl, rfl, ha, ff, hsp⟩ := hq
  obtain ⟨CX, f, g, fd, ps, F, ec, bi, hx⟩ := hF C sp E ff
  obtain ⟨t, rfl⟩ := rx
  cases ry
  obtain ⟨mA, J, _⟩ := ins_get I.hok ha
  obtain ⟨od, J, _⟩ := J.look
  have go : wpAny (model X.prog X.w) X.A (call (.ref g) [.ref a, .int m t]) (PySem.W.CmpBack (EP X pins σ Q)) X.xe s := by
    refine wpAny_mono (run_own (x := .ref a) (y := .int m) ⟨hr, rfl⟩ F bi hx I rfl ⟨t, rfl⟩ hsp) (fun w s' q => ?_) fun _ _ e => e
    obtain ⟨z, H', I', rz, q⟩ := q
    exact vals_back rz ⟨z, H', I', rz, q⟩
  unfold binaryOp
  have nd : ∀ i u, (PySem.W.instObj C dx).data ≠ .prim (.int i u) := fun i u e => by cases e
  have run := bin1_rint I.kIn J nd ec go
  refine wpAny_holding (wpAny_bind (wpAny_mono run (fun r s' z => ?_) fun _ _ e => e))
  obtain ⟨v, rfl, q⟩ := z
  exact wpAny_pure q
/-- a class with its own __neg__ at f -/
structure NegCls (K : PySem.W.Frag) (C f : Addr) : Prop where
  at_ : PySem.W.findIn K (.ref C) "__neg__" = some (some (.ref f))
  fn : PySem.W.isFn K (.ref f) = true
def rNegO (FF : Addr → Sp → XK → Prop) : V → Hp → VK → Prop := fun x H Q => ∃ (a C dx : Addr) (fs : List (Str × V)) (sp : Sp) (E : XK), x = .ref a ∧ H a = some (.ins C dx fs) ∧ FF C sp E ∧ sp [x] H Q E
theorem un_negO {FF : Addr → Sp → XK → Prop} (hF : ∀ C sp E, FF C sp E → ∃ (CX : CXT) (f : Addr) (fd : FuncData) (ps : List Str), FnOk X.prog X.w X.K X.mg X.base CX n f fd ps sp ∧ NegCls X.K C f ∧ Binds X.K fd ps [] ∧ Passes CX X E) (hr : Room n X.A) : UnR X (unaryOp .USub) (rNegO FF) := by
  intro pins s σ H x v Q I rx hq
  obtain ⟨a, C, dx, fs, sp, E, rfl, ha, ff, hsp⟩ := hq
  obtain ⟨CX, f, fd, ps, F, ec, bi, hx⟩ := hF C sp E ff
  cases rx
  obtain ⟨mA, J, _⟩ := ins_get I.hok ha
  obtain ⟨od, J, _⟩ := J.look
  obtain ⟨m, hF⟩ := I.fr
  refine PySem.W.ksp_neg hF I.ok.mod.kin J ec.at_ ec.fn ?_
  have len := F.len _ _ _ _ hsp
  have bound : BindsTo s fd ⟨[.ref a], []⟩ (ps.zip [Value.ref a]) := by
    have b := bi s [.ref a] I.kIn (by simpa using len)
    simpa using b
  have ran := F.run X.A X.stack s H ⟨[.ref a], []⟩ [.ref a] [.ref a] _ E hr I.env0 bound (.cons rfl .nil) hsp
  refine wpAny_call (codeAny_mono ran fun res s' hq => ?_)
  match res, hq with
  | .error err, hq => exact hx pins σ H s err s' I hq
  | .ok (.ret u), hq =>
    obtain ⟨v, H', I', rv, q⟩ := I.after hq
    exact ⟨v, H', I', rv, q⟩
  | .ok .next, hq => exact hq.elim
  | .ok .brk, hq => exact hq.elim
  | .ok .cont, hq => exact hq.elim
end
end V3

set_option Elab.async false
set_option linter.all false
set_option maxRecDepth 100000
/-! reports drawn: tuples of rows; made of them; ~, ==, != -/
namespace V3
open PySem L2 TL
abbrev sReportL : Stmt := top 52
-- no sRepTextL
-- no sReportOfL
structure InvCls (K : PySem.W.Frag) (C f : Addr) : Prop where
  at_ : PySem.W.findIn K (.ref C) "__invert__" = some (some (.ref f))
  fn : PySem.W.isFn K (.ref f) = true
section
variable {X : Cx} {n : Nat}
theorem un_invO {FF : Addr → Sp → XK → Prop} (hF : ∀ C sp E, FF C sp E → ∃ (CX : CXT) (f : Addr) (fd : FuncData) (ps : List Str), FnOk X.prog X.w X.K X.mg X.base CX n f fd ps sp ∧ InvCls X.K C f ∧ Binds X.K fd ps [] ∧ Passes CX X E) (hr : Room n X.A) : UnR X (unaryOp .Invert) (rNegO FF) := by
  intro pins s σ H x v Q I rx hq
  obtain ⟨a, C, dx, fs, sp, E, rfl, ha, ff, hsp⟩ := hq
  obtain ⟨CX, f, fd, ps, F, ec, bi, hx⟩ := hF C sp E ff
  cases rx
  obtain ⟨mA, J, _⟩ := ins_get I.hok ha
  obtain ⟨od, J, _⟩ := J.look
  obtain ⟨m, hF⟩ := I.fr
  refine PySem.W.ksp_inv hF I.ok.mod.kin J ec.at_ ec.fn ?_
  have len := F.len _ _ _ _ hsp
  have bound : BindsTo s fd ⟨[.ref a], []⟩ (ps.zip [Value.ref a]) := by
    have b := bi s [.ref a] I.kIn (by simpa using len)
    simpa using b
  have ran := F.run X.A X.stack s H ⟨[.ref a], []⟩ [.ref a] [.ref a] _ E hr I.env0 bound (.cons rfl .nil) hsp
  refine wpAny_call (codeAny_mono ran fun res s' hq => ?_)
  match res, hq with
  | .error err, hq => exact hx pins σ H s err s' I hq
  | .ok (.ret u), hq =>
    obtain ⟨v, H', I', rv, q⟩ := I.after hq
    exact ⟨v, H', I', rv, q⟩
  | .ok .next, hq => exact hq.elim
  | .ok .brk, hq => exact hq.elim
  | .ok .cont, hq => exact hq.elim
end
/-! a report whose tuple of rows is followed -/
def RpX (c : Rc) (RC : Addr) (rs : List Rw) : V → Hp → Prop := fun v H => ∃ x dx q us, v = .ref x ∧ H x = some (.ins RC dx [("rows", .ref q)]) ∧ H q = some (.tup us) ∧ RwLs c H us rs ∧ RpOk rs
instance {c : Rc} {RC : Addr} {rs : List Rw} : StL (RpX c RC rs) := ⟨fun _ _ _ s ⟨x, dx, q, us, e, hx, hq, l, ok⟩ => ⟨x, dx, q, us, e, s _ _ (fun _ z => by cases z) hx, s _ _ (fun _ z => by cases z) hq, l.keep s, ok⟩⟩
theorem RpX.a {K : PySem.W.Frag} {c : Rc} {RC : Addr} {rs : List Rw} {v : V} {H : Hp} (h : RpX c RC rs v H) : RpA K c RC rs v H := by
  obtain ⟨x, dx, q, us, e, hx, hq, l, ok⟩ := h
  exact ⟨x, dx, q, us, e, hx, .inl hq, l, ok⟩
def spRpInitX (c : Rc) (RC : Addr) : Sp := fun vs H Q _ => ∃ (x dx q : Addr) (us : List V) (rs : List Rw), vs = [.ref x, .ref q] ∧ H x = some (.ins RC dx []) ∧ H q = some (.lst us) ∧ RwLs c H us rs ∧ RpOk rs ∧ ∀ H', SameX x H H' → RpX c RC rs (.ref x) H' → Q .non H'
structure MkRpX (P : Program) (w : World) (K : PySem.W.Frag) (mg : Str → Option Value) (base : Heap) (c : Rc) (RC : Addr) : Prop where
  g : mg "Report" = some (.ref RC)
  ini : ∃ (f : Addr) (fd : FuncData), FnOk P w K mg base CX0 2 f fd ["self", "rows"] (spRpInitX c RC) ∧ Mk K RC f ∧ Binds K fd ["self", "rows"] []
/-- a drawn row's tuple -/
def CtA (m : Rw) : V → Hp → Prop := fun v H => TpAt H v m ∧ m.kind = 1
instance {m : Rw} : StL (CtA m) := ⟨fun _ _ _ s a => ⟨a.1.keep s, a.2⟩⟩
def Rw.w1 : Rw → Int
  | .ct _ w _ => w
  | _ => 0
def Rw.o1 : Rw → Str
  | .ct _ _ o => o
  | .lt _ _ _ p => p
def spReportL : Sp := fun vs H Q _ => ∃ (b : Addr) (u v : Int), vs = [.ref b] ∧ H b = some (box u v) ∧ BoxOk u v ∧ ∀ z rs H', Pre b H H' → isU CtA rs z H' → RpOk rs → Q z H'
def spRepTextL : Sp := fun vs H Q _ => ∃ (v : V) (rs : List Rw), vs = [v] ∧ isU CtA rs v H ∧ RpOk rs ∧ ∀ H', Same H H' → Q (.str (rpT rs)) H'
def spReportOfL (c : Rc) (RC : Addr) : Sp := fun vs H Q _ => ∃ (v : V) (rs : List Rw), vs = [v] ∧ isU CtA rs v H ∧ RpOk rs ∧ ∀ z H', Same H H' → RpX c RC rs z H' → Q z H'
section
variable {K : PySem.W.Frag} {σ : L2.St} {ta tb tc : TE} {H0 : Hp} {m : Rw} {c : Rc} {RC : Addr} {rs : List Rw}
theorem ev_ct0 (ha : EvV (Same H0) σ ta (CtA m)) : EvV (Same H0) σ (tOp (rIxT K) ta (tC (.int 0))) (isSv m.k1) :=
  ev_o (Rb := isIv 0) ha ev_int fun x y H Q w hx hy k => by
    cases hy
    obtain ⟨⟨p, rfl, hp⟩, mk⟩ := hx
    cases m with
    | lt _ _ _ _ => cases mk
    | ct kk ww oo => exact ⟨p, _, 0, _, rfl, rfl, SqT.of hp, rfl, k _ H (Same.refl H) rfl⟩
theorem ev_ct1 (ha : EvV (Same H0) σ ta (CtA m)) : EvV (Same H0) σ (tOp (rIxT K) ta (tC (.int 1))) (isIv m.w1) :=
  ev_o (Rb := isIv 1) ha ev_int fun x y H Q w hx hy k => by
    cases hy
    obtain ⟨⟨p, rfl, hp⟩, mk⟩ := hx
    cases m with
    | lt _ _ _ _ => cases mk
    | ct kk ww oo => exact ⟨p, _, 1, _, rfl, rfl, SqT.of hp, rfl, k _ H (Same.refl H) rfl⟩
theorem ev_ct2 (ha : EvV (Same H0) σ ta (CtA m)) : EvV (Same H0) σ (tOp (rIxT K) ta (tC (.int 2))) (isSv m.o1) :=
  ev_o (Rb := isIv 2) ha ev_int fun x y H Q w hx hy k => by
    cases hy
    obtain ⟨⟨p, rfl, hp⟩, mk⟩ := hx
    cases m with
    | lt _ _ _ _ => cases mk
    | ct kk ww oo => exact ⟨p, _, 2, _, rfl, rfl, SqT.of hp, rfl, k _ H (Same.refl H) rfl⟩
theorem ev_mkRpX (ok : RpOk rs) (ha : EvV (Same H0) σ ta (isL (RwS c) rs)) : EvV (Same H0) σ (tMake RC (spRpInitX c RC) [] E0 (tCons ta tNil)) (RpX c RC rs) := fun H Q w k =>
  ha H _ w fun v H1 s1 w1 r => by
    obtain ⟨D, us, rfl, hD, l⟩ := r
    intro x dx nx ndx ne
    have z0 : Same H1 (upd (upd H1 dx (.own x)) x (.ins RC dx [])) := made_same nx ndx
    refine ⟨x, dx, D, us, rs, rfl, upd_same, z0 _ _ hD, RwLs.same l z0, ok, fun H' sx ra => ⟨rfl, ?_⟩⟩
    have z : Same H1 H' := fun c1 o1 e => sx c1 o1 (ne_of_none e nx) (z0 c1 o1 e)
    exact k _ H' (s1.trans z) (w1.trans z) ra
theorem ev_repText (ok : RpOk rs) (ha : EvV (Same H0) σ ta (isU CtA rs)) : EvV (Same H0) σ (tCall spRepTextL [] E0 (tCons ta tNil)) (isSv (rpT rs)) :=
  ev_call (eva_cons ha eva_nil) fun vs H Q w r k => by
    obtain ⟨v, r, rfl, hv, rfl⟩ := r
    exact ⟨v, rs, rfl, hv, ok, fun H' s => k _ H' s rfl⟩
theorem ev_reportOf (ok : RpOk rs) (ha : EvV (Same H0) σ ta (isU CtA rs)) : EvV (Same H0) σ (tCall (spReportOfL c RC) [] E0 (tCons ta tNil)) (RpX c RC rs) :=
  ev_call (eva_cons ha eva_nil) fun vs H Q w r k => by
    obtain ⟨v, r, rfl, hv, rfl⟩ := r
    exact ⟨v, rs, rfl, hv, ok, fun z H' s a => k _ H' s a⟩
theorem evp_ct {b : Addr} {k : Str} {w : Int} {R : V → Hp → Prop} (h1 : ∀ H, Pre b H0 H → EvV (Same H) σ ta (isSv k)) (h2 : ∀ H, Pre b H0 H → EvV (Same H) σ tb (isIv w)) {as : List Str} (h3 : EvP b H0 σ tc (isOne isSv as)) :
    EvP b H0 σ (tTup (tCons ta (tCons tb (tCons tc tNil)))) (fun v H => ∃ o ∈ as, CtA (.ct k w o) v H) := fun H Q p kk =>
  h1 H p H _ (Same.refl H) fun v1 H1 s1 _ e1 => h2 H1 (p.trans (p.same s1)) H1 _ (Same.refl _) fun v2 H2 s2 _ e2 => h3 H2 _ (p.trans (p.same (s1.trans s2))) fun v3 H3 p3 ⟨o, ho, e3⟩ => by
    cases e1
    cases e2
    cases e3
    refine ⟨(by show 3 ≤ sizeLine; decide), fun t nt => ?_⟩
    have P2 : Pre b H H2 := p.same (s1.trans s2)
    exact kk _ _ ((P2.trans p3).then (Same.new nt)) ⟨o, ho, ⟨t, rfl, upd_same⟩, rfl⟩
end
theorem evpb_gtC {σ : L2.St} {te : TE} {H0 : Hp} {b : Addr} {P : Int → Prop} {k : Int} (h : EvP b H0 σ te (isWh P)) : EvPB b H0 σ (tTest (tOp (rI0 fun i j => .bl (decide (j < i))) te (tC (.int k)))) := fun H Q p kk => h H _ p fun v H1 p1 ⟨a, ev, _⟩ => by
  cases ev
  exact ⟨_, _, rfl, rfl, _, rfl, kk _ _ p1⟩
theorem erase_map {α β : Type} (f : α → β) : ∀ (l : List α) (i : Nat), (l.map f).eraseIdx i = (l.eraseIdx i).map f
  | [], _ => rfl
  | _ :: _, 0 => rfl
  | a :: l, i + 1 => congrArg (f a :: ·) (erase_map f l i)
theorem erase_perm : ∀ {l : List Str} {i : Nat} {y : Str}, l[i]? = some y → (y :: l.eraseIdx i).Perm l
  | [], _, _, h => by simp at h
  | a :: l, 0, y, h => by
    have e : a = y := by simpa using h
    subst e
    exact List.Perm.refl _
  | a :: l, i + 1, y, h => by
    have z := erase_perm (l := l) (i := i) (y := y) (by simpa using h)
    exact (List.Perm.swap a y _).trans (List.Perm.cons a z)
theorem perm_pop {as ks : List Str} {i : Nat} {y : Str} {L : List Str} (h : (as ++ ks).Perm L) (e : ks[i]? = some y) : (as ++ [y] ++ ks.eraseIdx i).Perm L := by
  have z := erase_perm e
  refine List.Perm.trans ?_ h
  rw [List.append_assoc]
  exact List.Perm.append_left as z
section
variable {P : Program} {w : World} {K : PySem.W.Frag} {mg : Str → Option Value} {base : Heap}
theorem scReportL : FnScope ["_law_box", "_law_kinds", "_law_found", "_law_turn", "_law_kind", "_law_weight"] ["_law_box"] (defScope sReportL) := ⟨rfl, rfl, rfl, by decide +kernel, rfl, by decide +kernel, by decide +kernel⟩
theorem ok_rpInitX {f RC : Addr} {c : Rc} {fd : FuncData} {dvs : List V} (F : FunD K "__init__" "Report.__init__" (defArgs sRpInit) (defBody sRpInit) (defScope sRpInit) dvs [] f fd) (T : BltRp mg) (C : RpC K RC) (cI : Cal P w K mg base CX0 "is_counts" 1 ["value"] (spIsCounts K c)) : FnOk P w K mg base CX0 2 f fd ["self", "rows"] (spRpInitX c RC) := by
  obtain ⟨fI, fdI, GI, mI, kI, bI⟩ := cI
  refine F.ok scRpInit (fun vs H Q E h => ?_) (fun cdv A outer s H vs Q E hr h => ?_)
  · obtain ⟨x, dx, q, us, rs, rfl, _⟩ := h
    rfl
  · obtain ⟨x, dx, q, us, rs, rfl, hx, hq, rl, ok, k⟩ := h
    refine ⟨_, pss_cons (ps_if (pt_not (pt_val (pe_call GI hr rfl mI kI bI .nil pass0 (pa_cons (pv 1) pa_nil)))) (pss_one ps_never) pss_nil)
      (pss_one (ps_fld (pv 0) (pe_callTy call_tuple_of (by rfl) T.tuple (by decide +kernel) (pa_cons (pv 1) pa_nil)) rfl)), ?_⟩
    refine ⟨_, rfl, q, us, rs, rfl, .inl hq, rl, ok, fun H1 s1 => ⟨_, rfl, iteF ?_⟩⟩
    have hx1 := s1 _ _ hx
    have hl := s1 _ _ hq
    have rl1 := rl.same s1
    have sxr : ∀ {G G' : Hp}, G x = some (.ins RC dx []) → RwLs c G us rs → SameX x G G' → RwLs c G' us rs := fun hg l sx => Ls.imp l fun v m a => by
      obtain ⟨y, dy, e, hy⟩ := a
      refine ⟨y, dy, e, sx y _ (fun z => ?_) hy⟩
      rw [z, hg] at hy
      have e := Option.some.inj hy
      cases m <;> cases e
    have nqx : q ≠ x := fun z => by rw [z, hx1] at hl; cases hl
    refine ⟨_, rfl, q, us, rfl, .inl ⟨SqL.of hl, fun t nt => ?_⟩⟩
    have ntx : x ≠ t := ne_of_none hx1 nt
    have hxt : upd H1 t (.tup us) x = some (.ins RC dx []) := by rw [upd_ne ntx]; exact hx1
    refine ⟨_, rfl, x, RC, dx, _, rfl, hxt, C.cl, C.n, (by show 0 < 1000; decide), ?_⟩
    have s2 : Same H1 (upd H1 t (.tup us)) := Same.new nt
    have sx : SameX x (upd H1 t (.tup us)) (upd (upd H1 t (.tup us)) x (.ins RC dx [("rows", .ref t)])) := SameX.box
    exact k _ (fun b o n e => sx b o n (s2 _ _ (s1 _ _ e))) ⟨x, dx, t, us, rfl, upd_same, by rw [upd_ne (Ne.symm ntx)]; exact upd_same, sxr hxt (rl1.same s2) sx, ok⟩
theorem ok_reportL {f : Addr} {fd : FuncData} (F : Fun K "_law_report" "_law_report" sReportL f fd) (zr : mg "range" = none) (zl : mg "len" = none) (zt : mg "tuple" = none) (cC : Cal P w K mg base CX0 "_law_choose" 1 ["_law_box", "_law_many"] spChoose) (cO : Cal P w K mg base CX0 "_law_one_of" 2 ["_law_box", "_law_some"] (spOneOf K)) : FnOk P w K mg base CX0 3 f fd ["_law_box"] spReportL := by
  obtain ⟨fC, fdC, GC, mC, kC, bC⟩ := cC
  obtain ⟨fO, fdO, GO, mO, kO, bO⟩ := cO
  refine F.ok scReportL (fun vs H Q E h => ?_) (fun cdv A outer s H vs Q E hr h => ?_)
  · obtain ⟨b, u, v, rfl, _⟩ := h
    rfl
  · obtain ⟨b, u, v, rfl, hb, bk, k⟩ := h
    have hr1 : Room 1 _ := hr.mono (by decide)
    refine ⟨_, (pss_cons (ps_par (i := 1) (j := 2) rfl scReportL.nd rfl rfl (by decide) rfl rfl (pa_cons (pe_lst (pa_cons pe_str (pa_cons pe_str (pa_cons pe_str (pa_cons pe_str pa_nil))))) (pa_cons (pe_lst pa_nil) pa_nil)) (by rfl))
  (pss_cons (ps_for PassesOwn.never rfl (pi_range1 (by rfl) zr (pa_cons (pe_ifExp (pt_cmpR op_gt (pe_call GC hr1 rfl mC kC bC .nil pass0 (pa_cons (pv 0) (pa_cons pe_int pa_nil))) pe_int (nomark _)) pe_int (pe_call GC hr1 rfl mC kC bC .nil pass0 (pa_cons (pv 0) (pa_cons pe_int pa_nil)))) pa_nil)) (pg_name (i := 3) scReportL.nd rfl (Or.inl rfl))
  (pss_cons (ps_set (i := 4) scReportL.nd rfl (Or.inl rfl) (pe_bm PySem.F.plainAttrs_list PySem.F.slot_list_pop PySem.F.type_list_pop mt_popAt (pv 1) (pa_cons (pe_call GC hr1 rfl mC kC bC .nil pass0 (pa_cons (pv 0) (pa_cons (pe_callB call_len_seq (by rfl) zl PySem.boot_len (pa_cons (pv 1) pa_nil)) pa_nil))) pa_nil)))
  (pss_cons (ps_set (i := 5) scReportL.nd rfl (Or.inl rfl) (pe_call GO hr rfl mO kO bO .nil pass0 (pa_cons (pv 0) (pa_cons (pe_lst (pa_cons pe_int (pa_cons pe_int (pa_cons pe_int (pa_cons pe_int (pa_cons pe_int (pa_cons (pe_un un_neg pe_int) pa_nil))))))) pa_nil))))
  (pss_one (ps_expr (pe_bm PySem.F.plainAttrs_list PySem.F.slot_list_append PySem.F.type_list_append mt_append (pv 2) (pa_cons (pe_tup (pa_cons (pv 4) (pa_cons (pv 5) (pa_cons (pe_call GO hr rfl mO kO bO .nil pass0 (pa_cons (pv 0) (pa_cons (pe_lst (pa_cons pe_str (pa_cons pe_str (pa_cons pe_str (pa_cons pe_str (pa_cons pe_str pa_nil)))))) pa_nil))) pa_nil)))) pa_nil)))))))
  (pss_one (ps_ret (pe_callTy call_tuple_of (by rfl) zt (by decide +kernel) (pa_cons (pv 2) pa_nil)))))), ?_⟩
    have p0 : Pre b H H := Pre.start bk hb
    refine ⟨(by show 4 ≤ sizeLine; decide), fun DK nK => ?_⟩
    have nbK : b ≠ DK := ne_of_none hb nK
    have pK : Pre b H (upd H DK (.lst [.str "first", .str "new", .str "minus", .str "plus"])) := p0.then (Same.new nK)
    have hK0 : upd H DK (.lst [.str "first", .str "new", .str "minus", .str "plus"]) DK = some (.lst (kindL.map V.str)) := upd_same
    dsimp only [tNil]
    generalize upd H DK (.lst [.str "first", .str "new", .str "minus", .str "plus"]) = Ha at pK hK0
    refine ⟨(by show 0 ≤ sizeLine; decide), fun D nD => ?_⟩
    have nDK : DK ≠ D := ne_of_none hK0 nD
    obtain ⟨_, ua, va, bka, hba⟩ := id pK
    have nbD : b ≠ D := ne_of_none hba nD
    have nD0 : H D = none := by
      cases e : H D with
      | none => rfl
      | some o =>
        have z := pK.1 D o (Ne.symm nbD) e
        rw [nD] at z
        cases z
    have pD : Pre b H (upd Ha D (.lst [])) := pK.then (Same.new nD)
    have hD0 : upd Ha D (.lst []) D = some (.lst []) := upd_same
    have hK1 : upd Ha D (.lst []) DK = some (.lst (kindL.map V.str)) := by rw [upd_ne nDK]; exact hK0
    generalize upd Ha D (.lst []) = Hd at pD hD0 hK1
    refine ⟨_, _, rfl, ?_⟩
    try dsimp only [gName, tSeq, tAsg, tNext, tPar]
    have chW : ∀ {G : Hp} {σ : L2.St} (m : Int), σ[0]? = some (some (.ref b)) → 1 ≤ m → m ≤ 100 → EvP b G σ (tCall spChoose [] E0 (tCons (tVar 0) (tCons (tC (.int m)) tNil))) (isWh fun d => 0 ≤ d ∧ d < m) := fun m h1 h2 h3 => evp_chooseW (i := 0) (m := m) h1 (by omega) (evp_w (m := m) (evp_pure fun _ _ => ev_int) ⟨h2, Int.le_refl _⟩)
    refine evp_if (H0 := Hd) (b := b) (R := isWh fun n => 0 ≤ n ∧ n ≤ 4) (evpb_gtC (P := fun d => 0 ≤ d ∧ d < 3) (chW 3 rfl (by decide) (by decide))) (evp_w (m := 4) (evp_pure fun _ _ => ev_int) ⟨by decide, by decide⟩) (evp_imp (chW 5 rfl (by decide) (by decide)) fun a h => by omega) Hd _ pD.id fun vn H1 p1 ⟨n, en, n0, n4⟩ => ?_
    cases en
    have P1 := pD.trans p1
    have hD1 := p1.1 D _ (Ne.symm nbD) hD0
    have hK2 := p1.1 DK _ (Ne.symm nbK) hK1
    have perm0 : (([] : List Rw).map Rw.k1 ++ kindL).Perm kindL := List.Perm.refl _
    refine ⟨n, rfl, by omega, by omega, for_range (lo := 0) (n := n.toNat) (fun i σ H' => (∃ o3 o4 o5 : Option V, σ = [some (.ref b), some (.ref DK), some (.ref D), o3, o4, o5]) ∧ ∃ xs ms ks, Pre b H H' ∧ H' D = some (.lst xs) ∧ H' DK = some (.lst (ks.map V.str)) ∧ Ls (fun u m => CtA m u H') xs ms ∧ ms.length = i ∧ (∀ m ∈ ms, m.ok ∧ m.kind = 1) ∧ (ms.map Rw.k1 ++ ks).Perm kindL) ?_ ?_ ?_⟩
    · exact ⟨⟨_, _, _, rfl⟩, [], [], kindL, P1, hD1, hK2, Ls.nil, rfl, (fun p hp => by cases hp), perm0⟩
    · rintro i σ H2 hi ⟨⟨o3, o4, o5, rfl⟩, xs, ms, ks, P2, hD2, hKs, l, ln, mo, pm⟩
      have lk : ms.length + ks.length = 4 := by
        have z := pm.length_eq
        rw [List.length_append, List.length_map] at z
        exact z
      have kpos : 1 ≤ ks.length := by omega
      try dsimp only [gName, tSeq, tAsg, tNext]
      refine ⟨_, rfl, .inl ⟨rfl, _, SqL.of hKs⟩, ?_⟩
      refine evp_chooseW (H0 := H2) (b := b) (i := 0) (m := (ks.length : Int)) rfl (by omega) (evp_w (m := (ks.length : Int)) (fun G Q p kk => ⟨_, rfl, DK, _, rfl, .inl (SqL.of (p.1 DK _ (Ne.symm nbK) hKs)), kk _ G p.id (by rw [List.length_map]; rfl)⟩) ⟨by omega, Int.le_refl _⟩) H2 _ P2.id fun vd H3 p3 ⟨d, ed, d0, d1⟩ => ?_
      cases ed
      have P3 := P2.trans p3
      have hD3 := p3.1 D _ (Ne.symm nbD) hD2
      have hK3 := p3.1 DK _ (Ne.symm nbK) hKs
      obtain ⟨j, rfl⟩ : ∃ j : Nat, d = (j : Int) := ⟨d.toNat, by omega⟩
      have hj : j < ks.length := by omega
      have ej : ks[j]? = some ks[j] := List.getElem?_eq_getElem hj
      have pm2 := perm_pop pm ej
      have yk : ks[j] ∈ kindL := pm.subset (List.mem_append_right _ (List.getElem_mem hj))
      generalize ks[j] = y at ej pm2 yk
      refine ⟨DK, _, (j : Int), j, .str y, rfl, rfl, hK3, by omega, by omega, ?_, by rw [List.getElem?_map, ej]; rfl, ?_⟩
      · rw [List.length_map]
        exact (ixN_seq (show ixN ks.length (j : Int) = some j by unfold ixN; rw [if_pos (by omega), if_pos (by omega)]; rfl)).1
      have ek : (ks.map V.str).eraseIdx j = (ks.eraseIdx j).map V.str := by rw [erase_map]
      rw [ek]
      have p4 : Pre b H (upd H3 DK (.lst ((ks.eraseIdx j).map V.str))) := by
        obtain ⟨sa, ub, vb, bkb, hbb⟩ := id P3
        exact ⟨fun c o n e => by rw [upd_ne (ne_of_none e nK)]; exact sa c o n e, ub, vb, bkb, by rw [upd_ne nbK]; exact hbb⟩
      have hD4 : upd H3 DK (.lst ((ks.eraseIdx j).map V.str)) D = some (.lst xs) := by rw [upd_ne (Ne.symm nDK)]; exact hD3
      have hK4 : upd H3 DK (.lst ((ks.eraseIdx j).map V.str)) DK = some (.lst ((ks.eraseIdx j).map V.str)) := upd_same
      have k34 : Keep H3 (upd H3 DK (.lst ((ks.eraseIdx j).map V.str))) := Keep.lst hK3
      have l4 : Ls (fun u m => CtA m u (upd H3 DK (.lst ((ks.eraseIdx j).map V.str)))) xs ms := l.imp fun _ _ r => upL k34 (upL (p3.keep' P2.bx) r)
      generalize upd H3 DK (.lst ((ks.eraseIdx j).map V.str)) = H4 at p4 hD4 hK4 l4
      try dsimp only [gName, tSeq, tAsg, tNext]
      refine evp_one (K := K) (H0 := H4) (b := b) (i := 0) (S := isIv) (as := [1, 1, 1, 1, 0, -1]) rfl (by decide) (by decide) (evp_lst (fun G p => evl_cons ev_int (evl_cons ev_int (evl_cons ev_int (evl_cons ev_int (evl_cons ev_int (evl_cons (ev_ng (i := 1) ev_int) evl_nil)))))) (by decide)) H4 _ p4.id fun vw H5 p5 ⟨wt, hw, ew⟩ => ?_
      cases ew
      have w1 : Wt wt := by
        simp only [List.mem_cons, List.not_mem_nil, or_false] at hw
        unfold Wt
        omega
      have P5 := p4.trans p5
      have hD5 := p5.1 D _ (Ne.symm nbD) hD4
      have hK5 := p5.1 DK _ (Ne.symm nbK) hK4
      try dsimp only [gName, tSeq, tAsg, tNext]
      refine ⟨_, rfl, .inl ⟨rfl, _, SqL.of hD5⟩, ?_⟩
      refine evp_ct (b := b) (H0 := H5) (k := y) (w := wt) (R := isVv .non) (as := ["own", "own", "target", "top", "deed"]) (σ := [some (.ref b), some (.ref DK), some (.ref D), some (.int (0 + (i : Nat))), some (.str y), some (.int wt)]) (fun G p => ev_v (i := 4) rfl rfl) (fun G p => ev_v (i := 5) rfl rfl)
        (evp_one (K := K) (b := b) (i := 0) (S := isSv) (as := ["own", "own", "target", "top", "deed"]) rfl (by decide) (by decide) (evp_lst (fun G p => evl_cons ev_str (evl_cons ev_str (evl_cons ev_str (evl_cons ev_str (evl_cons ev_str evl_nil))))) (by decide))) H5 _ P5.id fun vt H6 p6 ⟨o, ho, ht⟩ => ?_
      have o1 : o ∈ whoseL := by
        simp only [List.mem_cons, List.not_mem_nil, or_false] at ho
        rcases ho with rfl | rfl | rfl | rfl | rfl <;> decide +kernel
      have P6 := P5.trans p6
      have hD6 := p6.1 D _ (Ne.symm nbD) hD5
      have hK6 := p6.1 DK _ (Ne.symm nbK) hK5
      have lx : xs.length = ms.length := l.1
      refine ⟨D, xs, _, rfl, rfl, hD6, small1000 (by omega), ⟨_, _, _, rfl⟩, xs ++ [vt], ms ++ [.ct y wt o], ks.eraseIdx j, ?_, upd_same, by rw [upd_ne nDK]; exact hK6, ?_, by simp [ln], ?_, ?_⟩
      · obtain ⟨sa, ub, vb, bkb, hbb⟩ := id P6
        exact ⟨fun c o n e => by rw [upd_ne (ne_of_none e nD0)]; exact sa c o n e, ub, vb, bkb, by rw [upd_ne nbD]; exact hbb⟩
      · have kl : Keep H6 (upd H6 D (.lst (xs ++ [vt]))) := Keep.lst hD6
        exact Ls.push (l4.imp fun _ _ r => upL kl (upL ((p5.trans p6).keep' p4.bx) r)) (upL kl ht)
      · intro q hq
        rcases List.mem_append.mp hq with h | h
        · exact mo q h
        · rw [List.mem_singleton.mp h]
          exact ⟨⟨yk, w1, o1⟩, rfl⟩
      · rw [List.map_append]
        exact pm2
    · rintro σ H2 ⟨⟨o3, o4, o5, rfl⟩, xs, ms, ks, P2, hD2, hKs, l, ln, mo, pm⟩
      refine ⟨_, rfl, D, xs, rfl, .inl ⟨SqL.of hD2, fun t nt => ?_⟩⟩
      have sT : Same H2 (upd H2 t (.tup xs)) := Same.new nt
      have nd : (ms.map Rw.k1).Nodup := by
        have z : (ms.map Rw.k1 ++ ks).Nodup := pm.nodup_iff.mpr (by decide +kernel)
        exact (List.nodup_append.mp z).1
      exact k _ ms _ (P2.then sT) ⟨t, xs, rfl, upd_same, Ls.up l sT⟩ (rp_four mo nd)
end
end V3

set_option Elab.async false
set_option linter.all false
set_option maxRecDepth 100000
/-! tuples of flat values: shown, compared -/
namespace V3
open PySem PySem.Spec PyProof.Rows L2 TL
inductive FlA : List V → List PyData → Prop where
  | nil : FlA [] []
  | int {i : Int} {us : List V} {ds : List PyData} (a : Am i) (t : FlA us ds) : FlA (.int i :: us) (.int i :: ds)
  | bl {b : Bool} {us : List V} {ds : List PyData} (t : FlA us ds) : FlA (.bl b :: us) (.bool b :: ds)
  | str {s : Str} {us : List V} {ds : List PyData} (l : PyData.leavesShort 1921 (.str s) = true) (b : PyData.bulk (.str s) ≤ 90) (o : PyData.strOk s = true) (t : FlA us ds) : FlA (.str s :: us) (.str s :: ds)
theorem FlA.len {us : List V} {ds : List PyData} (h : FlA us ds) : us.length = ds.length := by
  induction h with
  | nil => rfl
  | int _ _ ih => simp [ih]
  | bl _ ih => simp [ih]
  | str _ _ _ _ ih => simp [ih]
theorem FlA.dp {us : List V} {ds : List PyData} (h : FlA us ds) (K : PySem.W.Frag) (H : Hp) : DpAll K H us ds := by
  induction h with
  | nil => exact .nil
  | int _ _ ih => exact .cons (.int _) ih
  | bl _ ih => exact .cons (.bl _) ih
  | str _ _ _ _ ih => exact .cons (.str _) ih
theorem am_shown {i : Int} (a : Am i) : (PyData.shown (.int i)).length ≤ 1921 := by
  have e : PyData.shown (.int i) = num i := by simp [PyData.shown, num]
  rw [e]
  exact num_len a
theorem FlA.all {us : List V} {ds : List PyData} (h : FlA us ds) : PyData.showableAll ds = true ∧ PyData.hasDictAll ds = false ∧ PyData.depthAll ds = 0 ∧ PyData.leavesShortAll 1921 ds = true ∧ PyData.bulkAll ds ≤ 100 * ds.length ∧ PyData.canLayAll0 ds = true := by
  induction h with
  | nil => exact ⟨by simp [PyData.showableAll], by simp [PyData.hasDictAll], by simp [PyData.depthAll], by simp [PyData.leavesShortAll], by simp [PyData.bulkAll], by simp [PyData.canLayAll0]⟩
  | int a t ih =>
    obtain ⟨i1, i2, i3, i4, i5, i6⟩ := ih
    refine ⟨by simp [PyData.showableAll, PyData.showable, am_log a, i1], by simp [PyData.hasDictAll, PyData.hasDict, i2], by simp [PyData.depthAll, PyData.depth, i3], ?_, by simp only [PyData.bulkAll, PyData.bulk, List.length_cons]; omega, by simp [PyData.canLayAll0, PyData.canLay0, i6]⟩
    simp only [PyData.leavesShortAll, PyData.leavesShort, i4, Bool.and_true, decide_eq_true_eq]
    exact am_shown a
  | @bl b us ds t ih =>
    obtain ⟨i1, i2, i3, i4, i5, i6⟩ := ih
    refine ⟨by simp [PyData.showableAll, PyData.showable, i1], by simp [PyData.hasDictAll, PyData.hasDict, i2], by simp [PyData.depthAll, PyData.depth, i3], ?_, by simp only [PyData.bulkAll, PyData.bulk, List.length_cons]; omega, by simp [PyData.canLayAll0, PyData.canLay0, i6]⟩
    simp only [PyData.leavesShortAll, PyData.leavesShort, i4, Bool.and_true, decide_eq_true_eq, PyData.shown]
  | str l b o t ih =>
    obtain ⟨i1, i2, i3, i4, i5, i6⟩ := ih
    exact ⟨by simp [PyData.showableAll, PyData.showable, i1], by simp [PyData.hasDictAll, PyData.hasDict, i2], by simp [PyData.depthAll, PyData.depth, i3], by simp only [PyData.leavesShortAll, l, i4, Bool.and_self], by simp only [PyData.bulkAll, List.length_cons]; omega, by simp [PyData.canLayAll0, PyData.canLay0, o, i6]⟩
theorem FlA.ints : ∀ {is : List Int}, (∀ i ∈ is, Am i) → FlA (is.map V.int) (is.map PyData.int)
  | [], _ => .nil
  | i :: r, h => .int (h i (List.mem_cons_self ..)) (FlA.ints fun j hj => h j (List.mem_cons_of_mem _ hj))
theorem rgV_fl {a b : Nat} (ha : b ≤ 100000) : FlA (rgV (a : Int) (b : Int)) (((List.range ((b : Int) - (a : Int)).toNat).map fun i => (a : Int) + (i : Nat)).map PyData.int) := by
  have e : rgV (a : Int) (b : Int) = ((List.range ((b : Int) - (a : Int)).toNat).map fun i => (a : Int) + (i : Nat)).map V.int := by
    unfold rgV
    rw [List.map_map]
    rfl
  rw [e]
  refine FlA.ints fun i hi => ?_
  obtain ⟨j, hj, rfl⟩ := List.mem_map.mp hi
  have := List.mem_range.mp hj
  unfold Am
  omega
theorem FlA.rf {us : List V} {ds : List PyData} (h : FlA us ds) : PyData.eqvAll ds ds = true := by
  induction h with
  | nil => simp [PyData.eqvAll]
  | int _ _ ih => simp [PyData.eqvAll, PyData.eqv, ih]
  | bl _ ih => simp [PyData.eqvAll, PyData.eqv, ih]
  | str _ _ _ _ ih => simp [PyData.eqvAll, PyData.eqv, ih]
section
variable {K : PySem.W.Frag} {A : Around} {σ : L2.St} {ta tb te : TE} {H0 : Hp} {us : List V} {ds : List PyData}
theorem reprFl_at {v : V} {H : Hp} {Q : VK} (un : A.units + 64 < cLine) (f : FlA us ds) (n : us.length ≤ 50) (h : isU isVv us v H) (q : Q (.str (PyData.shown (.tuple ds))) H) : rReprD K A [v] H Q := by
  obtain ⟨D, ws, rfl, hD, l⟩ := h
  have e := l.eqs
  subst e
  obtain ⟨d1, d2, d3, d4, d5, d6⟩ := f.all
  have z := PyData.shown_le_bulk 1921 (by decide) (.tuple ds) (by simp only [PyData.leavesShort, d4])
  have zb : PyData.bulk (.tuple ds) ≤ 100 * ds.length + 1 := by
    simp only [PyData.bulk]
    omega
  have fl := f.len
  refine ⟨D, .tuple ds, rfl, .tup (SqT.of hD) (f.dp K H), by simp only [PyData.showable, d1], by simp only [PyData.hasDict, d2], ?_, ?_, q⟩
  · simp only [PyData.depth, d3]
    omega
  · refine Nat.le_trans z ?_
    have : (1921 + 2) * PyData.bulk (.tuple ds) ≤ (1921 + 2) * 5001 := Nat.mul_le_mul_left _ (by omega)
    show _ ≤ 2 ^ 24
    omega
theorem ev_reprFl (un : A.units + 64 < cLine) (f : FlA us ds) (n : us.length ≤ 50) (ha : EvV (Same H0) σ ta (isU isVv us)) : EvV (Same H0) σ (tCB (rReprD K A) (tCons ta tNil)) (isSv (PyData.shown (.tuple ds))) :=
  ev_cb (eva_cons ha eva_nil) fun vs H Q w r k => by
    obtain ⟨v, r, rfl, hv, rfl⟩ := r
    exact reprFl_at un f n hv (k _ H (Same.refl H) rfl)
theorem ev_neFlT (f : FlA us ds) (ha : EvV (Same H0) σ ta (isU isVv us)) (hb : EvV (Same H0) σ tb (isU isVv us)) : EvV (Same H0) σ (tOp (rNeD K) ta tb) (isBv false) :=
  ev_o ha hb fun x y H Q w a1 a2 k => by
    obtain ⟨D, vs, rfl, hD, l⟩ := a1
    obtain ⟨D2, ws, rfl, hD2, l2⟩ := a2
    have q := l.eqs
    have q2 := l2.eqs
    subst q
    subst q2
    obtain ⟨d1, d2, d3, d4, d5, d6⟩ := f.all
    have sh : SeqAt.shaped (.tuple ds) = true := by simp [SeqAt.shaped, PyData.canLay0, PyData.depth, d3, d6]
    exact ⟨_, _, .tup (SqT.of hD) (f.dp K H), .tup (SqT.of hD2) (f.dp K H), sh, sh, k _ H (Same.refl H) (by rw [show PyData.eqv (.tuple ds) (.tuple ds) = true by simp only [PyData.eqv]; exact f.rf]; rfl)⟩
end
end V3

set_option Elab.async false
set_option linter.all false
set_option maxRecDepth 100000
/-! all that is done with reports -/
namespace V3
open PySem L2 TL
def FFq (C : Addr) (s : Sp) : Addr → Sp → XK → Prop := fun D sp E => D = C ∧ sp = s ∧ E = E0
structure RpStr (P : Program) (w : World) (K : PySem.W.Frag) (mg : Str → Option Value) (base : Heap) (c : Rc) (RC : Addr) : Prop where
  s : ∃ (f : Addr) (fd : FuncData), FnOk P w K mg base CX0 4 f fd ["self"] (spRpStr K c RC) ∧ PySem.W.findIn K (.ref RC) "__str__" = some (some (.ref f)) ∧ PySem.W.isFn K (.ref f) = true ∧ Binds K fd ["self"] []
structure RpRd (P : Program) (w : World) (K : PySem.W.Frag) (mg : Str → Option Value) (base : Heap) (c : Rc) (RC CT : Addr) : Prop where
  g : mg "Report" = some (.ref RC)
  r : ∃ (mc : Value) (p f : Addr) (fd : FuncData), ClX.CRead K RC mc ∧ ClX.CMet K RC mc "read" p f ∧ FnOk P w K mg base (L2.CX P w) 7 f fd ["cls", "text"] (spRpRead K c RC CT) ∧ Binds K fd ["cls", "text"] []
structure RpOps (P : Program) (w : World) (K : PySem.W.Frag) (mg : Str → Option Value) (base : Heap) (c : Rc) (RC : Addr) : Prop where
  g : mg "Report" = some (.ref RC)
  C : RpC K RC
  M : RpM P w K mg base c RC
  S : RpStr P w K mg base c RC
  mkX : MkRpX P w K mg base c RC
  mk0 : ∃ (f : Addr) (fd : FuncData) (e : Addr) (ds : List Value), FnOk P w K mg base CX0 2 f fd ["self", "rows"] (spRpInit K c RC) ∧ Mk K RC f ∧ Vals [.ref e] ds ∧ Binds K fd ["self", "rows"] ds ∧ (∃ o, K.lookup e = some o ∧ o.cls = .type "tuple") ∧ ∀ H, SqT K H e []
  eq : ∃ (f : Addr) (fd : FuncData), FnOk P w K mg base CX0 3 f fd ["self", "other"] (spRpEq K c RC) ∧ EqCls K RC f ∧ Binds K fd ["self", "other"] []
  ne : ∃ (f : Addr) (fd : FuncData), FnOk P w K mg base CX0 3 f fd ["self", "other"] spRpNe ∧ EqCls K RC f ∧ Binds K fd ["self", "other"] []
  inv : ∃ (f : Addr) (fd : FuncData), FnOk P w K mg base CX0 5 f fd ["self"] (spRpInv K c RC) ∧ InvCls K RC f ∧ Binds K fd ["self"] []
  nf : PySem.W.notFirst K RC (.ref RC) = true
  bh : BehindL K RC
def rStrR (K : PySem.W.Frag) (c : Rc) (RC : Addr) : List V → Hp → VK → Prop := fun xs H Q => ∃ v rs, xs = [v] ∧ RpA K c RC rs v H ∧ ∀ H', Same H H' → Q (.str (rpT rs)) H'
section
variable {X : Cx} {c : Rc} {RC : Addr}
theorem call_strR (T : RpStr X.prog X.w X.K X.mg X.base c RC) (room : Room 6 X.A) : CallR X (.type "str") (rStrR X.K c RC) := by
  intro pins s σ H xs us Q I r h
  obtain ⟨v, rs, rfl, a, q⟩ := h
  obtain ⟨f, fd, G, at_, isf, bi⟩ := T.s
  obtain ⟨x, dx, q1, us1, rfl, hx, hq, rl, ok⟩ := id a
  exact call_strO (E := fun _ _ _ => False) G at_ isf bi pass0 room pins s σ H _ us Q I r ⟨x, dx, _, rfl, hx, _, rs, rfl, a, fun H' sm => ⟨_, rfl, q H' sm⟩⟩
theorem op_eqRp (T : RpOps X.prog X.w X.K X.mg X.base c RC) (hr : Room 3 X.A) : OpR X (compareOp .Eq) (rEqO X.K 3 (FFq RC (spRpEq X.K c RC)) false) := op_eqO (fun D sp E h => by
  obtain ⟨rfl, rfl, rfl⟩ := h
  obtain ⟨f, fd, F, ec, bi⟩ := T.eq
  exact ⟨CX0, f, fd, _, F, ec, bi, pass0⟩) hr
theorem op_neRp (T : RpOps X.prog X.w X.K X.mg X.base c RC) (hr : Room 4 X.A) : OpR X (compareOp .NotEq) (rEqO X.K 3 (FFq RC (spRpEq X.K c RC)) true) := op_neO (fun D sp E h => by
  obtain ⟨rfl, rfl, rfl⟩ := h
  obtain ⟨f, fd, F, ec, bi⟩ := T.eq
  exact ⟨CX0, f, fd, _, F, ec, bi, pass0⟩) hr
theorem op_inRp (T : RpOps X.prog X.w X.K X.mg X.base c RC) (hr : Room 4 X.A) : OpR X (compareOp .In) (rInL X.K (FFq RC spRpNe)) := op_inL (fun D sp E h => by
  obtain ⟨rfl, rfl, rfl⟩ := h
  obtain ⟨f, fd, F, ec, bi⟩ := T.ne
  exact ⟨CX0, f, fd, _, F, ec, bi, pass0⟩) hr
theorem un_invRp (T : RpOps X.prog X.w X.K X.mg X.base c RC) (hr : Room 5 X.A) : UnR X (unaryOp .Invert) (rNegO (FFq RC (spRpInv X.K c RC))) := un_invO (fun D sp E h => by
  obtain ⟨rfl, rfl, rfl⟩ := h
  obtain ⟨f, fd, F, ec, bi⟩ := T.inv
  exact ⟨CX0, f, fd, _, F, ec, bi, pass0⟩) hr
end
theorem texts_inj {rs qs : List Rw} (hr : ∀ m ∈ rs, m.ok ∧ m.kind = 1) (hq : ∀ m ∈ qs, m.ok ∧ m.kind = 1) (e : rs.map Rw.text = qs.map Rw.text) : rs = qs := by
  have z : ∀ {ms : List Rw}, (∀ m ∈ ms, m.ok ∧ m.kind = 1) → (ms.map Rw.text).map cntOf = ms.map some := fun {ms} h => by
    rw [List.map_map]
    exact List.map_congr_left fun m hm => cntOf_text (h m hm).1 (h m hm).2
  have y := congrArg (List.map cntOf) e
  rw [z hr, z hq] at y
  exact List.map_inj_right (fun a b h => Option.some.inj h) |>.mp y
theorem str_nil {x : Str} : x = "" ↔ x.length = 0 := by
  constructor
  · rintro rfl
    decide +kernel
  · intro h
    refine ext_tl ?_
    have e : (tl ("" : Str)) = [] := by decide +kernel
    rw [e]
    have z : (tl x).length = x.length := by simp [tl, Str.length]
    exact List.length_eq_zero_iff.mp (z.trans h)
theorem linesC_len (t : Str) : (linesC t).length ≤ t.length + 1 := by
  unfold linesC
  split
  · simp
  · have a := wgt_split t nlS (by decide +kernel)
    unfold wgt at a
    omega
theorem rpT_len {rs : List Rw} (ok : RpOk rs) : (rpT rs).length ≤ 200 := by
  have z := len_join1 (show nlS.length = 1 by decide +kernel) (rs.map Rw.text)
  have n := ok.1
  have w : ∀ (l : List Rw), (∀ m ∈ l, m.text.length ≤ 20) → wgt (l.map Rw.text) ≤ l.length * 21 := fun l h => by
    induction l with
    | nil => simp [wgt]
    | cons a r ih =>
      have h1 := ih fun m hm => h m (List.mem_cons_of_mem _ hm)
      have h2 : a.text.length ≤ 20 := h a List.mem_cons_self
      unfold wgt at h1 ⊢
      simp only [List.map_cons, List.sum_cons, List.length_cons] at h1 ⊢
      omega
  have y := w rs fun m hm => ct_len (ok.2.1 m hm).1 (ok.2.1 m hm).2
  show (Str.join nlS (rs.map Rw.text)).length ≤ 200
  omega
theorem lines_rp {rs : List Rw} (ok : RpOk rs) : linesC (rpT rs) = rs.map Rw.text := by
  cases rs with
  | nil => decide +kernel
  | cons m r =>
    have fr : ∀ p ∈ (m :: r).map Rw.text, 10 ∉ tl p := fun p hp => by
      obtain ⟨n, hn, rfl⟩ := List.mem_map.mp hp
      unfold Rw.text
      exact join_no (by decide +kernel) fun w hw => (word_ok (ok.2.1 n hn).1 w hw).1.2
    have e : Txt.split (rpT (m :: r)) nlS = (m :: r).map Rw.text := split_lines (by simp) fr
    unfold linesC
    rw [e, if_neg]
    intro z
    have z : rpT (m :: r) = "" := str_nil.mpr z
    rw [z] at e
    have s0 : Txt.split ("" : Str) nlS = [("" : Str)] := by decide +kernel
    rw [s0] at e
    have e : [("" : Str)] = m.text :: r.map Rw.text := e
    have e1 : m.text = "" := (List.cons.inj e).1.symm
    have e2 := cntOf_text (ok.2.1 m List.mem_cons_self).1 (ok.2.1 m List.mem_cons_self).2
    rw [e1] at e2
    have e3 : cntOf ("" : Str) = none := by decide +kernel
    rw [e3] at e2
    cases e2
def badT (t : Str) : Option Nat := badC 0 [] (linesC t)
theorem bad_rp {rs : List Rw} (ok : RpOk rs) : badT (rpT rs) = none := by
  unfold badT
  rw [lines_rp ok]
  exact badC_rows ok.2.1 (by simpa using ok.2.2)
theorem text_of {rs : List Rw} {t : Str} (h : rs.map Rw.text = linesC t) : rpT rs = t := by
  unfold rpT
  rw [h]
  unfold linesC
  split
  · rename_i z
    rw [str_nil.mpr z]
    rfl
  · exact StrLaws.join_split t nlS
section
variable {K : PySem.W.Frag} {σ : L2.St} {ta tb tc te : TE} {H0 : Hp} {c : Rc} {RC CT : Addr} {rs qs : List Rw} {tx : Str}
theorem ev_RX (ha : EvV (Same H0) σ ta (RpX c RC rs)) : EvV (Same H0) σ ta (RpA K c RC rs) := ev_to ha fun _ _ a => a.a
theorem ev_strR (ha : EvV (Same H0) σ ta (RpA K c RC rs)) : EvV (Same H0) σ (tCB (rStrR K c RC) (tCons ta tNil)) (isSv (rpT rs)) :=
  ev_cb (eva_cons ha eva_nil) fun vs H Q w r k => by
    obtain ⟨v, r, rfl, hv, rfl⟩ := r
    exact ⟨v, rs, rfl, hv, fun H' s => k _ H' s rfl⟩
theorem ev_readR (ok : RpOk rs) (ha : EvV (Same H0) σ ta (isSv (rpT rs))) : EvV (Same H0) σ (tCMethA RC (spRpRead K c RC CT) (fun _ => E0) (tC (.ref RC)) (tCons ta tNil)) (RpA K c RC rs) := fun H Q w k =>
  ⟨rfl, ha H _ w fun v H1 s1 w1 e => by
    cases e
    have l := rpT_len ok
    have ll := linesC_len (rpT rs)
    refine ⟨rpT rs, rfl, by omega, by omega, fun _ qs okq e u H' s a => ?_, fun i e => ?_⟩
    · rw [lines_rp ok] at e
      rw [texts_inj okq.2.1 ok.2.1 e] at a
      exact k u H' (s1.trans s) (w1.trans s) a
    · have z := bad_rp ok
      unfold badT at z
      rw [z] at e
      cases e⟩
theorem ev_eqRp {neg : Bool} (nf : PySem.W.notFirst K RC (.ref RC) = true) (ha : EvV (Same H0) σ ta (RpA K c RC rs)) (hb : EvV (Same H0) σ tb (RpA K c RC qs)) : EvV (Same H0) σ (tOp (rEqO K 3 (FFq RC (spRpEq K c RC)) neg) ta tb) (isBv (decide (meanL rs = meanL qs) != neg)) :=
  ev_o ha hb fun x y H Q w a1 a2 k => by
    obtain ⟨x, dx, q, us, rfl, hx, hq, rl⟩ := id a1
    obtain ⟨y, dy, q2, us2, rfl, hy, hq2, rl2⟩ := id a2
    exact ⟨x, RC, dx, _, y, RC, dy, _, spRpEq K c RC, E0, rfl, rfl, hx, hy, ⟨rfl, rfl, rfl⟩, nf, _, _, rs, qs, rfl, a1, a2, fun H' s => ⟨_, rfl, k _ H' s rfl⟩⟩
theorem ev_invRp (ha : EvV (Same H0) σ ta (RpA K c RC rs)) : EvV (Same H0) σ (tUn (rNegO (FFq RC (spRpInv K c RC))) ta) (RpA K c RC (rs.map negW)) := fun H Q w k =>
  ha H _ w fun v H1 s1 w1 a => by
    obtain ⟨x, dx, q, us, rfl, hx, hq, rl⟩ := id a
    exact ⟨x, RC, dx, _, _, E0, rfl, hx, ⟨rfl, rfl, rfl⟩, _, rs, rfl, a, fun z H' s a => k z H' (s1.trans s) (w1.trans s) a⟩
theorem ev_rp0 {e : Addr} (he : (∃ o, K.lookup e = some o ∧ o.cls = .type "tuple") ∧ ∀ H, SqT K H e []) : EvV (Same H0) σ (tMake RC (spRpInit K c RC) [.ref e] E0 tNil) (RpA K c RC []) := fun H Q w k => fun x dx nx ndx ne => by
    have z1 : Same H (upd H dx (.own x)) := Same.new ndx
    have nx2 : upd H dx (.own x) x = none := by rw [upd_ne (Ne.symm ne)]; exact nx
    have z2 : Same H (upd (upd H dx (.own x)) x (.ins RC dx [])) := z1.trans (Same.new nx2)
    refine ⟨x, dx, e, [], [], rfl, upd_same, .inr (.inr he), Ls.nil, ⟨by decide, (fun m hm => by cases hm), List.nodup_nil⟩, fun H' sx fa => ⟨rfl, ?_⟩⟩
    have z3 : Same H H' := fun c o e => sx c o (fun q => by rw [q, nx] at e; cases e) (z2 c o e)
    exact k _ H' z3 (w.trans z3) fa
/-- x in (text, rows, None) -/
theorem ev_inRp (C : RpC K RC) (bh : BehindL K RC) (ha : EvV (Same H0) σ ta (RpX c RC rs)) (hs : EvV (Same H0) σ tb (isSv tx)) : EvV (Same H0) σ (tOp (rInL K (FFq RC spRpNe)) ta (tTup (tCons tb (tCons (tFld K ta "rows") (tCons (tC .non) tNil))))) (isBv false) := fun H Q w k =>
  ha H _ w fun x1 H1 s1 w1 a => hs H1 _ w1 fun t H2 s2 w2 e => ha H2 _ w2 fun x3 H3 s3 w3 a3 => by
    cases e
    obtain ⟨y, dy, q, us, rfl, hy, hq, rl, _⟩ := a3
    refine ⟨y, RC, dy, _, _, rfl, hy, C.cl, C.n, rfl, (by show 3 ≤ sizeLine; decide), fun p np => ?_⟩
    have s4 : Same H3 (upd H3 p (.tup [.str tx, .ref q, .non])) := Same.new np
    have a4 := up ((s2.trans s3).trans s4) a
    have hq4 := s4 _ _ hq
    have hp4 : upd H3 p (.tup [.str tx, .ref q, .non]) p = some (.tup [.str tx, .ref q, .non]) := upd_same
    have S4 := ((s1.trans s2).trans s3).trans s4
    dsimp only [tNil]
    generalize upd H3 p (.tup [.str tx, .ref q, .non]) = H4 at s4 a4 hq4 hp4 S4
    obtain ⟨x, dx, d, us', rfl, hx, hd, nL⟩ := id a4
    have pl : ∀ z' ∈ [V.str tx, .ref q, .non], PlainL H4 z' := fun z' hz => by
      simp only [List.mem_cons, List.not_mem_nil, or_false] at hz
      rcases hz with rfl | rfl | rfl
      · exact .str tx
      · exact .tup hq4
      · exact .non
    exact ⟨x, p, RC, dx, _, _, _, E0, rfl, rfl, hx, hp4, pl, bh, ⟨rfl, rfl, rfl⟩, fun z' hz => ⟨_, z', rfl, pl z' hz, rfl, rfl⟩, k _ H4 S4 (w.trans S4) rfl⟩
theorem ev_isiRows (C : RpC K RC) (ha : EvV (Same H0) σ ta (RpX c RC rs)) : EvV (Same H0) σ (tCB (rIsi K) (tCons (tFld K ta "rows") (tCons (tC (.ty "tuple")) tNil))) (isBv true) := fun H Q w k =>
  ha H _ w fun x H1 s1 w1 hx => by
    obtain ⟨y, dy, q, us, rfl, hy, hq, rl, _⟩ := hx
    exact ⟨y, RC, dy, _, _, rfl, hy, C.cl, C.n, rfl, _, _, _, _, _, rfl, .ty "tuple", .base (.tup hq), kit_ty (by decide +kernel), k _ H1 s1 w1 rfl⟩
end
end V3

set_option Elab.async false
set_option linter.all false
set_option maxRecDepth 100000
namespace V3
open PySem L2 TL
-- no sHouseOf
abbrev sLetOf : Stmt := top 53
section
variable {P : Program} {w : World} {K : PySem.W.Frag} {mg : Str → Option Value} {base : Heap}
theorem scLetOf : FnScope ["_law_row"] ["_law_row"] (defScope sLetOf) := ⟨rfl, rfl, rfl, by decide +kernel, rfl, by decide +kernel, by decide +kernel⟩
theorem ok_letOf {f : Addr} {c : Rc} {fd : FuncData} (F : Fun K "_law_let_of" "_law_let_of" sLetOf f fd) (ML : MkR P w K mg base "Let" ["self", "kind", "state", "deed", "place"] c.L 3 (spLInit c)) : FnOk P w K mg base CX0 5 f fd ["_law_row"] (spLetOf c) := by
  obtain ⟨f1, fd1, G1, M1, b1⟩ := ML.ini
  refine F.ok scLetOf (fun vs H Q E h => ?_) (fun cdv A outer s H vs Q E hr h => ?_)
  · obtain ⟨v, m, rfl, _⟩ := h
    rfl
  · obtain ⟨v, m, rfl, ⟨p, rfl, hp⟩, ok, ek, q⟩ := h
    cases m with
    | ct _ _ _ => cases ek
    | lt k s d pl =>
      refine ⟨_, pss_one (ps_ret (pe_make (E := fun _ _ _ => False) M1 G1 hr rfl ML.g b1 .nil pass0 (pa_cons (pe_ix ix_tup (pv 0) pe_int (fun _ _ => rfl)) (pa_cons (pe_ix ix_tup (pv 0) pe_int (fun _ _ => rfl)) (pa_cons (pe_ix ix_tup (pv 0) pe_int (fun _ _ => rfl)) (pa_cons (pe_ix ix_tup (pv 0) pe_int (fun _ _ => rfl)) pa_nil)))))), ?_⟩
      refine ⟨_, rfl, p, _, 0, .str k, rfl, rfl, SqT.of hp, rfl, _, rfl, p, _, 1, .str s, rfl, rfl, SqT.of hp, rfl, _, rfl, p, _, 2, .str d, rfl, rfl, SqT.of hp, rfl, _, rfl, p, _, 3, .str pl, rfl, rfl, SqT.of hp, rfl, ?_⟩
      exact fun x dx nx ndx _ => mk_let ok nx ndx fun H' s' a => ⟨rfl, q _ _ s' a⟩
end
end V3

set_option Elab.async false
set_option linter.all false
set_option maxRecDepth 100000
namespace V3
open PySem L2 TL
/-! a move, its words, its text -/
inductive Mv where
  | beg (a : Int) | take (t : Int) | takeBy (t a : Int) | right (t a : Int) | shut
  deriving DecidableEq
def Idx (t : Int) : Prop := 0 ≤ t ∧ t ≤ 10000000000000000000000000000000000000000
def Amt (a : Int) : Prop := 1 ≤ a ∧ a ≤ 10000000000000000000000000000000000000000
def Mv.ok : Mv → Prop
  | .beg a => Amt a
  | .take t => Idx t
  | .takeBy t a => Idx t ∧ Amt a
  | .right t a => Idx t ∧ Amt a
  | .shut => True
def Mv.evens : Mv → List Str
  | .beg _ => ["begin"]
  | .take _ => ["take"]
  | .takeBy _ _ => ["take", "by"]
  | .right _ _ => ["right", "to"]
  | .shut => ["shut"]
def Mv.nums : Mv → List Int
  | .beg a => [a]
  | .take t => [t]
  | .takeBy t a => [t, a]
  | .right t a => [t, a]
  | .shut => []
def Mv.words : Mv → List Str
  | .beg a => ["begin", num a]
  | .take t => ["take", num t]
  | .takeBy t a => ["take", num t, "by", num a]
  | .right t a => ["right", num t, "to", num a]
  | .shut => ["shut"]
def Mv.text (m : Mv) : Str := Str.join sp1 m.words
theorem nums_ok {m : Mv} (h : m.ok) : ∀ n ∈ m.nums, Idx n := by
  intro n hn
  cases m with
  | shut => cases hn
  | _ =>
    simp only [Mv.nums, List.mem_cons, List.not_mem_nil, or_false] at hn
    simp only [Mv.ok, Amt, Idx] at h
    unfold Idx
    first
      | (subst hn; omega)
      | (rcases hn with rfl | rfl <;> omega)
theorem at_am {t : Int} (h : Idx t) : Am t := by
  unfold Idx at h
  unfold Am
  omega
/-- no blank in a word, no semicolon either -/
theorem words_free {m : Mv} (h : m.ok) : ∀ p ∈ m.words, 32 ∉ tl p ∧ 59 ∉ tl p := by
  have k : ∀ z : Int, 0 ≤ z → 32 ∉ tl (num z) ∧ 59 ∉ tl (num z) := fun z hz => ⟨num_free hz (by decide), num_free hz (by decide)⟩
  have e1 : 32 ∉ tl "begin" ∧ 59 ∉ tl "begin" := by decide +kernel
  have e2 : 32 ∉ tl "take" ∧ 59 ∉ tl "take" := by decide +kernel
  have e3 : 32 ∉ tl "by" ∧ 59 ∉ tl "by" := by decide +kernel
  have e4 : 32 ∉ tl "right" ∧ 59 ∉ tl "right" := by decide +kernel
  have e5 : 32 ∉ tl "to" ∧ 59 ∉ tl "to" := by decide +kernel
  have e6 : 32 ∉ tl "shut" ∧ 59 ∉ tl "shut" := by decide +kernel
  intro p hp
  cases m with
  | beg a =>
    have h' : Amt a := h
    unfold Amt at h'
    simp only [Mv.words, List.mem_cons, List.not_mem_nil, or_false] at hp
    rcases hp with rfl | rfl
    · exact e1
    · exact k a (by omega)
  | take t =>
    have h' : Idx t := h
    unfold Idx at h'
    simp only [Mv.words, List.mem_cons, List.not_mem_nil, or_false] at hp
    rcases hp with rfl | rfl
    · exact e2
    · exact k t (by omega)
  | takeBy t a =>
    have h' : Idx t ∧ Amt a := h
    unfold Idx Amt at h'
    simp only [Mv.words, List.mem_cons, List.not_mem_nil, or_false] at hp
    rcases hp with rfl | rfl | rfl | rfl
    · exact e2
    · exact k t (by omega)
    · exact e3
    · exact k a (by omega)
  | right t a =>
    have h' : Idx t ∧ Amt a := h
    unfold Idx Amt at h'
    simp only [Mv.words, List.mem_cons, List.not_mem_nil, or_false] at hp
    rcases hp with rfl | rfl | rfl | rfl
    · exact e4
    · exact k t (by omega)
    · exact e5
    · exact k a (by omega)
  | shut =>
    simp only [Mv.words, List.mem_cons, List.not_mem_nil, or_false] at hp
    subst hp
    exact e6
theorem words_ne (m : Mv) : m.words ≠ [] := by cases m <;> exact (fun z => nomatch z)
theorem split_text {m : Mv} (h : m.ok) : Txt.split m.text sp1 = m.words := by
  unfold Mv.text
  have z := split_join sp_tl (by decide +kernel) (words_ne m) fun p hp => (words_free h p hp).1
  rw [join_eq] at z
  exact z
/-- the texts that the program writes are these -/
theorem b_text (a : Int) : bText a = (Mv.beg a).text := ext_tl (by
  unfold bText Mv.text
  rw [tl_join]
  simp only [tl_append, Mv.words, List.map, joinL, sp_tl]
  have e : tl ("begin " : Str) = tl ("begin" : Str) ++ [32] := by decide +kernel
  rw [e]
  simp [Str.empty, tl])
end V3

set_option Elab.async false
set_option linter.all false
set_option maxRecDepth 100000
namespace V3
open PySem L2 TL
-- no sReadNumber
theorem digit_yes : ∀ c : Nat, c < 58 → 48 ≤ c → Unicode.isDigit c = true := by decide +kernel
theorem all_list (x : Str) (p : Nat → Bool) : x.cps.all p = (tl x).all p := by
  unfold tl
  rw [Array.all_toList]
theorem num_digit {t : Int} (h : 0 ≤ t) : Txt.isdigit (num t) = true := by
  unfold Txt.isdigit
  rw [all_list, tl_num' h]
  have l : (num t).length > 0 := by
    rw [len_tl, tl_num' h]
    exact List.length_pos_iff.mpr (numL_ne _)
  rw [decide_eq_true l, Bool.true_and]
  exact List.all_eq_true.mpr fun c hc => by
    obtain ⟨a, b⟩ := numL_digits _ c hc
    exact digit_yes c (by omega) a
theorem num_ascii {t : Int} (h : 0 ≤ t) : Txt.isascii (num t) = true := by
  unfold Txt.isascii
  rw [all_list, tl_num' h]
  exact List.all_eq_true.mpr fun c hc => by
    obtain ⟨a, b⟩ := numL_digits _ c hc
    exact decide_eq_true (by omega)
/-- the first digit of a number that is not 0 is not 0 -/
theorem head_digit : ∀ n : Nat, 0 < n → (numL n).take 1 ≠ [48] := by
  intro n
  induction n using Nat.strongRecOn with
  | _ n ih =>
    intro hn
    by_cases h : n < 10
    · rw [numL_lt h]
      intro z
      simp at z
      omega
    · rw [numL_step (by omega)]
      have k := ih (n / 10) (by omega) (by omega)
      have e : (numL (n / 10) ++ [48 + n % 10]).take 1 = (numL (n / 10)).take 1 := by
        cases q : numL (n / 10) with
        | nil => exact absurd q (numL_ne _)
        | cons a l => rfl
      rw [e]
      exact k
theorem num_starts {t : Int} (h : 0 ≤ t) (e : Txt.startswith (num t) "0" = true) : num t = "0" := by
  have z : tl ("0" : Str) = [48] := by decide +kernel
  have hA : PySem.StrLaws.At (num t) "0" (num t).length 0 := by
    unfold Txt.startswith at e
    obtain ⟨e1, e2⟩ := Bool.and_eq_true_iff.mp e
    exact ⟨of_decide_eq_true e1, e2⟩
  have p := (at_iff (by rw [z]; exact (fun q => nomatch q)) 0).mp hA
  rw [z, tl_num' h] at p
  have q : (numL t.toNat).take 1 = [48] := by
    have q2 : ((numL t.toNat).drop 0).take 1 == [48] := p
    simpa using q2
  by_cases n : 0 < t.toNat
  · exact absurd q (head_digit _ n)
  · refine ext_tl ?_
    rw [tl_num' h, z]
    have e0 : t.toNat = 0 := by omega
    rw [e0]
    exact numL_lt (by decide)
def spRN : Sp := fun vs H Q _ => ∃ t : Int, vs = [.str (num t)] ∧ V3.Idx t ∧ Q (.int t) H
section
variable {P : Program} {w : World} {K : PySem.W.Frag} {mg : Str → Option Value} {base : Heap}
end
end V3

set_option Elab.async false
set_option linter.all false
set_option maxRecDepth 100000
namespace V3
open PySem L2 TL
-- no sMoveOf
-- no sReadMove
-- no sReadMoves
-- no sHRead
/-- where the classes stand -/
structure Cl where
  B : Addr
  T : Addr
  R : Addr
  S : Addr
  Hi : Addr
def Mv.obj (c : Cl) (dx : Addr) : Mv → HO
  | .beg a => .ins c.B dx [("amount", .int a)]
  | .take t => .ins c.T dx (two (.int t) .non)
  | .takeBy t a => .ins c.T dx (two (.int t) (.int a))
  | .right t a => .ins c.R dx (two (.int t) (.int a))
  | .shut => .ins c.S dx []
def MvAt (c : Cl) (H : Hp) (v : V) (m : Mv) : Prop := ∃ x dx, v = .ref x ∧ H x = some (m.obj c dx)
theorem MvAt.same {c : Cl} {H H' : Hp} {v : V} {m : Mv} (h : MvAt c H v m) (s : Same H H') : MvAt c H' v m := by
  obtain ⟨x, dx, e, hx⟩ := h
  exact ⟨x, dx, e, s _ _ hx⟩
theorem num_yes {i n : Int} (h : n ≤ i) : isNum (.int i) n = true := decide_eq_true h
structure MkTxt (P : Program) (w : World) (K : PySem.W.Frag) (mg : Str → Option Value) (base : Heap) (name : Str) (ps : List Str) (C : Addr) (spI : Sp) (dv : List V) : Prop where
  g : mg name = some (.ref C)
  ini : ∃ (f : Addr) (fd : FuncData), FnOk P w K mg base (L2.CX P w) 4 f fd ps spI ∧ Mk K C f ∧ Binds K fd ps [] ∧ ∃ ds, Vals dv ds ∧ Binds K fd ps ds
/-- the program's moves, how they are made -/
structure MvTxt (P : Program) (w : World) (K : PySem.W.Frag) (mg : Str → Option Value) (base : Heap) (c : Cl) (CM : Addr) : Prop where
  B : MkTxt P w K mg base "Begin" ["self", "amount"] c.B (spBegin c.B CM) []
  T : MkTxt P w K mg base "Take" ["self", "at", "amount"] c.T (spTake c.T CM) [.non]
  R : MkTxt P w K mg base "Right" ["self", "at", "amount"] c.R (spRight c.R CM) []
  S : Mk0 K c.S
  gS : mg "Shut" = some (.ref c.S)
def spMO (c : Cl) : Sp := fun vs H Q _ => ∃ (w n : Addr) (m : Mv), vs = [.ref w, .ref n] ∧ H w = some (.lst (m.evens.map V.str)) ∧ H n = some (.lst (m.nums.map V.int)) ∧ m.ok ∧
  ∀ (x dx : Addr) (H' : Hp), Same H H' → H' x = some (m.obj c dx) → Q (.ref x) H'
section
variable {P : Program} {w : World} {K : PySem.W.Frag} {mg : Str → Option Value} {base : Heap}
/-- form == (..): a new tuple, the answer by the data -/
theorem form_eq {D : Ends} {σ : L2.St} {H : Hp} {q : Addr} {fs ls : List V} {ds es : List PyData} {t : TA} {b : Bool} {A B : TS}
    (hσ : σ[2]? = some (some (.ref q))) (hq : H q = some (.tup fs)) (hf : ∀ H', DpAll K H' fs ds) (ht : ∀ Q', Q' ls H → t σ H Q') (hl : ∀ H', DpAll K H' ls es) (hz : ls.length ≤ sizeLine)
    (s1 : SeqAt.shaped (.tuple ds) = true) (s2 : SeqAt.shaped (.tuple es) = true) (e : PyData.eqv (.tuple ds) (.tuple es) = b) (k : ∀ H', Same H H' → if b = true then A D σ H' else B D σ H') :
    tIfS (tTest (tOp (rEqD K) (tVar 2) (tTup t))) A B D σ H := by
  refine ⟨_, hσ, ht _ ⟨hz, fun p np => ?_⟩⟩
  have s3 : Same H (upd H p (.tup ls)) := Same.new np
  refine ⟨.tuple ds, .tuple es, .tup (SqT.of (s3 _ _ hq)) (hf _), .tup (SqT.of upd_same) (hl _), s1, s2, _, rfl, ?_⟩
  rw [e]
  exact k _ s3
end
end V3

set_option Elab.async false
set_option linter.all false
set_option maxRecDepth 100000
namespace V3
open PySem L2 TL
-- no sSStr
-- no sBEq
-- no sTEq
-- no sREq
-- no sSEq
section
variable {P : Program} {w : World} {K : PySem.W.Frag} {mg : Str → Option Value} {base : Heap}
end
/-! the text of any move, and == of moves -/
def Mv.kind : Mv → Nat
  | .beg _ => 0
  | .take _ => 1
  | .takeBy _ _ => 1
  | .right _ _ => 2
  | .shut => 3
def Cl.at (c : Cl) : Nat → Addr
  | 0 => c.B
  | 1 => c.T
  | 2 => c.R
  | _ => c.S
theorem t_text (i : Int) : tText i = (Mv.take i).text := ext_tl (by
  unfold tText Mv.text
  rw [tl_join]
  simp only [tl_append, Mv.words, List.map, joinL, sp_tl]
  have e : tl ("take " : Str) = tl ("take" : Str) ++ [32] := by decide +kernel
  rw [e]
  simp [Str.empty, tl])
theorem tb_text (i j : Int) : tbText i j = (Mv.takeBy i j).text := ext_tl (by
  unfold tbText Mv.text
  rw [tl_join]
  simp only [tl_append, Mv.words, List.map, joinL, sp_tl]
  have e : tl ("take " : Str) = tl ("take" : Str) ++ [32] := by decide +kernel
  have e2 : tl (" by " : Str) = [32] ++ tl ("by" : Str) ++ [32] := by decide +kernel
  rw [e, e2]
  simp [Str.empty, tl])
theorem r_text (i j : Int) : rText i j = (Mv.right i j).text := ext_tl (by
  unfold rText Mv.text
  rw [tl_join]
  simp only [tl_append, Mv.words, List.map, joinL, sp_tl]
  have e : tl ("right " : Str) = tl ("right" : Str) ++ [32] := by decide +kernel
  have e2 : tl (" to " : Str) = [32] ++ tl ("to" : Str) ++ [32] := by decide +kernel
  rw [e, e2]
  simp [Str.empty, tl])
theorem am_of {a : Int} (h : Amt a) : Am a := by
  unfold Amt at h
  unfold Am
  omega
/-- str of a move of a kind -/
def spMS (c : Cl) (k : Nat) : Sp := fun vs H Q _ => ∃ (x dx : Addr) (m : Mv), vs = [.ref x] ∧ H x = some (m.obj c dx) ∧ m.kind = k ∧ m.ok ∧ Q (.str m.text) H
section
variable {P : Program} {w : World} {K : PySem.W.Frag} {mg : Str → Option Value} {base : Heap}
theorem ms_b {f : Addr} {c : Cl} {fd : FuncData} (G : FnOk P w K mg base CX0 1 f fd ["self"] (spBStr c.B)) : FnOk P w K mg base CX0 1 f fd ["self"] (spMS c 0) := G.imp fun vs H Q E h => by
  obtain ⟨x, dx, m, rfl, hx, hk, ok, q⟩ := h
  cases m with
  | beg a =>
    rw [← b_text] at q
    exact ⟨x, dx, a, rfl, hx, am_of ok, q⟩
  | _ => cases hk
theorem ms_t {f : Addr} {c : Cl} {fd : FuncData} (G : FnOk P w K mg base CX0 1 f fd ["self"] (spTStr c.T)) : FnOk P w K mg base CX0 1 f fd ["self"] (spMS c 1) := G.imp fun vs H Q E h => by
  obtain ⟨x, dx, m, rfl, hx, hk, ok, q⟩ := h
  cases m with
  | take i =>
    rw [← t_text] at q
    exact ⟨x, dx, i, _, rfl, hx, at_am ok, .inl ⟨rfl, q⟩⟩
  | takeBy i j =>
    rw [← tb_text] at q
    exact ⟨x, dx, i, _, rfl, hx, at_am ok.1, .inr ⟨j, rfl, am_of ok.2, q⟩⟩
  | _ => cases hk
theorem ms_r {f : Addr} {c : Cl} {fd : FuncData} (G : FnOk P w K mg base CX0 1 f fd ["self"] (spRStr c.R)) : FnOk P w K mg base CX0 1 f fd ["self"] (spMS c 2) := G.imp fun vs H Q E h => by
  obtain ⟨x, dx, m, rfl, hx, hk, ok, q⟩ := h
  cases m with
  | right i j =>
    rw [← r_text] at q
    exact ⟨x, dx, i, j, rfl, hx, at_am ok.1, am_of ok.2, q⟩
  | _ => cases hk
end
theorem mv_at (c : Cl) (m : Mv) (dx : Addr) : ∃ fs, m.obj c dx = .ins (c.at m.kind) dx fs := by
  cases m <;> exact ⟨_, rfl⟩
theorem kind_lt (m : Mv) : m.kind < 4 := by
  cases m <;> (simp only [Mv.kind]; omega)
/-- how the classes of moves tell their text -/
structure StrTxt (P : Program) (w : World) (K : PySem.W.Frag) (mg : Str → Option Value) (base : Heap) (c : Cl) : Prop where
  s : ∀ k, k < 4 → ∃ (f : Addr) (fd : FuncData), FnOk P w K mg base CX0 1 f fd ["self"] (spMS c k) ∧ PySem.W.findIn K (.ref (c.at k)) "__str__" = some (some (.ref f)) ∧ PySem.W.isFn K (.ref f) = true ∧ Binds K fd ["self"] []
/-- str(x), x any move -/
def rStrM (c : Cl) : List V → Hp → VK → Prop := fun xs H Q => ∃ v m, xs = [v] ∧ MvAt c H v m ∧ m.ok ∧ Q (.str m.text) H
theorem call_strM {X : Cx} {c : Cl} (T : StrTxt X.prog X.w X.K X.mg X.base c) (room : Room 3 X.A) : CallR X (.type "str") (rStrM c) := by
  intro pins s σ H xs us Q I r h
  obtain ⟨v, m, rfl, ⟨x, dx, rfl, hx⟩, ok, q⟩ := h
  obtain ⟨f, fd, G, at_, isf, bi⟩ := T.s m.kind (kind_lt m)
  obtain ⟨fs, eo⟩ := mv_at c m dx
  refine call_strO (E := fun _ _ _ => False) G at_ isf bi pass0 room pins s σ H _ us Q I r ⟨x, dx, fs, rfl, by rw [hx, eo], x, dx, m, rfl, hx, rfl, ok, _, rfl, q⟩
/-- what of the classes of moves is == and isinstance -/
structure MvCls (K : PySem.W.Frag) (c : Cl) (MV : Addr) : Prop where
  cl : ∀ k, k < 4 → Cls K (c.at k) ∧ PySem.W.findIn K (.ref (c.at k)) "__class__" = some (some (.builtin "object.__class__")) ∧ PySem.W.mroIn K (c.at k) (.type "object") = some true ∧ PySem.W.kitOne K (.ref (c.at k)) (.ref MV) = some true
  gn : PySem.W.specialIn K (.builtin "object.__class__") "__get__" = some (some (.builtin "getset_descriptor.__get__"))
  tk : PySem.W.takesIn K (.builtin "object.__class__") = some true
  nf : ∀ k, k < 4 → ∀ j, j < 4 → PySem.W.notFirst K (c.at k) (.ref (c.at j)) = true
def spMEq (c : Cl) : Sp := fun vs H Q _ => ∃ (u v : V) (m n : Mv), vs = [u, v] ∧ MvAt c H u m ∧ MvAt c H v n ∧ m.ok ∧ n.ok ∧ Q (.bl (decide (m.text = n.text))) H
section
variable {P : Program} {w : World} {K : PySem.W.Frag} {mg : Str → Option Value} {base : Heap}
structure BltE (mg : Str → Option Value) : Prop where
  isi : mg "isinstance" = none
  str : mg "str" = none
theorem meq_run {c : Cl} {MV : Addr} {H : Hp} {u v : V} {m n : Mv} {Q : VK} (C : MvCls K c MV) (hu : MvAt c H u m) (hv : MvAt c H v n) (mo : m.ok) (no : n.ok) (q : Q (.bl (decide (m.text = n.text))) H) :
    tAndV (tCB (rIsi K) (tCons (tVar 1) (tCons (tC (.ref MV)) tNil))) (tOp rEq (tCB (rStrM c) (tCons (tVar 0) tNil)) (tCB (rStrM c) (tCons (tVar 1) tNil))) (start ["self", "other"] [u, v]) H Q := by
  obtain ⟨y, dy, rfl, hy⟩ := id hv
  obtain ⟨fs, eo⟩ := mv_at c n dy
  obtain ⟨cl, ca, mr, ki⟩ := C.cl n.kind (kind_lt n)
  refine ⟨_, rfl, _, _, _, _, _, rfl, .own MV, .base (.ins (by rw [hy, eo]) cl ca C.gn C.tk mr), ki, _, rfl, iteT ⟨_, rfl, u, m, rfl, hu, mo, _, rfl, _, n, rfl, hv, no, rfl, ?_⟩⟩
  have e : (V.str m.text = V.str n.text) ↔ (m.text = n.text) := ⟨fun z => by injection z, fun z => by rw [z]⟩
  have e2 : decide (V.str m.text = V.str n.text) = decide (m.text = n.text) := by
    by_cases h : m.text = n.text
    · rw [decide_eq_true h, decide_eq_true (e.mpr h)]
    · rw [decide_eq_false h, decide_eq_false (fun z => h (e.mp z))]
  rw [e2]
  exact q
end
end V3

set_option Elab.async false
set_option linter.all false
set_option maxRecDepth 100000
namespace V3
open PySem L2 TL
/-- the tuple that a move is drawn as -/
def Mv.tupV : Mv → List V
  | .beg a => [.str "begin", .int a]
  | .take t => [.str "take", .int t, .int 0]
  | .takeBy t a => [.str "take", .int t, .int a]
  | .right t a => [.str "right", .int t, .int a]
  | .shut => [.str "shut"]
def TupAt (H : Hp) (v : V) (m : Mv) : Prop := ∃ p, v = .ref p ∧ H p = some (.tup m.tupV)
theorem TupAt.same {H H' : Hp} {v : V} {m : Mv} (h : TupAt H v m) (s : Same H H') : TupAt H' v m := by
  obtain ⟨p, e, hp⟩ := h
  exact ⟨p, e, s _ _ hp⟩
def spText : Sp := fun vs H Q _ => ∃ (v : V) (m : Mv), vs = [v] ∧ TupAt H v m ∧ m.ok ∧ Q (.str m.text) H
end V3

set_option Elab.async false
set_option linter.all false
set_option maxRecDepth 100000
namespace V3
open PySem L2 TL
-- no sMvText
section
variable {P : Program} {w : World} {K : PySem.W.Frag} {mg : Str → Option Value} {base : Heap}
/-- the law's own text of a move -/
theorem app0 (x : Str) : x ++ Str.empty = x := ext_tl (by
  rw [tl_append]
  simp [Str.empty, tl])
theorem empty_app (x : Str) : Str.empty ++ x = x := ext_tl (by
  rw [tl_append]
  simp [Str.empty, tl])
end
end V3

set_option Elab.async false
set_option linter.all false
set_option maxRecDepth 100000
/-! the law's values: what is no row of houses, what is no report -/
namespace V3
open PySem PySem.Spec PyProof.Rows L2 TL LamX
/-- all but the box and the tables stays -/
def KN (b : Addr) (H G : Hp) : Prop := ∀ a o, a ≠ b → H a = some o → (∀ q, o ≠ .tbl q) → G a = some o
theorem KN.ofS {b : Addr} {H G : Hp} (s : Same H G) : KN b H G := fun a o _ e _ => s a o e
theorem KN.ofX {b : Addr} {H G : Hp} (s : SameX b H G) : KN b H G := fun a o n e _ => s a o n e
theorem KN.ofE {b : Addr} {H G : Hp} (s : ExtN H G) : KN b H G := fun a o _ e t => s a o e t
theorem KN.trans {b : Addr} {H G F : Hp} (s : KN b H G) (t : KN b G F) : KN b H F := fun a o n e q => t a o n (s a o n e q) q
section
variable {b : Addr} {H G : Hp} {cs mv : List Addr}
theorem TK.kn {v : V} (n : v ≠ .ref b) (s : KN b H G) (h : TK cs H v) : TK cs G v := by
  cases h with
  | non => exact .non
  | bl x => exact .bl x
  | int i => exact .int i
  | str z => exact .str z
  | lst h => exact .lst (s _ _ (fun e => n (by rw [e])) h (fun q z => by cases z))
  | tup h => exact .tup (s _ _ (fun e => n (by rw [e])) h (fun q z => by cases z))
  | ins h c => exact .ins (s _ _ (fun e => n (by rw [e])) h (fun q z => by cases z)) c
theorem isMv_kn {v : V} (n : v ≠ .ref b) (s : KN b H G) (h : TK cs H v) : isMv mv G v = isMv mv H v := by
  cases h with
  | non => rfl
  | bl x => rfl
  | int i => rfl
  | str z => rfl
  | @lst a xs h =>
    show isMvO mv (G a) = isMvO mv (H a)
    rw [h, s _ _ (fun e => n (by rw [e])) h (fun q z => by cases z)]
  | @tup a xs h =>
    show isMvO mv (G a) = isMvO mv (H a)
    rw [h, s _ _ (fun e => n (by rw [e])) h (fun q z => by cases z)]
  | @ins a C dx fs h c =>
    show isMvO mv (G a) = isMvO mv (H a)
    rw [h, s _ _ (fun e => n (by rw [e])) h (fun q z => by cases z)]
/-- a list of things of known type, all of them rows or not, none of it the box -/
def LkB (cs mv : List Addr) (b : Addr) (g : Bool) (v : V) (H : Hp) : Prop := ∃ q xs, v = .ref q ∧ q ≠ b ∧ H q = some (.lst xs) ∧ xs.length ≤ 100 ∧ (∀ z ∈ xs, TK cs H z ∧ z ≠ .ref b) ∧ xs.all (isMv mv H) = g
theorem LkB.kn {g : Bool} {v : V} (s : KN b H G) (h : LkB cs mv b g v H) : LkB cs mv b g v G := by
  obtain ⟨q, xs, rfl, n, e, l, kz, al⟩ := h
  refine ⟨q, xs, rfl, n, s _ _ n e (fun q z => by cases z), l, fun z hz => ⟨(kz z hz).1.kn (kz z hz).2 s, (kz z hz).2⟩, ?_⟩
  rw [all_congr fun z hz => isMv_kn (kz z hz).2 s (kz z hz).1]
  exact al
theorem LkB.aw {g : Bool} {v : V} (h : LkB cs mv b g v H) : AW cs H v ∧ okV mv H v = g := by
  obtain ⟨q, xs, rfl, n, e, l, kz, al⟩ := h
  have ei : itemsOf H (.ref q) = some xs := by
    show seqOf (H q) = _
    rw [e]
    rfl
  refine ⟨⟨.lst e, fun ys ey => ?_⟩, ?_⟩
  · rw [ei] at ey
    cases ey
    exact ⟨l, fun z hz => (kz z hz).1⟩
  · unfold okV
    rw [ei]
    exact al
/-- flat, or such a list that is not all rows -/
def BadB (cs mv : List Addr) (b : Addr) (v : V) (H : Hp) : Prop := (∃ f : Fv, v = f.v) ∨ LkB cs mv b false v H
theorem BadB.kn {v : V} (s : KN b H G) (h : BadB cs mv b v H) : BadB cs mv b v G := h.imp id fun h => h.kn s
theorem flat_items {H : Hp} (f : Fv) : itemsOf H f.v = none := by cases f <;> rfl
theorem flat_tk {H : Hp} (f : Fv) : TK cs H f.v := by
  cases f
  · exact .non
  · exact .bl _
  · exact .int _
  · exact .str _
theorem BadB.aw {v : V} (h : BadB cs mv b v H) : AW cs H v ∧ okV mv H v = false := by
  rcases h with ⟨f, rfl⟩ | h
  · refine ⟨⟨flat_tk f, fun xs e => by rw [flat_items] at e; cases e⟩, ?_⟩
    unfold okV
    rw [flat_items]
  · exact h.aw
abbrev BadS (cs mv : List Addr) (b : Addr) : Unit → V → Hp → Prop := fun _ v H => BadB cs mv b v H
instance {u : Unit} : St (BadS cs mv b u) := ⟨fun v H G s h => BadB.kn (KN.ofS s) h⟩
/-- no report: such a value, or rows of a report with one of them twice -/
def DupB (c : Rc) (b : Addr) (v : V) (H : Hp) : Prop := ∃ q us rs m, v = .ref q ∧ q ≠ b ∧ H q = some (.lst us) ∧ RwLs c H us (rs ++ [m, m]) ∧ rs.length ≤ 10 ∧ (∀ x ∈ rs ++ [m, m], x.kind = 1) ∧ ∀ u ∈ us, u ≠ .ref b
theorem RwLs.kn {c : Rc} {us : List V} {rs : List Rw} (s : KN b H G) (n : ∀ u ∈ us, u ≠ .ref b) (h : RwLs c H us rs) : RwLs c G us rs := ⟨h.1, fun i m e => by
  obtain ⟨v, ev, y, dy, rfl, hy⟩ := h.2 i m e
  exact ⟨_, ev, y, dy, rfl, s _ _ (fun e => n _ (List.mem_of_getElem? ev) (by rw [e])) hy (fun q z => by cases m <;> cases z)⟩⟩
theorem DupB.kn {c : Rc} {v : V} (s : KN b H G) (h : DupB c b v H) : DupB c b v G := by
  obtain ⟨q, us, rs, m, rfl, n, e, l, a1, a2, a3⟩ := h
  exact ⟨q, us, rs, m, rfl, n, s _ _ n e (fun q z => by cases z), RwLs.kn s a3 l, a1, a2, a3⟩
def OddB (c : Rc) (cs mv : List Addr) (b : Addr) (v : V) (H : Hp) : Prop := BadB cs mv b v H ∨ DupB c b v H
theorem OddB.kn {c : Rc} {v : V} (s : KN b H G) (h : OddB c cs mv b v H) : OddB c cs mv b v G := h.imp (fun h => h.kn s) fun h => h.kn s
theorem OddB.no {c : Rc} {v : V} (h : OddB c cs mv b v H) : NoCts mv cs v H ∨ DupCts c v H := by
  rcases h with (⟨f, rfl⟩ | ⟨q, xs, rfl, n, e, l, kz, al⟩) | ⟨q, us, rs, m, rfl, n, e, l, a1, a2, a3⟩
  · exact .inl ⟨flat_tk f, .inl (flat_items f)⟩
  · exact .inl ⟨.lst e, .inr ⟨q, xs, rfl, e, l, fun z hz => (kz z hz).1, al⟩⟩
  · exact .inr ⟨q, us, rs, m, rfl, e, l, a1, a2⟩
end
abbrev OddS (c : Rc) (cs mv : List Addr) (b : Addr) : Unit → V → Hp → Prop := fun _ v H => OddB c cs mv b v H
instance {c : Rc} {cs mv : List Addr} {b : Addr} {u : Unit} : St (OddS c cs mv b u) := ⟨fun v H G s h => OddB.kn (KN.ofS s) h⟩
theorem wrongHs_ok {dd cd : PyData} {g : Bool} {z : Str} (e : wrongHs dd cd g = some z) : PyData.strOk z = true := by
  unfold wrongHs at e
  split at e
  · split at e
    · split at e
      · cases e
      · cases e
        decide +kernel
    · cases e
      decide +kernel
  · cases e
    decide +kernel
/-- what is told twice is told alike -/
theorem tol_ne {K : PySem.W.Frag} {n : Str} {o : Option Str} {x y : V} {H : Hp} {Q : VK} (kn : PyData.strOk n = true) (kz : ∀ z, o = some z → PyData.strOk z = true) (hx : TolA n o x H) (hy : TolA n o y H) (k : Q (.bl false) H) : rNeD K x y H Q := by
  cases o with
  | none =>
    rw [show x = .non from hx, show y = .non from hy]
    refine ⟨.none, .none, .non, .non, by simp [SeqAt.shaped, PyData.canLay0, PyData.depth], by simp [SeqAt.shaped, PyData.canLay0, PyData.depth], ?_⟩
    rw [show PyData.eqv .none .none = true by simp [PyData.eqv]]
    exact k
  | some z =>
    obtain ⟨t, rfl, ht⟩ := hx
    obtain ⟨u, rfl, hu⟩ := hy
    have dp : ∀ {a : Addr}, H a = some (.tup [.str n, .str z, .bl true]) → Dp K H (.ref a) (.tuple [.str n, .str z, .bool true]) := fun e => .tup (SqT.of e) (.cons (.str _) (.cons (.str _) (.cons (.bl _) .nil)))
    have kz2 := kz z rfl
    refine ⟨_, _, dp ht, dp hu, by simp [SeqAt.shaped, PyData.canLay0, PyData.canLayAll0, PyData.depth, PyData.depthAll, kn, kz2], by simp [SeqAt.shaped, PyData.canLay0, PyData.canLayAll0, PyData.depth, PyData.depthAll, kn, kz2], ?_⟩
    rw [show PyData.eqv (.tuple [.str n, .str z, .bool true]) (.tuple [.str n, .str z, .bool true]) = true by simp [PyData.eqv, PyData.eqvAll]]
    exact k
end V3

set_option Elab.async false
set_option linter.all false
set_option maxRecDepth 100000
/-! the law's lists -/
namespace V3
open PySem PySem.Spec PyProof.Rows L2 TL LamX
/-- of known type, no row, not the box -/
abbrev ItB (cs mv : List Addr) (b : Addr) : V → Hp → Prop := fun v H => TK cs H v ∧ v ≠ .ref b ∧ isMv mv H v = false
instance {cs mv : List Addr} {b : Addr} : St (ItB cs mv b) := ⟨fun v H G s h => ⟨h.1.same s, h.2.1, by rw [isMv_same h.1 s]; exact h.2.2⟩⟩
section
variable {cs mv : List Addr} {b : Addr} {σ : L2.St} {ta tb : TE} {H0 : Hp}
theorem BadB.it {v : V} {H : Hp} (h : BadB cs mv b v H) : ItB cs mv b v H := by
  rcases h with ⟨f, rfl⟩ | ⟨q, xs, rfl, n, e, _⟩
  · exact ⟨flat_tk f, by cases f <;> (intro z; cases z), by cases f <;> rfl⟩
  · refine ⟨.lst e, fun z => n (by cases z; rfl), ?_⟩
    show isMvO mv (H q) = false
    rw [e]
    rfl
theorem ev_fl (f : Fv) : EvV (Same H0) σ (tC f.v) (fun v H => BadB cs mv b v H) := ev_to ev_c fun v H e => .inl ⟨f, e⟩
theorem all_last {xs : List V} {f : V → Bool} {x : V} (h : f x = false) : (xs ++ [x]).all f = false := by
  rw [List.all_append]
  simp [h]
/-- xs + [x], x no row -/
theorem ev_catB {D : Addr} {us : List V} {i : Nat} {bx : HO} (e : σ[i]? = some (some (.ref D))) (hb : H0 b = some bx) (hD : H0 D = some (.lst us)) (n : us.length ≤ 10) (ku : ∀ z ∈ us, TK cs H0 z ∧ z ≠ .ref b) (ha : EvV (Same H0) σ ta (ItB cs mv b)) :
    EvV (Same H0) σ (tOp rCat (tVar i) (tLst (tCons ta tNil))) (fun v H => BadB cs mv b v H) := fun H Q w k => by
  refine ⟨_, e, ha H _ w fun x H1 s1 w1 hx => ⟨(by show 1 ≤ sizeLine; decide), fun p np => ?_⟩⟩
  have s2 : Same H1 (upd H1 p (.lst [x])) := Same.new np
  refine ⟨D, p, us, [x], rfl, rfl, s2 _ _ (w1 _ _ hD), upd_same, Nat.le_trans (m := 1000) (by show us.length + 1 ≤ 1000; omega) (by decide), fun q nq => ?_⟩
  have s3 : Same (upd H1 p (.lst [x])) (upd (upd H1 p (.lst [x])) q (.lst (us ++ [x]))) := Same.new nq
  have S := s2.trans s3
  have W := w1.trans S
  refine k _ _ (s1.trans S) W (.inr ⟨q, us ++ [x], rfl, fun z => ?_, upd_same, by rw [List.length_append, List.length_singleton]; omega, fun z hz => ?_, ?_⟩)
  · subst z
    rw [s2 _ _ (w1 _ _ hb)] at nq
    cases nq
  · rcases List.mem_append.mp hz with hz | hz
    · exact ⟨(ku z hz).1.same W, (ku z hz).2⟩
    · rw [List.mem_singleton.mp hz]
      exact ⟨hx.1.same S, hx.2.1⟩
  · refine all_last ?_
    rw [isMv_same hx.1 S]
    exact hx.2.2
/-- [x], x no row -/
theorem ev_oneB {bx : HO} (hb : H0 b = some bx) (ha : EvV (Same H0) σ ta (ItB cs mv b)) : EvV (Same H0) σ (tLst (tCons ta tNil)) (fun v H => BadB cs mv b v H) := fun H Q w k => by
  refine ha H _ w fun x H1 s1 w1 hx => ⟨(by show 1 ≤ sizeLine; decide), fun p np => ?_⟩
  have s2 : Same H1 (upd H1 p (.lst [x])) := Same.new np
  refine k _ _ (s1.trans s2) (w1.trans s2) (.inr ⟨p, [x], rfl, fun z => ?_, upd_same, by show 1 ≤ 100; decide, fun z hz => ?_, ?_⟩)
  · subst z
    rw [w1 _ _ hb] at np
    cases np
  · rw [List.mem_singleton.mp hz]
    exact ⟨hx.1.same s2, hx.2.1⟩
  · show (isMv mv _ x && true) = false
    rw [isMv_same hx.1 s2, hx.2.2]
    rfl
theorem ev_it (ha : EvV (Same H0) σ ta (fun v H => BadB cs mv b v H)) : EvV (Same H0) σ ta (ItB cs mv b) := ev_to ha fun _ _ h => h.it
/-- a row of the other kind is no row -/
theorem ev_rowB {c : Rc} {m : Rw} {v : V} {i : Nat} {bx : HO} (hb : H0 b = some bx) (nb : ∀ C dx fs, bx ≠ .ins C dx fs) (hc : c.at m.kind ∈ cs) (hm : c.at m.kind ∉ mv) (e : σ[i]? = some (some v)) (h : RwAt c H0 v m) : EvV (Same H0) σ (tVar i) (ItB cs mv b) := by
  refine ev_v e ?_
  obtain ⟨x, dx, rfl, hx⟩ := h
  refine ⟨.ins hx hc, fun z => ?_, ?_⟩
  · cases z
    rw [hb] at hx
    exact nb _ _ _ (Option.some.inj hx)
  · show isMvO mv (H0 x) = false
    rw [hx]
    exact decide_eq_false hm
/-- rows + [m, m] -/
theorem ev_dupB {c : Rc} {rs : List Rw} {m : Rw} {v : V} {D : Addr} {us : List V} {i j : Nat} {u1 v1 : Int} (e : σ[i]? = some (some (.ref D))) (ej : σ[j]? = some (some v)) (hb : H0 b = some (box u1 v1)) (hD : H0 D = some (.lst us)) (rl : RwLs c H0 us rs) (n : rs.length ≤ 10) (ok : ∀ x ∈ rs, x.kind = 1) (hm : m.kind = 1) (h : RwAt c H0 v m) :
    EvV (Same H0) σ (tOp rCat (tVar i) (tLst (tCons (tVar j) (tCons (tVar j) tNil)))) (fun v H => DupB c b v H) := fun H Q w k => by
  refine ⟨_, e, _, ej, _, ej, (by show 2 ≤ sizeLine; decide), fun p np => ?_⟩
  have s2 : Same H (upd H p (.lst [v, v])) := Same.new np
  have ul : us.length = rs.length := rl.1
  refine ⟨D, p, us, [v, v], rfl, rfl, s2 _ _ (w _ _ hD), upd_same, Nat.le_trans (m := 1000) (by show us.length + 2 ≤ 1000; omega) (by decide), fun q nq => ?_⟩
  have s3 : Same (upd H p (.lst [v, v])) (upd (upd H p (.lst [v, v])) q (.lst (us ++ [v, v]))) := Same.new nq
  have W := w.trans (s2.trans s3)
  have hv := h.same W
  have rl3 : RwLs c (upd (upd H p (.lst [v, v])) q (.lst (us ++ [v, v]))) (us ++ [v, v]) (rs ++ [m, m]) := Ls.app (rl.same W) (Ls.cons hv (Ls.cons hv Ls.nil))
  refine k _ _ (s2.trans s3) W ⟨q, us ++ [v, v], rs, m, rfl, fun z => ?_, upd_same, rl3, n, fun x hx => ?_, fun z hz => ?_⟩
  · subst z
    rw [s2 _ _ (w _ _ hb)] at nq
    cases nq
  · rcases List.mem_append.mp hx with hx | hx
    · exact ok x hx
    · simp only [List.mem_cons, List.not_mem_nil, or_false, or_self] at hx
      rw [hx]
      exact hm
  · obtain ⟨i2, hi2⟩ := List.mem_iff_getElem?.mp hz
    obtain ⟨m2, _, y, dy, rfl, hy⟩ := Ls.get rl3 hi2
    intro z
    cases z
    rw [W _ _ hb] at hy
    cases m2 <;> cases Option.some.inj hy
end
/-- rows' objects are not the box, and of known type -/
theorem rows_tk {c : Rc} {cs : List Addr} {b : Addr} {us : List V} {rs : List Rw} {H : Hp} {u v : Int} (hc : ∀ m ∈ rs, c.at m.kind ∈ cs) (hb : H b = some (box u v)) (rl : RwLs c H us rs) : ∀ z ∈ us, TK cs H z ∧ z ≠ .ref b := fun z hz => by
  obtain ⟨i, hi⟩ := List.mem_iff_getElem?.mp hz
  obtain ⟨m, em, y, dy, rfl, hy⟩ := Ls.get rl hi
  refine ⟨.ins hy (hc m (List.mem_of_getElem? em)), fun e => ?_⟩
  cases e
  rw [hb] at hy
  cases m <;> cases Option.some.inj hy
section
variable {K : PySem.W.Frag} {c : Rc} {b : Addr} {u v : Int} {H : Hp} {Q : VK}
abbrev tRight (K : PySem.W.Frag) (c : Rc) : TE := tLc (iList K (tCall spRows [] E0 (tCons (tVar 4) (tCons (tCall spChoose [] E0 (tCons (tVar 4) (tCons (tC (.int 4)) tNil))) tNil)))) (gName 12) tYes (tCall (spLetOf c) [] E0 (tCons (tVar 12) tNil)) [12]
theorem right_go {o0 o1 o2 o3 o5 o6 o7 o8 o9 o10 o11 : Option V} (hb : H b = some (box u v)) (ok : BoxOk u v) (k : ∀ D us ms H', Pre b H H' → H' D = some (.lst us) → D ≠ b → RwLs c H' us ms → (∀ m ∈ ms, m.kind = 0) → ms.length ≤ 3 → Q (.ref D) H') :
    tRight K c [o0, o1, o2, o3, some (.ref b), o5, o6, o7, o8, o9, o10, o11, none] H Q := by
  refine ⟨_, rfl, _, rfl, b, u, v, 4, rfl, hb, ok, (by decide), (by decide), fun n u1 v1 n0 n4 ok1 => ?_⟩
  have S1 : Pre b H (upd H b (box u1 v1)) := Pre.box ok1
  have hb1 : upd H b (box u1 v1) b = some (box u1 v1) := upd_same
  generalize upd H b (box u1 v1) = H1 at S1 hb1
  refine ⟨b, u1, v1, n, rfl, hb1, ok1, n0, by omega, fun D0 xs ms H2 p2 hD0 nDb nw rl ln => ⟨D0, rfl, ⟨xs, SqL.of hD0⟩, fun D nD => ?_⟩⟩
  obtain ⟨_, u2, v2, ok2, hb2⟩ := id p2
  have nb : b ≠ D := ne_of_none hb2 nD
  have lx : xs.length = ms.length := rl.1
  refine lc_list (K := K) (a := D0) (xs := xs) (fun i Hh => Same H2 Hh ∧ H2 D = none ∧ ∃ acc, Hh D = some (.lst acc) ∧ RwLs c Hh acc (ms.take i)) ⟨Same.new nD, nD, [], upd_same, Ls.nil⟩ (fun i Hh _ z => SqL.of (z.1 _ _ hD0)) ?_ ?_
  · rintro i z Hh hi ⟨s2, nD1, acc, hD, ra⟩
    obtain ⟨m, em, tm, mo, mk⟩ := Ls.get rl hi
    refine ⟨rfl, ?_⟩
    unfold tYes
    dsimp only
    refine iteT ⟨_, rfl, z, m, rfl, tm.same s2, mo, mk, fun y H' s3 ry => ⟨acc, s3 _ _ hD, ?_, ?_, nD1, _, upd_same, ?_⟩⟩
    · have z1 : acc.length = (ms.take i).length := ra.1
      rw [List.length_take] at z1
      exact Nat.lt_of_lt_of_le (m := 101) (by omega) (by decide)
    · intro b o e
      rw [upd_ne (ne_of_none e nD1)]
      exact s3 b o (s2 b o e)
    · rw [take_nxt em]
      have kl : Keep H' (upd H' D (.lst (acc ++ [y]))) := Keep.lst (s3 _ _ hD)
      exact ((ra.same s3).keep kl).push (ry.keep kl)
  · rintro Hh ⟨s2, nD1, acc, hD, ra⟩
    rw [lx, List.take_length] at ra
    refine k D acc ms Hh ((S1.trans p2).then s2) hD (Ne.symm nb) ra (fun m hm => ?_) (by omega)
    obtain ⟨i, hi⟩ := List.mem_iff_getElem?.mp hm
    have il : i < xs.length := by
      rw [lx]
      exact (List.getElem?_eq_some_iff.mp hi).1
    obtain ⟨m', em, _, _, mk⟩ := Ls.get rl (List.getElem?_eq_getElem il)
    rw [hi] at em
    cases em
    exact mk
end
section
variable {K : PySem.W.Frag} {σ : L2.St} {ta tb : TE} {H0 : Hp} {c : Rc} {RC : Addr} {rs : List Rw}
theorem ev_mkRpW (ok : RpOk rs) (ha : EvV (Same H0) σ ta (SqA K (RwS c) rs)) : EvV (Same H0) σ (tMake RC (spRpInit K c RC) [] E0 (tCons ta tNil)) (RpA K c RC rs) := fun H Q w k =>
  ha H _ w fun v H1 s1 w1 ⟨q, us, e, hq, l⟩ x dx nx ndx ne => by
    subst e
    have z1 : Same H1 (upd H1 dx (.own x)) := Same.new ndx
    have nx2 : upd H1 dx (.own x) x = none := by rw [upd_ne (Ne.symm ne)]; exact nx
    have z2 : Same H1 (upd (upd H1 dx (.own x)) x (.ins RC dx [])) := z1.trans (Same.new nx2)
    refine ⟨x, dx, q, us, rs, rfl, upd_same, hq.same z2, RwLs.same l z2, ok, fun H' sx fa => ⟨rfl, ?_⟩⟩
    have z3 : Same H1 H' := fun c o e => sx c o (fun q => by rw [q, nx] at e; cases e) (z2 c o e)
    exact k _ H' (s1.trans z3) (w1.trans z3) fa
/-- the due one, told twice -/
theorem due_eq {v : V} {q : Addr} {d ch r : V} {dd cd : PyData} {g : Bool} {H : Hp} {R : VK} (e9 : σ[9]? = some (some (.ref q))) (e8 : σ[8]? = some (some (.bl g))) (hq : H q = some (.lst [d, ch, r])) (ad : Ad NT H d dd) (sd : Sm 3 dd) (ac : Ad NT H ch cd) (sc : Sm 3 cd)
    (tv : TolA "house" (wrongHs dd cd g) v H) (k : ∀ H3, Same H H3 → R (.bl false) H3) : tCall spHouseDue [] E0 (tCons (tVar 9) (tCons (tVar 8) tNil)) σ H fun y H2 => rNeD K v y H2 R := by
  refine ⟨_, e9, _, e8, q, d, ch, r, dd, cd, g, rfl, hq, ad, sd, ac, sc, fun y H2 s2 ty => ?_⟩
  have tv2 : TolA "house" (wrongHs dd cd g) v H2 := by
    cases e : wrongHs dd cd g with
    | none =>
      rw [e] at tv
      exact tv
    | some z =>
      rw [e] at tv
      obtain ⟨t, rfl, ht⟩ := tv
      exact ⟨t, rfl, s2 _ _ ht⟩
  exact tol_ne (by decide +kernel) (fun z e => wrongHs_ok e) tv2 ty (k H2 s2)
end
end V3

set_option Elab.async false
set_option linter.all false
set_option maxRecDepth 100000
/-! the law -/
namespace V3
open PySem PySem.Spec PyProof.Rows L2 TL LamX
abbrev sLaw : Stmt := top 58
abbrev NL : List Str := ["_law_script", "_law_count", "_law_let", "_law_k", "_law_box", "_law_turn", "_law_right", "_law_bad", "_law_is_good", "_law_told", "_law_rows_here", "_law_odd", "_law_row"]
theorem scLaw : FnScope NL ["_law_script"] (defScope sLaw) := ⟨rfl, rfl, rfl, by decide +kernel, rfl, by decide +kernel, by decide +kernel⟩
/-- the name of the law's lambdas -/
def qLam : Str := (envOfC "law" (defScope sLaw) 0 0 .none).qual ++ "<lambda>"
def spLawT (K : PySem.W.Frag) (pT : Addr) : Sp := fun vs H Q _ => ∃ (a : Addr) (ns : List Int), vs = [.ref a] ∧ SqL K H a (ns.map V.int) ∧ ns.length ≤ 63 ∧ H pT = some (.tbl #[]) ∧ ∀ H', Q (.bl true) H'
structure BltL13 (mg : Str → Option Value) : Prop where
  len : mg "len" = none
  range : mg "range" = none
  max : mg "max" = none
  min : mg "min" = none
  tuple : mg "tuple" = none
/-- _law_word, as it stands behind the top -/
structure WordC (K : PySem.W.Frag) (mg : Str → Option Value) (g : Addr) : Prop where
  gl : mg "_law_word" = some (.ref g)
  kp : PySem.W.keepIn K (.ref g) = true
  ex : ∃ (oc : Value) (od : Option Addr) (kV doc pm : Value) (an : Option Addr) (cdv ct : Value) (osl : Array (Option Value)), K.lookup g = some ⟨oc, od, .func (PySem.W.fnOf "_law_word" "_law_word" (defArgs sWordL) (defBody sWordL) (defScope sWordL) .none kV doc pm an cdv ct), osl⟩ ∧
    PySem.W.codeIn K cdv "_law_word" = true ∧ L2.Binds K (PySem.W.fnOf "_law_word" "_law_word" (defArgs sWordL) (defBody sWordL) (defScope sWordL) .none kV doc pm an cdv ct) ["_law_make"] []
abbrev tIx (K : PySem.W.Frag) (i : Int) : TE := tOp (rIxL K) (tVar 9) (tC (.int i))
abbrev csR (c : Rc) : List Addr := [c.L, c.C]
def tHouseL (K : PySem.W.Frag) (c : Rc) (HC CH : Addr) (E : XK) : TE := tMakeS HC (spHouseD [c.L] (csR c) HC CH) [] (WE fun cls d _ H => E cls d H) (tCons (tIx K 0) (tCons (tIx K 1) (tCons (tIx K 2) tNil)))
abbrev tTup (K : PySem.W.Frag) : TE := tCB (fun xs H Q => ∃ (p : Addr) (ys : List V), xs = [.ref p] ∧ ((SqL K H p ys ∧ ∀ l, H l = none → Q (.ref l) (upd H l (.tup ys))) ∨ (SqT K H p ys ∧ Q (.ref p) H))) (tCons (tVar 10) tNil)
def tRepT (K : PySem.W.Frag) (c : Rc) (RC CE : Addr) (E : XK) : TE := tMakeS RC (spReportD K c [c.C] (csR c) RC CE) [] (WE fun cls d _ H => E cls d H) (tCons (tTup K) tNil)
def tRepO (K : PySem.W.Frag) (c : Rc) (RC CE : Addr) (E : XK) : TE := tMakeS RC (spReportD K c [c.C] (csR c) RC CE) [] (WE fun cls d _ H => E cls d H) (tCons (tVar 11) tNil)
abbrev depL : List Fv := [.int 0, .int 1, .int 2, .int 3, .int 4]
/-- what the rows are: good or bad -/
def RgB (cs mv : List Addr) (b : Addr) (g : Bool) (v : V) (H : Hp) : Prop := (g = true ∧ LkB cs mv b true v H) ∨ (g = false ∧ BadB cs mv b v H)
theorem RgB.kn {cs mv : List Addr} {b : Addr} {g : Bool} {v : V} {H G : Hp} (s : KN b H G) (h : RgB cs mv b g v H) : RgB cs mv b g v G := h.imp (fun h => ⟨h.1, h.2.kn s⟩) fun h => ⟨h.1, h.2.kn s⟩
theorem RgB.aw {cs mv : List Addr} {b : Addr} {g : Bool} {v : V} {H : Hp} (h : RgB cs mv b g v H) : AW cs H v ∧ okV mv H v = g := by
  rcases h with ⟨rfl, h⟩ | ⟨rfl, h⟩
  · exact h.aw
  · exact h.aw
theorem rwExt {c : Rc} {H G : Hp} {v : V} {m : Rw} (h : RwAt c H v m) (e : ExtN H G) : RwAt c G v m := by
  obtain ⟨x, dx, rfl, hx⟩ := h
  exact ⟨x, dx, rfl, e _ _ hx (fun q z => by cases m <;> cases z)⟩
abbrev tRowsL (K : PySem.W.Frag) (c : Rc) : TE := tLc (iTup K (tCall spReportL [] E0 (tCons (tVar 4) tNil))) (gName 12) tYes (tMake c.C (spCInit c) [] E0 (tCons (tOp (rIxT K) (tVar 12) (tC (.int 0))) (tCons (tOp (rIxT K) (tVar 12) (tC (.int 1))) (tCons (tOp (rIxT K) (tVar 12) (tC (.int 2))) tNil)))) [12]
theorem rows_go {K : PySem.W.Frag} {c : Rc} {b : Addr} {u v : Int} {H : Hp} {Q : VK} {o0 o1 o2 o3 o5 o6 o7 o8 o9 o10 o11 : Option V} (hb : H b = some (box u v)) (ok : BoxOk u v) (k : ∀ D us rs H', Pre b H H' → H' D = some (.lst us) → RwLs c H' us rs → RpOk rs → Q (.ref D) H') :
    tRowsL K c [o0, o1, o2, o3, some (.ref b), o5, o6, o7, o8, o9, o10, o11, none] H Q := by
  refine ⟨_, rfl, b, u, v, rfl, hb, ok, fun z rs HP pP hz okRs => ?_⟩
  have rl4 : rs.length ≤ 4 := okRs.1
  have lc := evn_lcY (H0 := HP) (σ := [o0, o1, o2, o3, some (.ref b), o5, o6, o7, o8, o9, o10, o11, none]) (wi := iTup K (tC z)) (i := 12) (as := rs) (S := CtA) (S' := RwS c)
    (te := tMake c.C (spCInit c) [] E0 (tCons (tOp (rIxT K) (tVar 12) (tC (.int 0))) (tCons (tOp (rIxT K) (tVar 12) (tC (.int 1))) (tCons (tOp (rIxT K) (tVar 12) (tC (.int 2))) tNil)))) (fun m => m) (evi_tupU (fun H Q w k => k z H (Same.refl H) w (up w hz))) (by omega) (fun m hm y G sG r => by
      obtain ⟨ok1, kd⟩ := okRs.2.1 m hm
      cases m with
      | lt _ _ _ _ => cases kd
      | ct k w o => exact ev_cnt ok1 (ev_ct0 (ev_v (i := 12) rfl r)) (ev_ct1 (ev_v (i := 12) rfl r)) (ev_ct2 (ev_v (i := 12) rfl r))) (fun _ => rfl)
  rw [List.map_id'] at lc
  exact lc.ev HP Q (Same.refl _) fun v10 HR sR _ h10 => by
    obtain ⟨D10, us10, rfl, hD10, l10⟩ := h10
    exact k D10 us10 rs HR (pP.then sR) hD10 l10 okRs
section
variable {P : Program} {w : World} {K : PySem.W.Frag} {mg : Str → Option Value} {base : Heap}
set_option maxHeartbeats 1000000 in
theorem ok_law {f g cT pT CH CE CB CI HC RC : Addr} {c : Rc} {fd : FuncData} (F : FunC K "law" "law" sLaw f fd (.ref cT)) (T : BltL13 mg) (W : WoT K mg CH CE CB CI) (WC : WordC K mg g) (TB : TabB base mg cT pT) (nLC : c.L ≠ c.C)
    (MC : MkR P w K mg base "Count" ["self", "kind", "weight", "whose"] c.C 3 (spCInit c)) (ML : MkR P w K mg base "Let" ["self", "kind", "state", "deed", "place"] c.L 3 (spLInit c)) (nf : PySem.W.notFirst K RC (.ref RC) = true)
    (gH : mg "House" = some (.ref HC)) (gR : mg "Report" = some (.ref RC))
    (MH : ∃ (f : Addr) (fd : FuncData), FnOk P w K mg base (L2.CX P w) 4 f fd ["self", "depth", "check", "rows"] (spHouseD [c.L] (csR c) HC CH) ∧ Mk K HC f ∧ Binds K fd ["self", "depth", "check", "rows"] [])
    (MR : ∃ (f : Addr) (fd : FuncData), FnOk P w K mg base (L2.CX P w) 3 f fd ["self", "rows"] (spReportD K c [c.C] (csR c) RC CE) ∧ Mk K RC f ∧ Binds K fd ["self", "rows"] [])
    (MR2 : ∃ (f : Addr) (fd : FuncData), FnOk P w K mg base CX0 2 f fd ["self", "rows"] (spRpInit K c RC) ∧ Mk K RC f ∧ Binds K fd ["self", "rows"] [])
    (EQ : ∃ (f : Addr) (fd : FuncData), FnOk P w K mg base CX0 3 f fd ["self", "other"] (spRpEq K c RC) ∧ EqCls K RC f ∧ Binds K fd ["self", "other"] [])
    (cS : Cal P w K mg base CX0 "_law_seed" 1 ["_law_script", "_law_k"] (spSeed K)) (cC : Cal P w K mg base CX0 "_law_choose" 1 ["_law_box", "_law_many"] spChoose) (cO : Cal P w K mg base CX0 "_law_one_of" 2 ["_law_box", "_law_some"] (spOneOf K))
    (cR : Cal P w K mg base CX0 "_law_rows" 3 ["_law_box", "_law_many"] spRows) (cL : Cal P w K mg base CX0 "_law_let_of" 5 ["_law_row"] (spLetOf c)) (cP : Cal P w K mg base CX0 "_law_report" 3 ["_law_box"] spReportL)
    (cM : Cal P w K mg base CX0 "_law_mostly" 7 ["_law_box", "_law_some"] spMostly) (cU : Cal P w K mg base CX0 "_law_house_due" 2 ["_law_told", "_law_is_good"] spHouseDue) :
    FnG P w K mg base CX0 9 f fd ["_law_script"] (spLawT K pT) := by
  obtain ⟨fS, fdS, GS, mS, kS, bS⟩ := cS
  obtain ⟨fC, fdC, GC, mC, kC, bC⟩ := cC
  obtain ⟨fO, fdO, GO, mO, kO, bO⟩ := cO
  obtain ⟨fR0, fdR0, GR0, mR0, kR0, bR0⟩ := cR
  obtain ⟨fL, fdL, GL, mL, kL, bL⟩ := cL
  obtain ⟨fP, fdP, GP, mP, kP, bP⟩ := cP
  obtain ⟨fM, fdM, GM, mM, kM, bM⟩ := cM
  obtain ⟨fU, fdU, GU, mU, kU, bU⟩ := cU
  obtain ⟨oc, od, kV, doc, pm, an, cdw, ct, osl, lkw, cdW, bW⟩ := WC.ex
  obtain ⟨fH, fdH, GH, mH, bH⟩ := MH
  obtain ⟨fR, fdR, GR, mR, bR⟩ := MR
  obtain ⟨f2, fd2, G2, M2, b2⟩ := MR2
  obtain ⟨f3, fd3, G3, M3, b3⟩ := MC.ini
  obtain ⟨f4, fd4, G4, M4, b4⟩ := ML.ini
  refine fnGc F scLaw (fun vs H Q E h => ?_) (fun A outer s H vs Q E gA hr h => ?_)
  · obtain ⟨a, ns, rfl, _⟩ := h
    rfl
  · obtain ⟨a, ns, rfl, hS, hl, hT, k⟩ := h
    have hr1 : Room 1 _ := hr.mono (by decide)
    have hr2 : Room 2 _ := hr.mono (by decide)
    have hr3 : Room 3 _ := hr.mono (by decide)
    have hr4 : Room 4 _ := hr.mono (by decide)
    have hr5 : Room 5 _ := hr.mono (by decide)
    have hr7 : Room 7 _ := hr.mono (by decide)
    let X : Cx := (cxOf CX0 P w K mg base NL "law" (defScope sLaw) f (.ref cT) A outer s H E).nox
    have pl : ∀ {params : Arguments} {body : Expr} {scope : Scope} {t : XK → TE} {p lpos pos : Pos} (Ls : LamS (defScope sLaw) scope) (hdef : defaultsOf params X.env = ([], [])) (hbind : ∀ (q : Str) (cl : List (Str × Addr)) (pm cv ctv : Value), bindArgs (PySem.W.kla_fn "<lambda>" q params body scope cl pm cv ctv) ⟨[], []⟩ = pure [])
        (hbody : ∀ (A : Around) (outer : List Env) (s : Shared) (H : Hp) (E : XK) (f c' : Addr), Room 5 (A.deeper (lamEnv X scope s.heap.objs.size f c')) → PE (lamCx X A outer s H E scope f c') body (t E)), PE X (.Call (.Name "_law_word" p) [.Lambda params body scope lpos] [] pos) (tLam [(pT, qLam)] (TTw CH CE) t) := by
      intro params body scope t p lpos pos Ls hdef hbind hbody
      exact pe_lamcall (X := X) (T := [(pT, qLam)]) (TT := TTw CH CE) (Ng := NWl) (a := "_law_make") (k := 5) rfl WC.gl WC.kp lkw cdW bW scWordL rfl (Or.inl rfl) (gives_word W) TB rfl (List.mem_singleton.mpr rfl) (fun p hp _ => by rw [List.mem_singleton.mp hp]; rfl) hr7 Ls hdef hbind hbody
    refine ⟨_, PSs.nox (X := cxOf CX0 P w K mg base NL "law" (defScope sLaw) f (.ref cT) A outer s H E) (pss_cons (ps_par (i := 1) (j := 2) rfl scLaw.nd rfl rfl (by decide) rfl rfl (pa_cons (pe_make (E := E0) M3 G3 hr4 rfl MC.g b3 .nil pass0 (pa_cons pe_str (pa_cons pe_int (pa_cons pe_str pa_nil)))) (pa_cons (pe_make (E := E0) M4 G4 hr4 rfl ML.g b4 .nil pass0 (pa_cons pe_str (pa_cons pe_str (pa_cons pe_str (pa_cons pe_str pa_nil))))) pa_nil)) (by rfl))
  (pss_cons (ps_for PassesOwn.never rfl (pi_range1 (by rfl) T.range (pa_cons (pe_callB (call_max2 rfl) (by rfl) T.max (by decide +kernel) (pa_cons pe_int (pa_cons (pe_callB (call_min2 rfl) (by rfl) T.min (by decide +kernel) (pa_cons pe_int (pa_cons (pe_callB call_len_seq (by rfl) T.len PySem.boot_len (pa_cons (pv 0) pa_nil)) pa_nil))) pa_nil))) pa_nil)) (pg_name (i := 3) scLaw.nd rfl (Or.inl rfl))
  (pss_cons (ps_set (i := 4) scLaw.nd rfl (Or.inl rfl) (pe_call GS hr1 rfl mS kS bS .nil pass0 (pa_cons (pv 0) (pa_cons (pv 3) pa_nil))))
  (pss_one (ps_for PassesOwn.never rfl (pi_range1 (by rfl) T.range (pa_cons pe_int pa_nil)) (pg_name (i := 5) scLaw.nd rfl (Or.inl rfl))
  (pss_cons (ps_setLc (i := 6) (own := [("_law_row", 12)]) (g := gName 12) (tt := tYes) (by rfl) scLaw.nd rfl rfl (sw_true rfl rfl rfl (by decide +kernel)) (pi_list (pe_call GR0 hr3 rfl mR0 kR0 bR0 .nil pass0 (pa_cons (pv 4) (pa_cons (pe_call GC hr1 rfl mC kC bC .nil pass0 (pa_cons (pv 4) (pa_cons pe_int pa_nil))) pa_nil)))) (blkOk_by (own := [("_law_row", 12)]) (N := NL) (sc := defScope sLaw) (by decide +kernel)) (fun _ _ _ _ _ => (pg_name (i := 12) scLaw.nd rfl (Or.inl rfl))) (fun _ _ _ _ _ => pts_nil) (fun _ _ _ _ _ => (pe_call GL hr5 rfl mL kL bL .nil pass0 (pa_cons (pv 12) pa_nil))))
  (pss_cons (ps_set (i := 7) scLaw.nd rfl (Or.inl rfl) (pe_lst (pa_cons pe_non (pa_cons (pe_op op_cat (pv 6) (pe_lst (pa_cons pe_non pa_nil))) (pa_cons pe_int (pa_cons pe_str (pa_cons pe_str (pa_cons (pe_op op_cat (pv 6) (pe_lst (pa_cons pe_str pa_nil))) (pa_cons (pe_op op_cat (pv 6) (pe_lst (pa_cons (pv 1) pa_nil))) (pa_cons (pe_lst (pa_cons (pe_op op_cat (pv 6) (pe_lst (pa_cons pe_int pa_nil))) pa_nil)) pa_nil))))))))))
  (pss_cons (ps_set (i := 7) scLaw.nd rfl (Or.inl rfl) (pe_call GO hr2 rfl mO kO bO .nil pass0 (pa_cons (pv 4) (pa_cons (pv 7) pa_nil))))
  (pss_cons (ps_set (i := 8) scLaw.nd rfl (Or.inl rfl) (pe_cmpR op_gt (pe_call GC hr1 rfl mC kC bC .nil pass0 (pa_cons (pv 4) (pa_cons pe_int pa_nil))) pe_int (nomark _)))
  (pss_cons (ps_set (i := 9) scLaw.nd rfl (Or.inr rfl) (pe_lst (pa_cons (pe_call GM hr7 rfl mM kM bM .nil pass0 (pa_cons (pv 4) (pa_cons (pe_lst (pa_cons pe_int (pa_cons pe_int (pa_cons pe_int (pa_cons pe_int (pa_cons pe_int pa_nil)))))) pa_nil))) (pa_cons (pe_call GM hr7 rfl mM kM bM .nil pass0 (pa_cons (pv 4) (pa_cons (pe_lst (pa_cons pe_str (pa_cons pe_str pa_nil))) pa_nil))) (pa_cons (pe_ifExp (pt_val (pv 8)) (pv 6) (pv 7)) pa_nil)))))
  (pss_cons (ps_if (pt_cmpR (op_neD hr1.units) (pl (lamS_by (by decide +kernel)) (by rfl) (fun _ _ _ _ _ => rfl) (fun _ _ _ _ E _ _ h5 => by exact (pe_makeS mH GH h5 (by rfl) gH bH .nil (fun σ => passAt (takes_of rfl rfl rfl rfl) σ) (by exact (pa_cons (pe_ix ix_list (pv 9) pe_int (fun _ _ => rfl)) (pa_cons (pe_ix ix_list (pv 9) pe_int (fun _ _ => rfl)) (pa_cons (pe_ix ix_list (pv 9) pe_int (fun _ _ => rfl)) pa_nil)))))) : PE X _ (tLam [(pT, qLam)] (TTw CH CE) (tHouseL K c HC CH))) (pe_call GU hr2 rfl mU kU bU .nil pass0 (pa_cons (pv 9) (pa_cons (pv 8) pa_nil))) (nomark _)) (pss_one (ps_ret pe_bl)) pss_nil)
  (pss_cons (ps_set (i := 10) scLaw.nd rfl (Or.inr rfl) (pe_lc (own := [("_law_row", 12)]) (g := gName 12) (tt := tYes) (te := tMake c.C (spCInit c) [] E0 (tCons (tOp (rIxT K) (tVar 12) (tC (.int 0))) (tCons (tOp (rIxT K) (tVar 12) (tC (.int 1))) (tCons (tOp (rIxT K) (tVar 12) (tC (.int 2))) tNil)))) (by rfl) scLaw.nd (pi_tup (pe_call GP hr3 rfl mP kP bP .nil pass0 (pa_cons (pv 4) pa_nil))) (blkOk_by (own := [("_law_row", 12)]) (N := NL) (sc := defScope sLaw) (by decide +kernel)) (fun _ _ _ _ _ => (pg_name (i := 12) scLaw.nd rfl (Or.inl rfl))) (fun _ _ _ _ _ => pts_nil) (fun _ _ _ _ _ => (pe_make (E := E0) M3 G3 hr4 rfl MC.g b3 .nil pass0 (pa_cons (pe_ix ix_tup (pv 12) pe_int (fun _ _ => rfl)) (pa_cons (pe_ix ix_tup (pv 12) pe_int (fun _ _ => rfl)) (pa_cons (pe_ix ix_tup (pv 12) pe_int (fun _ _ => rfl)) pa_nil)))))))
  (pss_cons (ps_if (PW.pt (pw_or (pt_cmpR op_notN (pl (lamS_by (by decide +kernel)) (by rfl) (fun _ _ _ _ _ => rfl) (fun _ _ _ _ E _ _ h5 => by exact (pe_makeS mR GR (h5.mono (by decide)) (by rfl) gR bR .nil (fun σ => passAt (takes_of rfl rfl rfl rfl) σ) (by exact (pa_cons (pe_callTy call_tuple_of (by rfl) T.tuple (by decide +kernel) (pa_cons (pv 10) pa_nil)) pa_nil)))) : PE X _ (tLam [(pT, qLam)] (TTw CH CE) (tRepT K c RC CE))) pe_non (nomark _)) (pw_or1 (pt_cmpR (op_neO (fun D sp E h => by
      obtain ⟨rfl, rfl, rfl⟩ := h
      obtain ⟨f, fd, F, ec, bi⟩ := EQ
      exact ⟨CX0, f, fd, _, F, ec, bi, pass0⟩) hr4 : OpR X (compareOp .NotEq) (rEqO K 3 (FFq RC (spRpEq K c RC)) true)) (pe_make (E := E0) M2 G2 hr3 rfl gR b2 .nil pass0 (pa_cons (pv 10) pa_nil)) (pe_make (E := E0) M2 G2 hr3 rfl gR b2 .nil pass0 (pa_cons (pe_callTy call_tuple_of (by rfl) T.tuple (by decide +kernel) (pa_cons (pv 10) pa_nil)) pa_nil)) (nomark _))))) (pss_one (ps_ret pe_bl)) pss_nil)
  (pss_cons (ps_set (i := 11) scLaw.nd rfl (Or.inr rfl) (pe_call GO hr2 rfl mO kO bO .nil pass0 (pa_cons (pv 4) (pa_cons (pe_lst (pa_cons pe_non (pa_cons pe_int (pa_cons pe_str (pa_cons (pe_op op_cat (pv 10) (pe_lst (pa_cons pe_non pa_nil))) (pa_cons (pe_op op_cat (pv 10) (pe_lst (pa_cons (pv 2) pa_nil))) (pa_cons (pe_lst (pa_cons (pe_op op_cat (pv 10) (pe_lst (pa_cons pe_int pa_nil))) pa_nil)) (pa_cons (pe_op op_cat (pv 10) (pe_lst (pa_cons (pv 1) (pa_cons (pv 1) pa_nil)))) pa_nil)))))))) pa_nil))))
  (pss_one (ps_if (pt_cmpR (op_neD hr1.units) (pl (lamS_by (by decide +kernel)) (by rfl) (fun _ _ _ _ _ => rfl) (fun _ _ _ _ E _ _ h5 => by exact (pe_makeS mR GR (h5.mono (by decide)) (by rfl) gR bR .nil (fun σ => passAt (takes_of rfl rfl rfl rfl) σ) (by exact (pa_cons (pv 11) pa_nil)))) : PE X _ (tLam [(pT, qLam)] (TTw CH CE) (tRepO K c RC CE))) (pe_tup (pa_cons pe_str (pa_cons pe_str (pa_cons pe_bl pa_nil)))) (nomark _)) (pss_one (ps_ret pe_bl)) pss_nil)))))))))))))))
  (pss_one (ps_ret pe_bl)))), ?_⟩
    have okC : (Rw.ct "new" 0 "own").ok := ⟨by decide +kernel, .inr (.inl rfl), by decide +kernel⟩
    have okL : (Rw.lt "new" "open" "whole" "now").ok := ⟨by decide +kernel, by decide +kernel, by decide +kernel, by decide +kernel, fun e => absurd e (by decide +kernel)⟩
    try dsimp only [gName, tSeq, tAsg, tNext]
    unfold tPar
    dsimp only
    rw [tCons]
    refine ev_cnt (c := c) (H0 := H) okC (ev_to ev_c fun _ _ e => e) (ev_to ev_c fun _ _ e => e) (ev_to ev_c fun _ _ e => e) H _ (Same.refl _) fun vC H1 s1 _ rC => ?_
    refine fun y dy ny ndy ne => mk_let okL ny ndy fun H2 s2 rL => ⟨rfl, ?_⟩
    have hS2 := (s1.trans s2).seq hS
    have rC2 : RwAt c H2 vC (.ct "new" 0 "own") := rC.same s2
    have t0 : Tabs [(pT, qLam)] H2 := fun p hp => by
      rw [List.mem_singleton.mp hp]
      exact TabS.nil ((s1.trans s2) _ _ hT)
    clear rC
    generalize V.ref y = vL at rL ⊢
    refine ⟨_, _, rfl, ?_⟩
    try dsimp only [gName, tSeq, tAsg, tNext]
    refine ⟨_, rfl, a, _, rfl, .inl hS2, _, _, rfl, _, _, rfl, ?_⟩
    rw [List.length_map]
    have hn : (if (if (ns.length : Int) < 5 then (ns.length : Int) else 5) > 2 then (if (ns.length : Int) < 5 then (ns.length : Int) else 5) else 2) ≤ 5 ∧ 1 ≤ (if (if (ns.length : Int) < 5 then (ns.length : Int) else 5) > 2 then (if (ns.length : Int) < 5 then (ns.length : Int) else 5) else 2) := by
      constructor <;> (split <;> (try split) <;> omega)
    generalize (if (if (ns.length : Int) < 5 then (ns.length : Int) else 5) > 2 then (if (ns.length : Int) < 5 then (ns.length : Int) else 5) else 2) = n at hn
    refine ⟨n, rfl, by omega, by omega, for_range (lo := 0) (n := n.toNat) (fun i σ H' => (∃ o3 o4 o5 o6 o7 o8 o9 o10 o11 : Option V, σ = [some (.ref a), some vC, some vL, o3, o4, o5, o6, o7, o8, o9, o10, o11, none]) ∧ RwAt c H' vC (.ct "new" 0 "own") ∧ RwAt c H' vL (.lt "new" "open" "whole" "now") ∧ SqL K H' a (ns.map V.int) ∧ Tabs [(pT, qLam)] H') ⟨⟨_, _, _, _, _, _, _, _, _, rfl⟩, rC2, rL, hS2, t0⟩ ?_ ?_⟩
    · rintro i σ H3 hi ⟨⟨o3, o4, o5, o6, o7, o8, o9, o10, o11, rfl⟩, rC3, rL3, hS3, t3⟩
      try dsimp only [gName, tSeq, tAsg, tNext]
      refine ⟨_, rfl, _, rfl, a, ns, _, rfl, hS3, hl, by omega, by omega, fun b u v nb okb => ?_⟩
      have e4 : ExtN H3 (upd H3 b (box u v)) := ExtN.of (Same.new nb)
      have hb4 : upd H3 b (box u v) b = some (box u v) := upd_same
      have t4 := t3.ext (Same.new (o := box u v) nb)
      generalize upd H3 b (box u v) = H4 at e4 hb4 t4 ⊢
      try dsimp only [gName, tSeq, tAsg, tNext]
      refine ⟨6, rfl, by decide, by decide, for_range (lo := 0) (n := 6) (fun j σ H' => (∃ o5 o6 o7 o8 o9 o10 o11 : Option V, σ = [some (.ref a), some vC, some vL, some (.int (0 + (i : Nat))), some (.ref b), o5, o6, o7, o8, o9, o10, o11, none]) ∧ ExtN H3 H' ∧ (∃ u v, BoxOk u v ∧ H' b = some (box u v)) ∧ Tabs [(pT, qLam)] H') ⟨⟨_, _, _, _, _, _, _, rfl⟩, e4, ⟨u, v, okb, hb4⟩, t4⟩ ?_ ?_⟩
      · clear hb4 e4 t4
        rintro j σ HA hj ⟨⟨o5, o6, o7, o8, o9, o10, o11, rfl⟩, eA, ⟨uA, vA, okA, hbA⟩, tA⟩
        try dsimp only [gName, tSeq, tAsg, tNext]
        have rCA := rwExt rC3 eA
        have rLA := rwExt rL3 eA
        refine right_go hbA okA fun D us ms HB pB hDB nDb rlB mk ml => ?_
        obtain ⟨_, uB, vB, okB, hbB⟩ := id pB
        have eB := ext_pre eA nb pB.1
        have tB : Tabs [(pT, qLam)] HB := Tabs.keep tA (Pre.kp hbA pB)
        have rCB := rwExt rC3 eB
        have rLB := rwExt rL3 eB
        try dsimp only [gName, tSeq, tAsg, tNext]
        have ul : us.length ≤ 10 := by
          rw [rlB.1]
          omega
        have ku := rows_tk (cs := csR c) (fun m hm => by rw [mk m hm]; exact .head _) hbB rlB
        have boxI : ∀ {u v : Int} (C dx : Addr) (fs : List (Str × V)), box u v ≠ .ins C dx fs := fun _ _ _ z => by cases z
        have inC : c.at (Rw.ct "new" 0 "own").kind ∈ csR c := .tail _ (.head _)
        have inL : c.at (Rw.lt "new" "open" "whole" "now").kind ∈ csR c := .head _
        have noL : c.at (Rw.ct "new" 0 "own").kind ∉ [c.L] := fun z => nLC (List.mem_singleton.mp z).symm
        have noC : c.at (Rw.lt "new" "open" "whole" "now").kind ∉ [c.C] := fun z => nLC (List.mem_singleton.mp z)
        refine ev_lst (H0 := HB) (S := BadS (csR c) [c.L] b) (as := [(), (), (), (), (), (), (), ()]) (evl_cons (ev_fl .non) (evl_cons (ev_catB rfl hbB hDB ul ku (ev_it (ev_fl .non))) (evl_cons (ev_fl (.int 3)) (evl_cons (ev_fl (.str "")) (evl_cons (ev_fl (.str "left")) (evl_cons (ev_catB rfl hbB hDB ul ku (ev_it (ev_fl (.str "first")))) (evl_cons (ev_catB rfl hbB hDB ul ku (ev_rowB hbB boxI inC noL rfl rCB)) (evl_cons (ev_oneB hbB (ev_it (ev_catB rfl hbB hDB ul ku (ev_it (ev_fl (.int 0)))))) evl_nil)))))))) (by decide) HB _ (Same.refl _) fun v8 H8 sC _ r8 => ?_
        obtain ⟨D8, u8, rfl, h8, l8⟩ := r8
        have n8 : u8.length = 8 := l8.1
        have hbC := sC _ _ hbB
        have nD8 : D8 ≠ b := fun z => by
          rw [z, hbC] at h8
          cases Option.some.inj h8
          cases n8
        try dsimp only [gName, tSeq, tAsg, tNext]
        refine ⟨_, rfl, _, rfl, b, D8, uB, vB, u8, rfl, hbC, okB, nD8, SqL.of h8, (by omega), (by omega), fun x uD vD hx okD => ?_⟩
        have bx : BadB (csR c) [c.L] b x H8 := by
          obtain ⟨ix, hix⟩ := List.mem_iff_getElem?.mp hx
          obtain ⟨_, _, r⟩ := Ls.get l8 hix
          exact r
        have pD : Pre b H8 (upd H8 b (box uD vD)) := Pre.box okD
        have hbD : upd H8 b (box uD vD) b = some (box uD vD) := upd_same
        generalize upd H8 b (box uD vD) = HD at pD hbD ⊢
        have knD : KN b HB HD := (KN.ofS sC).trans (KN.ofX pD.1)
        have eD : ExtN H3 HD := ext_pre (ext_same eB sC) nb pD.1
        have tD : Tabs [(pT, qLam)] HD := Tabs.keep (tB.ext sC) (Pre.kp hbC pD)
        have bxD : BadB (csR c) [c.L] b x HD := BadB.kn (KN.ofX pD.1) bx
        try dsimp only [gName, tSeq, tAsg, tNext]
        have lkD : LkB (csR c) [c.L] b true (.ref D) HD := LkB.kn knD ⟨D, us, rfl, nDb, hDB, by omega, ku, List.all_eq_true.mpr fun z hz => by
          obtain ⟨iz, hiz⟩ := List.mem_iff_getElem?.mp hz
          obtain ⟨m, em, y, dy, rfl, hy⟩ := Ls.get rlB hiz
          show isMvO [c.L] (HB y) = true
          rw [hy]
          refine decide_eq_true ?_
          rw [mk m (List.mem_of_getElem? em)]
          exact .head _⟩
        refine ⟨_, rfl, b, uD, vD, 3, rfl, hbD, okD, (by decide), (by decide), fun d uE vE d0 d3 okE => ?_⟩
        have pE : Pre b HD (upd HD b (box uE vE)) := Pre.box okE
        have hbE : upd HD b (box uE vE) b = some (box uE vE) := upd_same
        generalize upd HD b (box uE vE) = HE at pE hbE ⊢
        refine ⟨_, _, rfl, rfl, ?_⟩
        dsimp only
        generalize decide (0 < d) = g
        have eE : ExtN H3 HE := ext_pre eD nb pE.1
        have tE : Tabs [(pT, qLam)] HE := Tabs.keep tD (Pre.kp hbD pE)
        have lkE := LkB.kn (KN.ofX pE.1) lkD
        have bxE := BadB.kn (KN.ofX pE.1) bxD
        clear lkD bxD tD eD
        try dsimp only [gName, tSeq, tAsg, tNext]
        refine ⟨_, rfl, (by show 5 ≤ sizeLine; decide), fun l1 n1 => ?_⟩
        have s1' : Same HE (upd HE l1 (.lst [.int 0, .int 1, .int 2, .int 3, .int 4])) := Same.new n1
        have hl1 : upd HE l1 (.lst [.int 0, .int 1, .int 2, .int 3, .int 4]) l1 = some (.lst (depL.map Fv.v)) := upd_same
        have nl1 : l1 ≠ b := Ne.symm (ne_of_none hbE n1)
        generalize upd HE l1 (.lst [.int 0, .int 1, .int 2, .int 3, .int 4]) = HF at s1' hl1 ⊢
        have hbF := s1' _ _ hbE
        refine ⟨b, l1, uE, vE, depL, rfl, hbF, okE, nl1, hl1, (by decide), (by decide), (by decide +kernel), fun vd dd HG pG ad sd => ?_⟩
        obtain ⟨_, uG, vG, okG, hbG⟩ := id pG
        have eG : ExtN H3 HG := ext_pre (ext_same eE s1') nb pG.1
        have tG : Tabs [(pT, qLam)] HG := Tabs.keep (tE.ext s1') (Pre.kp hbF pG)
        have kG : KN b HE HG := (KN.ofS s1').trans (KN.ofX pG.1)
        have lkG := LkB.kn kG lkE
        have bxG := BadB.kn kG bxE
        refine ⟨_, rfl, (by show 2 ≤ sizeLine; decide), fun l2 n2 => ?_⟩
        have s2' : Same HG (upd HG l2 (.lst [.str "left", .str "all"])) := Same.new n2
        have hl2 : upd HG l2 (.lst [.str "left", .str "all"]) l2 = some (.lst ((wordsV ["left", "all"]).map Fv.v)) := upd_same
        have nl2 : l2 ≠ b := Ne.symm (ne_of_none hbG n2)
        generalize upd HG l2 (.lst [.str "left", .str "all"]) = HI at s2' hl2 ⊢
        have hbI := s2' _ _ hbG
        refine ⟨b, l2, uG, vG, wordsV ["left", "all"], rfl, hbI, okG, nl2, hl2, (by decide), (by decide), (by decide +kernel), fun vc cd HJ pJ ac sc => ?_⟩
        obtain ⟨_, uJ, vJ, okJ, hbJ⟩ := id pJ
        have eJ : ExtN H3 HJ := ext_pre (ext_same eG s2') nb pJ.1
        have tJ : Tabs [(pT, qLam)] HJ := Tabs.keep (tG.ext s2') (Pre.kp hbI pJ)
        have kJ : KN b HG HJ := (KN.ofS s2').trans (KN.ofX pJ.1)
        have lkJ := LkB.kn kJ lkG
        have bxJ := BadB.kn kJ bxG
        have adJ : Ad NT HJ vd dd := Ad.mv (fun _ _ => trivial) (fun q o n e _ => pJ.1 q o (fun z => by
          have n' : HF q = none := n
          rw [z, hbF] at n'
          cases n') (s2' _ _ e)) _ _ ad
        have acJ : Ad NT HJ vc cd := Ad.mv (fun _ _ => trivial) (fun q o n e _ => e) _ _ ac
        clear lkE bxE lkG bxG ad ac
        refine tif_cut (fun v H' => H' = HJ ∧ RgB (csR c) [c.L] b g v H') (fun vr HJ' mr => ?_) fun Q' hQ => ?_
        · obtain ⟨rfl, mr⟩ := mr
          refine ⟨(by show 3 ≤ sizeLine; decide), fun DT nDT => ?_⟩
          have s3' : Same HJ' (upd HJ' DT (.lst [vd, vc, vr])) := Same.new nDT
          have hDT : upd HJ' DT (.lst [vd, vc, vr]) DT = some (.lst [vd, vc, vr]) := upd_same
          generalize upd HJ' DT (.lst [vd, vc, vr]) = HK at s3' hDT ⊢
          have mrK := mr.kn (KN.ofS s3')
          have eK := ext_same eJ s3'
          have tK := tJ.ext s3'
          have hbK := s3' _ _ hbJ
          have mvE : ∀ {v : V} {d : PyData} {G1 G2 : Hp}, ExtN G1 G2 → Ad NT G1 v d → Ad NT G2 v d := fun s h => Ad.mv (fun _ z => z) (fun c o _ e nt => s c o e nt) _ _ h
          have adK := mvE (ExtN.of s3') adJ
          have acK := mvE (ExtN.of s3') acJ
          clear adJ acJ lkJ bxJ mr
          try dsimp only [gName, tSeq, tAsg, tNext]
          refine cut_here (M := fun σ' G => (∃ o5 o6 o7 o8 o9 o10 o11 : Option V, σ' = [some (.ref a), some vC, some vL, some (.int (0 + (i : Nat))), some (.ref b), o5, o6, o7, o8, o9, o10, o11, none]) ∧ ExtN H3 G ∧ G b = some (box uJ vJ) ∧ Tabs [(pT, qLam)] G) ?_ ?_
          · rintro σ' HN ⟨⟨o5, o6, o7, o8, o9, o10, o11, rfl⟩, eN, hbN, tN⟩
            clear mrK adK acK hDT tK eK hbK s3' hbJ tJ eJ pJ hbI s2' hbG tG eG pG hbF s1' hbE tE eE pE hbD pD knD hbC sC h8 hDB rlB ku tB eB rCB rLB hbB
            try dsimp only [gName, tSeq, tAsg, tNext]
            refine rows_go hbN okJ fun D10 us10 rs HR pR hD10 l10 okRs => ?_
            obtain ⟨_, uR, vR, okR, hbR⟩ := id pR
            have eR := ext_pre eN nb pR.1
            have tR : Tabs [(pT, qLam)] HR := Tabs.keep tN (Pre.kp hbN pR)
            have rl4 : rs.length ≤ 4 := okRs.1
            clear tN eN hbN pR
            try dsimp only [gName, tSeq, tAsg, tNext]
            refine ⟨tR, fun HS eS tS => ?_⟩
            have eS2 := eR.trans eS
            have hDS := eS _ _ hD10 (fun q z => by cases z)
            have hbS := eS _ _ hbR (fun q z => by cases z)
            have lS : RwLs c HS us10 rs := Ls.imp l10 fun _ _ r => rwExt r eS
            refine ⟨_, rfl, D10, us10, rfl, .inl ⟨SqL.of hDS, fun l nl => ?_⟩⟩
            have sU : Same HS (upd HS l (.tup us10)) := Same.new nl
            have hlU : upd HS l (.tup us10) l = some (.tup us10) := upd_same
            generalize upd HS l (.tup us10) = HU at sU hlU ⊢
            refine fun y dy ny ndy ne => ?_
            have sV : Same HU (upd (upd HU dy (.own y)) y (.ins RC dy [])) := made_same ny ndy
            refine ⟨y, dy, .ref l, rfl, upd_same, .inr ⟨l, us10, rs, rfl, .inr (.inl (sV _ _ hlU)), RwLs.same lS (sU.trans sV), okRs, fun HW sW => ⟨rfl, ?_⟩⟩⟩
            have sW2 : Same HS HW := sU.trans fun q o h => sW q o (fun z => by
              rw [z, ny] at h
              cases h) (sV q o h)
            clear sW sV sU hlU
            refine ⟨rfl, _, rfl, iteF ?_⟩
            have hDW := sW2 _ _ hDS
            have lW := RwLs.same lS sW2
            refine ev_eqRp (K := K) (c := c) (RC := RC) (H0 := HW) (rs := rs) (qs := rs) (neg := true) nf (ev_mkRp okRs (ev_v (i := 10) rfl ⟨D10, us10, rfl, hDW, lW⟩)) (ev_mkRpW okRs (fun H Q w k => ⟨_, rfl, D10, us10, rfl, .inl ⟨SqL.of (w _ _ hDW), fun q nq => k _ _ (Same.new nq) (w.trans (Same.new nq)) ⟨q, us10, rfl, .inr (.inl upd_same), RwLs.same lW (w.trans (Same.new nq))⟩⟩⟩)) HW _ (Same.refl _) fun ve HX sX _ ee => ?_
            cases ee
            refine ⟨_, rfl, ?_⟩
            have sWX := sW2.trans sX
            have eX : ExtN H3 HX := ext_same eS2 sWX
            have tX := tS.ext sWX
            have hbX := sWX _ _ hbS
            have hDX := sX _ _ hDW
            have lX := RwLs.same lW sX
            have rCX := rwExt rC3 eX
            have rLX := rwExt rL3 eX
            clear sWX sX lW hDW sW2 lS hbS hDS eS2 tS eS hD10 l10 hbR eR tR
            dsimp only
            rw [show (decide (meanL rs = meanL rs) != true) = false by simp]
            refine iteF ?_
            have ul2 : us10.length ≤ 10 := by
              rw [lX.1]
              omega
            have ku2 := rows_tk (cs := csR c) (fun m hm => by rw [(okRs.2.1 m hm).2]; exact .tail _ (.head _)) hbX lX
            try dsimp only [gName, tSeq, tAsg, tNext]
            refine ⟨_, rfl, ?_⟩
            refine ev_lst (H0 := HX) (S := OddS c (csR c) [c.C] b) (as := [(), (), (), (), (), (), ()]) (evl_cons (ev_to (ev_fl .non) fun _ _ h => .inl h) (evl_cons (ev_to (ev_fl (.int 7)) fun _ _ h => .inl h) (evl_cons (ev_to (ev_fl (.str "x")) fun _ _ h => .inl h) (evl_cons (ev_to (ev_catB rfl hbX hDX ul2 ku2 (ev_it (ev_fl .non))) fun _ _ h => .inl h) (evl_cons (ev_to (ev_catB rfl hbX hDX ul2 ku2 (ev_rowB hbX boxI inL noC rfl rLX)) fun _ _ h => .inl h) (evl_cons (ev_to (ev_oneB hbX (ev_it (ev_catB rfl hbX hDX ul2 ku2 (ev_it (ev_fl (.int 3)))))) fun _ _ h => .inl h) (evl_cons (ev_to (ev_dupB rfl rfl hbX hDX lX (by omega) (fun x hx => (okRs.2.1 x hx).2) rfl rCX) fun _ _ h => .inr h) evl_nil))))))) (by decide) HX _ (Same.refl _) fun v7 HY sY _ r7 => ?_
            obtain ⟨D7, u7, rfl, h7, l7⟩ := r7
            have n7 : u7.length = 7 := l7.1
            have hbY := sY _ _ hbX
            have nD7 : D7 ≠ b := fun z => by
              rw [z, hbY] at h7
              cases Option.some.inj h7
              cases n7
            refine ⟨b, D7, uR, vR, u7, rfl, hbY, okR, nD7, SqL.of h7, (by omega), (by omega), fun od uZ vZ ho okZ => ?_⟩
            have bo : OddB c (csR c) [c.C] b od HY := by
              obtain ⟨ix, hix⟩ := List.mem_iff_getElem?.mp ho
              obtain ⟨_, _, r⟩ := Ls.get l7 hix
              exact r
            have pZ : Pre b HY (upd HY b (box uZ vZ)) := Pre.box okZ
            have hbZ : upd HY b (box uZ vZ) b = some (box uZ vZ) := upd_same
            generalize upd HY b (box uZ vZ) = HZ at pZ hbZ ⊢
            have eZ : ExtN H3 HZ := ext_pre (ext_same eX sY) nb pZ.1
            have tZ : Tabs [(pT, qLam)] HZ := Tabs.keep (tX.ext sY) (Pre.kp hbY pZ)
            have boZ : OddB c (csR c) [c.C] b od HZ := OddB.kn (KN.ofX pZ.1) bo
            try dsimp only [gName, tSeq, tAsg, tNext]
            refine ⟨tZ, fun H5 e5 t5 => ⟨_, rfl, fun y dy ny ndy ne => ?_⟩⟩
            have s6 : Same H5 (upd (upd H5 dy (.own y)) y (.ins RC dy [])) := made_same ny ndy
            have bo6 := OddB.kn (KN.ofE (ext_same e5 s6)) boZ
            have nZ : H3 b = none := nb
            refine ⟨y, dy, od, rfl, upd_same, .inl ⟨OddB.no bo6, fun d H7 s7 hd => ⟨"report", d, "rows", .inr ⟨rfl, rfl⟩, rfl, hd, fun t nt => ?_⟩⟩⟩
            have sT : Same H7 (upd H7 t (.tup [.str "report", .str "rows", .bl true])) := Same.new nt
            have htT : upd H7 t (.tup [.str "report", .str "rows", .bl true]) t = some (.tup [.str "report", .str "rows", .bl true]) := upd_same
            have S7 : Same H5 (upd H7 t (.tup [.str "report", .str "rows", .bl true])) := (s6.trans s7).trans sT
            generalize upd H7 t (.tup [.str "report", .str "rows", .bl true]) = H9 at S7 htT ⊢
            refine ⟨(by show 3 ≤ sizeLine; decide), fun q nq => ?_⟩
            have sQ : Same H9 (upd H9 q (.tup [.str "report", .str "rows", .bl true])) := Same.new nq
            have SQ := S7.trans sQ
            refine tol_ne (n := "report") (o := some "rows") (by decide +kernel) (fun z e => by cases e; decide +kernel) ⟨t, rfl, sQ _ _ htT⟩ ⟨q, rfl, upd_same⟩ ⟨_, rfl, iteF ?_⟩
            exact ⟨⟨_, _, _, _, _, _, _, rfl⟩, ext_same (eZ.trans e5) SQ, ⟨uZ, vZ, okZ, SQ _ _ (e5 _ _ hbZ (fun q z => by cases z))⟩, t5.ext SQ⟩
          · intro X hX
            refine ⟨tK, fun HL eL tL => ?_⟩
            have hDL := eL _ _ hDT (fun q z => by cases z)
            have fin : ∀ HM, Same HL HM → X [some (.ref a), some vC, some vL, some (.int (0 + (i : Nat))), some (.ref b), some (.int (0 + (j : Nat))), some (.ref D), some x, some (.bl g), some (.ref DT), o10, o11, none] HM := fun HM sM => hX _ _ ⟨⟨_, _, _, _, _, _, _, rfl⟩, ext_same (eK.trans eL) sM, sM _ _ (eL _ _ hbK (fun q z => by cases z)), tL.ext sM⟩
            refine ⟨_, rfl, DT, _, 0, _, rfl, rfl, SqL.of hDL, rfl, _, rfl, DT, _, 1, _, rfl, rfl, SqL.of hDL, rfl, _, rfl, DT, _, 2, _, rfl, rfl, SqL.of hDL, rfl, fun y dy ny ndy ne => ?_⟩
            have sM : Same HL (upd (upd HL dy (.own y)) y (.ins HC dy [])) := made_same ny ndy
            have eM := ext_same eL sM
            obtain ⟨awM, okM⟩ := (mrK.kn (KN.ofE eM)).aw
            refine ⟨y, dy, vd, vc, vr, dd, cd, rfl, upd_same, mvE eM adK, sd, mvE eM acK, awM, fun e HG sG => ⟨rfl, ?_⟩, fun z e d HG sG hd => ⟨"house", d, z, .inl ⟨rfl, rfl⟩, rfl, hd, fun t nt => ?_⟩⟩
            · rw [okM] at e
              have sA : Same HL HG := fun c o h => sG c o (fun z => by
                rw [z, ny] at h
                cases h) (sM c o h)
              have eA2 := ext_same eL sA
              refine due_eq rfl rfl (sA _ _ hDL) (mvE eA2 adK) sd (mvE eA2 acK) sc (by rw [e]; rfl) fun H5 s5 => ⟨_, rfl, iteF (fin _ (sA.trans s5))⟩
            · rw [okM] at e
              have sT : Same HG (upd HG t (.tup [.str "house", .str z, .bl true])) := Same.new nt
              have sA : Same HL (upd HG t (.tup [.str "house", .str z, .bl true])) := (sM.trans sG).trans sT
              have eA2 := ext_same eL sA
              refine due_eq rfl rfl (sA _ _ hDL) (mvE eA2 adK) sd (mvE eA2 acK) sc (by rw [e]; exact ⟨t, rfl, upd_same⟩) fun H5 s5 => ⟨_, rfl, iteF (fin _ (sA.trans s5))⟩
        · refine ⟨_, rfl, ?_⟩
          cases g with
          | true => exact ⟨_, rfl, iteT ⟨_, rfl, hQ _ _ ⟨rfl, .inl ⟨rfl, lkJ⟩⟩⟩⟩
          | false => exact ⟨_, rfl, iteF ⟨_, rfl, hQ _ _ ⟨rfl, .inr ⟨rfl, bxJ⟩⟩⟩⟩
      · rintro σ HA ⟨⟨o5, o6, o7, o8, o9, o10, o11, rfl⟩, eA, _, tA⟩
        exact ⟨⟨_, _, _, _, _, _, _, _, _, rfl⟩, rwExt rC3 eA, rwExt rL3 eA, ExtN.seq eA hS3, tA⟩
    · rintro σ H3 ⟨⟨o3, o4, o5, o6, o7, o8, o9, o10, o11, rfl⟩, _⟩
      exact k _
end
end V3

set_option Elab.async false
set_option maxHeartbeats 4000000
set_option linter.all false
set_option maxRecDepth 100000
namespace V3
open PySem L2
theorem kit_ref {K : PySem.W.Frag} {t C : Addr} {b : Bool} (h1 : PySem.W.isClsIn K C = true) (h2 : PySem.W.typeIn K (.ref C) = some (.type "type")) (h3 : PySem.W.subIn K (.ref t) (.ref C) = some b) (h4 : PySem.W.subIn K (.ref t) (.ref t) = some true) :
    PySem.W.kitOne K (.ref t) (.ref C) = some b := by
  unfold PySem.W.kitOne
  by_cases e : t = C
  · subst e
    rw [h4] at h3
    injection h3 with h3
    subst h3
    rw [if_pos (by simp)]
  · have n : (Value.ref t == Value.ref C) = false := by
      refine Bool.eq_false_iff.mpr fun q => e ?_
      exact Value.ref.inj (beq_iff_eq.mp q)
    rw [n, if_neg Bool.false_ne_true]
    have q : ((PySem.W.clsIn K C).isSome && PySem.W.typeIn K (.ref C) == some (.type "type")) = true := by
      have z : (PySem.W.clsIn K C).isSome = true := h1
      rw [z, h2] <;> rfl
    show (if ((PySem.W.clsIn K C).isSome && PySem.W.typeIn K (.ref C) == some (.type "type")) = true then PySem.W.subIn K (.ref t) (.ref C) else none) = some b
    rw [if_pos q]
    exact h3
theorem kit_base {K : PySem.W.Frag} {t : String} {C : Addr} {b : Bool} (h1 : PySem.W.isClsIn K C = true) (h2 : PySem.W.typeIn K (.ref C) = some (.type "type")) (h3 : PySem.W.subIn K (.type t) (.ref C) = some b) :
    PySem.W.kitOne K (.type t) (.ref C) = some b := by
  unfold PySem.W.kitOne
  have n : (Value.type t == Value.ref C) = false := by
    refine Bool.eq_false_iff.mpr fun q => ?_
    cases beq_iff_eq.mp q
  rw [n, if_neg Bool.false_ne_true]
  have q : ((PySem.W.clsIn K C).isSome && PySem.W.typeIn K (.ref C) == some (.type "type")) = true := by
    have z : (PySem.W.clsIn K C).isSome = true := h1
    rw [z, h2] <;> rfl
  show (if ((PySem.W.clsIn K C).isSome && PySem.W.typeIn K (.ref C) == some (.type "type")) = true then PySem.W.subIn K (.type t) (.ref C) else none) = some b
  rw [if_pos q]
  exact h3
theorem nf_same {K : PySem.W.Frag} {C : Addr} : PySem.W.notFirst K C (.ref C) = true := by simp [PySem.W.notFirst]
theorem nf_other {K : PySem.W.Frag} {C D : Addr} (h : PySem.W.subIn K (.ref D) (.ref C) = some false) : PySem.W.notFirst K C (.ref D) = true := by
  unfold PySem.W.notFirst
  rw [h]
  simp
theorem nf_type {K : PySem.W.Frag} {C : Addr} {t : String} (h : PySem.W.subIn K (.type t) (.ref C) = some false) : PySem.W.notFirst K C (.type t) = true := by
  unfold PySem.W.notFirst
  rw [h]
  simp
theorem all_mk {l : PySem.W.OpenLaw} {w : World} {K : PySem.W.Frag} {h : Heap} {mg : Str → Option Value} {fa f_int f_num f_ww f_wp f_isr f_isc f_me f_seed f_choose f_one f_any f_wo f_due f_mo f_rows f_lo f_rep f_law LC CC HC QR f_li f_ci f_hi e_hi gri egr grw grm gre KA SA DA PA OA WA KK DL CH f_ih CE f_ie CB CI cT pT : Addr} (X : K.In h) (G : h.Ns mainGlobals mg) (hfa : mg "law" = some (.ref fa))
    {od_f_int an_f_int : Option Addr} {sl_f_int : Array (Option Value)} {oc_f_int kV_f_int dc_f_int pm_f_int cd_f_int ct_f_int : Value}
    {od_f_num an_f_num : Option Addr} {sl_f_num : Array (Option Value)} {oc_f_num kV_f_num dc_f_num pm_f_num cd_f_num ct_f_num : Value}
    {od_f_ww an_f_ww : Option Addr} {sl_f_ww : Array (Option Value)} {oc_f_ww kV_f_ww dc_f_ww pm_f_ww cd_f_ww ct_f_ww : Value}
    {od_f_wp an_f_wp : Option Addr} {sl_f_wp : Array (Option Value)} {oc_f_wp kV_f_wp dc_f_wp pm_f_wp cd_f_wp ct_f_wp : Value}
    {od_f_isr an_f_isr : Option Addr} {sl_f_isr : Array (Option Value)} {oc_f_isr kV_f_isr dc_f_isr pm_f_isr cd_f_isr ct_f_isr : Value}
    {od_f_isc an_f_isc : Option Addr} {sl_f_isc : Array (Option Value)} {oc_f_isc kV_f_isc dc_f_isc pm_f_isc cd_f_isc ct_f_isc : Value}
    {od_f_me an_f_me : Option Addr} {sl_f_me : Array (Option Value)} {oc_f_me kV_f_me dc_f_me pm_f_me cd_f_me ct_f_me : Value}
    {od_f_seed an_f_seed : Option Addr} {sl_f_seed : Array (Option Value)} {oc_f_seed kV_f_seed dc_f_seed pm_f_seed cd_f_seed ct_f_seed : Value}
    {od_f_choose an_f_choose : Option Addr} {sl_f_choose : Array (Option Value)} {oc_f_choose kV_f_choose dc_f_choose pm_f_choose cd_f_choose ct_f_choose : Value}
    {od_f_one an_f_one : Option Addr} {sl_f_one : Array (Option Value)} {oc_f_one kV_f_one dc_f_one pm_f_one cd_f_one ct_f_one : Value}
    {od_f_any an_f_any : Option Addr} {sl_f_any : Array (Option Value)} {oc_f_any kV_f_any dc_f_any pm_f_any cd_f_any ct_f_any : Value}
    {od_f_wo an_f_wo : Option Addr} {sl_f_wo : Array (Option Value)} {oc_f_wo kV_f_wo dc_f_wo pm_f_wo cd_f_wo ct_f_wo : Value}
    {od_f_due an_f_due : Option Addr} {sl_f_due : Array (Option Value)} {oc_f_due kV_f_due dc_f_due pm_f_due cd_f_due ct_f_due : Value}
    {od_f_mo an_f_mo : Option Addr} {sl_f_mo : Array (Option Value)} {oc_f_mo kV_f_mo dc_f_mo pm_f_mo cd_f_mo ct_f_mo : Value}
    {od_f_rows an_f_rows : Option Addr} {sl_f_rows : Array (Option Value)} {oc_f_rows kV_f_rows dc_f_rows pm_f_rows cd_f_rows ct_f_rows : Value}
    {od_f_lo an_f_lo : Option Addr} {sl_f_lo : Array (Option Value)} {oc_f_lo kV_f_lo dc_f_lo pm_f_lo cd_f_lo ct_f_lo : Value}
    {od_f_rep an_f_rep : Option Addr} {sl_f_rep : Array (Option Value)} {oc_f_rep kV_f_rep dc_f_rep pm_f_rep cd_f_rep ct_f_rep : Value}
    {od_f_law an_f_law : Option Addr} {sl_f_law : Array (Option Value)} {oc_f_law kV_f_law dc_f_law pm_f_law cd_f_law ct_f_law : Value}
    {od_f_li an_f_li : Option Addr} {sl_f_li : Array (Option Value)} {oc_f_li kV_f_li dc_f_li pm_f_li cd_f_li ct_f_li : Value}
    {od_f_ci an_f_ci : Option Addr} {sl_f_ci : Array (Option Value)} {oc_f_ci kV_f_ci dc_f_ci pm_f_ci cd_f_ci ct_f_ci : Value}
    {od_f_hi an_f_hi dd_f_hi : Option Addr} {sl_f_hi ds_f_hi : Array (Option Value)} {oc_f_hi kV_f_hi dc_f_hi pm_f_hi cd_f_hi ct_f_hi : Value} {T_f_hi : Addr} {n_f_hi : Nat}
    {od_gri an_gri dd_gri : Option Addr} {sl_gri ds_gri : Array (Option Value)} {oc_gri kV_gri dc_gri pm_gri cd_gri ct_gri : Value} {T_gri : Addr} {n_gri : Nat}
    {od_grw an_grw : Option Addr} {sl_grw : Array (Option Value)} {oc_grw kV_grw dc_grw pm_grw cd_grw ct_grw : Value}
    {od_grm an_grm : Option Addr} {sl_grm : Array (Option Value)} {oc_grm kV_grm dc_grm pm_grm cd_grm ct_grm : Value}
    {od_gre an_gre : Option Addr} {sl_gre : Array (Option Value)} {oc_gre kV_gre dc_gre pm_gre cd_gre ct_gre : Value}
    {t0_KA t1_KA t2_KA t3_KA : Tok} {dd_KA : Option Addr} {n_KA : Nat} {ds_KA : Array (Option Value)}
    {t0_SA t1_SA : Tok} {dd_SA : Option Addr} {n_SA : Nat} {ds_SA : Array (Option Value)}
    {t0_DA t1_DA t2_DA : Tok} {dd_DA : Option Addr} {n_DA : Nat} {ds_DA : Array (Option Value)}
    {t0_PA t1_PA : Tok} {dd_PA : Option Addr} {n_PA : Nat} {ds_PA : Array (Option Value)}
    {t0_OA t1_OA t2_OA t3_OA : Tok} {dd_OA : Option Addr} {n_OA : Nat} {ds_OA : Array (Option Value)}
    {t0_WA t1_WA t2_WA : Tok} {dd_WA : Option Addr} {n_WA : Nat} {ds_WA : Array (Option Value)}
    {t0_KK t1_KK : Tok} {dd_KK : Option Addr} {n_KK : Nat} {ds_KK : Array (Option Value)}
    {t0_DL t1_DL t2_DL t3_DL t4_DL : Tok} {dd_DL : Option Addr} {n_DL : Nat} {ds_DL : Array (Option Value)}
    {nm_CH q_CH : Str} {N_CH : Addr} {bs_CH bm_CH : List Value} {sn_CH : List Str} {sub_CH : List Value} {ab_CH : Bool} {col_CH : Option Bool} {dd_CH : Option Addr} {m0_CH m1_CH m2_CH m3_CH m5_CH : Option Value}
    {od_f_ih an_f_ih : Option Addr} {sl_f_ih : Array (Option Value)} {oc_f_ih kV_f_ih dc_f_ih pm_f_ih cd_f_ih ct_f_ih : Value}
    {nm_CE q_CE : Str} {N_CE : Addr} {bs_CE bm_CE : List Value} {sn_CE : List Str} {sub_CE : List Value} {ab_CE : Bool} {col_CE : Option Bool} {dd_CE : Option Addr} {m0_CE m1_CE m2_CE m3_CE m5_CE : Option Value}
    {od_f_ie an_f_ie : Option Addr} {sl_f_ie : Array (Option Value)} {oc_f_ie kV_f_ie dc_f_ie pm_f_ie cd_f_ie ct_f_ie : Value}
    (g_f_int : PySem.W.nsIn K mainGlobals "is_integer" = some (some (.ref f_int)))
    (l_f_int : K.lookup f_int = some ⟨oc_f_int, od_f_int, .func (PySem.W.fnOf "is_integer" "is_integer" (defArgs sIsInt) (defBody sIsInt) (defScope sIsInt) .none kV_f_int dc_f_int pm_f_int an_f_int cd_f_int ct_f_int), sl_f_int⟩)
    (c_f_int : PySem.W.codeIn K cd_f_int "is_integer" = true)
    (k_f_int : PySem.W.keepIn K (.ref f_int) = true)
    (g_f_num : PySem.W.nsIn K mainGlobals "is_number" = some (some (.ref f_num)))
    (l_f_num : K.lookup f_num = some ⟨oc_f_num, od_f_num, .func (PySem.W.fnOf "is_number" "is_number" (defArgs sIsNum) (defBody sIsNum) (defScope sIsNum) .none kV_f_num dc_f_num pm_f_num an_f_num cd_f_num ct_f_num), sl_f_num⟩)
    (c_f_num : PySem.W.codeIn K cd_f_num "is_number" = true)
    (k_f_num : PySem.W.keepIn K (.ref f_num) = true)
    (g_f_ww : PySem.W.nsIn K mainGlobals "wrong_word" = some (some (.ref f_ww)))
    (l_f_ww : K.lookup f_ww = some ⟨oc_f_ww, od_f_ww, .func (PySem.W.fnOf "wrong_word" "wrong_word" (defArgs sWrongWord) (defBody sWrongWord) (defScope sWrongWord) .none kV_f_ww dc_f_ww pm_f_ww an_f_ww cd_f_ww ct_f_ww), sl_f_ww⟩)
    (c_f_ww : PySem.W.codeIn K cd_f_ww "wrong_word" = true)
    (k_f_ww : PySem.W.keepIn K (.ref f_ww) = true)
    (g_f_wp : PySem.W.nsIn K mainGlobals "wrong_part" = some (some (.ref f_wp)))
    (l_f_wp : K.lookup f_wp = some ⟨oc_f_wp, od_f_wp, .func (PySem.W.fnOf "wrong_part" "wrong_part" (defArgs sWrongPart) (defBody sWrongPart) (defScope sWrongPart) .none kV_f_wp dc_f_wp pm_f_wp an_f_wp cd_f_wp ct_f_wp), sl_f_wp⟩)
    (c_f_wp : PySem.W.codeIn K cd_f_wp "wrong_part" = true)
    (k_f_wp : PySem.W.keepIn K (.ref f_wp) = true)
    (g_f_isr : PySem.W.nsIn K mainGlobals "is_rows" = some (some (.ref f_isr)))
    (l_f_isr : K.lookup f_isr = some ⟨oc_f_isr, od_f_isr, .func (PySem.W.fnOf "is_rows" "is_rows" (defArgs sIsRows) (defBody sIsRows) (defScope sIsRows) .none kV_f_isr dc_f_isr pm_f_isr an_f_isr cd_f_isr ct_f_isr), sl_f_isr⟩)
    (c_f_isr : PySem.W.codeIn K cd_f_isr "is_rows" = true)
    (k_f_isr : PySem.W.keepIn K (.ref f_isr) = true)
    (g_f_isc : PySem.W.nsIn K mainGlobals "is_counts" = some (some (.ref f_isc)))
    (l_f_isc : K.lookup f_isc = some ⟨oc_f_isc, od_f_isc, .func (PySem.W.fnOf "is_counts" "is_counts" (defArgs sIsCounts) (defBody sIsCounts) (defScope sIsCounts) .none kV_f_isc dc_f_isc pm_f_isc an_f_isc cd_f_isc ct_f_isc), sl_f_isc⟩)
    (c_f_isc : PySem.W.codeIn K cd_f_isc "is_counts" = true)
    (k_f_isc : PySem.W.keepIn K (.ref f_isc) = true)
    (g_f_me : PySem.W.nsIn K mainGlobals "meaning_of" = some (some (.ref f_me)))
    (l_f_me : K.lookup f_me = some ⟨oc_f_me, od_f_me, .func (PySem.W.fnOf "meaning_of" "meaning_of" (defArgs sMeaning) (defBody sMeaning) (defScope sMeaning) .none kV_f_me dc_f_me pm_f_me an_f_me cd_f_me ct_f_me), sl_f_me⟩)
    (c_f_me : PySem.W.codeIn K cd_f_me "meaning_of" = true)
    (k_f_me : PySem.W.keepIn K (.ref f_me) = true)
    (g_f_seed : PySem.W.nsIn K mainGlobals "_law_seed" = some (some (.ref f_seed)))
    (l_f_seed : K.lookup f_seed = some ⟨oc_f_seed, od_f_seed, .func (PySem.W.fnOf "_law_seed" "_law_seed" (defArgs sSeed) (defBody sSeed) (defScope sSeed) .none kV_f_seed dc_f_seed pm_f_seed an_f_seed cd_f_seed ct_f_seed), sl_f_seed⟩)
    (c_f_seed : PySem.W.codeIn K cd_f_seed "_law_seed" = true)
    (k_f_seed : PySem.W.keepIn K (.ref f_seed) = true)
    (g_f_choose : PySem.W.nsIn K mainGlobals "_law_choose" = some (some (.ref f_choose)))
    (l_f_choose : K.lookup f_choose = some ⟨oc_f_choose, od_f_choose, .func (PySem.W.fnOf "_law_choose" "_law_choose" (defArgs sChoose) (defBody sChoose) (defScope sChoose) .none kV_f_choose dc_f_choose pm_f_choose an_f_choose cd_f_choose ct_f_choose), sl_f_choose⟩)
    (c_f_choose : PySem.W.codeIn K cd_f_choose "_law_choose" = true)
    (k_f_choose : PySem.W.keepIn K (.ref f_choose) = true)
    (g_f_one : PySem.W.nsIn K mainGlobals "_law_one_of" = some (some (.ref f_one)))
    (l_f_one : K.lookup f_one = some ⟨oc_f_one, od_f_one, .func (PySem.W.fnOf "_law_one_of" "_law_one_of" (defArgs sOneOf) (defBody sOneOf) (defScope sOneOf) .none kV_f_one dc_f_one pm_f_one an_f_one cd_f_one ct_f_one), sl_f_one⟩)
    (c_f_one : PySem.W.codeIn K cd_f_one "_law_one_of" = true)
    (k_f_one : PySem.W.keepIn K (.ref f_one) = true)
    (g_f_any : PySem.W.nsIn K mainGlobals "_law_any" = some (some (.ref f_any)))
    (l_f_any : K.lookup f_any = some ⟨oc_f_any, od_f_any, .func (PySem.W.fnOf "_law_any" "_law_any" (defArgs sAnyV) (defBody sAnyV) (defScope sAnyV) .none kV_f_any dc_f_any pm_f_any an_f_any cd_f_any ct_f_any), sl_f_any⟩)
    (c_f_any : PySem.W.codeIn K cd_f_any "_law_any" = true)
    (k_f_any : PySem.W.keepIn K (.ref f_any) = true)
    (g_f_wo : PySem.W.nsIn K mainGlobals "_law_word" = some (some (.ref f_wo)))
    (l_f_wo : K.lookup f_wo = some ⟨oc_f_wo, od_f_wo, .func (PySem.W.fnOf "_law_word" "_law_word" (defArgs sWordL) (defBody sWordL) (defScope sWordL) .none kV_f_wo dc_f_wo pm_f_wo an_f_wo cd_f_wo ct_f_wo), sl_f_wo⟩)
    (c_f_wo : PySem.W.codeIn K cd_f_wo "_law_word" = true)
    (k_f_wo : PySem.W.keepIn K (.ref f_wo) = true)
    (g_f_due : PySem.W.nsIn K mainGlobals "_law_house_due" = some (some (.ref f_due)))
    (l_f_due : K.lookup f_due = some ⟨oc_f_due, od_f_due, .func (PySem.W.fnOf "_law_house_due" "_law_house_due" (defArgs sHouseDue) (defBody sHouseDue) (defScope sHouseDue) .none kV_f_due dc_f_due pm_f_due an_f_due cd_f_due ct_f_due), sl_f_due⟩)
    (c_f_due : PySem.W.codeIn K cd_f_due "_law_house_due" = true)
    (k_f_due : PySem.W.keepIn K (.ref f_due) = true)
    (g_f_mo : PySem.W.nsIn K mainGlobals "_law_mostly" = some (some (.ref f_mo)))
    (l_f_mo : K.lookup f_mo = some ⟨oc_f_mo, od_f_mo, .func (PySem.W.fnOf "_law_mostly" "_law_mostly" (defArgs sMostly) (defBody sMostly) (defScope sMostly) .none kV_f_mo dc_f_mo pm_f_mo an_f_mo cd_f_mo ct_f_mo), sl_f_mo⟩)
    (c_f_mo : PySem.W.codeIn K cd_f_mo "_law_mostly" = true)
    (k_f_mo : PySem.W.keepIn K (.ref f_mo) = true)
    (g_f_rows : PySem.W.nsIn K mainGlobals "_law_rows" = some (some (.ref f_rows)))
    (l_f_rows : K.lookup f_rows = some ⟨oc_f_rows, od_f_rows, .func (PySem.W.fnOf "_law_rows" "_law_rows" (defArgs sRows) (defBody sRows) (defScope sRows) .none kV_f_rows dc_f_rows pm_f_rows an_f_rows cd_f_rows ct_f_rows), sl_f_rows⟩)
    (c_f_rows : PySem.W.codeIn K cd_f_rows "_law_rows" = true)
    (k_f_rows : PySem.W.keepIn K (.ref f_rows) = true)
    (g_f_lo : PySem.W.nsIn K mainGlobals "_law_let_of" = some (some (.ref f_lo)))
    (l_f_lo : K.lookup f_lo = some ⟨oc_f_lo, od_f_lo, .func (PySem.W.fnOf "_law_let_of" "_law_let_of" (defArgs sLetOf) (defBody sLetOf) (defScope sLetOf) .none kV_f_lo dc_f_lo pm_f_lo an_f_lo cd_f_lo ct_f_lo), sl_f_lo⟩)
    (c_f_lo : PySem.W.codeIn K cd_f_lo "_law_let_of" = true)
    (k_f_lo : PySem.W.keepIn K (.ref f_lo) = true)
    (g_f_rep : PySem.W.nsIn K mainGlobals "_law_report" = some (some (.ref f_rep)))
    (l_f_rep : K.lookup f_rep = some ⟨oc_f_rep, od_f_rep, .func (PySem.W.fnOf "_law_report" "_law_report" (defArgs sReportL) (defBody sReportL) (defScope sReportL) .none kV_f_rep dc_f_rep pm_f_rep an_f_rep cd_f_rep ct_f_rep), sl_f_rep⟩)
    (c_f_rep : PySem.W.codeIn K cd_f_rep "_law_report" = true)
    (k_f_rep : PySem.W.keepIn K (.ref f_rep) = true)
    (g_f_law : PySem.W.nsIn K mainGlobals "law" = some (some (.ref f_law)))
    (l_f_law : K.lookup f_law = some ⟨oc_f_law, od_f_law, .func (PySem.W.fnOf "law" "law" (defArgs sLaw) (defBody sLaw) (defScope sLaw) .none kV_f_law dc_f_law pm_f_law an_f_law cd_f_law ct_f_law), sl_f_law⟩)
    (c_f_law : PySem.W.codeIn K cd_f_law "law" = true)
    (k_f_law : PySem.W.keepIn K (.ref f_law) = true)
    (g_LC : PySem.W.nsIn K mainGlobals "Let" = some (some (.ref LC)))
    (g_CC : PySem.W.nsIn K mainGlobals "Count" = some (some (.ref CC)))
    (g_HC : PySem.W.nsIn K mainGlobals "House" = some (some (.ref HC)))
    (g_QR : PySem.W.nsIn K mainGlobals "Report" = some (some (.ref QR)))
    (gn : PySem.W.specialIn K (.builtin "object.__class__") "__get__" = some (some (.builtin "getset_descriptor.__get__")))
    (tk : PySem.W.takesIn K (.builtin "object.__class__") = some true)
    (pg_LC : PySem.W.plainGet K LC Str.empty = true)
    (hd_LC : PySem.W.hasDictIn K LC = true)
    (po_LC : PySem.W.plainOver K LC = true)
    (sa_LC : PySem.W.findIn K (.ref LC) "__setattr__" = some (some (.builtin "object.__setattr__")))
    (mk_LC : PySem.W.makesIn K LC = true)
    (kc_LC : PySem.W.keepIn K (.ref LC) = true)
    (ca_LC : PySem.W.findIn K (.ref LC) "__class__" = some (some (.builtin "object.__class__")))
    (mo_LC : PySem.W.mroIn K LC (.type "object") = some true)
    (ss_LC : PySem.W.subIn K (.ref LC) (.ref LC) = some true)
    (ic_LC : PySem.W.isClsIn K LC = true)
    (tc_LC : PySem.W.typeIn K (.ref LC) = some (.type "type"))
    (pg_CC : PySem.W.plainGet K CC Str.empty = true)
    (hd_CC : PySem.W.hasDictIn K CC = true)
    (po_CC : PySem.W.plainOver K CC = true)
    (sa_CC : PySem.W.findIn K (.ref CC) "__setattr__" = some (some (.builtin "object.__setattr__")))
    (mk_CC : PySem.W.makesIn K CC = true)
    (kc_CC : PySem.W.keepIn K (.ref CC) = true)
    (ca_CC : PySem.W.findIn K (.ref CC) "__class__" = some (some (.builtin "object.__class__")))
    (mo_CC : PySem.W.mroIn K CC (.type "object") = some true)
    (ss_CC : PySem.W.subIn K (.ref CC) (.ref CC) = some true)
    (ic_CC : PySem.W.isClsIn K CC = true)
    (tc_CC : PySem.W.typeIn K (.ref CC) = some (.type "type"))
    (pg_HC : PySem.W.plainGet K HC Str.empty = true)
    (hd_HC : PySem.W.hasDictIn K HC = true)
    (po_HC : PySem.W.plainOver K HC = true)
    (sa_HC : PySem.W.findIn K (.ref HC) "__setattr__" = some (some (.builtin "object.__setattr__")))
    (mk_HC : PySem.W.makesIn K HC = true)
    (kc_HC : PySem.W.keepIn K (.ref HC) = true)
    (pg_QR : PySem.W.plainGet K QR Str.empty = true)
    (hd_QR : PySem.W.hasDictIn K QR = true)
    (po_QR : PySem.W.plainOver K QR = true)
    (sa_QR : PySem.W.findIn K (.ref QR) "__setattr__" = some (some (.builtin "object.__setattr__")))
    (mk_QR : PySem.W.makesIn K QR = true)
    (kc_QR : PySem.W.keepIn K (.ref QR) = true)
    (ca_QR : PySem.W.findIn K (.ref QR) "__class__" = some (some (.builtin "object.__class__")))
    (mo_QR : PySem.W.mroIn K QR (.type "object") = some true)
    (ss_QR : PySem.W.subIn K (.ref QR) (.ref QR) = some true)
    (ic_QR : PySem.W.isClsIn K QR = true)
    (tc_QR : PySem.W.typeIn K (.ref QR) = some (.type "type"))
    (ne_QR : PySem.W.findIn K (.ref QR) "__ne__" = some (some (.builtin "object.__ne__")))
    (ob_QR : PySem.W.subIn K (.ref QR) (.type "object") = some true)
    (sl_LC : PySem.W.subIn K (.ref LC) (.type "list") = some false)
    (st_LC : PySem.W.subIn K (.ref LC) (.type "tuple") = some false)
    (fl_LC_NoneType : PySem.W.subIn K (.type "NoneType") (.ref LC) = some false)
    (fl_LC_bool : PySem.W.subIn K (.type "bool") (.ref LC) = some false)
    (fl_LC_int : PySem.W.subIn K (.type "int") (.ref LC) = some false)
    (fl_LC_str : PySem.W.subIn K (.type "str") (.ref LC) = some false)
    (fl_LC_list : PySem.W.subIn K (.type "list") (.ref LC) = some false)
    (fl_LC_tuple : PySem.W.subIn K (.type "tuple") (.ref LC) = some false)
    (sl_CC : PySem.W.subIn K (.ref CC) (.type "list") = some false)
    (st_CC : PySem.W.subIn K (.ref CC) (.type "tuple") = some false)
    (fl_CC_NoneType : PySem.W.subIn K (.type "NoneType") (.ref CC) = some false)
    (fl_CC_bool : PySem.W.subIn K (.type "bool") (.ref CC) = some false)
    (fl_CC_int : PySem.W.subIn K (.type "int") (.ref CC) = some false)
    (fl_CC_str : PySem.W.subIn K (.type "str") (.ref CC) = some false)
    (fl_CC_list : PySem.W.subIn K (.type "list") (.ref CC) = some false)
    (fl_CC_tuple : PySem.W.subIn K (.type "tuple") (.ref CC) = some false)
    (sx_LC_CC : PySem.W.subIn K (.ref LC) (.ref CC) = some false)
    (sx_CC_LC : PySem.W.subIn K (.ref CC) (.ref LC) = some false)
    (no_LC_kind : PySem.W.findIn K (.ref LC) "kind" = some none)
    (no_LC_state : PySem.W.findIn K (.ref LC) "state" = some none)
    (no_LC_deed : PySem.W.findIn K (.ref LC) "deed" = some none)
    (no_LC_place : PySem.W.findIn K (.ref LC) "place" = some none)
    (no_CC_kind : PySem.W.findIn K (.ref CC) "kind" = some none)
    (no_CC_weight : PySem.W.findIn K (.ref CC) "weight" = some none)
    (no_CC_whose : PySem.W.findIn K (.ref CC) "whose" = some none)
    (no_HC_depth : PySem.W.findIn K (.ref HC) "depth" = some none)
    (no_HC_check : PySem.W.findIn K (.ref HC) "check" = some none)
    (no_HC_rows : PySem.W.findIn K (.ref HC) "rows" = some none)
    (no_QR_rows : PySem.W.findIn K (.ref QR) "rows" = some none)
    (a_f_li : PySem.W.findIn K (.ref LC) "__init__" = some (some (.ref f_li)))
    (i_f_li : PySem.W.isFn K (.ref f_li) = true)
    (l_f_li : K.lookup f_li = some ⟨oc_f_li, od_f_li, .func (PySem.W.fnOf "__init__" "Let.__init__" (defArgs sLInit) (defBody sLInit) (defScope sLInit) .none kV_f_li dc_f_li pm_f_li an_f_li cd_f_li ct_f_li), sl_f_li⟩)
    (c_f_li : PySem.W.codeIn K cd_f_li "Let.__init__" = true)
    (k_f_li : PySem.W.keepIn K (.ref f_li) = true)
    (a_f_ci : PySem.W.findIn K (.ref CC) "__init__" = some (some (.ref f_ci)))
    (i_f_ci : PySem.W.isFn K (.ref f_ci) = true)
    (l_f_ci : K.lookup f_ci = some ⟨oc_f_ci, od_f_ci, .func (PySem.W.fnOf "__init__" "Count.__init__" (defArgs sCInit) (defBody sCInit) (defScope sCInit) .none kV_f_ci dc_f_ci pm_f_ci an_f_ci cd_f_ci ct_f_ci), sl_f_ci⟩)
    (c_f_ci : PySem.W.codeIn K cd_f_ci "Count.__init__" = true)
    (k_f_ci : PySem.W.keepIn K (.ref f_ci) = true)
    (a_f_hi : PySem.W.findIn K (.ref HC) "__init__" = some (some (.ref f_hi)))
    (i_f_hi : PySem.W.isFn K (.ref f_hi) = true)
    (l_f_hi : K.lookup f_hi = some ⟨oc_f_hi, od_f_hi, .func (PySem.W.fnOf "__init__" "House.__init__" (defArgs sHsInit) (defBody sHsInit) (defScope sHsInit) (.ref T_f_hi) kV_f_hi dc_f_hi pm_f_hi an_f_hi cd_f_hi ct_f_hi), sl_f_hi⟩)
    (c_f_hi : PySem.W.codeIn K cd_f_hi "House.__init__" = true)
    (k_f_hi : PySem.W.keepIn K (.ref f_hi) = true)
    (t_f_hi : K.lookup T_f_hi = some ⟨.type "tuple", dd_f_hi, .seq #[.ref e_hi] n_f_hi, ds_f_hi⟩)
    (a_gri : PySem.W.findIn K (.ref QR) "__init__" = some (some (.ref gri)))
    (i_gri : PySem.W.isFn K (.ref gri) = true)
    (l_gri : K.lookup gri = some ⟨oc_gri, od_gri, .func (PySem.W.fnOf "__init__" "Report.__init__" (defArgs sRpInit) (defBody sRpInit) (defScope sRpInit) (.ref T_gri) kV_gri dc_gri pm_gri an_gri cd_gri ct_gri), sl_gri⟩)
    (c_gri : PySem.W.codeIn K cd_gri "Report.__init__" = true)
    (k_gri : PySem.W.keepIn K (.ref gri) = true)
    (t_gri : K.lookup T_gri = some ⟨.type "tuple", dd_gri, .seq #[.ref egr] n_gri, ds_gri⟩)
    (a_grw : PySem.W.findIn K (.ref QR) "weight_of" = some (some (.ref grw)))
    (i_grw : PySem.W.isFn K (.ref grw) = true)
    (l_grw : K.lookup grw = some ⟨oc_grw, od_grw, .func (PySem.W.fnOf "weight_of" "Report.weight_of" (defArgs sRpWeight) (defBody sRpWeight) (defScope sRpWeight) .none kV_grw dc_grw pm_grw an_grw cd_grw ct_grw), sl_grw⟩)
    (c_grw : PySem.W.codeIn K cd_grw "Report.weight_of" = true)
    (k_grw : PySem.W.keepIn K (.ref grw) = true)
    (a_grm : PySem.W.findIn K (.ref QR) "month_of" = some (some (.ref grm)))
    (i_grm : PySem.W.isFn K (.ref grm) = true)
    (l_grm : K.lookup grm = some ⟨oc_grm, od_grm, .func (PySem.W.fnOf "month_of" "Report.month_of" (defArgs sRpMonth) (defBody sRpMonth) (defScope sRpMonth) .none kV_grm dc_grm pm_grm an_grm cd_grm ct_grm), sl_grm⟩)
    (c_grm : PySem.W.codeIn K cd_grm "Report.month_of" = true)
    (k_grm : PySem.W.keepIn K (.ref grm) = true)
    (a_gre : PySem.W.findIn K (.ref QR) "__eq__" = some (some (.ref gre)))
    (i_gre : PySem.W.isFn K (.ref gre) = true)
    (l_gre : K.lookup gre = some ⟨oc_gre, od_gre, .func (PySem.W.fnOf "__eq__" "Report.__eq__" (defArgs sRpEq) (defBody sRpEq) (defScope sRpEq) .none kV_gre dc_gre pm_gre an_gre cd_gre ct_gre), sl_gre⟩)
    (c_gre : PySem.W.codeIn K cd_gre "Report.__eq__" = true)
    (k_gre : PySem.W.keepIn K (.ref gre) = true)
    (g_KA : PySem.W.nsIn K mainGlobals "KINDS" = some (some (.ref KA)))
    (q_KA : K.lookup KA = some ⟨.type "tuple", dd_KA, .seq #[.str "first" t0_KA, .str "new" t1_KA, .str "minus" t2_KA, .str "plus" t3_KA] n_KA, ds_KA⟩)
    (g_SA : PySem.W.nsIn K mainGlobals "STATES" = some (some (.ref SA)))
    (q_SA : K.lookup SA = some ⟨.type "tuple", dd_SA, .seq #[.str "open" t0_SA, .str "shut" t1_SA] n_SA, ds_SA⟩)
    (g_DA : PySem.W.nsIn K mainGlobals "DEEDS" = some (some (.ref DA)))
    (q_DA : K.lookup DA = some ⟨.type "tuple", dd_DA, .seq #[.str "whole" t0_DA, .str "part" t1_DA, .str "right" t2_DA] n_DA, ds_DA⟩)
    (g_PA : PySem.W.nsIn K mainGlobals "PLACES" = some (some (.ref PA)))
    (q_PA : K.lookup PA = some ⟨.type "tuple", dd_PA, .seq #[.str "now" t0_PA, .str "there" t1_PA] n_PA, ds_PA⟩)
    (g_OA : PySem.W.nsIn K mainGlobals "WHOSE" = some (some (.ref OA)))
    (q_OA : K.lookup OA = some ⟨.type "tuple", dd_OA, .seq #[.str "own" t0_OA, .str "target" t1_OA, .str "top" t2_OA, .str "deed" t3_OA] n_OA, ds_OA⟩)
    (g_WA : PySem.W.nsIn K mainGlobals "WEIGHTS" = some (some (.ref WA)))
    (q_WA : K.lookup WA = some ⟨.type "tuple", dd_WA, .seq #[.int (-1) t0_WA, .int (0) t1_WA, .int (1) t2_WA] n_WA, ds_WA⟩)
    (g_KK : PySem.W.nsIn K mainGlobals "CHECKS" = some (some (.ref KK)))
    (q_KK : K.lookup KK = some ⟨.type "tuple", dd_KK, .seq #[.str "left" t0_KK, .str "all" t1_KK] n_KK, ds_KK⟩)
    (g_DL : PySem.W.nsIn K mainGlobals "DEPTH_LINES" = some (some (.ref DL)))
    (q_DL : K.lookup DL = some ⟨.type "tuple", dd_DL, .seq #[.str "depth 0" t0_DL, .str "depth 1" t1_DL, .str "depth 2" t2_DL, .str "depth 3" t3_DL, .str "depth 4" t4_DL] n_DL, ds_DL⟩)
    (g_CH : PySem.W.nsIn K mainGlobals "InvalidHouse" = some (some (.ref CH)))
    (x_CH : K.lookup CH = some (PySem.excClassObj nm_CH q_CH CH N_CH bs_CH bm_CH true sn_CH sub_CH ab_CH col_CH dd_CH m0_CH m1_CH m2_CH m3_CH m5_CH "ValueError.__new__"))
    (xb_CH : PySem.HandSPX.refsVE bm_CH = true)
    (xsa_CH : PySem.W.findIn K (.ref CH) "__setattr__" = some (some (.builtin "object.__setattr__")))
    (xga_CH : PySem.W.findIn K (.ref CH) "__getattribute__" = some (some (.builtin "BaseException.__getattribute__")))
    (xgg_CH : PySem.W.findIn K (.ref CH) "__getattr__" = some none)
    (xex_CH : PySem.W.subIn K (.ref CH) (.type "BaseException") = some true)
    (xty_CH : PySem.W.typeIn K (.ref CH) = some (.type "type"))
    (xkc_CH : PySem.W.keepIn K (.ref CH) = true)
    (xhd_CH : PySem.W.hasDictIn K CH = true)
    (xis_CH : PySem.W.isClsIn K CH = true)
    (xca_CH : PySem.W.findIn K (.ref CH) "__class__" = some (some (.builtin "object.__class__")))
    (xgn_CH : PySem.W.specialIn K (.builtin "object.__class__") "__get__" = some (some (.builtin "getset_descriptor.__get__")))
    (xtk_CH : PySem.W.takesIn K (.builtin "object.__class__") = some true)
    (xmo_CH : PySem.W.mroIn K CH (.type "object") = some true)
    (xss_CH : PySem.W.subIn K (.ref CH) (.ref CH) = some true)
    (no_CH_word : PySem.W.findIn K (.ref CH) "word" = some none)
    (a_f_ih : PySem.W.findIn K (.ref CH) "__init__" = some (some (.ref f_ih)))
    (tf_f_ih : PySem.W.typeIn K (.ref f_ih) = some (.type "function"))
    (l_f_ih : K.lookup f_ih = some ⟨oc_f_ih, od_f_ih, .func (PySem.W.fnOf "__init__" "InvalidHouse.__init__" (defArgs sIhInit) (defBody sIhInit) (defScope sIhInit) .none kV_f_ih dc_f_ih pm_f_ih an_f_ih cd_f_ih ct_f_ih), sl_f_ih⟩)
    (c_f_ih : PySem.W.codeIn K cd_f_ih "InvalidHouse.__init__" = true)
    (k_f_ih : PySem.W.keepIn K (.ref f_ih) = true)
    (g_CE : PySem.W.nsIn K mainGlobals "InvalidReport" = some (some (.ref CE)))
    (x_CE : K.lookup CE = some (PySem.excClassObj nm_CE q_CE CE N_CE bs_CE bm_CE true sn_CE sub_CE ab_CE col_CE dd_CE m0_CE m1_CE m2_CE m3_CE m5_CE "ValueError.__new__"))
    (xb_CE : PySem.HandSPX.refsVE bm_CE = true)
    (xsa_CE : PySem.W.findIn K (.ref CE) "__setattr__" = some (some (.builtin "object.__setattr__")))
    (xga_CE : PySem.W.findIn K (.ref CE) "__getattribute__" = some (some (.builtin "BaseException.__getattribute__")))
    (xgg_CE : PySem.W.findIn K (.ref CE) "__getattr__" = some none)
    (xex_CE : PySem.W.subIn K (.ref CE) (.type "BaseException") = some true)
    (xty_CE : PySem.W.typeIn K (.ref CE) = some (.type "type"))
    (xkc_CE : PySem.W.keepIn K (.ref CE) = true)
    (xhd_CE : PySem.W.hasDictIn K CE = true)
    (xis_CE : PySem.W.isClsIn K CE = true)
    (xca_CE : PySem.W.findIn K (.ref CE) "__class__" = some (some (.builtin "object.__class__")))
    (xgn_CE : PySem.W.specialIn K (.builtin "object.__class__") "__get__" = some (some (.builtin "getset_descriptor.__get__")))
    (xtk_CE : PySem.W.takesIn K (.builtin "object.__class__") = some true)
    (xmo_CE : PySem.W.mroIn K CE (.type "object") = some true)
    (xss_CE : PySem.W.subIn K (.ref CE) (.ref CE) = some true)
    (no_CE_word : PySem.W.findIn K (.ref CE) "word" = some none)
    (a_f_ie : PySem.W.findIn K (.ref CE) "__init__" = some (some (.ref f_ie)))
    (tf_f_ie : PySem.W.typeIn K (.ref f_ie) = some (.type "function"))
    (l_f_ie : K.lookup f_ie = some ⟨oc_f_ie, od_f_ie, .func (PySem.W.fnOf "__init__" "InvalidReport.__init__" (defArgs sIpInit) (defBody sIpInit) (defScope sIpInit) .none kV_f_ie dc_f_ie pm_f_ie an_f_ie cd_f_ie ct_f_ie), sl_f_ie⟩)
    (c_f_ie : PySem.W.codeIn K cd_f_ie "InvalidReport.__init__" = true)
    (k_f_ie : PySem.W.keepIn K (.ref f_ie) = true)
    (te_CH : PySem.W.exmOne K (.ref CH) (.ref CH) = some true)
    (te_CE : PySem.W.exmOne K (.ref CE) (.ref CE) = some true)
    (te_EH : PySem.W.exmOne K (.ref CE) (.ref CH) = some false)
    (g_CB : PySem.W.nsIn K mainGlobals "BookError" = some (some (.ref CB)))
    (is_CB : PySem.W.isClsIn K CB = true)
    (ty_CB : PySem.W.typeIn K (.ref CB) = some (.type "type"))
    (su_CH_CB : PySem.W.subIn K (.ref CH) (.ref CB) = some true)
    (su_CE_CB : PySem.W.subIn K (.ref CE) (.ref CB) = some true)
    (g_CI : PySem.W.nsIn K mainGlobals "InvalidRow" = some (some (.ref CI)))
    (is_CI : PySem.W.isClsIn K CI = true)
    (ty_CI : PySem.W.typeIn K (.ref CI) = some (.type "type"))
    (su_CH_CI : PySem.W.subIn K (.ref CH) (.ref CI) = some false)
    (su_CE_CI : PySem.W.subIn K (.ref CE) (.ref CI) = some false)
    (z_len : PySem.W.nsIn K mainGlobals "len" = some none)
    (z_abs : PySem.W.nsIn K mainGlobals "abs" = some none)
    (z_int : PySem.W.nsIn K mainGlobals "int" = some none)
    (z_isinstance : PySem.W.nsIn K mainGlobals "isinstance" = some none)
    (z_bool : PySem.W.nsIn K mainGlobals "bool" = some none)
    (z_range : PySem.W.nsIn K mainGlobals "range" = some none)
    (z_max : PySem.W.nsIn K mainGlobals "max" = some none)
    (z_min : PySem.W.nsIn K mainGlobals "min" = some none)
    (z_str : PySem.W.nsIn K mainGlobals "str" = some none)
    (z_list : PySem.W.nsIn K mainGlobals "list" = some none)
    (z_tuple : PySem.W.nsIn K mainGlobals "tuple" = some none)
    (z_all : PySem.W.nsIn K mainGlobals "all" = some none)
    (hcT : cd_f_law = .ref cT)
    : ∃ fd : FuncData, (∀ (s : Shared) (v : Value), BindsTo s fd ⟨[v], []⟩ [("_law_script", v)]) ∧ ∀ base : Heap, K.In base → base.Ns mainGlobals mg → LamX.TabB base mg cT pT → FnG l.prog w K mg base CX0 9 fa fd ["_law_script"] (spLawT K pT) := by
  have e := hfa.symm.trans (PySem.W.mg_of X G g_f_law)
  cases e
  have F_f_int := fun_mk (st := sIsInt) l_f_int c_f_int k_f_int
  have b_f_int := F_f_int.binds (ps := ["value"]) fun _ _ _ _ _ _ us hl => match us, hl with | [_], _ => rfl
  have F_f_num := fun_mk (st := sIsNum) l_f_num c_f_num k_f_num
  have b_f_num := F_f_num.binds (ps := ["value"]) fun _ _ _ _ _ _ us hl => match us, hl with | [_], _ => rfl
  have F_f_ww := fun_mk (st := sWrongWord) l_f_ww c_f_ww k_f_ww
  have b_f_ww := F_f_ww.binds (ps := ["kind", "state", "deed", "place"]) fun _ _ _ _ _ _ us hl => match us, hl with | [_, _, _, _], _ => rfl
  have F_f_wp := fun_mk (st := sWrongPart) l_f_wp c_f_wp k_f_wp
  have b_f_wp := F_f_wp.binds (ps := ["kind", "weight", "whose"]) fun _ _ _ _ _ _ us hl => match us, hl with | [_, _, _], _ => rfl
  have F_f_isr := fun_mk (st := sIsRows) l_f_isr c_f_isr k_f_isr
  have b_f_isr := F_f_isr.binds (ps := ["value"]) fun _ _ _ _ _ _ us hl => match us, hl with | [_], _ => rfl
  have F_f_isc := fun_mk (st := sIsCounts) l_f_isc c_f_isc k_f_isc
  have b_f_isc := F_f_isc.binds (ps := ["value"]) fun _ _ _ _ _ _ us hl => match us, hl with | [_], _ => rfl
  have F_f_me := fun_mk (st := sMeaning) l_f_me c_f_me k_f_me
  have b_f_me := F_f_me.binds (ps := ["report"]) fun _ _ _ _ _ _ us hl => match us, hl with | [_], _ => rfl
  have F_f_seed := fun_mk (st := sSeed) l_f_seed c_f_seed k_f_seed
  have b_f_seed := F_f_seed.binds (ps := ["_law_script", "_law_k"]) fun _ _ _ _ _ _ us hl => match us, hl with | [_, _], _ => rfl
  have F_f_choose := fun_mk (st := sChoose) l_f_choose c_f_choose k_f_choose
  have b_f_choose := F_f_choose.binds (ps := ["_law_box", "_law_many"]) fun _ _ _ _ _ _ us hl => match us, hl with | [_, _], _ => rfl
  have F_f_one := fun_mk (st := sOneOf) l_f_one c_f_one k_f_one
  have b_f_one := F_f_one.binds (ps := ["_law_box", "_law_some"]) fun _ _ _ _ _ _ us hl => match us, hl with | [_, _], _ => rfl
  have F_f_any := fun_mk (st := sAnyV) l_f_any c_f_any k_f_any
  have b_f_any := F_f_any.binds (ps := ["_law_box", "_law_deep"]) fun _ _ _ _ _ _ us hl => match us, hl with | [_, _], _ => rfl
  have F_f_wo := fun_mk (st := sWordL) l_f_wo c_f_wo k_f_wo
  have b_f_wo := F_f_wo.binds (ps := ["_law_make"]) fun _ _ _ _ _ _ us hl => match us, hl with | [_], _ => rfl
  have F_f_due := fun_mk (st := sHouseDue) l_f_due c_f_due k_f_due
  have b_f_due := F_f_due.binds (ps := ["_law_told", "_law_is_good"]) fun _ _ _ _ _ _ us hl => match us, hl with | [_, _], _ => rfl
  have F_f_mo := fun_mk (st := sMostly) l_f_mo c_f_mo k_f_mo
  have b_f_mo := F_f_mo.binds (ps := ["_law_box", "_law_some"]) fun _ _ _ _ _ _ us hl => match us, hl with | [_, _], _ => rfl
  have F_f_rows := fun_mk (st := sRows) l_f_rows c_f_rows k_f_rows
  have b_f_rows := F_f_rows.binds (ps := ["_law_box", "_law_many"]) fun _ _ _ _ _ _ us hl => match us, hl with | [_, _], _ => rfl
  have F_f_lo := fun_mk (st := sLetOf) l_f_lo c_f_lo k_f_lo
  have b_f_lo := F_f_lo.binds (ps := ["_law_row"]) fun _ _ _ _ _ _ us hl => match us, hl with | [_], _ => rfl
  have F_f_rep := fun_mk (st := sReportL) l_f_rep c_f_rep k_f_rep
  have b_f_rep := F_f_rep.binds (ps := ["_law_box"]) fun _ _ _ _ _ _ us hl => match us, hl with | [_], _ => rfl
  have F_f_law := fun_mk (st := sLaw) l_f_law c_f_law k_f_law
  have b_f_law := F_f_law.binds (ps := ["_law_script"]) fun _ _ _ _ _ _ us hl => match us, hl with | [_], _ => rfl
  have cl_LC : Cls K LC := ⟨pg_LC, hd_LC, po_LC, sa_LC⟩
  have cl_CC : Cls K CC := ⟨pg_CC, hd_CC, po_CC, sa_CC⟩
  have cl_HC : Cls K HC := ⟨pg_HC, hd_HC, po_HC, sa_HC⟩
  have cl_QR : Cls K QR := ⟨pg_QR, hd_QR, po_QR, sa_QR⟩
  have F_f_li := fun_mk (st := sLInit) l_f_li c_f_li k_f_li
  have b_f_li := F_f_li.binds (ps := ["self", "kind", "state", "deed", "place"]) fun _ _ _ _ _ _ us hl => match us, hl with | [_, _, _, _, _], _ => rfl
  have F_f_ci := fun_mk (st := sCInit) l_f_ci c_f_ci k_f_ci
  have b_f_ci := F_f_ci.binds (ps := ["self", "kind", "weight", "whose"]) fun _ _ _ _ _ _ us hl => match us, hl with | [_, _, _, _], _ => rfl
  have F_f_hi : FunD K "__init__" "House.__init__" (defArgs sHsInit) (defBody sHsInit) (defScope sHsInit) [.ref e_hi] [] f_hi _ := ⟨⟨_, _, _, _, _, _, _, _, _, _, rfl, l_f_hi, c_f_hi, .inr ⟨by simp, T_f_hi, _, [.ref e_hi], n_f_hi, rfl, t_f_hi, rfl, .cons rfl .nil⟩, .inl rfl⟩, k_f_hi⟩
  obtain ⟨ds_, vds_, b_f_hi⟩ := F_f_hi.binds1 (ps := ["self", "depth", "check", "rows"]) 4 1 (by simp) rfl (fun _ _ _ _ _ _ _ us its hu hi => by
    match us, its, hu, hi with
    | [_, _, _, _], [_], _, _ => exact ⟨_, rfl, rfl⟩)
  cases vds_
  have F_gri : FunD K "__init__" "Report.__init__" (defArgs sRpInit) (defBody sRpInit) (defScope sRpInit) [.ref egr] [] gri _ := ⟨⟨_, _, _, _, _, _, _, _, _, _, rfl, l_gri, c_gri, .inr ⟨by simp, T_gri, _, [.ref egr], n_gri, rfl, t_gri, rfl, .cons rfl .nil⟩, .inl rfl⟩, k_gri⟩
  obtain ⟨ds_, vds_, b_gri⟩ := F_gri.binds1 (ps := ["self", "rows"]) 2 1 (by simp) rfl (fun _ _ _ _ _ _ _ us its hu hi => by
    match us, its, hu, hi with
    | [_, _], [_], _, _ => exact ⟨_, rfl, rfl⟩)
  cases vds_
  have F_grw := fun_mk (st := sRpWeight) l_grw c_grw k_grw
  have b_grw := F_grw.binds (ps := ["self", "kind"]) fun _ _ _ _ _ _ us hl => match us, hl with | [_, _], _ => rfl
  have F_grm := fun_mk (st := sRpMonth) l_grm c_grm k_grm
  have b_grm := F_grm.binds (ps := ["self", "kind"]) fun _ _ _ _ _ _ us hl => match us, hl with | [_, _], _ => rfl
  have F_gre := fun_mk (st := sRpEq) l_gre c_gre k_gre
  have b_gre := F_gre.binds (ps := ["self", "other"]) fun _ _ _ _ _ _ us hl => match us, hl with | [_, _], _ => rfl
  have ox_CH : OexC K CH := ⟨⟨_, _, _, _, _, _, _, _, _, _, _, _, _, _, _, x_CH, xb_CH⟩, xsa_CH, xex_CH, xty_CH, xkc_CH⟩
  have xc_CH : XClass K CH := ⟨xis_CH, xga_CH, xgg_CH, xex_CH, xca_CH, xgn_CH, xtk_CH, xmo_CH⟩
  have xf_CH : XfC K CH := ⟨xga_CH, xgg_CH, xex_CH, xhd_CH⟩
  have F_f_ih := fun_mk (st := sIhInit) l_f_ih c_f_ih k_f_ih
  have b_f_ih := F_f_ih.binds (ps := ["self", "word"]) fun _ _ _ _ _ _ us hl => match us, hl with | [_, _], _ => rfl
  have ox_CE : OexC K CE := ⟨⟨_, _, _, _, _, _, _, _, _, _, _, _, _, _, _, x_CE, xb_CE⟩, xsa_CE, xex_CE, xty_CE, xkc_CE⟩
  have xc_CE : XClass K CE := ⟨xis_CE, xga_CE, xgg_CE, xex_CE, xca_CE, xgn_CE, xtk_CE, xmo_CE⟩
  have xf_CE : XfC K CE := ⟨xga_CE, xgg_CE, xex_CE, xhd_CE⟩
  have F_f_ie := fun_mk (st := sIpInit) l_f_ie c_f_ie k_f_ie
  have b_f_ie := F_f_ie.binds (ps := ["self", "word"]) fun _ _ _ _ _ _ us hl => match us, hl with | [_, _], _ => rfl
  have nLC : LC ≠ CC := fun z => by
    have h1 := sx_LC_CC
    rw [z, ss_CC] at h1
    cases h1
  have CF_LC : ClsF K [LC] [LC, CC] LC := by
    refine ⟨fun C hC => ?_, gn, tk, ic_LC, tc_LC, fl_LC_NoneType, fl_LC_bool, fl_LC_int, fl_LC_str, fl_LC_list, fl_LC_tuple⟩
    simp only [List.mem_cons, List.not_mem_nil, or_false] at hC
    rcases hC with h | h
    · rw [h]; exact ⟨cl_LC, ca_LC, mo_LC, sl_LC, st_LC, by rw [show decide (LC ∈ [LC]) = true from by simp]; exact kit_ref ic_LC tc_LC ss_LC ss_LC⟩
    · rw [h]; exact ⟨cl_CC, ca_CC, mo_CC, sl_CC, st_CC, by rw [show decide (CC ∈ [LC]) = false from decide_eq_false (fun z => nLC (List.mem_singleton.mp z).symm)]; exact kit_ref ic_LC tc_LC sx_CC_LC ss_CC⟩
  have CF_CC : ClsF K [CC] [LC, CC] CC := by
    refine ⟨fun C hC => ?_, gn, tk, ic_CC, tc_CC, fl_CC_NoneType, fl_CC_bool, fl_CC_int, fl_CC_str, fl_CC_list, fl_CC_tuple⟩
    simp only [List.mem_cons, List.not_mem_nil, or_false] at hC
    rcases hC with h | h
    · rw [h]; exact ⟨cl_LC, ca_LC, mo_LC, sl_LC, st_LC, by rw [show decide (LC ∈ [CC]) = false from decide_eq_false (fun z => nLC (List.mem_singleton.mp z))]; exact kit_ref ic_CC tc_CC sx_LC_CC ss_LC⟩
    · rw [h]; exact ⟨cl_CC, ca_CC, mo_CC, sl_CC, st_CC, by rw [show decide (CC ∈ [CC]) = true from by simp]; exact kit_ref ic_CC tc_CC ss_CC ss_CC⟩
  have TA : Blt mg := ⟨PySem.W.mg_none_of X G z_len, PySem.W.mg_none_of X G z_abs, PySem.W.mg_none_of X G z_int⟩
  have TB' : BltB mg := ⟨PySem.W.mg_none_of X G z_isinstance, PySem.W.mg_none_of X G z_int, PySem.W.mg_none_of X G z_bool⟩
  have TK : BltK mg := ⟨PySem.W.mg_none_of X G z_isinstance, PySem.W.mg_none_of X G z_int, PySem.W.mg_none_of X G z_bool, PySem.W.mg_none_of X G z_list, PySem.W.mg_none_of X G z_tuple, PySem.W.mg_none_of X G z_all, PySem.W.mg_none_of X G z_len, PySem.W.mg_none_of X G z_str⟩
  have TG : BltG mg := ⟨PySem.W.mg_none_of X G z_range, PySem.W.mg_none_of X G z_str⟩
  have BRq : BltRp mg := ⟨PySem.W.mg_none_of X G z_isinstance, PySem.W.mg_none_of X G z_list, PySem.W.mg_none_of X G z_tuple, PySem.W.mg_none_of X G z_all, PySem.W.mg_none_of X G z_len⟩
  have RT : RowH K mg KA SA DA PA := ⟨PySem.W.mg_of X G g_KA, PySem.W.mg_of X G g_SA, PySem.W.mg_of X G g_DA, PySem.W.mg_of X G g_PA, fun _ => .inr ⟨_, _, _, q_KA, rfl, rfl, by show 4 ≤ sizeLine; decide, (.cons ⟨_, rfl⟩ (.cons ⟨_, rfl⟩ (.cons ⟨_, rfl⟩ (.cons ⟨_, rfl⟩ .nil))))⟩, fun _ => .inr ⟨_, _, _, q_SA, rfl, rfl, by show 2 ≤ sizeLine; decide, (.cons ⟨_, rfl⟩ (.cons ⟨_, rfl⟩ .nil))⟩, fun _ => .inr ⟨_, _, _, q_DA, rfl, rfl, by show 3 ≤ sizeLine; decide, (.cons ⟨_, rfl⟩ (.cons ⟨_, rfl⟩ (.cons ⟨_, rfl⟩ .nil)))⟩, fun _ => .inr ⟨_, _, _, q_PA, rfl, rfl, by show 2 ≤ sizeLine; decide, (.cons ⟨_, rfl⟩ (.cons ⟨_, rfl⟩ .nil))⟩⟩
  have CTT : CntT K mg KA WA OA := ⟨PySem.W.mg_of X G g_KA, PySem.W.mg_of X G g_WA, PySem.W.mg_of X G g_OA, fun _ => .inr ⟨_, _, _, q_KA, rfl, rfl, by show 4 ≤ sizeLine; decide, (.cons ⟨_, rfl⟩ (.cons ⟨_, rfl⟩ (.cons ⟨_, rfl⟩ (.cons ⟨_, rfl⟩ .nil))))⟩, fun _ => .inr ⟨_, _, _, q_WA, rfl, rfl, by show 3 ≤ sizeLine; decide, (.cons ⟨_, rfl⟩ (.cons ⟨_, rfl⟩ (.cons ⟨_, rfl⟩ .nil)))⟩, fun _ => .inr ⟨_, _, _, q_OA, rfl, rfl, by show 4 ≤ sizeLine; decide, (.cons ⟨_, rfl⟩ (.cons ⟨_, rfl⟩ (.cons ⟨_, rfl⟩ (.cons ⟨_, rfl⟩ .nil))))⟩⟩
  have XT : HsT K mg KK DL := ⟨PySem.W.mg_of X G g_KK, PySem.W.mg_of X G g_DL, fun _ => .inr ⟨_, _, _, q_KK, rfl, rfl, by show 2 ≤ sizeLine; decide, (.cons ⟨_, rfl⟩ (.cons ⟨_, rfl⟩ .nil))⟩, fun _ => .inr ⟨_, _, _, q_DL, rfl, rfl, by show 5 ≤ sizeLine; decide, (.cons ⟨_, rfl⟩ (.cons ⟨_, rfl⟩ (.cons ⟨_, rfl⟩ (.cons ⟨_, rfl⟩ (.cons ⟨_, rfl⟩ .nil)))))⟩⟩
  have FL : LetC K ⟨LC, CC⟩ := ⟨cl_LC, no_LC_kind, no_LC_state, no_LC_deed, no_LC_place⟩
  have FC : CntC K ⟨LC, CC⟩ := ⟨cl_CC, no_CC_kind, no_CC_weight, no_CC_whose⟩
  have CIq : CntI K ⟨LC, CC⟩ := ⟨cl_CC, ca_CC, mo_CC, gn, tk, kit_ref ic_CC tc_CC ss_CC ss_CC⟩
  have FH : HsC K HC := ⟨cl_HC, no_HC_depth, no_HC_check, no_HC_rows⟩
  have RPC : RpC K QR := ⟨cl_QR, no_QR_rows⟩
  have RPI : RpI K QR := ⟨ca_QR, mo_QR, gn, tk, kit_ref ic_QR tc_QR ss_QR ss_QR⟩
  have MKR : Mk K QR gri := ⟨mk_QR, a_gri, i_gri, kc_QR⟩
  have WT : WoT K mg CH CE CB CI := ⟨xc_CH, xf_CH, no_CH_word, xc_CE, xf_CE, no_CE_word, te_CH, te_EH, te_CE, PySem.W.mg_of X G g_CH, PySem.W.mg_of X G g_CE, PySem.W.mg_of X G g_CB, PySem.W.mg_of X G g_CI, PySem.W.mg_none_of X G z_isinstance, kit_ref is_CB ty_CB su_CH_CB xss_CH, kit_ref is_CI ty_CI su_CH_CI xss_CH, kit_ref is_CB ty_CB su_CE_CB xss_CE, kit_ref is_CI ty_CI su_CE_CI xss_CE⟩
  have WC : WordC K mg f_wo := ⟨PySem.W.mg_of X G g_f_wo, k_f_wo, _, _, _, _, _, _, _, _, _, l_f_wo, c_f_wo, b_f_wo⟩
  subst hcT
  have F_law : FunC K "law" "law" sLaw _ _ (.ref cT) := ⟨⟨_, _, _, _, _, _, _, _, rfl, l_f_law, c_f_law⟩⟩
  refine ⟨PySem.W.fnOf "law" "law" (defArgs sLaw) (defBody sLaw) (defScope sLaw) .none kV_f_law dc_f_law pm_f_law an_f_law (.ref cT) ct_f_law, fun s v => .of_eq rfl, fun base _ _ TB => ?_⟩
  have IH : ErW l.prog w K mg base "InvalidHouse" CH := ⟨PySem.W.mg_of X G g_CH, ox_CH, no_CH_word, f_ih, _, ok_ihInit F_f_ih ox_CH no_CH_word, a_f_ih, tf_f_ih, b_f_ih⟩
  have IE : ErW l.prog w K mg base "InvalidReport" CE := ⟨PySem.W.mg_of X G g_CE, ox_CE, no_CE_word, f_ie, _, ok_ipInit F_f_ie ox_CE no_CE_word, a_f_ie, tf_f_ie, b_f_ie⟩
  have q_f_int : Cal l.prog w K mg base CX0 "is_integer" 1 ["value"] spInt := ⟨f_int, _, ok_isInt F_f_int TB', PySem.W.mg_of X G g_f_int, k_f_int, b_f_int⟩
  have qK_f_int : Cal l.prog w K mg base CX0 "is_integer" 1 ["value"] spIntI := ⟨f_int, _, ok_intK F_f_int TK, PySem.W.mg_of X G g_f_int, k_f_int, b_f_int⟩
  have q_f_num : Cal l.prog w K mg base CX0 "is_number" 2 ["value"] spNum := ⟨f_num, _, ok_isNum F_f_num q_f_int, PySem.W.mg_of X G g_f_num, k_f_num, b_f_num⟩
  have q_f_ww : Cal l.prog w K mg base CX0 "wrong_word" 1 ["kind", "state", "deed", "place"] spWord := ⟨f_ww, _, ok_word F_f_ww RT, PySem.W.mg_of X G g_f_ww, k_f_ww, b_f_ww⟩
  have q_f_wp : Cal l.prog w K mg base CX0 "wrong_part" 2 ["kind", "weight", "whose"] spPart := ⟨f_wp, _, ok_part F_f_wp CTT qK_f_int, PySem.W.mg_of X G g_f_wp, k_f_wp, b_f_wp⟩
  have q_f_isr : Cal l.prog w K mg base CX0 "is_rows" 1 ["value"] (spIsRowsA [LC] [LC, CC]) := ⟨f_isr, _, ok_isRowsA F_f_isr ⟨PySem.W.mg_none_of X G z_isinstance, PySem.W.mg_none_of X G z_list, PySem.W.mg_none_of X G z_tuple, PySem.W.mg_none_of X G z_all⟩ CF_LC (PySem.W.mg_of X G g_LC), PySem.W.mg_of X G g_f_isr, k_f_isr, b_f_isr⟩
  have q_f_isc : Cal l.prog w K mg base CX0 "is_counts" 1 ["value"] (spIsCounts K ⟨LC, CC⟩) := ⟨f_isc, _, ok_isCounts F_f_isc BRq CIq FC (PySem.W.mg_of X G g_CC), PySem.W.mg_of X G g_f_isc, k_f_isc, b_f_isc⟩
  have qA_f_isc : Cal l.prog w K mg base CX0 "is_counts" 1 ["value"] (spIsCountsA K ⟨LC, CC⟩ [CC] [LC, CC]) := ⟨f_isc, _, FnOk.both (ok_isCountsB F_f_isc BRq CIq FC CF_CC (PySem.W.mg_of X G g_CC)) (ok_isCounts F_f_isc BRq CIq FC (PySem.W.mg_of X G g_CC)), PySem.W.mg_of X G g_f_isc, k_f_isc, b_f_isc⟩
  have MCq : MkR l.prog w K mg base "Count" ["self", "kind", "weight", "whose"] CC 3 (spCInit ⟨LC, CC⟩) := ⟨PySem.W.mg_of X G g_CC, f_ci, _, ok_cInit F_f_ci FC q_f_wp, ⟨mk_CC, a_f_ci, i_f_ci, kc_CC⟩, b_f_ci⟩
  have ML : MkR l.prog w K mg base "Let" ["self", "kind", "state", "deed", "place"] LC 3 (spLInit ⟨LC, CC⟩) := ⟨PySem.W.mg_of X G g_LC, f_li, _, (ok_lInit F_f_li FL q_f_ww).mono (by decide), ⟨mk_LC, a_f_li, i_f_li, kc_LC⟩, b_f_li⟩
  have RMq : RpM l.prog w K mg base ⟨LC, CC⟩ QR := ⟨⟨grw, _, ok_rpW F_grw RPC FC, ⟨a_grw, i_grw, k_grw⟩, b_grw⟩, ⟨grm, _, ok_rpM F_grm RPC FC, ⟨a_grm, i_grm, k_grm⟩, b_grm⟩⟩
  have q_f_me : Cal l.prog w K mg base CX0 "meaning_of" 2 ["report"] (spMeaning K ⟨LC, CC⟩ QR) := ⟨f_me, _, ok_meaning F_f_me CTT RPC RMq, PySem.W.mg_of X G g_f_me, k_f_me, b_f_me⟩
  have q_f_choose : Cal l.prog w K mg base CX0 "_law_choose" 1 ["_law_box", "_law_many"] spChoose := ⟨f_choose, _, ok_choose F_f_choose TA, PySem.W.mg_of X G g_f_choose, k_f_choose, b_f_choose⟩
  have q_f_seed : Cal l.prog w K mg base CX0 "_law_seed" 1 ["_law_script", "_law_k"] (spSeed K) := ⟨f_seed, _, ok_seed F_f_seed TA, PySem.W.mg_of X G g_f_seed, k_f_seed, b_f_seed⟩
  have q_f_one : Cal l.prog w K mg base CX0 "_law_one_of" 2 ["_law_box", "_law_some"] (spOneOf K) := ⟨f_one, _, ok_oneOf F_f_one TA q_f_choose, PySem.W.mg_of X G g_f_one, k_f_one, b_f_one⟩
  have q_f_any : Cal l.prog w K mg base CX0 "_law_any" 6 ["_law_box", "_law_deep"] (spAnyV 3) := ⟨f_any, _, ok_anyV F_f_any ⟨PySem.W.mg_none_of X G z_range, PySem.W.mg_none_of X G z_tuple⟩ q_f_choose q_f_one (PySem.W.mg_of X G g_f_any) b_f_any 3, PySem.W.mg_of X G g_f_any, k_f_any, b_f_any⟩
  have q_f_mo : Cal l.prog w K mg base CX0 "_law_mostly" 7 ["_law_box", "_law_some"] spMostly := ⟨f_mo, _, ok_mostly F_f_mo q_f_choose q_f_one q_f_any, PySem.W.mg_of X G g_f_mo, k_f_mo, b_f_mo⟩
  have q_f_rows : Cal l.prog w K mg base CX0 "_law_rows" 3 ["_law_box", "_law_many"] spRows := ⟨f_rows, _, ok_rows F_f_rows TG q_f_one, PySem.W.mg_of X G g_f_rows, k_f_rows, b_f_rows⟩
  have q_f_lo : Cal l.prog w K mg base CX0 "_law_let_of" 5 ["_law_row"] (spLetOf ⟨LC, CC⟩) := ⟨f_lo, _, ok_letOf F_f_lo ML, PySem.W.mg_of X G g_f_lo, k_f_lo, b_f_lo⟩
  have q_f_rep : Cal l.prog w K mg base CX0 "_law_report" 3 ["_law_box"] spReportL := ⟨f_rep, _, ok_reportL F_f_rep (PySem.W.mg_none_of X G z_range) (PySem.W.mg_none_of X G z_len) (PySem.W.mg_none_of X G z_tuple) q_f_choose q_f_one, PySem.W.mg_of X G g_f_rep, k_f_rep, b_f_rep⟩
  have q_f_due : Cal l.prog w K mg base CX0 "_law_house_due" 2 ["_law_told", "_law_is_good"] spHouseDue := ⟨f_due, _, ok_houseDue F_f_due ⟨PySem.W.mg_none_of X G z_isinstance, PySem.W.mg_none_of X G z_int, PySem.W.mg_none_of X G z_bool, PySem.W.mg_none_of X G z_str⟩, PySem.W.mg_of X G g_f_due, k_f_due, b_f_due⟩
  have HD : ∃ (f : Addr) (fd : FuncData), FnOk l.prog w K mg base (L2.CX l.prog w) 4 f fd ["self", "depth", "check", "rows"] (spHouseD [LC] [LC, CC] HC CH) ∧ Mk K HC f ∧ Binds K fd ["self", "depth", "check", "rows"] [] := ⟨f_hi, _, ok_hsInitD F_f_hi TK XT FH IH q_f_num q_f_isr, ⟨mk_HC, a_f_hi, i_f_hi, kc_HC⟩, b_f_hi⟩
  have RD : ∃ (f : Addr) (fd : FuncData), FnOk l.prog w K mg base (L2.CX l.prog w) 3 f fd ["self", "rows"] (spReportD K ⟨LC, CC⟩ [CC] [LC, CC] QR CE) ∧ Mk K QR f ∧ Binds K fd ["self", "rows"] [] := ⟨gri, _, ok_rpInitD F_gri BRq RPC IE qA_f_isc, MKR, b_gri⟩
  have R2 : ∃ (f : Addr) (fd : FuncData), FnOk l.prog w K mg base CX0 2 f fd ["self", "rows"] (spRpInit K ⟨LC, CC⟩ QR) ∧ Mk K QR f ∧ Binds K fd ["self", "rows"] [] := ⟨gri, _, ok_rpInit F_gri BRq RPC q_f_isc, MKR, b_gri⟩
  have EQ : ∃ (f : Addr) (fd : FuncData), FnOk l.prog w K mg base CX0 3 f fd ["self", "other"] (spRpEq K ⟨LC, CC⟩ QR) ∧ EqCls K QR f ∧ Binds K fd ["self", "other"] [] := ⟨gre, _, ok_rpEq F_gre RPC RPI (PySem.W.mg_none_of X G z_isinstance) (PySem.W.mg_of X G g_QR) q_f_me, ⟨a_gre, i_gre, ne_QR, ob_QR⟩, b_gre⟩
  exact ok_law (c := ⟨LC, CC⟩) F_law ⟨PySem.W.mg_none_of X G z_len, PySem.W.mg_none_of X G z_range, PySem.W.mg_none_of X G z_max, PySem.W.mg_none_of X G z_min, PySem.W.mg_none_of X G z_tuple⟩ WT WC TB nLC MCq ML nf_same (PySem.W.mg_of X G g_HC) (PySem.W.mg_of X G g_QR) HD RD R2 EQ q_f_seed q_f_choose q_f_one q_f_rows q_f_lo q_f_rep q_f_mo q_f_due
end V3

set_option Elab.async false
set_option linter.all false
set_option maxRecDepth 100000
/-! the facts of the top read by a hook: nothing of the top is written out -/
namespace V3
open PySem PySem.Spec PyProof.Rows L2
/-! ### what stands at an address -/
def objO (K : PySem.W.Frag) (a : Addr) : Obj := match K.lookup a with
  | some o => o
  | none => default
def fdO (K : PySem.W.Frag) (a : Addr) : FuncData := match K.lookup a with
  | some ⟨_, _, .func fd, _⟩ => fd
  | _ => default
def cdO (K : PySem.W.Frag) (a : Addr) : ClassData := match K.lookup a with
  | some ⟨_, _, .cls cd, _⟩ => cd
  | _ => default
def itsO (K : PySem.W.Frag) (a : Addr) : List Value := match K.lookup a with
  | some ⟨_, _, .seq its _, _⟩ => its.toList
  | _ => []
def nO (K : PySem.W.Frag) (a : Addr) : Nat := match K.lookup a with
  | some ⟨_, _, .seq _ n, _⟩ => n
  | _ => 0
def tkO (K : PySem.W.Frag) (a : Addr) (i : Nat) : Tok := match (itsO K a)[i]? with
  | some (.str _ t) => t
  | some (.int _ t) => t
  | _ => 0
def addrV : Value → Addr
  | .ref a => a
  | _ => 0
/-- where things stand -/
def dflT (K : PySem.W.Frag) (f : Addr) : Addr := addrV (fdO K f).defaults
def itemA (K : PySem.W.Frag) (a : Addr) (i : Nat) : Addr := match (itsO K a)[i]? with
  | some v => addrV v
  | none => 0
def maA (K : PySem.W.Frag) (C : Addr) (m : Str) : Addr := match PySem.W.findIn K (.ref C) m with
  | some (some (.ref a)) => a
  | _ => 0
def clsA (K : PySem.W.Frag) (C : Addr) (n : Str) : Addr := match PySem.W.findCls K (.ref C) (.type "type") n with
  | some (.get _ (.ref p) _ _) => p
  | _ => 0
def recA (K : PySem.W.Frag) (p : Addr) (T : String) : Addr := match PySem.W.recIn K p T with
  | some (.ref f :: _) => f
  | _ => 0
def recR (K : PySem.W.Frag) (p : Addr) (T : String) : List Value := match PySem.W.recIn K p T with
  | some (_ :: r) => r
  | _ => []
/-! ### functions -/
abbrev FnO : Type := Option (Str × Str × Arguments × FuncBody × Scope × Addr × List (Str × Addr) × Addr)
def fnO (K : PySem.W.Frag) (a : Addr) : FnO := match K.lookup a with
  | some ⟨_, _, .func fd, _⟩ => some (fd.name, fd.qualname, fd.params, fd.body, fd.scope, fd.globals, fd.closure, fd.builtins)
  | _ => none
structure FnR where
  at_ : PySem.W.Frag → Addr
  name : Str
  qual : Str
  st : Stmt
def FnR.val (d : FnR) : FnO := some (d.name, d.qual, defArgs d.st, .stmts (defBody d.st), defScope d.st, mainGlobals, [], builtinsNs)
section
variable {K : PySem.W.Frag} {a f g : Addr}
theorem objO_eq {o : Obj} (q : K.lookup a = some o) : objO K a = o := by
  unfold objO
  rw [q]
theorem fdO_eq {oc : Value} {od : Option Addr} {fd : FuncData} {sl : Array (Option Value)} (q : K.lookup a = some ⟨oc, od, .func fd, sl⟩) : fdO K a = fd := by
  unfold fdO
  rw [q]
theorem cdO_eq {oc : Value} {od : Option Addr} {cd : ClassData} {sl : Array (Option Value)} (q : K.lookup a = some ⟨oc, od, .cls cd, sl⟩) : cdO K a = cd := by
  unfold cdO
  rw [q]
theorem fn_at {dV : Value} {nm qn : Str} {st : Stmt} (e : fnO K a = some (nm, qn, defArgs st, .stmts (defBody st), defScope st, mainGlobals, [], builtinsNs)) (d : (fdO K a).defaults = dV) :
    K.lookup a = some ⟨(objO K a).cls, (objO K a).dict, .func (PySem.W.fnOf nm qn (defArgs st) (defBody st) (defScope st) dV (fdO K a).kwdefaults (fdO K a).doc (fdO K a).pyModule (fdO K a).annotations (fdO K a).code (fdO K a).closureTuple), (objO K a).slots⟩ := by
  unfold fnO at e
  cases q : K.lookup a with
  | none =>
    rw [q] at e
    cases e
  | some o =>
    obtain ⟨oc, od, dt, osl⟩ := o
    rw [q] at e
    cases dt with
    | func fd =>
      rw [fdO_eq q] at d ⊢
      rw [objO_eq q]
      obtain ⟨n1, n2, n3, n4, n5, n6, n7, n8, n9, n10, n11, n12, n13, n14, n15⟩ := fd
      have e2 : (some (n1, n2, n3, n4, n5, n6, n7, n15) : FnO) = some (nm, qn, defArgs st, .stmts (defBody st), defScope st, mainGlobals, [], builtinsNs) := e
      simp only [Option.some.injEq, Prod.mk.injEq] at e2
      obtain ⟨h1, h2, h3, h4, h5, h6, h7, h8⟩ := e2
      have h9 : n8 = dV := d
      subst h1 h2 h3 h4 h5 h6 h7 h8 h9
      rfl
    | _ => cases e
/-! ### tuples -/
def mkIts (K : PySem.W.Frag) (a : Addr) : Nat → List V → List Value
  | _, [] => []
  | i, v :: r => (match v with
    | .str x => .str x (tkO K a i)
    | .int x => .int x (tkO K a i)
    | .ref b => .ref b
    | _ => .none) :: mkIts K a (i + 1) r
def tupO (K : PySem.W.Frag) (a : Addr) (vs : List V) : Bool := match K.lookup a with
  | some ⟨.type c, _, .seq its _, _⟩ => decide (c = "tuple") && decide (its.toList = mkIts K a 0 vs)
  | _ => false
theorem tup_at {vs : List V} (h : tupO K a vs = true) : K.lookup a = some ⟨.type "tuple", (objO K a).dict, .seq (mkIts K a 0 vs).toArray (nO K a), (objO K a).slots⟩ := by
  unfold tupO at h
  cases q : K.lookup a with
  | none =>
    rw [q] at h
    cases h
  | some o =>
    obtain ⟨oc, od, dt, osl⟩ := o
    rw [q] at h
    cases oc with
    | type c =>
      cases dt with
      | seq its n =>
        obtain ⟨h1, h2⟩ := Bool.and_eq_true_iff.mp (show (decide (c = "tuple") && decide (its.toList = mkIts K a 0 vs)) = true from h)
        have e1 := of_decide_eq_true h1
        have e2 := of_decide_eq_true h2
        have en : nO K a = n := by
          unfold nO
          rw [q]
        rw [objO_eq q, en, ← e2, e1]
      | _ => cases h
    | _ => cases dt <;> cases h
/-! ### classes -/
def isC (K : PySem.W.Frag) (a : Addr) : Bool := match K.lookup a with
  | some ⟨_, _, .cls _, _⟩ => true
  | _ => false
theorem cls_at (h : isC K a = true) : K.lookup a = some ⟨(objO K a).cls, (objO K a).dict, .cls (cdO K a), (objO K a).slots⟩ := by
  unfold isC at h
  cases q : K.lookup a with
  | none =>
    rw [q] at h
    cases h
  | some o =>
    obtain ⟨oc, od, dt, osl⟩ := o
    rw [q] at h
    cases dt with
    | cls cd => rw [objO_eq q, cdO_eq q]
    | _ => cases h
def slA (K : PySem.W.Frag) (a : Addr) (i : Nat) : Option Value := ((objO K a).slots.toList[i]?).join
def newO (l : List (Option Value)) (new : String) : Bool := match l with
  | [_, _, _, _, some (.builtin n), _] => decide (n = new)
  | _ => false
theorem newO_ok {l : List (Option Value)} {new : String} (h : newO l new = true) : ∃ k0 k1 k2 k3 k5, l = [k0, k1, k2, k3, some (.builtin new), k5] := by
  unfold newO at h
  split at h
  · rename_i k0 k1 k2 k3 n k5
    rw [of_decide_eq_true h]
    exact ⟨k0, k1, k2, k3, k5, rfl⟩
  · cases h
def excO (K : PySem.W.Frag) (a : Addr) (new : String) : Bool := match K.lookup a with
  | some ⟨.type t, _, .cls cd, sl⟩ => decide (t = "type") && (decide (cd.mro = .ref a :: cd.mro.tail) && (cd.hasDict && (!cd.hasDel && newO sl.toList new)))
  | _ => false
theorem exc_at {new : String} (h : excO K a new = true) : K.lookup a = some (excClassObj (cdO K a).name (cdO K a).qualname a (cdO K a).ns (cdO K a).bases (cdO K a).mro.tail true (cdO K a).slotNames (cdO K a).subclasses (cdO K a).abstract (cdO K a).collection (objO K a).dict
    (slA K a 0) (slA K a 1) (slA K a 2) (slA K a 3) (slA K a 5) new) := by
  unfold excO at h
  cases q : K.lookup a with
  | none =>
    rw [q] at h
    cases h
  | some o =>
    obtain ⟨oc, od, dt, osl⟩ := o
    rw [q] at h
    cases oc with
    | type t =>
      cases dt with
      | cls cd =>
        unfold slA
        rw [objO_eq q, cdO_eq q]
        obtain ⟨h1, h⟩ := Bool.and_eq_true_iff.mp (show (decide (t = "type") && (decide (cd.mro = .ref a :: cd.mro.tail) && (cd.hasDict && (!cd.hasDel && newO osl.toList new)))) = true from h)
        obtain ⟨h2, h⟩ := Bool.and_eq_true_iff.mp h
        obtain ⟨h3, h⟩ := Bool.and_eq_true_iff.mp h
        obtain ⟨h4, h5⟩ := Bool.and_eq_true_iff.mp h
        have e1 := of_decide_eq_true h1
        have e2 := of_decide_eq_true h2
        obtain ⟨nm, bs, mro, ns, qn, hd, sn, sub, ab, col, del⟩ := cd
        dsimp only at e2 h3 h4 ⊢
        subst e1
        obtain ⟨l⟩ := osl
        obtain ⟨k0, k1, k2, k3, k5, el⟩ := newO_ok h5
        have el2 : l = [k0, k1, k2, k3, some (.builtin new), k5] := el
        subst el2
        have e4 : del = false := by
          cases del with
          | false => rfl
          | true => cases h4
        subst e4
        have e3 : hd = true := h3
        subst e3
        unfold excClassObj
        rw [← e2]
        rfl
      | _ => cases h
    | _ => cases dt <;> cases h
/-! ### what a class answers -/
def cfO (o : Option PySem.W.CFound) (g a b c : Value) : Bool := match o with
  | some (.get g' a' b' c') => decide (g' = g) && (decide (a' = a) && (decide (b' = b) && decide (c' = c)))
  | _ => false
theorem cf_at {o : Option PySem.W.CFound} {g a b c : Value} (h : cfO o g a b c = true) : o = some (.get g a b c) := by
  unfold cfO at h
  cases o with
  | none => cases h
  | some x =>
    cases x with
    | val v => cases h
    | get g' a' b' c' =>
      obtain ⟨h1, h⟩ := Bool.and_eq_true_iff.mp (show (decide (g' = g) && (decide (a' = a) && (decide (b' = b) && decide (c' = c)))) = true from h)
      obtain ⟨h2, h⟩ := Bool.and_eq_true_iff.mp h
      obtain ⟨h3, h4⟩ := Bool.and_eq_true_iff.mp h
      rw [of_decide_eq_true h1, of_decide_eq_true h2, of_decide_eq_true h3, of_decide_eq_true h4]
end
/-! ### the Hook -/
abbrev AlK : Type := Bool × List FnO
def obsK (ck : PySem.W.Frag → List (List Bool)) (fn : List FnR) (K : PySem.W.Frag) : AlK := ((ck K).all (fun l => l.all id), fn.map fun d => fnO K (d.at_ K))
def valK (fn : List FnR) : AlK := (true, fn.map FnR.val)
def SaysK (ck : PySem.W.Frag → List (List Bool)) (fn : List FnR) (K : PySem.W.Frag) : Prop := obsK ck fn K = valK fn
def downTo : Nat → List Nat
  | 0 => []
  | n + 1 => n :: downTo n
def frK (g : Addr → Option Obj) (n : Nat) : PySem.W.Frag := He.frG g (downTo n)
def hookK (ck : PySem.W.Frag → List (List Bool)) (fn : List FnR) : PySem.W.Hook where
  α := AlK
  obs := fun s => obsK ck fn (frK s.heap.get? s.heap.objs.size)
  val := fun _ => valK fn
  says := fun _ h => ∃ K : PySem.W.Frag, K.In h ∧ SaysK ck fn K
  of := fun _ _ e => ⟨_, He.frG_in, e⟩
  keeps := fun _ _ _ ⟨K, hK, c⟩ k => ⟨K, PySem.W.Frag.In.keeps hK k, c⟩
def obK (ck : PySem.W.Frag → List (List Bool)) (fn : List FnR) (s : PySem.W.SharedT) : AlK := obsK ck fn (frK (HandSHeadRun.getT s) s.n)
theorem obK_eq (ck : PySem.W.Frag → List (List Bool)) (fn : List FnR) (s : PySem.W.SharedT) : obK ck fn s = (hookK ck fn).obs s.abs := by
  show obsK ck fn (frK (HandSHeadRun.getT s) s.n) = obsK ck fn (frK s.abs.heap.get? s.abs.heap.objs.size)
  have e : HandSHeadRun.getT s = s.abs.heap.get? := funext fun a => HandSHeadRun.getT_eq s a
  have n : s.abs.heap.objs.size = s.n := PySem.W.absHeap_size s.tree s.n s.life
  rw [e, n]
section
variable {ck : PySem.W.Frag → List (List Bool)} {fn : List FnR} {K : PySem.W.Frag}
theorem SaysK.chk (c : SaysK ck fn K) (i j : Nat) {l : List Bool} {b : Bool} (h : (ck K)[i]? = some l) (k : l[j]? = some b) : b = true := by
  have c1 : (ck K).all (fun l => l.all id) = true := congrArg (fun z : AlK => z.1) c
  exact List.all_eq_true.mp (List.all_eq_true.mp c1 l (List.mem_of_getElem? h)) b (List.mem_of_getElem? k)
theorem SaysK.def_ (c : SaysK ck fn K) (i : Nat) {d : FnR} (h : fn[i]? = some d) : fnO K (d.at_ K) = some (d.name, d.qual, defArgs d.st, .stmts (defBody d.st), defScope d.st, mainGlobals, [], builtinsNs) := by
  have e : fn.map (fun d => fnO K (d.at_ K)) = fn.map FnR.val := congrArg (fun z : AlK => z.2) c
  have e2 : (fn.map fun d => fnO K (d.at_ K))[i]? = (fn.map FnR.val)[i]? := by rw [e]
  rw [List.getElem?_map, List.getElem?_map, h] at e2
  exact Option.some.inj e2
end
section
open PySem.W HandSHeadRun
variable {r : OpenRow} {q : Program} {M : Nat} {loose : List PySem.Str} {w : World}
/-- two runs over the same top: what each looks at, together -/
theorem run_app {ck1 ck2 : PySem.W.Frag → List (List Bool)} {fn1 fn2 : List FnR} (h1 : RunEq r q (hookK ck1 fn1) (obK ck1 fn1) M loose w) (h2 : RunEq r q (hookK ck2 fn2) (obK ck2 fn2) M loose w) :
    RunEq r q (hookK (fun K => ck1 K ++ ck2 K) (fn1 ++ fn2)) (obK (fun K => ck1 K ++ ck2 K) (fn1 ++ fn2)) M loose w := by
  intro os
  have z1 := h1 os
  have z2 := h2 os
  generalize endF (stepQ (denQ tabQ) r.prog w) M r.prog w os = E at z1 z2 ⊢
  obtain ⟨s, es, e1⟩ := Option.map_eq_some_iff.mp z1
  obtain ⟨s2, es2, e2⟩ := Option.map_eq_some_iff.mp z2
  have : s2 = s := Option.some.inj (es2.symm.trans es)
  subst this
  refine Option.map_eq_some_iff.mpr ⟨s2, es, ?_⟩
  have a1 := congrArg (fun z => z.1) e1
  have b1 := congrArg (fun z => z.2.1) e1
  have c1 : obsK ck1 fn1 (frK (getT s2) s2.n) = valK fn1 := congrArg (fun z => z.2.2) e1
  have c2 : obsK ck2 fn2 (frK (getT s2) s2.n) = valK fn2 := congrArg (fun z => z.2.2) e2
  refine Prod.ext a1 (Prod.ext b1 ?_)
  show obsK (fun K => ck1 K ++ ck2 K) (fn1 ++ fn2) (frK (getT s2) s2.n) = valK (fn1 ++ fn2)
  generalize frK (getT s2) s2.n = K at c1 c2
  have d1 : (ck1 K).all (fun l => l.all id) = true := congrArg (fun z : AlK => z.1) c1
  have d2 : (ck2 K).all (fun l => l.all id) = true := congrArg (fun z : AlK => z.1) c2
  have f1 : (fn1.map fun d => fnO K (d.at_ K)) = fn1.map FnR.val := congrArg (fun z : AlK => z.2) c1
  have f2 : (fn2.map fun d => fnO K (d.at_ K)) = fn2.map FnR.val := congrArg (fun z : AlK => z.2) c2
  refine Prod.ext ?_ ?_
  · show (ck1 K ++ ck2 K).all (fun l => l.all id) = true
    rw [List.all_append, d1, d2]
    rfl
  · show ((fn1 ++ fn2).map fun d => fnO K (d.at_ K)) = (fn1 ++ fn2).map FnR.val
    rw [List.map_append, List.map_append, f1, f2]
end
end V3

set_option Elab.async false
set_option linter.all false
set_option maxRecDepth 100000
/-! a law's end over a head by a hook -/
namespace V3
open PySem PySem.Spec PyProof.Rows L2
theorem walk_ofGE {l : PySem.W.OpenLaw} {n k : Nat} {q : Program} {loose : List Str}
    {XP : (Str → Option Value) → Heap → Prop} {YP : World → Heap → Prop} {d : DefRec} {x : Str}
    (hn : l.most = some n) (small : n ≤ sizeLine) (hdf : d.params.defaults = []) (room : Room k callerA)
    (F : ∀ (w : World) (mg : Str → Option Value) (fa : Addr) (h : Heap), YP w h → h.Ns mainGlobals mg → mg d.name = some (.ref fa) →
      ∃ (K : PySem.W.Frag) (fd : FuncData) (sp : Sp), K.In h ∧ (∀ (s : Shared) (u : Value), BindsTo s fd ⟨[u], []⟩ [(x, u)]) ∧
        (∀ (H : Hp) (a : Addr) (ns : List Int), ns.length ≤ n → Only H → SqL K H a (ns.map V.int) → sp [.ref a] H (fun v _ => v = .bl true) fun _ _ _ => False) ∧
        ∀ base : Heap, K.In base → base.Ns mainGlobals mg → FnG l.prog w K mg base CX0 k fa fd [x] sp) :
    PySem.W.WalkO q loose XP YP l.row.toRowW d [] (fun f vs => PySem.call f vs) := by
  refine Att.attach_call hn hdf fun w s0 s1 mg mb fa o pm cd doc a vs ns G Y ho hd hcd hmg hobj whole len gens => ?_
  obtain ⟨K, fd, sp, KX, bi, hsp, hF⟩ := F w mg fa _ Y G.T.g hmg
  exact law_callG KX G.T.g G.T.b G.T.builtins G.T.nolimit gens hobj whole (Nat.le_trans len small) room hF bi
    fun H hO hS => hsp H a ns len hO hS
end V3

set_option Elab.async false
set_option linter.all false
set_option maxRecDepth 100000
/-! a law's end over a head by a hook, the law's lambdas in a table -/
namespace V3
open PySem PySem.Spec PyProof.Rows L2 LamX
section
variable {P : Program} {w : World} {K : PySem.W.Frag} {mg mb : Str → Option Value} {k : Nat} {fa a cT pT : Addr} {fd : FuncData} {x : Str} {sp : Sp} {s1 : Shared} {vs : List Value} {ns : List Int}
abbrev oTab : Obj := { cls := .none, data := .fields #[] }
abbrev oLst (vs : List Value) : Obj := { cls := .type "list", data := .seq vs.toArray }
/-- nothing but the script and the table is followed -/
structure LoneT (H : Hp) (a pT : Addr) : Prop where
  tab : H pT = some (.tbl #[])
  kind : ∀ b, H b = none ∨ b = pT ∨ ∃ o xs, H b = some (.frz o (.lst xs))
  here : ∀ b, H b ≠ none → b = a ∨ b = pT
theorem law_fromT {H : Hp} (KX : K.In s1.heap) (hns : s1.heap.Ns mainGlobals mg) (hb : s1.heap.Ns builtinsNs mb) (hbb : ∀ y : Str, y ≠ "__name__" → mb y = bootBuiltins y) (lim : s1.heap.NoLimit) (gens : s1.gens = #[])
    (tabO : s1.heap.get? pT = some oTab) (tabN : K.lookup pT = none) (head : PySem.W.CodeHd s1.heap cT pT)
    (main : ∃ (bm : Addr) (ob : Obj), mg "__builtins__" = some (.ref bm) ∧ bm ≠ builtinsNs ∧ s1.heap.get? bm = some ob ∧ ob.cls = .type "module" ∧ ob.dict = some builtinsNs ∧ ob.data = .plain)
    (ha : s1.heap.get? a = some (oLst vs)) (room : Room k callerA)
    (F : ∀ base : Heap, K.In base → base.Ns mainGlobals mg → TabB base mg cT pT → FnG P w K mg base CX0 k fa fd [x] sp) (bi : ∀ (s : Shared) (u : Value), BindsTo s fd ⟨[u], []⟩ [(x, u)])
    (want : sp [.ref a] H (fun v _ => v = .bl true) fun _ _ _ => False) (lone : LoneT H a pT) (hok : HOk P w H s1.heap) (free : H a ≠ none → K.lookup a = none) :
    codeAny (model P w) callerA (.call (.ref fa) ⟨[.ref a], []⟩) (fun r s' => r = .ok (.ret (.bool true)) ∧ OldK s1.heap s'.heap ∧ s'.os = s1.os ∧ AllBare s'.gens) s1 := by
  have un1 : ∀ {b : Addr} {o : Obj}, s1.heap.get? b = some o → o ≠ oLst vs → o ≠ oTab → H b = none := by
    intro b o e n1 n2
    by_cases q : H b = none
    · exact q
    · rcases lone.here b q with z | z
      · rw [z, ha] at e
        exact absurd (Option.some.inj e).symm n1
      · rw [z, tabO] at e
        exact absurd (Option.some.inj e).symm n2
  have dat : ∀ {o o' : Obj}, o.data ≠ o'.data → o ≠ o' := fun n z => n (by rw [z])
  have put : ∀ {b : Addr} {o : Obj}, s1.heap.get? b = some o → H b = none → (hidT s1.heap H).get? b = some o := fun e n => hidT_get e n
  have nsK : ∀ {b : Addr} {m : Str → Option Value}, s1.heap.Ns b m → (hidT s1.heap H).Ns b m := by
    rintro b m ⟨o, es, ep, e, d, r⟩
    refine ⟨o, es, ep, put e (un1 e (dat ?_) (dat ?_)), d, r⟩
    · rw [d]
      exact fun z => nomatch z
    · rw [d]
      exact fun z => nomatch z
  have hKb : K.In (hidT s1.heap H) := by
    intro b o e
    refine put (KX b o e) ?_
    by_cases q : H b = none
    · exact q
    · rcases lone.here b q with z | z
      · rw [z] at e q
        rw [free q] at e
        cases e
      · rw [z, tabN] at e
        cases e
  obtain ⟨mc, c1, c2⟩ := lim
  have hM : Mod K mg (hidT s1.heap H) := ⟨hKb, nsK hns, ⟨mb, nsK hb, hbb⟩, mc, nsK c1, c2⟩
  have TB : TabB (hidT s1.heap H) mg cT pT := by
    refine ⟨?_, ?_, fun z => ?_⟩
    · obtain ⟨o, us, file, tf, flags, tg, inF, text, tt, e1, r1, r2, r3, rest⟩ := head
      refine ⟨o, us, file, tf, flags, tg, inF, text, tt, put e1 (un1 e1 (dat ?_) (dat ?_)), r1, r2, r3, rest⟩
      · rw [r2]
        exact fun z => nomatch z
      · rw [r2]
        intro z
        have z2 : us = #[] := by injection z
        rw [z2] at r3
        simp at r3
    · obtain ⟨bm, ob, b1, b2, b3, b4, b5, b6⟩ := main
      refine ⟨bm, ob, b1, b2, fun q => ?_, fun q => ?_, put b3 (un1 b3 (dat ?_) (dat ?_)), b4, b5, b6⟩
      · obtain ⟨o, es, ep, e, hd, _⟩ := hns
        rw [q, e] at b3
        cases b3
        rw [hd] at b6
        cases b6
      · rw [q, tabO] at b3
        cases b3
        cases b6
      · rw [b6]
        exact fun z => nomatch z
      · rw [b6]
        exact fun z => nomatch z
    · obtain ⟨o, es, ep, e, hd, _⟩ := hns
      rw [z, tabO] at e
      cases e
      cases hd
  have e0 : Env0 P w K mg (hidT s1.heap H) callerA [] s1 H := ⟨rfl, hM, fun b o e => of_hidT e, Nat.le_of_eq (hidT_size _ _), trivial, fun b hb => (nomatch hb), hok, AllBare.of_eq gens⟩
  have ran := (F _ hKb (nsK hns) TB).run callerA [] s1 H ⟨[.ref a], []⟩ [.ref a] [.ref a] _ _ rfl room e0 (bi s1 (.ref a)) (.cons rfl .nil) want
  refine codeAny_mono ran fun r s' h => ?_
  match r, h with
  | .error e, h => exact h.elim
  | .ok .next, h => exact h.elim
  | .ok .brk, h => exact h.elim
  | .ok .cont, h => exact h.elim
  | .ok (.ret u), h =>
    obtain ⟨v, H', os, bare, un, hok', r', q⟩ := h
    have q' : v = .bl true := q
    subst q'
    have r2 : u = Value.bool true := r'
    subst r2
    have stays : ∀ b o, b ≠ pT → s1.heap.get? b = some o → s'.heap.get? b = some o := by
      intro b o n e
      cases hb : H b with
      | none => exact un.keep b o e hb (fun z => by cases z) (by simp)
      | some u =>
        rcases lone.kind b with z | z | ⟨ob, xs, z⟩
        · rw [hb] at z
          cases z
        · exact absurd z n
        · obtain ⟨g1, _⟩ := hok b _ z
          obtain ⟨g2, _⟩ := hok' b _ (un.frzs b ob _ z)
          rw [e] at g1
          cases g1
          exact g2
    obtain ⟨more, z⟩ := un.tbls pT #[] lone.tab
    have grown : s'.heap.get? pT = some { cls := .none, data := .fields (#[] ++ more) } := hok' pT _ z
    refine ⟨rfl, ⟨fun b o e => ?_, fun b o e => ?_⟩, os, bare⟩
    · by_cases n : b = pT
      · rw [n, tabO] at e
        cases e
        rw [n]
        exact .inr (.inl ⟨(head.tab tabO).isCodeTable, rfl, #[], more, rfl, grown⟩)
      · exact .inl (stays b o n e)
    · by_cases n : b = pT
      · rw [n]
        exact ⟨_, grown⟩
      · exact ⟨o, stays b o n e⟩
theorem law_callGT (KX : K.In s1.heap) (hns : s1.heap.Ns mainGlobals mg) (hb : s1.heap.Ns builtinsNs mb) (hbb : ∀ y : Str, y ≠ "__name__" → mb y = bootBuiltins y) (lim : s1.heap.NoLimit) (gens : s1.gens = #[])
    (tabO : s1.heap.get? pT = some oTab) (tabN : K.lookup pT = none) (head : PySem.W.CodeHd s1.heap cT pT)
    (main : ∃ (bm : Addr) (ob : Obj), mg "__builtins__" = some (.ref bm) ∧ bm ≠ builtinsNs ∧ s1.heap.get? bm = some ob ∧ ob.cls = .type "module" ∧ ob.dict = some builtinsNs ∧ ob.data = .plain)
    (ha : s1.heap.get? a = some (oLst vs)) (whole : IntsAre vs ns) (few : ns.length ≤ sizeLine) (room : Room k callerA)
    (F : ∀ base : Heap, K.In base → base.Ns mainGlobals mg → TabB base mg cT pT → FnG P w K mg base CX0 k fa fd [x] sp) (bi : ∀ (s : Shared) (u : Value), BindsTo s fd ⟨[u], []⟩ [(x, u)])
    (want : ∀ H : Hp, H pT = some (.tbl #[]) → SqL K H a (ns.map V.int) → sp [.ref a] H (fun v _ => v = .bl true) fun _ _ _ => False) :
    codeAny (model P w) callerA (.call (.ref fa) ⟨[.ref a], []⟩) (fun r s' => r = .ok (.ret (.bool true)) ∧ OldK s1.heap s'.heap ∧ s'.os = s1.os ∧ AllBare s'.gens) s1 := by
  have rv := vals_ints whole
  have nv := whole.length
  have apart : a ≠ pT := fun z => by
    rw [z, tabO] at ha
    have q := congrArg Obj.data (Option.some.inj ha)
    exact nomatch q
  cases hk : K.lookup a with
  | some o =>
    have e := KX a o hk
    rw [ha] at e
    cases e
    let H1 : Hp := fun b => if b = pT then some (.tbl #[]) else none
    have y1 : H1 pT = some (.tbl #[]) := if_pos rfl
    have n1 : ∀ b, b ≠ pT → H1 b = none := fun b n => if_neg n
    refine law_fromT (H := H1) KX hns hb hbb lim gens tabO tabN head main ha room F bi (want _ y1 (.inr ⟨_, vs.toArray, _, hk, rfl, rfl, rfl, ?_, ?_⟩)) ⟨y1, fun b => ?_, fun b z => ?_⟩ (fun b u z => ?_) fun z => absurd (n1 a apart) z
    · rw [List.size_toArray, nv]
      exact few
    · simpa using rv
    · by_cases q : b = pT
      · exact .inr (.inl q)
      · exact .inl (n1 b q)
    · by_cases q : b = pT
      · exact .inr q
      · exact absurd (n1 b q) z
    · by_cases q : b = pT
      · rw [q, y1] at z
        cases z
        rw [q]
        exact tabO
      · rw [n1 b q] at z
        cases z
  | none =>
    let H2 : Hp := fun b => if b = a then some (.frz (oLst vs) (.lst (ns.map V.int))) else if b = pT then some (.tbl #[]) else none
    have ya : H2 a = some (.frz (oLst vs) (.lst (ns.map V.int))) := if_pos rfl
    have yp : H2 pT = some (.tbl #[]) := (if_neg (Ne.symm apart)).trans (if_pos rfl)
    have no : ∀ b, b ≠ a → b ≠ pT → H2 b = none := fun b n m => (if_neg n).trans (if_neg m)
    refine law_fromT (H := H2) KX hns hb hbb lim gens tabO tabN head main ha room F bi (want _ yp (.inl (.inr ⟨_, ya⟩))) ⟨yp, fun b => ?_, fun b z => ?_⟩ (fun b u z => ?_) fun _ => hk
    · by_cases q : b = a
      · exact .inr (.inr ⟨_, _, by rw [q]; exact ya⟩)
      · by_cases q2 : b = pT
        · exact .inr (.inl q2)
        · exact .inl (no b q q2)
    · by_cases q : b = a
      · exact .inl q
      · by_cases q2 : b = pT
        · exact .inr q2
        · exact absurd (no b q q2) z
    · by_cases q : b = a
      · rw [q, ya] at z
        cases z
        rw [q]
        exact ⟨ha, by rw [List.length_map]; exact few, vs, _, rv, ha⟩
      · by_cases q2 : b = pT
        · rw [q2, yp] at z
          cases z
          rw [q2]
          exact tabO
        · rw [no b q q2] at z
          cases z
end
theorem walk_ofGT {l : PySem.W.OpenLaw} {n k : Nat} {q : Program} {loose : List Str}
    {XP : (Str → Option Value) → Heap → Prop} {YP : World → Heap → Prop} {d : DefRec} {x : Str}
    (hn : l.most = some n) (small : n ≤ sizeLine) (hdf : d.params.defaults = []) (room : Room k callerA)
    (F : ∀ (w : World) (mg : Str → Option Value) (fa : Addr) (h : Heap), YP w h → h.Ns mainGlobals mg → mg d.name = some (.ref fa) →
      ∃ (K : PySem.W.Frag) (fd : FuncData) (sp : Sp) (cT pT : Addr), K.In h ∧ h.get? pT = some oTab ∧ K.lookup pT = none ∧ PySem.W.CodeHd h cT pT ∧ (∀ (s : Shared) (u : Value), BindsTo s fd ⟨[u], []⟩ [(x, u)]) ∧
        (∀ (H : Hp) (a : Addr) (ns : List Int), ns.length ≤ n → H pT = some (.tbl #[]) → SqL K H a (ns.map V.int) → sp [.ref a] H (fun v _ => v = .bl true) fun _ _ _ => False) ∧
        ∀ base : Heap, K.In base → base.Ns mainGlobals mg → TabB base mg cT pT → FnG l.prog w K mg base CX0 k fa fd [x] sp) :
    PySem.W.WalkO q loose XP YP l.row.toRowW d [] (fun f vs => PySem.call f vs) := by
  refine Att.attach_call hn hdf fun w s0 s1 mg mb fa o pm cd doc a vs ns G Y ho hd hcd hmg hobj whole len gens => ?_
  obtain ⟨K, fd, sp, cT, pT, KX, hT, nT, hC, bi, hsp, hF⟩ := F w mg fa _ Y G.T.g hmg
  exact law_callGT KX G.T.g G.T.b G.T.builtins G.T.nolimit gens hT nT hC G.T.bmain hobj whole (Nat.le_trans len small) room hF bi
    fun H hO hS => hsp H a ns len hO hS
end V3

set_option Elab.async false
set_option linter.all false
set_option maxRecDepth 100000
/-! the law's table taken out of what the hook has read -/
namespace V3
open PySem PySem.Spec PyProof.Rows L2
def tabA (K : PySem.W.Frag) (c : Addr) : Addr := match K.lookup c with
  | some ⟨_, _, .fields vs, _⟩ => addrV (vs.getD 11 .none)
  | _ => 0
def codeA (K : PySem.W.Frag) (f : Addr) : Addr := addrV (fdO K f).code
def lawC (K : PySem.W.Frag) : Addr := codeA K (He.ga K "law")
def lawP (K : PySem.W.Frag) : Addr := tabA K (lawC K)
def dropA (a : Addr) : PySem.W.Frag → PySem.W.Frag
  | [] => []
  | p :: r => if p.1 = a then dropA a r else p :: dropA a r
def dropT (K : PySem.W.Frag) : PySem.W.Frag := dropA (lawP K) K
theorem lk_cons {α : Type} (q b : Addr) (o : α) (r : List (Addr × α)) : List.lookup b ((q, o) :: r) = if b = q then some o else List.lookup b r := by
  show (match b == q with | true => some o | false => List.lookup b r) = _
  by_cases h : b = q
  · rw [if_pos h, beq_iff_eq.mpr h]
  · rw [if_neg h, beq_eq_false_iff_ne.mpr h]
theorem drop_lookup {a b : Addr} : ∀ {K : PySem.W.Frag}, (dropA a K).lookup b = if b = a then none else K.lookup b
  | [] => by
    show none = if b = a then none else none
    split <;> rfl
  | (q, o) :: r => by
    have ih := drop_lookup (a := a) (b := b) (K := r)
    show List.lookup b (if q = a then dropA a r else (q, o) :: dropA a r) = if b = a then none else List.lookup b ((q, o) :: r)
    by_cases h : q = a
    · rw [if_pos h, ih, lk_cons]
      by_cases z : b = a
      · rw [if_pos z, if_pos z]
      · rw [if_neg z, if_neg z, if_neg (fun e => z (e.trans h))]
    · rw [if_neg h, lk_cons, lk_cons, ih]
      by_cases z : b = a
      · rw [if_pos z, if_pos z, if_neg (fun e => h (e.symm.trans z))]
      · rw [if_neg z, if_neg z]
theorem dropT_none {K : PySem.W.Frag} : (dropT K).lookup (lawP K) = none := by
  unfold dropT
  rw [drop_lookup, if_pos rfl]
theorem dropT_in {K : PySem.W.Frag} {h : Heap} (X : K.In h) : (dropT K).In h := fun b o e => by
  unfold dropT at e
  rw [drop_lookup] at e
  split at e
  · cases e
  · exact X b o e
/-- the table is empty -/
def tabOk (K : PySem.W.Frag) : Bool := match K.lookup (lawP K) with
  | some ⟨.none, none, .fields vs, sl⟩ => vs.toList.isEmpty && sl.toList.isEmpty
  | _ => false
theorem tab_at {K : PySem.W.Frag} (h : tabOk K = true) : K.lookup (lawP K) = some oTab := by
  unfold tabOk at h
  split at h
  · rename_i vs sl e
    obtain ⟨h1, h2⟩ := Bool.and_eq_true_iff.mp h
    obtain ⟨l⟩ := vs
    obtain ⟨m⟩ := sl
    have e1 : l = [] := List.isEmpty_iff.mp h1
    have e2 : m = [] := List.isEmpty_iff.mp h2
    subst e1 e2
    exact e
  · cases h
def isTx : Value → Bool
  | .str _ _ => true
  | _ => false
def isNm : Value → Bool
  | .int _ _ => true
  | _ => false
def isBo : Value → Bool
  | .bool _ => true
  | _ => false
def codeOk (K : PySem.W.Frag) : Bool := match K.lookup (lawC K) with
  | some ⟨.type t, _, .fields vs, _⟩ => decide (t = "code") && (decide (vs.toList[11]? = some (.ref (lawP K))) && (isTx (vs.getD 18 .none) && (isNm (vs.getD 7 .none) && (isBo (vs.getD 9 .none) && (isNm (vs.getD 10 .none) && decide (lawC K ≠ lawP K))))))
  | _ => false
theorem code_hd {K : PySem.W.Frag} {hp : Heap} (X : K.In hp) (h : codeOk K = true) : PySem.W.CodeHd hp (lawC K) (lawP K) := by
  unfold codeOk at h
  split at h
  · rename_i t od vs sl e
    obtain ⟨h1, h⟩ := Bool.and_eq_true_iff.mp h
    obtain ⟨h2, h⟩ := Bool.and_eq_true_iff.mp h
    obtain ⟨h3, h⟩ := Bool.and_eq_true_iff.mp h
    obtain ⟨h4, h⟩ := Bool.and_eq_true_iff.mp h
    obtain ⟨h5, h⟩ := Bool.and_eq_true_iff.mp h
    obtain ⟨h6, h7⟩ := Bool.and_eq_true_iff.mp h
    have a1 := of_decide_eq_true h1
    have a2 : vs[11]? = some (.ref (lawP K)) := by
      rw [← of_decide_eq_true h2]
      simp
    have a3 : vs.getD 11 .none = .ref (lawP K) := by
      rw [Array.getD_eq_getD_getElem?, a2]
      rfl
    have tx : ∀ {v : Value}, isTx v = true → ∃ s t, v = .str s t := fun {v} h => by
      cases v <;> first | exact ⟨_, _, rfl⟩ | cases h
    have nm : ∀ {v : Value}, isNm v = true → ∃ s t, v = .int s t := fun {v} h => by
      cases v <;> first | exact ⟨_, _, rfl⟩ | cases h
    have bo : ∀ {v : Value}, isBo v = true → ∃ s, v = .bool s := fun {v} h => by
      cases v <;> first | exact ⟨_, rfl⟩ | cases h
    obtain ⟨file, tf, b1⟩ := tx h3
    obtain ⟨flags, tg, b2⟩ := nm h4
    obtain ⟨inF, b3⟩ := bo h5
    obtain ⟨text, tt, b4⟩ := nm h6
    exact ⟨_, vs, file, tf, flags, tg, inF, text, tt, X _ _ e, by rw [a1], rfl, a2, a3, b1, b2, b3, b4, of_decide_eq_true h7⟩
  · cases h
theorem fn_drop {K : PySem.W.Frag} {a : Addr} {z : Str × Str × Arguments × FuncBody × Scope × Addr × List (Str × Addr) × Addr} (t : tabOk K = true) (h : fnO K a = some z) : fnO (dropT K) a = some z := by
  have n : a ≠ lawP K := fun e => by
    unfold fnO at h
    rw [e, tab_at t] at h
    cases h
  have q : (dropT K).lookup a = K.lookup a := by
    unfold dropT
    rw [drop_lookup, if_neg n]
  unfold fnO at h ⊢
  rw [q]
  exact h
end V3

set_option Elab.async false
set_option linter.all false
set_option maxRecDepth 100000
set_option maxHeartbeats 0
namespace V3
open PySem PySem.Spec PyProof.Rows L2
def A_f_int (K : PySem.W.Frag) : Addr := He.ga K "is_integer"
def A_f_num (K : PySem.W.Frag) : Addr := He.ga K "is_number"
def A_f_ww (K : PySem.W.Frag) : Addr := He.ga K "wrong_word"
def A_f_wp (K : PySem.W.Frag) : Addr := He.ga K "wrong_part"
def A_f_isr (K : PySem.W.Frag) : Addr := He.ga K "is_rows"
def A_f_isc (K : PySem.W.Frag) : Addr := He.ga K "is_counts"
def A_f_me (K : PySem.W.Frag) : Addr := He.ga K "meaning_of"
def A_f_seed (K : PySem.W.Frag) : Addr := He.ga K "_law_seed"
def A_f_choose (K : PySem.W.Frag) : Addr := He.ga K "_law_choose"
def A_f_one (K : PySem.W.Frag) : Addr := He.ga K "_law_one_of"
def A_f_any (K : PySem.W.Frag) : Addr := He.ga K "_law_any"
def A_f_wo (K : PySem.W.Frag) : Addr := He.ga K "_law_word"
def A_f_due (K : PySem.W.Frag) : Addr := He.ga K "_law_house_due"
def A_f_mo (K : PySem.W.Frag) : Addr := He.ga K "_law_mostly"
def A_f_rows (K : PySem.W.Frag) : Addr := He.ga K "_law_rows"
def A_f_lo (K : PySem.W.Frag) : Addr := He.ga K "_law_let_of"
def A_f_rep (K : PySem.W.Frag) : Addr := He.ga K "_law_report"
def A_f_law (K : PySem.W.Frag) : Addr := He.ga K "law"
def A_LC (K : PySem.W.Frag) : Addr := He.ga K "Let"
def A_CC (K : PySem.W.Frag) : Addr := He.ga K "Count"
def A_HC (K : PySem.W.Frag) : Addr := He.ga K "House"
def A_QR (K : PySem.W.Frag) : Addr := He.ga K "Report"
def A_f_li (K : PySem.W.Frag) : Addr := maA K (A_LC K) "__init__"
def A_f_ci (K : PySem.W.Frag) : Addr := maA K (A_CC K) "__init__"
def A_f_hi (K : PySem.W.Frag) : Addr := maA K (A_HC K) "__init__"
def A_T_f_hi (K : PySem.W.Frag) : Addr := dflT K (A_f_hi K)
def A_e_hi (K : PySem.W.Frag) : Addr := itemA K (A_T_f_hi K) 0
def A_gri (K : PySem.W.Frag) : Addr := maA K (A_QR K) "__init__"
def A_T_gri (K : PySem.W.Frag) : Addr := dflT K (A_gri K)
def A_egr (K : PySem.W.Frag) : Addr := itemA K (A_T_gri K) 0
def A_grw (K : PySem.W.Frag) : Addr := maA K (A_QR K) "weight_of"
def A_grm (K : PySem.W.Frag) : Addr := maA K (A_QR K) "month_of"
def A_gre (K : PySem.W.Frag) : Addr := maA K (A_QR K) "__eq__"
def A_KA (K : PySem.W.Frag) : Addr := He.ga K "KINDS"
def A_SA (K : PySem.W.Frag) : Addr := He.ga K "STATES"
def A_DA (K : PySem.W.Frag) : Addr := He.ga K "DEEDS"
def A_PA (K : PySem.W.Frag) : Addr := He.ga K "PLACES"
def A_OA (K : PySem.W.Frag) : Addr := He.ga K "WHOSE"
def A_WA (K : PySem.W.Frag) : Addr := He.ga K "WEIGHTS"
def A_KK (K : PySem.W.Frag) : Addr := He.ga K "CHECKS"
def A_DL (K : PySem.W.Frag) : Addr := He.ga K "DEPTH_LINES"
def A_CH (K : PySem.W.Frag) : Addr := He.ga K "InvalidHouse"
def A_f_ih (K : PySem.W.Frag) : Addr := maA K (A_CH K) "__init__"
def A_CE (K : PySem.W.Frag) : Addr := He.ga K "InvalidReport"
def A_f_ie (K : PySem.W.Frag) : Addr := maA K (A_CE K) "__init__"
def A_CB (K : PySem.W.Frag) : Addr := He.ga K "BookError"
def A_CI (K : PySem.W.Frag) : Addr := He.ga K "InvalidRow"
def A_cT (K : PySem.W.Frag) : Addr := codeA K (A_f_law K)
def A_pT (K : PySem.W.Frag) : Addr := tabA K (A_cT K)
def ckK0 (K : PySem.W.Frag) : List Bool := [
  decide (PySem.W.nsIn K mainGlobals "is_integer" = some (some (.ref (A_f_int K)))),
  decide ((fdO K (A_f_int K)).defaults = .none),
  PySem.W.codeIn K (fdO K (A_f_int K)).code "is_integer",
  PySem.W.keepIn K (.ref (A_f_int K)),
  decide (PySem.W.nsIn K mainGlobals "is_number" = some (some (.ref (A_f_num K)))),
  decide ((fdO K (A_f_num K)).defaults = .none),
  PySem.W.codeIn K (fdO K (A_f_num K)).code "is_number",
  PySem.W.keepIn K (.ref (A_f_num K)),
  decide (PySem.W.nsIn K mainGlobals "wrong_word" = some (some (.ref (A_f_ww K)))),
  decide ((fdO K (A_f_ww K)).defaults = .none),
  PySem.W.codeIn K (fdO K (A_f_ww K)).code "wrong_word",
  PySem.W.keepIn K (.ref (A_f_ww K)),
  decide (PySem.W.nsIn K mainGlobals "wrong_part" = some (some (.ref (A_f_wp K)))),
  decide ((fdO K (A_f_wp K)).defaults = .none),
  PySem.W.codeIn K (fdO K (A_f_wp K)).code "wrong_part",
  PySem.W.keepIn K (.ref (A_f_wp K)),
  decide (PySem.W.nsIn K mainGlobals "is_rows" = some (some (.ref (A_f_isr K)))),
  decide ((fdO K (A_f_isr K)).defaults = .none),
  PySem.W.codeIn K (fdO K (A_f_isr K)).code "is_rows",
  PySem.W.keepIn K (.ref (A_f_isr K)),
  decide (PySem.W.nsIn K mainGlobals "is_counts" = some (some (.ref (A_f_isc K)))),
  decide ((fdO K (A_f_isc K)).defaults = .none),
  PySem.W.codeIn K (fdO K (A_f_isc K)).code "is_counts",
  PySem.W.keepIn K (.ref (A_f_isc K)),
  decide (PySem.W.nsIn K mainGlobals "meaning_of" = some (some (.ref (A_f_me K)))),
  decide ((fdO K (A_f_me K)).defaults = .none),
  PySem.W.codeIn K (fdO K (A_f_me K)).code "meaning_of",
  PySem.W.keepIn K (.ref (A_f_me K)),
  decide (PySem.W.nsIn K mainGlobals "_law_seed" = some (some (.ref (A_f_seed K)))),
  decide ((fdO K (A_f_seed K)).defaults = .none)]
def ckK1 (K : PySem.W.Frag) : List Bool := [
  PySem.W.codeIn K (fdO K (A_f_seed K)).code "_law_seed",
  PySem.W.keepIn K (.ref (A_f_seed K)),
  decide (PySem.W.nsIn K mainGlobals "_law_choose" = some (some (.ref (A_f_choose K)))),
  decide ((fdO K (A_f_choose K)).defaults = .none),
  PySem.W.codeIn K (fdO K (A_f_choose K)).code "_law_choose",
  PySem.W.keepIn K (.ref (A_f_choose K)),
  decide (PySem.W.nsIn K mainGlobals "_law_one_of" = some (some (.ref (A_f_one K)))),
  decide ((fdO K (A_f_one K)).defaults = .none),
  PySem.W.codeIn K (fdO K (A_f_one K)).code "_law_one_of",
  PySem.W.keepIn K (.ref (A_f_one K)),
  decide (PySem.W.nsIn K mainGlobals "_law_any" = some (some (.ref (A_f_any K)))),
  decide ((fdO K (A_f_any K)).defaults = .none),
  PySem.W.codeIn K (fdO K (A_f_any K)).code "_law_any",
  PySem.W.keepIn K (.ref (A_f_any K)),
  decide (PySem.W.nsIn K mainGlobals "_law_word" = some (some (.ref (A_f_wo K)))),
  decide ((fdO K (A_f_wo K)).defaults = .none),
  PySem.W.codeIn K (fdO K (A_f_wo K)).code "_law_word",
  PySem.W.keepIn K (.ref (A_f_wo K)),
  decide (PySem.W.nsIn K mainGlobals "_law_house_due" = some (some (.ref (A_f_due K)))),
  decide ((fdO K (A_f_due K)).defaults = .none),
  PySem.W.codeIn K (fdO K (A_f_due K)).code "_law_house_due",
  PySem.W.keepIn K (.ref (A_f_due K)),
  decide (PySem.W.nsIn K mainGlobals "_law_mostly" = some (some (.ref (A_f_mo K)))),
  decide ((fdO K (A_f_mo K)).defaults = .none),
  PySem.W.codeIn K (fdO K (A_f_mo K)).code "_law_mostly",
  PySem.W.keepIn K (.ref (A_f_mo K)),
  decide (PySem.W.nsIn K mainGlobals "_law_rows" = some (some (.ref (A_f_rows K)))),
  decide ((fdO K (A_f_rows K)).defaults = .none),
  PySem.W.codeIn K (fdO K (A_f_rows K)).code "_law_rows",
  PySem.W.keepIn K (.ref (A_f_rows K))]
def ckK2 (K : PySem.W.Frag) : List Bool := [
  decide (PySem.W.nsIn K mainGlobals "_law_let_of" = some (some (.ref (A_f_lo K)))),
  decide ((fdO K (A_f_lo K)).defaults = .none),
  PySem.W.codeIn K (fdO K (A_f_lo K)).code "_law_let_of",
  PySem.W.keepIn K (.ref (A_f_lo K)),
  decide (PySem.W.nsIn K mainGlobals "_law_report" = some (some (.ref (A_f_rep K)))),
  decide ((fdO K (A_f_rep K)).defaults = .none),
  PySem.W.codeIn K (fdO K (A_f_rep K)).code "_law_report",
  PySem.W.keepIn K (.ref (A_f_rep K)),
  decide (PySem.W.nsIn K mainGlobals "law" = some (some (.ref (A_f_law K)))),
  decide ((fdO K (A_f_law K)).defaults = .none),
  PySem.W.codeIn K (fdO K (A_f_law K)).code "law",
  PySem.W.keepIn K (.ref (A_f_law K)),
  decide (PySem.W.nsIn K mainGlobals "Let" = some (some (.ref (A_LC K)))),
  decide (PySem.W.nsIn K mainGlobals "Count" = some (some (.ref (A_CC K)))),
  decide (PySem.W.nsIn K mainGlobals "House" = some (some (.ref (A_HC K)))),
  decide (PySem.W.nsIn K mainGlobals "Report" = some (some (.ref (A_QR K)))),
  decide (PySem.W.specialIn K (.builtin "object.__class__") "__get__" = some (some (.builtin "getset_descriptor.__get__"))),
  decide (PySem.W.takesIn K (.builtin "object.__class__") = some true),
  PySem.W.plainGet K (A_LC K) Str.empty,
  PySem.W.hasDictIn K (A_LC K),
  PySem.W.plainOver K (A_LC K),
  decide (PySem.W.findIn K (.ref (A_LC K)) "__setattr__" = some (some (.builtin "object.__setattr__"))),
  PySem.W.makesIn K (A_LC K),
  PySem.W.keepIn K (.ref (A_LC K)),
  decide (PySem.W.findIn K (.ref (A_LC K)) "__class__" = some (some (.builtin "object.__class__"))),
  decide (PySem.W.mroIn K (A_LC K) (.type "object") = some true),
  decide (PySem.W.subIn K (.ref (A_LC K)) (.ref (A_LC K)) = some true),
  PySem.W.isClsIn K (A_LC K),
  decide (PySem.W.typeIn K (.ref (A_LC K)) = some (.type "type")),
  PySem.W.plainGet K (A_CC K) Str.empty]
def ckK3 (K : PySem.W.Frag) : List Bool := [
  PySem.W.hasDictIn K (A_CC K),
  PySem.W.plainOver K (A_CC K),
  decide (PySem.W.findIn K (.ref (A_CC K)) "__setattr__" = some (some (.builtin "object.__setattr__"))),
  PySem.W.makesIn K (A_CC K),
  PySem.W.keepIn K (.ref (A_CC K)),
  decide (PySem.W.findIn K (.ref (A_CC K)) "__class__" = some (some (.builtin "object.__class__"))),
  decide (PySem.W.mroIn K (A_CC K) (.type "object") = some true),
  decide (PySem.W.subIn K (.ref (A_CC K)) (.ref (A_CC K)) = some true),
  PySem.W.isClsIn K (A_CC K),
  decide (PySem.W.typeIn K (.ref (A_CC K)) = some (.type "type")),
  PySem.W.plainGet K (A_HC K) Str.empty,
  PySem.W.hasDictIn K (A_HC K),
  PySem.W.plainOver K (A_HC K),
  decide (PySem.W.findIn K (.ref (A_HC K)) "__setattr__" = some (some (.builtin "object.__setattr__"))),
  PySem.W.makesIn K (A_HC K),
  PySem.W.keepIn K (.ref (A_HC K)),
  PySem.W.plainGet K (A_QR K) Str.empty,
  PySem.W.hasDictIn K (A_QR K),
  PySem.W.plainOver K (A_QR K),
  decide (PySem.W.findIn K (.ref (A_QR K)) "__setattr__" = some (some (.builtin "object.__setattr__"))),
  PySem.W.makesIn K (A_QR K),
  PySem.W.keepIn K (.ref (A_QR K)),
  decide (PySem.W.findIn K (.ref (A_QR K)) "__class__" = some (some (.builtin "object.__class__"))),
  decide (PySem.W.mroIn K (A_QR K) (.type "object") = some true),
  decide (PySem.W.subIn K (.ref (A_QR K)) (.ref (A_QR K)) = some true),
  PySem.W.isClsIn K (A_QR K),
  decide (PySem.W.typeIn K (.ref (A_QR K)) = some (.type "type")),
  decide (PySem.W.findIn K (.ref (A_QR K)) "__ne__" = some (some (.builtin "object.__ne__"))),
  decide (PySem.W.subIn K (.ref (A_QR K)) (.type "object") = some true),
  decide (PySem.W.subIn K (.ref (A_LC K)) (.type "list") = some false)]
def ckK4 (K : PySem.W.Frag) : List Bool := [
  decide (PySem.W.subIn K (.ref (A_LC K)) (.type "tuple") = some false),
  decide (PySem.W.subIn K (.type "NoneType") (.ref (A_LC K)) = some false),
  decide (PySem.W.subIn K (.type "bool") (.ref (A_LC K)) = some false),
  decide (PySem.W.subIn K (.type "int") (.ref (A_LC K)) = some false),
  decide (PySem.W.subIn K (.type "str") (.ref (A_LC K)) = some false),
  decide (PySem.W.subIn K (.type "list") (.ref (A_LC K)) = some false),
  decide (PySem.W.subIn K (.type "tuple") (.ref (A_LC K)) = some false),
  decide (PySem.W.subIn K (.ref (A_CC K)) (.type "list") = some false),
  decide (PySem.W.subIn K (.ref (A_CC K)) (.type "tuple") = some false),
  decide (PySem.W.subIn K (.type "NoneType") (.ref (A_CC K)) = some false),
  decide (PySem.W.subIn K (.type "bool") (.ref (A_CC K)) = some false),
  decide (PySem.W.subIn K (.type "int") (.ref (A_CC K)) = some false),
  decide (PySem.W.subIn K (.type "str") (.ref (A_CC K)) = some false),
  decide (PySem.W.subIn K (.type "list") (.ref (A_CC K)) = some false),
  decide (PySem.W.subIn K (.type "tuple") (.ref (A_CC K)) = some false),
  decide (PySem.W.subIn K (.ref (A_LC K)) (.ref (A_CC K)) = some false),
  decide (PySem.W.subIn K (.ref (A_CC K)) (.ref (A_LC K)) = some false),
  decide (PySem.W.findIn K (.ref (A_LC K)) "kind" = some none),
  decide (PySem.W.findIn K (.ref (A_LC K)) "state" = some none),
  decide (PySem.W.findIn K (.ref (A_LC K)) "deed" = some none),
  decide (PySem.W.findIn K (.ref (A_LC K)) "place" = some none),
  decide (PySem.W.findIn K (.ref (A_CC K)) "kind" = some none),
  decide (PySem.W.findIn K (.ref (A_CC K)) "weight" = some none),
  decide (PySem.W.findIn K (.ref (A_CC K)) "whose" = some none),
  decide (PySem.W.findIn K (.ref (A_HC K)) "depth" = some none),
  decide (PySem.W.findIn K (.ref (A_HC K)) "check" = some none),
  decide (PySem.W.findIn K (.ref (A_HC K)) "rows" = some none),
  decide (PySem.W.findIn K (.ref (A_QR K)) "rows" = some none),
  decide (PySem.W.findIn K (.ref (A_LC K)) "__init__" = some (some (.ref (A_f_li K)))),
  PySem.W.isFn K (.ref (A_f_li K))]
def ckK5 (K : PySem.W.Frag) : List Bool := [
  decide ((fdO K (A_f_li K)).defaults = .none),
  PySem.W.codeIn K (fdO K (A_f_li K)).code "Let.__init__",
  PySem.W.keepIn K (.ref (A_f_li K)),
  decide (PySem.W.findIn K (.ref (A_CC K)) "__init__" = some (some (.ref (A_f_ci K)))),
  PySem.W.isFn K (.ref (A_f_ci K)),
  decide ((fdO K (A_f_ci K)).defaults = .none),
  PySem.W.codeIn K (fdO K (A_f_ci K)).code "Count.__init__",
  PySem.W.keepIn K (.ref (A_f_ci K)),
  decide (PySem.W.findIn K (.ref (A_HC K)) "__init__" = some (some (.ref (A_f_hi K)))),
  PySem.W.isFn K (.ref (A_f_hi K)),
  decide ((fdO K (A_f_hi K)).defaults = (.ref (A_T_f_hi K))),
  PySem.W.codeIn K (fdO K (A_f_hi K)).code "House.__init__",
  PySem.W.keepIn K (.ref (A_f_hi K)),
  tupO K (A_T_f_hi K) [.ref (A_e_hi K)],
  decide (PySem.W.findIn K (.ref (A_QR K)) "__init__" = some (some (.ref (A_gri K)))),
  PySem.W.isFn K (.ref (A_gri K)),
  decide ((fdO K (A_gri K)).defaults = (.ref (A_T_gri K))),
  PySem.W.codeIn K (fdO K (A_gri K)).code "Report.__init__",
  PySem.W.keepIn K (.ref (A_gri K)),
  tupO K (A_T_gri K) [.ref (A_egr K)],
  decide (PySem.W.findIn K (.ref (A_QR K)) "weight_of" = some (some (.ref (A_grw K)))),
  PySem.W.isFn K (.ref (A_grw K)),
  decide ((fdO K (A_grw K)).defaults = .none),
  PySem.W.codeIn K (fdO K (A_grw K)).code "Report.weight_of",
  PySem.W.keepIn K (.ref (A_grw K)),
  decide (PySem.W.findIn K (.ref (A_QR K)) "month_of" = some (some (.ref (A_grm K)))),
  PySem.W.isFn K (.ref (A_grm K)),
  decide ((fdO K (A_grm K)).defaults = .none),
  PySem.W.codeIn K (fdO K (A_grm K)).code "Report.month_of",
  PySem.W.keepIn K (.ref (A_grm K))]
def ckK6 (K : PySem.W.Frag) : List Bool := [
  decide (PySem.W.findIn K (.ref (A_QR K)) "__eq__" = some (some (.ref (A_gre K)))),
  PySem.W.isFn K (.ref (A_gre K)),
  decide ((fdO K (A_gre K)).defaults = .none),
  PySem.W.codeIn K (fdO K (A_gre K)).code "Report.__eq__",
  PySem.W.keepIn K (.ref (A_gre K)),
  decide (PySem.W.nsIn K mainGlobals "KINDS" = some (some (.ref (A_KA K)))),
  tupO K (A_KA K) [.str "first",.str "new",.str "minus",.str "plus"],
  decide (PySem.W.nsIn K mainGlobals "STATES" = some (some (.ref (A_SA K)))),
  tupO K (A_SA K) [.str "open",.str "shut"],
  decide (PySem.W.nsIn K mainGlobals "DEEDS" = some (some (.ref (A_DA K)))),
  tupO K (A_DA K) [.str "whole",.str "part",.str "right"],
  decide (PySem.W.nsIn K mainGlobals "PLACES" = some (some (.ref (A_PA K)))),
  tupO K (A_PA K) [.str "now",.str "there"],
  decide (PySem.W.nsIn K mainGlobals "WHOSE" = some (some (.ref (A_OA K)))),
  tupO K (A_OA K) [.str "own",.str "target",.str "top",.str "deed"],
  decide (PySem.W.nsIn K mainGlobals "WEIGHTS" = some (some (.ref (A_WA K)))),
  tupO K (A_WA K) [.int (-1),.int (0),.int (1)],
  decide (PySem.W.nsIn K mainGlobals "CHECKS" = some (some (.ref (A_KK K)))),
  tupO K (A_KK K) [.str "left",.str "all"],
  decide (PySem.W.nsIn K mainGlobals "DEPTH_LINES" = some (some (.ref (A_DL K)))),
  tupO K (A_DL K) [.str "depth 0",.str "depth 1",.str "depth 2",.str "depth 3",.str "depth 4"],
  decide (PySem.W.nsIn K mainGlobals "InvalidHouse" = some (some (.ref (A_CH K)))),
  excO K (A_CH K) "ValueError.__new__",
  PySem.HandSPX.refsVE (cdO K (A_CH K)).mro.tail,
  decide (PySem.W.findIn K (.ref (A_CH K)) "__setattr__" = some (some (.builtin "object.__setattr__"))),
  decide (PySem.W.findIn K (.ref (A_CH K)) "__getattribute__" = some (some (.builtin "BaseException.__getattribute__"))),
  decide (PySem.W.findIn K (.ref (A_CH K)) "__getattr__" = some none),
  decide (PySem.W.subIn K (.ref (A_CH K)) (.type "BaseException") = some true),
  decide (PySem.W.typeIn K (.ref (A_CH K)) = some (.type "type")),
  PySem.W.keepIn K (.ref (A_CH K))]
def ckK7 (K : PySem.W.Frag) : List Bool := [
  PySem.W.hasDictIn K (A_CH K),
  PySem.W.isClsIn K (A_CH K),
  decide (PySem.W.findIn K (.ref (A_CH K)) "__class__" = some (some (.builtin "object.__class__"))),
  decide (PySem.W.specialIn K (.builtin "object.__class__") "__get__" = some (some (.builtin "getset_descriptor.__get__"))),
  decide (PySem.W.takesIn K (.builtin "object.__class__") = some true),
  decide (PySem.W.mroIn K (A_CH K) (.type "object") = some true),
  decide (PySem.W.subIn K (.ref (A_CH K)) (.ref (A_CH K)) = some true),
  decide (PySem.W.findIn K (.ref (A_CH K)) "word" = some none),
  decide (PySem.W.findIn K (.ref (A_CH K)) "__init__" = some (some (.ref (A_f_ih K)))),
  decide (PySem.W.typeIn K (.ref (A_f_ih K)) = some (.type "function")),
  decide ((fdO K (A_f_ih K)).defaults = .none),
  PySem.W.codeIn K (fdO K (A_f_ih K)).code "InvalidHouse.__init__",
  PySem.W.keepIn K (.ref (A_f_ih K)),
  decide (PySem.W.nsIn K mainGlobals "InvalidReport" = some (some (.ref (A_CE K)))),
  excO K (A_CE K) "ValueError.__new__",
  PySem.HandSPX.refsVE (cdO K (A_CE K)).mro.tail,
  decide (PySem.W.findIn K (.ref (A_CE K)) "__setattr__" = some (some (.builtin "object.__setattr__"))),
  decide (PySem.W.findIn K (.ref (A_CE K)) "__getattribute__" = some (some (.builtin "BaseException.__getattribute__"))),
  decide (PySem.W.findIn K (.ref (A_CE K)) "__getattr__" = some none),
  decide (PySem.W.subIn K (.ref (A_CE K)) (.type "BaseException") = some true),
  decide (PySem.W.typeIn K (.ref (A_CE K)) = some (.type "type")),
  PySem.W.keepIn K (.ref (A_CE K)),
  PySem.W.hasDictIn K (A_CE K),
  PySem.W.isClsIn K (A_CE K),
  decide (PySem.W.findIn K (.ref (A_CE K)) "__class__" = some (some (.builtin "object.__class__"))),
  decide (PySem.W.specialIn K (.builtin "object.__class__") "__get__" = some (some (.builtin "getset_descriptor.__get__"))),
  decide (PySem.W.takesIn K (.builtin "object.__class__") = some true),
  decide (PySem.W.mroIn K (A_CE K) (.type "object") = some true),
  decide (PySem.W.subIn K (.ref (A_CE K)) (.ref (A_CE K)) = some true),
  decide (PySem.W.findIn K (.ref (A_CE K)) "word" = some none)]
def ckK8 (K : PySem.W.Frag) : List Bool := [
  decide (PySem.W.findIn K (.ref (A_CE K)) "__init__" = some (some (.ref (A_f_ie K)))),
  decide (PySem.W.typeIn K (.ref (A_f_ie K)) = some (.type "function")),
  decide ((fdO K (A_f_ie K)).defaults = .none),
  PySem.W.codeIn K (fdO K (A_f_ie K)).code "InvalidReport.__init__",
  PySem.W.keepIn K (.ref (A_f_ie K)),
  decide (PySem.W.exmOne K (.ref (A_CH K)) (.ref (A_CH K)) = some true),
  decide (PySem.W.exmOne K (.ref (A_CE K)) (.ref (A_CE K)) = some true),
  decide (PySem.W.exmOne K (.ref (A_CE K)) (.ref (A_CH K)) = some false),
  decide (PySem.W.nsIn K mainGlobals "BookError" = some (some (.ref (A_CB K)))),
  PySem.W.isClsIn K (A_CB K),
  decide (PySem.W.typeIn K (.ref (A_CB K)) = some (.type "type")),
  decide (PySem.W.subIn K (.ref (A_CH K)) (.ref (A_CB K)) = some true),
  decide (PySem.W.subIn K (.ref (A_CE K)) (.ref (A_CB K)) = some true),
  decide (PySem.W.nsIn K mainGlobals "InvalidRow" = some (some (.ref (A_CI K)))),
  PySem.W.isClsIn K (A_CI K),
  decide (PySem.W.typeIn K (.ref (A_CI K)) = some (.type "type")),
  decide (PySem.W.subIn K (.ref (A_CH K)) (.ref (A_CI K)) = some false),
  decide (PySem.W.subIn K (.ref (A_CE K)) (.ref (A_CI K)) = some false),
  decide (PySem.W.nsIn K mainGlobals "len" = some none),
  decide (PySem.W.nsIn K mainGlobals "abs" = some none),
  decide (PySem.W.nsIn K mainGlobals "int" = some none),
  decide (PySem.W.nsIn K mainGlobals "isinstance" = some none),
  decide (PySem.W.nsIn K mainGlobals "bool" = some none),
  decide (PySem.W.nsIn K mainGlobals "range" = some none),
  decide (PySem.W.nsIn K mainGlobals "max" = some none),
  decide (PySem.W.nsIn K mainGlobals "min" = some none),
  decide (PySem.W.nsIn K mainGlobals "str" = some none),
  decide (PySem.W.nsIn K mainGlobals "list" = some none),
  decide (PySem.W.nsIn K mainGlobals "tuple" = some none),
  decide (PySem.W.nsIn K mainGlobals "all" = some none)]
def ckK9 (K : PySem.W.Frag) : List Bool := [
  decide ((fdO K (A_f_law K)).code = .ref (A_cT K))]
def ckK (K : PySem.W.Frag) : List (List Bool) := [ckK0 K, ckK1 K, ckK2 K, ckK3 K, ckK4 K, ckK5 K, ckK6 K, ckK7 K, ckK8 K, ckK9 K]
def fnK0 : List FnR := [
  ⟨A_f_int, "is_integer", "is_integer", sIsInt⟩,
  ⟨A_f_num, "is_number", "is_number", sIsNum⟩,
  ⟨A_f_ww, "wrong_word", "wrong_word", sWrongWord⟩,
  ⟨A_f_wp, "wrong_part", "wrong_part", sWrongPart⟩,
  ⟨A_f_isr, "is_rows", "is_rows", sIsRows⟩,
  ⟨A_f_isc, "is_counts", "is_counts", sIsCounts⟩,
  ⟨A_f_me, "meaning_of", "meaning_of", sMeaning⟩,
  ⟨A_f_seed, "_law_seed", "_law_seed", sSeed⟩,
  ⟨A_f_choose, "_law_choose", "_law_choose", sChoose⟩,
  ⟨A_f_one, "_law_one_of", "_law_one_of", sOneOf⟩,
  ⟨A_f_any, "_law_any", "_law_any", sAnyV⟩,
  ⟨A_f_wo, "_law_word", "_law_word", sWordL⟩,
  ⟨A_f_due, "_law_house_due", "_law_house_due", sHouseDue⟩,
  ⟨A_f_mo, "_law_mostly", "_law_mostly", sMostly⟩,
  ⟨A_f_rows, "_law_rows", "_law_rows", sRows⟩,
  ⟨A_f_lo, "_law_let_of", "_law_let_of", sLetOf⟩,
  ⟨A_f_rep, "_law_report", "_law_report", sReportL⟩,
  ⟨A_f_law, "law", "law", sLaw⟩,
  ⟨A_f_li, "__init__", "Let.__init__", sLInit⟩,
  ⟨A_f_ci, "__init__", "Count.__init__", sCInit⟩,
  ⟨A_f_hi, "__init__", "House.__init__", sHsInit⟩,
  ⟨A_gri, "__init__", "Report.__init__", sRpInit⟩,
  ⟨A_grw, "weight_of", "Report.weight_of", sRpWeight⟩,
  ⟨A_grm, "month_of", "Report.month_of", sRpMonth⟩,
  ⟨A_gre, "__eq__", "Report.__eq__", sRpEq⟩,
  ⟨A_f_ih, "__init__", "InvalidHouse.__init__", sIhInit⟩,
  ⟨A_f_ie, "__init__", "InvalidReport.__init__", sIpInit⟩]
def fnK : List FnR := fnK0
def namesK0 : List PySem.Str := ["_wall", "is_integer", "is_number", "BookError", "InvalidRow", "InvalidHouse", "InvalidReport", "InvalidText", "NoRow", "KINDS", "STATES", "DEEDS", "PLACES", "CHECKS", "DEPTH_LINES", "CHECK_LINES", "Let", "House", "wrong_word", "is_rows", "has_row", "can_stand", "read_row", "shared_rows", "lets_no_more", "signed_amount", "WEIGHTS", "WEIGHT_WORDS", "WHOSE", "Count"]
def namesK1 : List PySem.Str := ["Report", "Figures", "wrong_part", "is_counts", "read_counts", "read_count", "meaning_of", "month_counted", "pair_of", "months_of", "added_up", "pairs_of", "_law_seed", "_law_choose", "_law_one_of", "_law_rows", "_law_report", "_law_let_of", "_law_any", "_law_word", "_law_house_due", "_law_mostly"]
def namesK : List PySem.Str := namesK0 ++ namesK1
def ckT (K : PySem.W.Frag) : List (List Bool) := ckK (dropT K) ++ [[tabOk K, codeOk K, decide (A_cT (dropT K) = lawC K), decide (A_pT (dropT K) = lawP K)]]
def fnT : List FnR := fnK.map fun d => ⟨fun K => d.at_ (dropT K), d.name, d.qual, d.st⟩
theorem hk_run (w : World) : HandSHeadRun.RunEq (PySem.W.OpenLaw.row PySem.Challenge.rw_contrabooks_k13_houses_refused) (PySem.W.view (PySem.W.OpenLaw.row PySem.Challenge.rw_contrabooks_k13_houses_refused).prog [58]) (hookK ckT fnT) (obK ckT fnT) 20000 namesK w := by
  intro os
  kernel_rfl
theorem hk_all {l : PySem.W.OpenLaw} {w : World} {K : PySem.W.Frag} {h : Heap} {mg : Str → Option Value} {fa : Addr} (X : (dropT K).In h) (G : h.Ns mainGlobals mg) (hfa : mg "law" = some (.ref fa)) (c : SaysK ckT fnT K) (t0 : tabOk K = true) :
    ∃ fd : FuncData, (∀ (s : Shared) (v : Value), BindsTo s fd ⟨[v], []⟩ [("_law_script", v)]) ∧ ∀ base : Heap, (dropT K).In base → base.Ns mainGlobals mg → LamX.TabB base mg (A_cT (dropT K)) (A_pT (dropT K)) → FnG l.prog w (dropT K) mg base CX0 9 fa fd ["_law_script"] (spLawT (dropT K) (A_pT (dropT K))) :=
  all_mk (f_int := A_f_int (dropT K)) (f_num := A_f_num (dropT K)) (f_ww := A_f_ww (dropT K)) (f_wp := A_f_wp (dropT K)) (f_isr := A_f_isr (dropT K)) (f_isc := A_f_isc (dropT K)) (f_me := A_f_me (dropT K)) (f_seed := A_f_seed (dropT K)) (f_choose := A_f_choose (dropT K)) (f_one := A_f_one (dropT K)) (f_any := A_f_any (dropT K)) (f_wo := A_f_wo (dropT K)) (f_due := A_f_due (dropT K)) (f_mo := A_f_mo (dropT K)) (f_rows := A_f_rows (dropT K)) (f_lo := A_f_lo (dropT K)) (f_rep := A_f_rep (dropT K)) (f_law := A_f_law (dropT K)) (LC := A_LC (dropT K)) (CC := A_CC (dropT K)) (HC := A_HC (dropT K)) (QR := A_QR (dropT K)) (f_li := A_f_li (dropT K)) (f_ci := A_f_ci (dropT K)) (f_hi := A_f_hi (dropT K)) (e_hi := A_e_hi (dropT K)) (gri := A_gri (dropT K)) (egr := A_egr (dropT K)) (grw := A_grw (dropT K)) (grm := A_grm (dropT K)) (gre := A_gre (dropT K)) (KA := A_KA (dropT K)) (SA := A_SA (dropT K)) (DA := A_DA (dropT K)) (PA := A_PA (dropT K)) (OA := A_OA (dropT K)) (WA := A_WA (dropT K)) (KK := A_KK (dropT K)) (DL := A_DL (dropT K)) (CH := A_CH (dropT K)) (f_ih := A_f_ih (dropT K)) (CE := A_CE (dropT K)) (f_ie := A_f_ie (dropT K)) (CB := A_CB (dropT K)) (CI := A_CI (dropT K)) (cT := A_cT (dropT K)) (pT := A_pT (dropT K)) X G hfa
    (of_decide_eq_true (c.chk 0 0 (l := ckK0 (dropT K)) rfl rfl))
    (fn_at (fn_drop t0 (c.def_ 0 (d := ⟨fun K => A_f_int (dropT K), "is_integer", "is_integer", sIsInt⟩) rfl)) (of_decide_eq_true (c.chk 0 1 (l := ckK0 (dropT K)) rfl rfl)))
    (c.chk 0 2 (l := ckK0 (dropT K)) rfl rfl)
    (c.chk 0 3 (l := ckK0 (dropT K)) rfl rfl)
    (of_decide_eq_true (c.chk 0 4 (l := ckK0 (dropT K)) rfl rfl))
    (fn_at (fn_drop t0 (c.def_ 1 (d := ⟨fun K => A_f_num (dropT K), "is_number", "is_number", sIsNum⟩) rfl)) (of_decide_eq_true (c.chk 0 5 (l := ckK0 (dropT K)) rfl rfl)))
    (c.chk 0 6 (l := ckK0 (dropT K)) rfl rfl)
    (c.chk 0 7 (l := ckK0 (dropT K)) rfl rfl)
    (of_decide_eq_true (c.chk 0 8 (l := ckK0 (dropT K)) rfl rfl))
    (fn_at (fn_drop t0 (c.def_ 2 (d := ⟨fun K => A_f_ww (dropT K), "wrong_word", "wrong_word", sWrongWord⟩) rfl)) (of_decide_eq_true (c.chk 0 9 (l := ckK0 (dropT K)) rfl rfl)))
    (c.chk 0 10 (l := ckK0 (dropT K)) rfl rfl)
    (c.chk 0 11 (l := ckK0 (dropT K)) rfl rfl)
    (of_decide_eq_true (c.chk 0 12 (l := ckK0 (dropT K)) rfl rfl))
    (fn_at (fn_drop t0 (c.def_ 3 (d := ⟨fun K => A_f_wp (dropT K), "wrong_part", "wrong_part", sWrongPart⟩) rfl)) (of_decide_eq_true (c.chk 0 13 (l := ckK0 (dropT K)) rfl rfl)))
    (c.chk 0 14 (l := ckK0 (dropT K)) rfl rfl)
    (c.chk 0 15 (l := ckK0 (dropT K)) rfl rfl)
    (of_decide_eq_true (c.chk 0 16 (l := ckK0 (dropT K)) rfl rfl))
    (fn_at (fn_drop t0 (c.def_ 4 (d := ⟨fun K => A_f_isr (dropT K), "is_rows", "is_rows", sIsRows⟩) rfl)) (of_decide_eq_true (c.chk 0 17 (l := ckK0 (dropT K)) rfl rfl)))
    (c.chk 0 18 (l := ckK0 (dropT K)) rfl rfl)
    (c.chk 0 19 (l := ckK0 (dropT K)) rfl rfl)
    (of_decide_eq_true (c.chk 0 20 (l := ckK0 (dropT K)) rfl rfl))
    (fn_at (fn_drop t0 (c.def_ 5 (d := ⟨fun K => A_f_isc (dropT K), "is_counts", "is_counts", sIsCounts⟩) rfl)) (of_decide_eq_true (c.chk 0 21 (l := ckK0 (dropT K)) rfl rfl)))
    (c.chk 0 22 (l := ckK0 (dropT K)) rfl rfl)
    (c.chk 0 23 (l := ckK0 (dropT K)) rfl rfl)
    (of_decide_eq_true (c.chk 0 24 (l := ckK0 (dropT K)) rfl rfl))
    (fn_at (fn_drop t0 (c.def_ 6 (d := ⟨fun K => A_f_me (dropT K), "meaning_of", "meaning_of", sMeaning⟩) rfl)) (of_decide_eq_true (c.chk 0 25 (l := ckK0 (dropT K)) rfl rfl)))
    (c.chk 0 26 (l := ckK0 (dropT K)) rfl rfl)
    (c.chk 0 27 (l := ckK0 (dropT K)) rfl rfl)
    (of_decide_eq_true (c.chk 0 28 (l := ckK0 (dropT K)) rfl rfl))
    (fn_at (fn_drop t0 (c.def_ 7 (d := ⟨fun K => A_f_seed (dropT K), "_law_seed", "_law_seed", sSeed⟩) rfl)) (of_decide_eq_true (c.chk 0 29 (l := ckK0 (dropT K)) rfl rfl)))
    (c.chk 1 0 (l := ckK1 (dropT K)) rfl rfl)
    (c.chk 1 1 (l := ckK1 (dropT K)) rfl rfl)
    (of_decide_eq_true (c.chk 1 2 (l := ckK1 (dropT K)) rfl rfl))
    (fn_at (fn_drop t0 (c.def_ 8 (d := ⟨fun K => A_f_choose (dropT K), "_law_choose", "_law_choose", sChoose⟩) rfl)) (of_decide_eq_true (c.chk 1 3 (l := ckK1 (dropT K)) rfl rfl)))
    (c.chk 1 4 (l := ckK1 (dropT K)) rfl rfl)
    (c.chk 1 5 (l := ckK1 (dropT K)) rfl rfl)
    (of_decide_eq_true (c.chk 1 6 (l := ckK1 (dropT K)) rfl rfl))
    (fn_at (fn_drop t0 (c.def_ 9 (d := ⟨fun K => A_f_one (dropT K), "_law_one_of", "_law_one_of", sOneOf⟩) rfl)) (of_decide_eq_true (c.chk 1 7 (l := ckK1 (dropT K)) rfl rfl)))
    (c.chk 1 8 (l := ckK1 (dropT K)) rfl rfl)
    (c.chk 1 9 (l := ckK1 (dropT K)) rfl rfl)
    (of_decide_eq_true (c.chk 1 10 (l := ckK1 (dropT K)) rfl rfl))
    (fn_at (fn_drop t0 (c.def_ 10 (d := ⟨fun K => A_f_any (dropT K), "_law_any", "_law_any", sAnyV⟩) rfl)) (of_decide_eq_true (c.chk 1 11 (l := ckK1 (dropT K)) rfl rfl)))
    (c.chk 1 12 (l := ckK1 (dropT K)) rfl rfl)
    (c.chk 1 13 (l := ckK1 (dropT K)) rfl rfl)
    (of_decide_eq_true (c.chk 1 14 (l := ckK1 (dropT K)) rfl rfl))
    (fn_at (fn_drop t0 (c.def_ 11 (d := ⟨fun K => A_f_wo (dropT K), "_law_word", "_law_word", sWordL⟩) rfl)) (of_decide_eq_true (c.chk 1 15 (l := ckK1 (dropT K)) rfl rfl)))
    (c.chk 1 16 (l := ckK1 (dropT K)) rfl rfl)
    (c.chk 1 17 (l := ckK1 (dropT K)) rfl rfl)
    (of_decide_eq_true (c.chk 1 18 (l := ckK1 (dropT K)) rfl rfl))
    (fn_at (fn_drop t0 (c.def_ 12 (d := ⟨fun K => A_f_due (dropT K), "_law_house_due", "_law_house_due", sHouseDue⟩) rfl)) (of_decide_eq_true (c.chk 1 19 (l := ckK1 (dropT K)) rfl rfl)))
    (c.chk 1 20 (l := ckK1 (dropT K)) rfl rfl)
    (c.chk 1 21 (l := ckK1 (dropT K)) rfl rfl)
    (of_decide_eq_true (c.chk 1 22 (l := ckK1 (dropT K)) rfl rfl))
    (fn_at (fn_drop t0 (c.def_ 13 (d := ⟨fun K => A_f_mo (dropT K), "_law_mostly", "_law_mostly", sMostly⟩) rfl)) (of_decide_eq_true (c.chk 1 23 (l := ckK1 (dropT K)) rfl rfl)))
    (c.chk 1 24 (l := ckK1 (dropT K)) rfl rfl)
    (c.chk 1 25 (l := ckK1 (dropT K)) rfl rfl)
    (of_decide_eq_true (c.chk 1 26 (l := ckK1 (dropT K)) rfl rfl))
    (fn_at (fn_drop t0 (c.def_ 14 (d := ⟨fun K => A_f_rows (dropT K), "_law_rows", "_law_rows", sRows⟩) rfl)) (of_decide_eq_true (c.chk 1 27 (l := ckK1 (dropT K)) rfl rfl)))
    (c.chk 1 28 (l := ckK1 (dropT K)) rfl rfl)
    (c.chk 1 29 (l := ckK1 (dropT K)) rfl rfl)
    (of_decide_eq_true (c.chk 2 0 (l := ckK2 (dropT K)) rfl rfl))
    (fn_at (fn_drop t0 (c.def_ 15 (d := ⟨fun K => A_f_lo (dropT K), "_law_let_of", "_law_let_of", sLetOf⟩) rfl)) (of_decide_eq_true (c.chk 2 1 (l := ckK2 (dropT K)) rfl rfl)))
    (c.chk 2 2 (l := ckK2 (dropT K)) rfl rfl)
    (c.chk 2 3 (l := ckK2 (dropT K)) rfl rfl)
    (of_decide_eq_true (c.chk 2 4 (l := ckK2 (dropT K)) rfl rfl))
    (fn_at (fn_drop t0 (c.def_ 16 (d := ⟨fun K => A_f_rep (dropT K), "_law_report", "_law_report", sReportL⟩) rfl)) (of_decide_eq_true (c.chk 2 5 (l := ckK2 (dropT K)) rfl rfl)))
    (c.chk 2 6 (l := ckK2 (dropT K)) rfl rfl)
    (c.chk 2 7 (l := ckK2 (dropT K)) rfl rfl)
    (of_decide_eq_true (c.chk 2 8 (l := ckK2 (dropT K)) rfl rfl))
    (fn_at (fn_drop t0 (c.def_ 17 (d := ⟨fun K => A_f_law (dropT K), "law", "law", sLaw⟩) rfl)) (of_decide_eq_true (c.chk 2 9 (l := ckK2 (dropT K)) rfl rfl)))
    (c.chk 2 10 (l := ckK2 (dropT K)) rfl rfl)
    (c.chk 2 11 (l := ckK2 (dropT K)) rfl rfl)
    (of_decide_eq_true (c.chk 2 12 (l := ckK2 (dropT K)) rfl rfl))
    (of_decide_eq_true (c.chk 2 13 (l := ckK2 (dropT K)) rfl rfl))
    (of_decide_eq_true (c.chk 2 14 (l := ckK2 (dropT K)) rfl rfl))
    (of_decide_eq_true (c.chk 2 15 (l := ckK2 (dropT K)) rfl rfl))
    (of_decide_eq_true (c.chk 2 16 (l := ckK2 (dropT K)) rfl rfl))
    (of_decide_eq_true (c.chk 2 17 (l := ckK2 (dropT K)) rfl rfl))
    (c.chk 2 18 (l := ckK2 (dropT K)) rfl rfl)
    (c.chk 2 19 (l := ckK2 (dropT K)) rfl rfl)
    (c.chk 2 20 (l := ckK2 (dropT K)) rfl rfl)
    (of_decide_eq_true (c.chk 2 21 (l := ckK2 (dropT K)) rfl rfl))
    (c.chk 2 22 (l := ckK2 (dropT K)) rfl rfl)
    (c.chk 2 23 (l := ckK2 (dropT K)) rfl rfl)
    (of_decide_eq_true (c.chk 2 24 (l := ckK2 (dropT K)) rfl rfl))
    (of_decide_eq_true (c.chk 2 25 (l := ckK2 (dropT K)) rfl rfl))
    (of_decide_eq_true (c.chk 2 26 (l := ckK2 (dropT K)) rfl rfl))
    (c.chk 2 27 (l := ckK2 (dropT K)) rfl rfl)
    (of_decide_eq_true (c.chk 2 28 (l := ckK2 (dropT K)) rfl rfl))
    (c.chk 2 29 (l := ckK2 (dropT K)) rfl rfl)
    (c.chk 3 0 (l := ckK3 (dropT K)) rfl rfl)
    (c.chk 3 1 (l := ckK3 (dropT K)) rfl rfl)
    (of_decide_eq_true (c.chk 3 2 (l := ckK3 (dropT K)) rfl rfl))
    (c.chk 3 3 (l := ckK3 (dropT K)) rfl rfl)
    (c.chk 3 4 (l := ckK3 (dropT K)) rfl rfl)
    (of_decide_eq_true (c.chk 3 5 (l := ckK3 (dropT K)) rfl rfl))
    (of_decide_eq_true (c.chk 3 6 (l := ckK3 (dropT K)) rfl rfl))
    (of_decide_eq_true (c.chk 3 7 (l := ckK3 (dropT K)) rfl rfl))
    (c.chk 3 8 (l := ckK3 (dropT K)) rfl rfl)
    (of_decide_eq_true (c.chk 3 9 (l := ckK3 (dropT K)) rfl rfl))
    (c.chk 3 10 (l := ckK3 (dropT K)) rfl rfl)
    (c.chk 3 11 (l := ckK3 (dropT K)) rfl rfl)
    (c.chk 3 12 (l := ckK3 (dropT K)) rfl rfl)
    (of_decide_eq_true (c.chk 3 13 (l := ckK3 (dropT K)) rfl rfl))
    (c.chk 3 14 (l := ckK3 (dropT K)) rfl rfl)
    (c.chk 3 15 (l := ckK3 (dropT K)) rfl rfl)
    (c.chk 3 16 (l := ckK3 (dropT K)) rfl rfl)
    (c.chk 3 17 (l := ckK3 (dropT K)) rfl rfl)
    (c.chk 3 18 (l := ckK3 (dropT K)) rfl rfl)
    (of_decide_eq_true (c.chk 3 19 (l := ckK3 (dropT K)) rfl rfl))
    (c.chk 3 20 (l := ckK3 (dropT K)) rfl rfl)
    (c.chk 3 21 (l := ckK3 (dropT K)) rfl rfl)
    (of_decide_eq_true (c.chk 3 22 (l := ckK3 (dropT K)) rfl rfl))
    (of_decide_eq_true (c.chk 3 23 (l := ckK3 (dropT K)) rfl rfl))
    (of_decide_eq_true (c.chk 3 24 (l := ckK3 (dropT K)) rfl rfl))
    (c.chk 3 25 (l := ckK3 (dropT K)) rfl rfl)
    (of_decide_eq_true (c.chk 3 26 (l := ckK3 (dropT K)) rfl rfl))
    (of_decide_eq_true (c.chk 3 27 (l := ckK3 (dropT K)) rfl rfl))
    (of_decide_eq_true (c.chk 3 28 (l := ckK3 (dropT K)) rfl rfl))
    (of_decide_eq_true (c.chk 3 29 (l := ckK3 (dropT K)) rfl rfl))
    (of_decide_eq_true (c.chk 4 0 (l := ckK4 (dropT K)) rfl rfl))
    (of_decide_eq_true (c.chk 4 1 (l := ckK4 (dropT K)) rfl rfl))
    (of_decide_eq_true (c.chk 4 2 (l := ckK4 (dropT K)) rfl rfl))
    (of_decide_eq_true (c.chk 4 3 (l := ckK4 (dropT K)) rfl rfl))
    (of_decide_eq_true (c.chk 4 4 (l := ckK4 (dropT K)) rfl rfl))
    (of_decide_eq_true (c.chk 4 5 (l := ckK4 (dropT K)) rfl rfl))
    (of_decide_eq_true (c.chk 4 6 (l := ckK4 (dropT K)) rfl rfl))
    (of_decide_eq_true (c.chk 4 7 (l := ckK4 (dropT K)) rfl rfl))
    (of_decide_eq_true (c.chk 4 8 (l := ckK4 (dropT K)) rfl rfl))
    (of_decide_eq_true (c.chk 4 9 (l := ckK4 (dropT K)) rfl rfl))
    (of_decide_eq_true (c.chk 4 10 (l := ckK4 (dropT K)) rfl rfl))
    (of_decide_eq_true (c.chk 4 11 (l := ckK4 (dropT K)) rfl rfl))
    (of_decide_eq_true (c.chk 4 12 (l := ckK4 (dropT K)) rfl rfl))
    (of_decide_eq_true (c.chk 4 13 (l := ckK4 (dropT K)) rfl rfl))
    (of_decide_eq_true (c.chk 4 14 (l := ckK4 (dropT K)) rfl rfl))
    (of_decide_eq_true (c.chk 4 15 (l := ckK4 (dropT K)) rfl rfl))
    (of_decide_eq_true (c.chk 4 16 (l := ckK4 (dropT K)) rfl rfl))
    (of_decide_eq_true (c.chk 4 17 (l := ckK4 (dropT K)) rfl rfl))
    (of_decide_eq_true (c.chk 4 18 (l := ckK4 (dropT K)) rfl rfl))
    (of_decide_eq_true (c.chk 4 19 (l := ckK4 (dropT K)) rfl rfl))
    (of_decide_eq_true (c.chk 4 20 (l := ckK4 (dropT K)) rfl rfl))
    (of_decide_eq_true (c.chk 4 21 (l := ckK4 (dropT K)) rfl rfl))
    (of_decide_eq_true (c.chk 4 22 (l := ckK4 (dropT K)) rfl rfl))
    (of_decide_eq_true (c.chk 4 23 (l := ckK4 (dropT K)) rfl rfl))
    (of_decide_eq_true (c.chk 4 24 (l := ckK4 (dropT K)) rfl rfl))
    (of_decide_eq_true (c.chk 4 25 (l := ckK4 (dropT K)) rfl rfl))
    (of_decide_eq_true (c.chk 4 26 (l := ckK4 (dropT K)) rfl rfl))
    (of_decide_eq_true (c.chk 4 27 (l := ckK4 (dropT K)) rfl rfl))
    (of_decide_eq_true (c.chk 4 28 (l := ckK4 (dropT K)) rfl rfl))
    (c.chk 4 29 (l := ckK4 (dropT K)) rfl rfl)
    (fn_at (fn_drop t0 (c.def_ 18 (d := ⟨fun K => A_f_li (dropT K), "__init__", "Let.__init__", sLInit⟩) rfl)) (of_decide_eq_true (c.chk 5 0 (l := ckK5 (dropT K)) rfl rfl)))
    (c.chk 5 1 (l := ckK5 (dropT K)) rfl rfl)
    (c.chk 5 2 (l := ckK5 (dropT K)) rfl rfl)
    (of_decide_eq_true (c.chk 5 3 (l := ckK5 (dropT K)) rfl rfl))
    (c.chk 5 4 (l := ckK5 (dropT K)) rfl rfl)
    (fn_at (fn_drop t0 (c.def_ 19 (d := ⟨fun K => A_f_ci (dropT K), "__init__", "Count.__init__", sCInit⟩) rfl)) (of_decide_eq_true (c.chk 5 5 (l := ckK5 (dropT K)) rfl rfl)))
    (c.chk 5 6 (l := ckK5 (dropT K)) rfl rfl)
    (c.chk 5 7 (l := ckK5 (dropT K)) rfl rfl)
    (of_decide_eq_true (c.chk 5 8 (l := ckK5 (dropT K)) rfl rfl))
    (c.chk 5 9 (l := ckK5 (dropT K)) rfl rfl)
    (fn_at (fn_drop t0 (c.def_ 20 (d := ⟨fun K => A_f_hi (dropT K), "__init__", "House.__init__", sHsInit⟩) rfl)) (of_decide_eq_true (c.chk 5 10 (l := ckK5 (dropT K)) rfl rfl)))
    (c.chk 5 11 (l := ckK5 (dropT K)) rfl rfl)
    (c.chk 5 12 (l := ckK5 (dropT K)) rfl rfl)
    (tup_at (c.chk 5 13 (l := ckK5 (dropT K)) rfl rfl))
    (of_decide_eq_true (c.chk 5 14 (l := ckK5 (dropT K)) rfl rfl))
    (c.chk 5 15 (l := ckK5 (dropT K)) rfl rfl)
    (fn_at (fn_drop t0 (c.def_ 21 (d := ⟨fun K => A_gri (dropT K), "__init__", "Report.__init__", sRpInit⟩) rfl)) (of_decide_eq_true (c.chk 5 16 (l := ckK5 (dropT K)) rfl rfl)))
    (c.chk 5 17 (l := ckK5 (dropT K)) rfl rfl)
    (c.chk 5 18 (l := ckK5 (dropT K)) rfl rfl)
    (tup_at (c.chk 5 19 (l := ckK5 (dropT K)) rfl rfl))
    (of_decide_eq_true (c.chk 5 20 (l := ckK5 (dropT K)) rfl rfl))
    (c.chk 5 21 (l := ckK5 (dropT K)) rfl rfl)
    (fn_at (fn_drop t0 (c.def_ 22 (d := ⟨fun K => A_grw (dropT K), "weight_of", "Report.weight_of", sRpWeight⟩) rfl)) (of_decide_eq_true (c.chk 5 22 (l := ckK5 (dropT K)) rfl rfl)))
    (c.chk 5 23 (l := ckK5 (dropT K)) rfl rfl)
    (c.chk 5 24 (l := ckK5 (dropT K)) rfl rfl)
    (of_decide_eq_true (c.chk 5 25 (l := ckK5 (dropT K)) rfl rfl))
    (c.chk 5 26 (l := ckK5 (dropT K)) rfl rfl)
    (fn_at (fn_drop t0 (c.def_ 23 (d := ⟨fun K => A_grm (dropT K), "month_of", "Report.month_of", sRpMonth⟩) rfl)) (of_decide_eq_true (c.chk 5 27 (l := ckK5 (dropT K)) rfl rfl)))
    (c.chk 5 28 (l := ckK5 (dropT K)) rfl rfl)
    (c.chk 5 29 (l := ckK5 (dropT K)) rfl rfl)
    (of_decide_eq_true (c.chk 6 0 (l := ckK6 (dropT K)) rfl rfl))
    (c.chk 6 1 (l := ckK6 (dropT K)) rfl rfl)
    (fn_at (fn_drop t0 (c.def_ 24 (d := ⟨fun K => A_gre (dropT K), "__eq__", "Report.__eq__", sRpEq⟩) rfl)) (of_decide_eq_true (c.chk 6 2 (l := ckK6 (dropT K)) rfl rfl)))
    (c.chk 6 3 (l := ckK6 (dropT K)) rfl rfl)
    (c.chk 6 4 (l := ckK6 (dropT K)) rfl rfl)
    (of_decide_eq_true (c.chk 6 5 (l := ckK6 (dropT K)) rfl rfl))
    (tup_at (c.chk 6 6 (l := ckK6 (dropT K)) rfl rfl))
    (of_decide_eq_true (c.chk 6 7 (l := ckK6 (dropT K)) rfl rfl))
    (tup_at (c.chk 6 8 (l := ckK6 (dropT K)) rfl rfl))
    (of_decide_eq_true (c.chk 6 9 (l := ckK6 (dropT K)) rfl rfl))
    (tup_at (c.chk 6 10 (l := ckK6 (dropT K)) rfl rfl))
    (of_decide_eq_true (c.chk 6 11 (l := ckK6 (dropT K)) rfl rfl))
    (tup_at (c.chk 6 12 (l := ckK6 (dropT K)) rfl rfl))
    (of_decide_eq_true (c.chk 6 13 (l := ckK6 (dropT K)) rfl rfl))
    (tup_at (c.chk 6 14 (l := ckK6 (dropT K)) rfl rfl))
    (of_decide_eq_true (c.chk 6 15 (l := ckK6 (dropT K)) rfl rfl))
    (tup_at (c.chk 6 16 (l := ckK6 (dropT K)) rfl rfl))
    (of_decide_eq_true (c.chk 6 17 (l := ckK6 (dropT K)) rfl rfl))
    (tup_at (c.chk 6 18 (l := ckK6 (dropT K)) rfl rfl))
    (of_decide_eq_true (c.chk 6 19 (l := ckK6 (dropT K)) rfl rfl))
    (tup_at (c.chk 6 20 (l := ckK6 (dropT K)) rfl rfl))
    (of_decide_eq_true (c.chk 6 21 (l := ckK6 (dropT K)) rfl rfl))
    (exc_at (c.chk 6 22 (l := ckK6 (dropT K)) rfl rfl))
    (c.chk 6 23 (l := ckK6 (dropT K)) rfl rfl)
    (of_decide_eq_true (c.chk 6 24 (l := ckK6 (dropT K)) rfl rfl))
    (of_decide_eq_true (c.chk 6 25 (l := ckK6 (dropT K)) rfl rfl))
    (of_decide_eq_true (c.chk 6 26 (l := ckK6 (dropT K)) rfl rfl))
    (of_decide_eq_true (c.chk 6 27 (l := ckK6 (dropT K)) rfl rfl))
    (of_decide_eq_true (c.chk 6 28 (l := ckK6 (dropT K)) rfl rfl))
    (c.chk 6 29 (l := ckK6 (dropT K)) rfl rfl)
    (c.chk 7 0 (l := ckK7 (dropT K)) rfl rfl)
    (c.chk 7 1 (l := ckK7 (dropT K)) rfl rfl)
    (of_decide_eq_true (c.chk 7 2 (l := ckK7 (dropT K)) rfl rfl))
    (of_decide_eq_true (c.chk 7 3 (l := ckK7 (dropT K)) rfl rfl))
    (of_decide_eq_true (c.chk 7 4 (l := ckK7 (dropT K)) rfl rfl))
    (of_decide_eq_true (c.chk 7 5 (l := ckK7 (dropT K)) rfl rfl))
    (of_decide_eq_true (c.chk 7 6 (l := ckK7 (dropT K)) rfl rfl))
    (of_decide_eq_true (c.chk 7 7 (l := ckK7 (dropT K)) rfl rfl))
    (of_decide_eq_true (c.chk 7 8 (l := ckK7 (dropT K)) rfl rfl))
    (of_decide_eq_true (c.chk 7 9 (l := ckK7 (dropT K)) rfl rfl))
    (fn_at (fn_drop t0 (c.def_ 25 (d := ⟨fun K => A_f_ih (dropT K), "__init__", "InvalidHouse.__init__", sIhInit⟩) rfl)) (of_decide_eq_true (c.chk 7 10 (l := ckK7 (dropT K)) rfl rfl)))
    (c.chk 7 11 (l := ckK7 (dropT K)) rfl rfl)
    (c.chk 7 12 (l := ckK7 (dropT K)) rfl rfl)
    (of_decide_eq_true (c.chk 7 13 (l := ckK7 (dropT K)) rfl rfl))
    (exc_at (c.chk 7 14 (l := ckK7 (dropT K)) rfl rfl))
    (c.chk 7 15 (l := ckK7 (dropT K)) rfl rfl)
    (of_decide_eq_true (c.chk 7 16 (l := ckK7 (dropT K)) rfl rfl))
    (of_decide_eq_true (c.chk 7 17 (l := ckK7 (dropT K)) rfl rfl))
    (of_decide_eq_true (c.chk 7 18 (l := ckK7 (dropT K)) rfl rfl))
    (of_decide_eq_true (c.chk 7 19 (l := ckK7 (dropT K)) rfl rfl))
    (of_decide_eq_true (c.chk 7 20 (l := ckK7 (dropT K)) rfl rfl))
    (c.chk 7 21 (l := ckK7 (dropT K)) rfl rfl)
    (c.chk 7 22 (l := ckK7 (dropT K)) rfl rfl)
    (c.chk 7 23 (l := ckK7 (dropT K)) rfl rfl)
    (of_decide_eq_true (c.chk 7 24 (l := ckK7 (dropT K)) rfl rfl))
    (of_decide_eq_true (c.chk 7 25 (l := ckK7 (dropT K)) rfl rfl))
    (of_decide_eq_true (c.chk 7 26 (l := ckK7 (dropT K)) rfl rfl))
    (of_decide_eq_true (c.chk 7 27 (l := ckK7 (dropT K)) rfl rfl))
    (of_decide_eq_true (c.chk 7 28 (l := ckK7 (dropT K)) rfl rfl))
    (of_decide_eq_true (c.chk 7 29 (l := ckK7 (dropT K)) rfl rfl))
    (of_decide_eq_true (c.chk 8 0 (l := ckK8 (dropT K)) rfl rfl))
    (of_decide_eq_true (c.chk 8 1 (l := ckK8 (dropT K)) rfl rfl))
    (fn_at (fn_drop t0 (c.def_ 26 (d := ⟨fun K => A_f_ie (dropT K), "__init__", "InvalidReport.__init__", sIpInit⟩) rfl)) (of_decide_eq_true (c.chk 8 2 (l := ckK8 (dropT K)) rfl rfl)))
    (c.chk 8 3 (l := ckK8 (dropT K)) rfl rfl)
    (c.chk 8 4 (l := ckK8 (dropT K)) rfl rfl)
    (of_decide_eq_true (c.chk 8 5 (l := ckK8 (dropT K)) rfl rfl))
    (of_decide_eq_true (c.chk 8 6 (l := ckK8 (dropT K)) rfl rfl))
    (of_decide_eq_true (c.chk 8 7 (l := ckK8 (dropT K)) rfl rfl))
    (of_decide_eq_true (c.chk 8 8 (l := ckK8 (dropT K)) rfl rfl))
    (c.chk 8 9 (l := ckK8 (dropT K)) rfl rfl)
    (of_decide_eq_true (c.chk 8 10 (l := ckK8 (dropT K)) rfl rfl))
    (of_decide_eq_true (c.chk 8 11 (l := ckK8 (dropT K)) rfl rfl))
    (of_decide_eq_true (c.chk 8 12 (l := ckK8 (dropT K)) rfl rfl))
    (of_decide_eq_true (c.chk 8 13 (l := ckK8 (dropT K)) rfl rfl))
    (c.chk 8 14 (l := ckK8 (dropT K)) rfl rfl)
    (of_decide_eq_true (c.chk 8 15 (l := ckK8 (dropT K)) rfl rfl))
    (of_decide_eq_true (c.chk 8 16 (l := ckK8 (dropT K)) rfl rfl))
    (of_decide_eq_true (c.chk 8 17 (l := ckK8 (dropT K)) rfl rfl))
    (of_decide_eq_true (c.chk 8 18 (l := ckK8 (dropT K)) rfl rfl))
    (of_decide_eq_true (c.chk 8 19 (l := ckK8 (dropT K)) rfl rfl))
    (of_decide_eq_true (c.chk 8 20 (l := ckK8 (dropT K)) rfl rfl))
    (of_decide_eq_true (c.chk 8 21 (l := ckK8 (dropT K)) rfl rfl))
    (of_decide_eq_true (c.chk 8 22 (l := ckK8 (dropT K)) rfl rfl))
    (of_decide_eq_true (c.chk 8 23 (l := ckK8 (dropT K)) rfl rfl))
    (of_decide_eq_true (c.chk 8 24 (l := ckK8 (dropT K)) rfl rfl))
    (of_decide_eq_true (c.chk 8 25 (l := ckK8 (dropT K)) rfl rfl))
    (of_decide_eq_true (c.chk 8 26 (l := ckK8 (dropT K)) rfl rfl))
    (of_decide_eq_true (c.chk 8 27 (l := ckK8 (dropT K)) rfl rfl))
    (of_decide_eq_true (c.chk 8 28 (l := ckK8 (dropT K)) rfl rfl))
    (of_decide_eq_true (c.chk 8 29 (l := ckK8 (dropT K)) rfl rfl))
    (of_decide_eq_true (c.chk 9 0 (l := ckK9 (dropT K)) rfl rfl))
end V3
open PySem PySem.W PySem.Calls PyProof.Rows in
set_option maxRecDepth 100000 in
set_option maxHeartbeats 0 in
theorem PySem.Challenge.cw_contrabooks_k13_houses_refused_holds : PySem.Challenge.rw_contrabooks_k13_houses_refused.Holds := by
  w_on; o_law
  refine HandSHeadRun.head_any (r := OpenLaw.row PySem.Challenge.rw_contrabooks_k13_houses_refused) (q := view (OpenLaw.row PySem.Challenge.rw_contrabooks_k13_houses_refused).prog [58]) (H := V3.hookK V3.ckT V3.fnT) (ob := V3.obK V3.ckT V3.fnT) (M := 20000) (loose := V3.namesK) (d := HandSHeadRun.topDef (OpenLaw.row PySem.Challenge.rw_contrabooks_k13_houses_refused).prog 58) (kwd := []) (V3.obK_eq _ _)
    (by kernel_rfl) (fun s => by kernel_rfl) V3.hk_run (by kernel_rfl) (by kernel_rfl) (by kernel_rfl) (by rfl) (by first | assumption | decide +kernel) (by decide +kernel) ⟨rfl, rfl, rfl, rfl, rfl, by decide +kernel⟩ ?hw ?hc
  case hw => w_witness2
  case hc =>
    refine V3.walk_ofGT (l := PySem.Challenge.rw_contrabooks_k13_houses_refused) (n := 63) (k := 9) (x := "_law_script") rfl (by decide) (by kernel_rfl) ⟨rfl, by decide, by decide⟩ ?F
    intro w mg fa h Y G hmg0
    obtain ⟨K, KX, c⟩ := Y
    have hmg : mg ("law" : PySem.Str) = some (.ref fa) := by
      have e : (HandSHeadRun.topDef (OpenLaw.row PySem.Challenge.rw_contrabooks_k13_houses_refused).prog 58).name = ("law" : PySem.Str) := by kernel_rfl
      rw [← e]
      exact hmg0
    have t0 : V3.tabOk K = true := c.chk 10 0 (l := [V3.tabOk K, V3.codeOk K, decide (V3.A_cT (V3.dropT K) = V3.lawC K), decide (V3.A_pT (V3.dropT K) = V3.lawP K)]) rfl rfl
    have t1 : V3.codeOk K = true := c.chk 10 1 (l := [V3.tabOk K, V3.codeOk K, decide (V3.A_cT (V3.dropT K) = V3.lawC K), decide (V3.A_pT (V3.dropT K) = V3.lawP K)]) rfl rfl
    have t2 : V3.A_cT (V3.dropT K) = V3.lawC K := of_decide_eq_true (c.chk 10 2 (l := [V3.tabOk K, V3.codeOk K, decide (V3.A_cT (V3.dropT K) = V3.lawC K), decide (V3.A_pT (V3.dropT K) = V3.lawP K)]) rfl rfl)
    have t3 : V3.A_pT (V3.dropT K) = V3.lawP K := of_decide_eq_true (c.chk 10 3 (l := [V3.tabOk K, V3.codeOk K, decide (V3.A_cT (V3.dropT K) = V3.lawC K), decide (V3.A_pT (V3.dropT K) = V3.lawP K)]) rfl rfl)
    obtain ⟨fd, hb, hF⟩ := V3.hk_all (l := PySem.Challenge.rw_contrabooks_k13_houses_refused) (w := w) (V3.dropT_in KX) G hmg c t0
    exact ⟨V3.dropT K, fd, V3.spLawT (V3.dropT K) (V3.A_pT (V3.dropT K)), V3.A_cT (V3.dropT K), V3.A_pT (V3.dropT K), V3.dropT_in KX, by rw [t3]; exact KX _ _ (V3.tab_at t0), by rw [t3]; exact V3.dropT_none, by rw [t2, t3]; exact V3.code_hd KX t1, hb, fun H a ns hl hT hS => ⟨a, ns, rfl, hS, hl, hT, fun _ => rfl⟩, hF⟩
#print axioms PySem.Challenge.cw_contrabooks_k13_houses_refused_holds
