import PyProof.Rows.All
import Wide.All
import OpenK.AllK
import Wide.FinOn
import HandS.ForExc
import HandS.Comp
import HandS.Dict
import HandS.Iter
import HandS.Text
import HandS.Wide
import HandS.FStr
import HandS.IsInst
import HandS.ExcInit
import HandS.ExcField
import HandS.OwnEq
import KE.KCallOwn
import KE.KExcIs
import PyProof.NeKinds
import HandS.RaiseMore
import HandS.Star
import HandS.ClsMeth
import HandS.StrMore
import HandS.ExcIs
import HandS.Defaults
import PyProof.InstEq
import PyProof.Rows.NestShow
import HandS.Ends
import HandS.Zip
import HandS.Walk
import HandS.TupAny
import OpenK.KMeth
import HandS.Base
import HandS.Call
import HandS.List
import KE.GoesEnum
import HandS.DeepEq
import HandS.ReplaceLit
import HandS.TryOnly
import HandS.ExcOwn
import HandS.Strs
import HandS.Style
import HandS.Deep
import KE.KOpsOwn
import HandS.MakeKw
import HandS.MakeKwOnly
import HandS.Conv
import PyProof.ReprBulk
import KE.KStateDown
import HandS.Exc
import HandS.Words
import HandS.Head0
import HandS.Head1
import HandS.Head2
import HandS.HeadHook1
import PySem.Challenge.RW_contrabooks_k06_texts_of_histories
set_option Elab.async false
set_option linter.all false
set_option maxRecDepth 100000
/-! Rules of our own over the hand layer: an object made whose making may raise, within a try; str(o) by its own def; isinstance of a caught error with fields. -/
namespace V3
open PySem L2 PyProof.Rows
section
variable {X : Cx} {CX : CXT} {k : Nat} {f C : Addr} {fd : FuncData} {ps : List Str} {sp : Sp} {E : L2.St → XK} {x : Str} {p pos : Pos} {e : Expr} {es : List Expr} {t : TA} {dvs : List V} {ds : List Value}
theorem make_at {pins : List (Addr × Obj)} {σ : L2.St} {H : Hp} {s : Shared} {Q : VK}
    {us : List Value} {vs : List V} (M : Mk X.K C f)
    (F : FnOk X.prog X.w X.K X.mg X.base CX k f fd ps sp)
    (room : Room (k + 1) X.A) (bi : Binds X.K fd ps ds) (va : Vals dvs ds)
    (out : PassesAt CX X σ (E σ)) (I : Inv X pins σ H s) (r : Vals vs us)
    (h : ∀ y dy, H y = none → H dy = none → dy ≠ y →
      sp (.ref y :: (vs ++ dvs)) (upd (upd H dy (.own y)) y (.ins C dy []))
        (fun v H2 => v = .non ∧ Q (.ref y) H2) (E σ)) :
    wpAny (model X.prog X.w) X.A (call (.ref C) us) (EP X pins σ Q) X.xe s := by
  have want := h (s.heap.objs.size + 1) s.heap.objs.size
    (I.hok.fresh (Nat.le_succ _)) (I.hok.fresh (Nat.le_refl _))
    (Nat.ne_of_lt (Nat.lt_succ_self _))
  have J := Inv.made (C := C) I
  have rr : Vals (V.ref (s.heap.objs.size + 1) :: (vs ++ dvs))
      (Value.ref (s.heap.objs.size + 1) :: (us ++ ds)) := .cons rfl (r.append va)
  have len : (Value.ref (s.heap.objs.size + 1) :: us ++ ds).length = ps.length := by
    have q := rr.length
    rw [F.len _ _ _ _ want] at q
    exact q.symm
  have bound := bi _ (Value.ref (s.heap.objs.size + 1) :: us) J.kIn len
  have ran := F.run _ X.stack _ _ ⟨Value.ref (s.heap.objs.size + 1) :: us, []⟩
    (Value.ref (s.heap.objs.size + 1) :: (us ++ ds)) _ _ (E σ)
    (room.make C us []) (J.env0.make C us []) bound rr want
  refine wpAny_call (make_map (f := f) I.kIn M.makes M.init
    (beq_iff_eq.mp M.fn) (codeAny_mono ran fun res s' hq => ?_))
  match res, hq with
  | .error err, hq => exact out pins _ _ err s' J hq
  | .ok (.ret u), hq =>
    obtain ⟨v, H', I3, rv, ev, q3⟩ := J.after hq
    subst ev
    exact ⟨rv, ⟨V.ref (s.heap.objs.size + 1), H', I3, rfl, q3⟩⟩
  | .ok .next, hq => exact hq.elim
  | .ok .brk, hq => exact hq.elim
  | .ok .cont, hq => exact hq.elim
/-- C(e, ..) where what its making raises is wished for at the slots -/
def tMakeS (C : Addr) (sp : Sp) (dvs : List V) (E : L2.St → XK) (t : TA) : TE :=
  fun σ H Q => t σ H fun vs H1 => ∀ y dy, H1 y = none → H1 dy = none → dy ≠ y →
    sp (.ref y :: (vs ++ dvs)) (upd (upd H1 dy (.own y)) y (.ins C dy []))
      (fun v H2 => v = .non ∧ Q (.ref y) H2) (E σ)
theorem pe_makeS (M : Mk X.K C f) (F : FnOk X.prog X.w X.K X.mg X.base CX k f fd ps sp)
    (room : Room (k + 1) X.A) (hg : Gl X x) (hm : X.mg x = some (.ref C))
    (bi : Binds X.K fd ps ds) (va : Vals dvs ds) (out : ∀ σ, PassesAt CX X σ (E σ))
    (ha : PA X (e :: es) t) (hdb : (x == ("__debug__" : Str)) = false := by decide)
    (he : starEach (e :: es) X.env = (false, eval e X.env) :: starEach es X.env := by rfl)
    (hpl : (backTo pos (starEach es X.env)).any (·.1) = false := by rfl) :
    PE X (.Call (.Name x p) (e :: es) [] pos) (tMakeS C sp dvs E t) := by
  refine ⟨fun pins s σ H Q I h => wpAny_Call_Name_kw (ld_glob I hg hm ?_ hdb)⟩
  refine PySem.W.callWith_K (h₀ := X.base) I.ok.mod.kin M.kp ?_ he hpl
  exact thn (ha.run pos pins s σ H _ I h) fun us s1 ⟨vs, H1, I1, r, q⟩ =>
    ⟨I1.kIn, make_at M F room bi va (out σ) I1 r q⟩
end
/-! str(o), o of an own class with its own __str__ -/
section
variable {X : Cx} {CX : CXT} {n : Nat} {f C : Addr} {fd : FuncData} {ps : List Str} {sp : Sp} {E : XK}
theorem room2 {A : Around} (r : Room (n + 2) A) : Room n A.in1.in1 := Room.in1 (k := n) (Room.in1 (k := n + 1) r)
def rStrO (C : Addr) (sp : Sp) (E : XK) : List V → Hp → VK → Prop := fun xs H Q =>
  ∃ a dx fs, xs = [.ref a] ∧ H a = some (.ins C dx fs) ∧
    sp [.ref a] H (fun v H' => ∃ y : Str, v = .str y ∧ Q (.str y) H') E
theorem call_strO (F : FnOk X.prog X.w X.K X.mg X.base CX n f fd ps sp)
    (at_ : PySem.W.findIn X.K (.ref C) "__str__" = some (some (.ref f)))
    (isf : PySem.W.isFn X.K (.ref f) = true) (bi : Binds X.K fd ps [])
    (out : Passes CX X E) (room : Room (n + 2) X.A) : CallR X (.type "str") (rStrO C sp E) := by
  intro pins s σ H xs us Q I r h
  obtain ⟨a, dx, fs, rfl, ha, want⟩ := h
  cases r with
  | cons r1 rn =>
    cases rn
    cases r1
    obtain ⟨mA, O, _⟩ := ins_get I.hok ha
    obtain ⟨od, J, _⟩ := O.look
    have rr := room2 room
    refine PySem.W.kso_call rr.units0 I.kIn J at_ isf ?_
    have e0 : Env0 X.prog X.w X.K X.mg X.base X.A.in1.in1 X.stack s H := I.env0.in1.in1
    have len := F.len _ _ _ _ want
    have bound : BindsTo s fd ⟨[.ref a], []⟩ (ps.zip [Value.ref a]) := by
      have b := bi s [.ref a] I.kIn (by simpa using len)
      simpa using b
    have ran := F.run X.A.in1.in1 X.stack s H ⟨[.ref a], []⟩ [.ref a] [.ref a] _ E rr e0 bound (.cons rfl .nil) want
    refine wpAny_call (codeAny_mono ran fun res s' hq => ?_)
    match res, hq with
    | .error err, hq => exact out pins σ H s err s' I hq
    | .ok (.ret u), hq =>
      obtain ⟨v, H', I', rv, y, ev, q⟩ := I.after hq
      subst ev
      obtain ⟨t, rfl⟩ := rv
      exact ⟨.str y, H', I', ⟨t, rfl⟩, q⟩
    | .ok .next, hq => exact hq.elim
    | .ok .brk, hq => exact hq.elim
    | .ok .cont, hq => exact hq.elim
end
/-! isinstance(e, c), isinstance(e, (c, ..)), e the error that the suite holds -/
structure XClass (K : PySem.W.Frag) (D : Addr) : Prop where
  is : (PySem.W.clsIn K D).isSome = true
  ga : PySem.W.findIn K (.ref D) "__getattribute__" = some (some (.builtin "BaseException.__getattribute__"))
  gt : PySem.W.findIn K (.ref D) "__getattr__" = some none
  sb : PySem.W.subIn K (.ref D) (.type "BaseException") = some true
  ca : PySem.W.findIn K (.ref D) "__class__" = some (some (.builtin "object.__class__"))
  gn : PySem.W.specialIn K (.builtin "object.__class__") "__get__" = some (some (.builtin "getset_descriptor.__get__"))
  tk : PySem.W.takesIn K (.builtin "object.__class__") = some true
  mo : PySem.W.mroIn K D (.type "object") = some true
section
variable {X : Cx} {a D : Addr} {oe : Obj} {pn : List (Addr × Obj)} {d : Option Addr}
theorem held_at {pins : List (Addr × Obj)} {σ : L2.St} {H : Hp} {s : Shared} {dd : Addr} {fs : List (Str × V)}
    (hz : Zc (.ref D) (some dd) oe) (hf : ∃ vs, oe.data = .fields vs)
    (I : Inv (X.suite a ((a, oe) :: pn)) pins σ H s) (hd : H dd = some (.xd fs)) :
    ∃ od : Obj, PySem.W.InstAt s.heap a oe D (some od) := by
  obtain ⟨ha, _⟩ := I.pin (a, oe) (List.mem_append_left _ List.mem_cons_self)
  obtain ⟨vs, hv⟩ := hf
  have hx : ObjOk X.prog X.w H s.heap dd (.xd fs) := I.hok dd _ hd
  obtain ⟨mA, hns, _⟩ := hx
  obtain ⟨od, ho, _⟩ := lookIn_ns hns
  exact ⟨od, ha, hz.1, by unfold PySem.W.notCls; rw [hv] <;> rfl, by rw [hz.2]; exact ho⟩
def rIsX (K : PySem.W.Frag) (D a : Addr) (cls : Value) (d : Option Addr) : List V → Hp → VK → Prop := fun xs H Q =>
  ∃ (dd : Addr) (fs : List (Str × V)) (c : V) (u : Value) (b : Bool), cls = .ref D ∧ d = some dd ∧ H dd = some (.xd fs) ∧
    xs = [.ref a, c] ∧ ClsV c u ∧ PySem.W.kitOne K (.ref D) u = some b ∧ Q (.bl b) H
theorem call_isX {cls : Value} (T : XClass X.K D) (hz : Zc cls d oe) (hf : ∃ vs, oe.data = .fields vs) :
    CallR (X.suite a ((a, oe) :: pn)) (.builtin "isinstance") (rIsX X.K D a cls d) := by
  intro pins s σ H xs us Q I r h
  obtain ⟨dd, fs, c, u, b, rfl, rfl, hd, rfl, k, e, q⟩ := h
  obtain ⟨u1, u2, rfl, r1, r2⟩ := vals2 r
  cases (show u1 = Value.ref a from r1)
  have e2 := k.eq r2
  subst e2
  obtain ⟨od, J⟩ := held_at hz hf I hd
  exact PySem.W.kia_one (PySem.W.kitx_exc T.is T.ga T.gt T.sb T.ca T.gn T.tk T.mo) I.kIn J e (fun z => nomatch z)
    fun tk => ⟨.bl b, H, I.tok tk, rfl, q⟩
def rIsXT (K : PySem.W.Frag) (D a : Addr) (cls : Value) (d : Option Addr) : List V → Hp → VK → Prop := fun xs H Q =>
  ∃ (dd : Addr) (fs : List (Str × V)) (tp : Addr) (cs : List V) (us : List Value) (b : Bool), cls = .ref D ∧ d = some dd ∧ H dd = some (.xd fs) ∧
    xs = [.ref a, .ref tp] ∧ H tp = some (.tup cs) ∧ Paired ClsV cs us ∧ PySem.W.kitAny K (.ref D) us = some b ∧ Q (.bl b) H
theorem call_isXT {cls : Value} (T : XClass X.K D) (hz : Zc cls d oe) (hf : ∃ vs, oe.data = .fields vs) :
    CallR (X.suite a ((a, oe) :: pn)) (.builtin "isinstance") (rIsXT X.K D a cls d) := by
  intro pins s σ H xs us Q I r h
  obtain ⟨dd, fs, tp, cs, ws, b, rfl, rfl, hd, rfl, hT, k, e, q⟩ := h
  obtain ⟨u1, u2, rfl, r1, r2⟩ := vals2 r
  cases (show u1 = Value.ref a from r1)
  cases (show u2 = Value.ref tp from r2)
  obtain ⟨od, J⟩ := held_at hz hf I hd
  have okT : ObjOk X.prog X.w H s.heap tp (.tup cs) := I.hok tp _ hT
  obtain ⟨_, items, vals, ob, got, isT, m, dat⟩ := okT
  have same := ClsV.all k vals
  subst same
  obtain ⟨c0, d0, dt0, s0⟩ := ob
  simp only at isT dat
  subst isT dat
  exact PySem.W.kia_tup (PySem.W.kitx_exc T.is T.ga T.gt T.sb T.ca T.gn T.tk T.mo) I.kIn J got e (fun z => nomatch z)
    fun tk => ⟨.bl b, H, I.tok tk, rfl, q⟩
end
end V3

set_option Elab.async false
set_option linter.all false
set_option maxRecDepth 100000
/-! Further rules of our own: C() without an own __init__, len(o) by an own __len__, repr of small values, a list against the empty one. -/
namespace V3
open PySem L2 PyProof.Rows
section
variable {X : Cx} {C : Addr} {x : Str} {p pos : Pos}
/-- what a class without an own __init__ must have to be made -/
structure Mk0 (K : PySem.W.Frag) (C : Addr) : Prop where
  makes : PySem.W.makesIn K C = true
  ini : PySem.W.findIn K (.ref C) "__init__" = some (some (.builtin "object.__init__"))
  kp : PySem.W.keepIn K (.ref C) = true
def tNew (C : Addr) : TE := fun σ H Q => ∀ y dy, H y = none → H dy = none → dy ≠ y → Q (.ref y) (upd (upd H dy (.own y)) y (.ins C dy []))
theorem pe_new0 (M : Mk0 X.K C) (hg : Gl X x) (hm : X.mg x = some (.ref C)) (hdb : (x == ("__debug__" : Str)) = false := by decide) :
    PE X (.Call (.Name x p) [] [] pos) (tNew C) := by
  refine ⟨fun pins s σ H Q I h => wpAny_Call_Name_kw (ld_glob I hg hm ?_ hdb)⟩
  refine PySem.W.callWith_K0 I.kIn M.kp ?_
  have J := Inv.made (C := C) I
  have want := h (s.heap.objs.size + 1) s.heap.objs.size (I.hok.fresh (Nat.le_succ _)) (I.hok.fresh (Nat.le_refl _)) (Nat.ne_of_lt (Nat.lt_succ_self _))
  show wpAny _ _ (call (.ref C) []) _ _ _
  have KX := I.kIn
  refine wpAny_call (make_map0 KX M.makes M.ini (fun self => PySem.W.Looks.of_pure (PySem.W.oi_bind self)) ?_)
  have Y := PySem.W.makes_of (M := model X.prog X.w) KX M.makes
  obtain ⟨hh, g, d, t, os⟩ := s
  have own : ((hh.push PySem.W.emptyDict).push (PySem.W.instObj C hh.objs.size)).get? (hh.objs.size + 1) = some (PySem.W.instObj C hh.objs.size) := by heap_get
  have ty : PySem.W.Looks (model X.prog X.w) ((hh.push PySem.W.emptyDict).push (PySem.W.instObj C hh.objs.size)) (typeOf (.ref (hh.objs.size + 1))) (.ref C) :=
    (PySem.W.Looks.ld own).andThen .now
  have sub : PySem.W.Looks (model X.prog X.w) ((hh.push PySem.W.emptyDict).push (PySem.W.instObj C hh.objs.size)) (isInstance (.ref (hh.objs.size + 1)) (.type "object")) true := ty.andThen (Y.top.keeps fun b o e => Heap.get?_push_of_some _ (Heap.get?_push_of_some _ e))
  refine codeAny_call_builtin PySem.W.oi_plain PySem.W.entry_oi
    (@PySem.W.check_slot (model X.prog X.w) _ _ _ "object.__init__" "object" "__init__" (.ref (hh.objs.size + 1)) [] [] _
      PySem.W.oi_kind PySem.W.oi_split sub (PySem.W.oi_args (.ref (hh.objs.size + 1))) ?_)
  rw [PySem.W.oi_run]
  exact wpAny_pure (And.intro rfl ⟨V.ref (hh.objs.size + 1), _, J, rfl, want⟩)
end
section
variable {X : Cx} {CX : CXT} {n : Nat} {f C : Addr} {fd : FuncData} {ps : List Str} {sp : Sp} {E : XK}
/-- len(o), o of a class with its own __len__ -/
def rLenO (C : Addr) (sp : Sp) (E : XK) : List V → Hp → VK → Prop := fun xs H Q =>
  ∃ a dx fs, xs = [.ref a] ∧ H a = some (.ins C dx fs) ∧ sp [.ref a] H (fun v H' => ∃ i : Int, v = .int i ∧ (0 ≤ i ∧ i < 2 ^ 63) ∧ Q (.int i) H') E
theorem call_lenO (F : FnOk X.prog X.w X.K X.mg X.base CX n f fd ps sp) (at_ : PySem.W.findIn X.K (.ref C) "__len__" = some (some (.ref f)))
    (isf : PySem.W.isFn X.K (.ref f) = true) (bi : Binds X.K fd ps []) (out : Passes CX X E) (room : Room (n + 1) X.A) : CallR X (.builtin "len") (rLenO C sp E) := by
  intro pins s σ H xs us Q I r h
  obtain ⟨a, dx, fs, rfl, ha, want⟩ := h
  cases r with
  | cons r1 rn =>
    cases rn
    cases r1
    obtain ⟨mA, O, _⟩ := ins_get I.hok ha
    obtain ⟨od, J, _⟩ := O.look
    obtain ⟨m, hF⟩ := I.fr
    have rr : Room n X.A.in1 := Room.in1 (k := n) room
    refine PySem.W.len_K hF I.ok.mod.kin J at_ isf ?_
    have e0 : Env0 X.prog X.w X.K X.mg X.base X.A.in1 X.stack s H := I.env0.in1
    have len := F.len _ _ _ _ want
    have bound : BindsTo s fd ⟨[.ref a], []⟩ (ps.zip [Value.ref a]) := by
      have b := bi s [.ref a] I.kIn (by simpa using len)
      simpa using b
    have ran := F.run X.A.in1 X.stack s H ⟨[.ref a], []⟩ [.ref a] [.ref a] _ E rr e0 bound (.cons rfl .nil) want
    refine wpAny_call (codeAny_mono ran fun res s' hq => ?_)
    match res, hq with
    | .error err, hq => exact out pins σ H s err s' I hq
    | .ok (.ret u), hq =>
      obtain ⟨v, H', I', rv, i, ev, hi, q⟩ := I.after hq
      subst ev
      obtain ⟨t, rfl⟩ := rv
      exact ⟨hi, .int i, H', I'.tok _, ⟨_, rfl⟩, q⟩
    | .ok .next, hq => exact hq.elim
    | .ok .brk, hq => exact hq.elim
    | .ok .cont, hq => exact hq.elim
end
section
variable {X : Cx}
theorem call_repr_str : CallR X (.builtin "repr") (fun xs H Q => ∃ z : Str, xs = [.str z] ∧ (reprText z).length ≤ sizeLine ∧ Q (.str (reprText z)) H) := by
  intro pins s σ H xs us Q I r h
  obtain ⟨z, rfl, hz, q⟩ := h
  obtain ⟨u, rfl, t, rfl⟩ := vals1 r
  exact PySem.P.repr_of_str ⟨.str _, H, I.tok _, ⟨_, rfl⟩, q⟩ hz
/-- an int or a text -/
def rRepr : List V → Hp → VK → Prop := fun xs H Q => (∃ i : Int, xs = [.int i] ∧ i.natAbs.log2 < 1920 ∧ Q (.str (toString i)) H) ∨
  (∃ z : Str, xs = [.str z] ∧ (reprText z).length ≤ sizeLine ∧ Q (.str (reprText z)) H)
theorem call_reprIS : CallR X (.builtin "repr") rRepr := by
  intro pins s σ H xs us Q I r h
  rcases h with h | h
  · exact SkE.call_repr_int pins s σ H xs us Q I r h
  · exact call_repr_str pins s σ H xs us Q I r h
/-- xs != [] -/
def rNeE : R2 := fun x y H Q => ∃ l b xs, x = .ref l ∧ y = .ref b ∧ H l = some (.lst xs) ∧ H b = some (.lst []) ∧ Q (.bl (!xs.isEmpty)) H
theorem op_neE (hu : X.A.units < cLine) : OpR X (compareOp .NotEq) rNeE := by
  intro pins s σ H x y v u Q I rx ry h
  obtain ⟨l, b, xs, rfl, rfl, hl, hb, q⟩ := h
  cases rx
  cases ry
  obtain ⟨z, its, k, r, e⟩ := I.hok l _ hl
  obtain ⟨z2, its2, k2, r2, e2⟩ := I.hok b _ hb
  cases r2
  have L1 : s.heap.IsList l its.toArray := ⟨_, e, rfl, k, rfl⟩
  have L2' : s.heap.IsList b ([] : List Value).toArray := ⟨_, e2, rfl, k2, rfl⟩
  refine PySem.W.cmp_ofNotEq ?_
  cases r with
  | nil =>
    have c := PySem.SeqAt.RcNeAt.lists (e := fun _ => true) L1 L2' rfl hu (fun j h1 _ => absurd h1 (Nat.not_lt_zero _))
    exact c X.prog X.w X.xe _ ⟨.bl false, H, I, rfl, q⟩
  | @cons x0 u0 xs0 us0 r0 rr =>
    have c := PySem.SeqAt.RcNeAt.lists_lengths L1 L2' (by simp) hu
    exact c X.prog X.w X.xe _ ⟨.bl true, H, I, rfl, q⟩
end
end V3

set_option Elab.async false
set_option linter.all false
set_option maxRecDepth 100000
/-! Further rules of our own: xs[a:b:k]; a class that stands in a local name, called. -/
namespace V3
open PySem PySem.Spec PyProof.Rows L2
/-- the items of xs[lo:hi:st] -/
def stepV (xs : List V) (lo hi st : Option Int) : List V :=
  (sliceRange (sliceBounds lo hi st xs.length).1 (sliceBounds lo hi st xs.length).2.1 (sliceBounds lo hi st xs.length).2.2).filterMap (fun i => xs[i]?)
theorem vals_pick {xs : List V} {us : List Value} (r : Vals xs us) : ∀ idx : List Nat, Vals (idx.filterMap (fun i => xs[i]?)) (idx.filterMap (fun i => us.toArray[i]?))
  | [] => .nil
  | i :: idx => by
    have ih := vals_pick r idx
    rw [List.filterMap_cons, List.filterMap_cons]
    cases e : xs[i]? with
    | none =>
      have e2 : us.toArray[i]? = none := by
        rw [List.getElem?_toArray]
        exact r.none_of e
      rw [e2]
      exact ih
    | some x =>
      obtain ⟨u, hu, ru⟩ := r.get e
      have e2 : us.toArray[i]? = some u := by
        rw [List.getElem?_toArray]
        exact hu
      rw [e2]
      exact .cons ru ih
section
variable {X : Cx} {e : Expr} {te : TE} {lo hi st : Option Expr} {tl th ts : TO} {p2 pos : Pos}
def tStep (K : PySem.W.Frag) (te : TE) (tl th ts : TO) : TE := fun σ H Q => te σ H fun x H1 => tl σ H1 fun l H2 => th σ H2 fun u H3 => ts σ H3 fun k H4 =>
  ∃ a xs, x = .ref a ∧ SqL K H4 a xs ∧ k ≠ some 0 ∧ (stepV xs l u k).length ≤ sizeLine ∧ ∀ p, H4 p = none → Q (.ref p) (upd H4 p (.lst (stepV xs l u k)))
theorem pe_step (he : PE X e te) (hl : PO X lo tl) (hu : PO X hi th) (hk : PO X st ts)
    (hop : ∀ (o : Value) (n : Addr), subscripted (.Slice lo hi st p2) false o (.ref n) = operate [o, .ref n] (getItem o (.ref n)) := by intro _ _; with_unfolding_all rfl) :
    PE X (.Subscript e (.Slice lo hi st p2) pos) (tStep X.K te tl th ts) := by
  refine ⟨fun pins s σ H Q I h => ?_⟩
  refine Subscript_ (thn (he.run pins s σ H _ I h) fun v s1 ⟨x, H1, I1, r1, q1⟩ => ?_)
  refine wpAny_Slice (thn (hl.run pins s1 σ H1 _ I1 q1) fun vl s2 ⟨l, H2, I2, pl, q2⟩ =>
    thn (hu.run pins s2 σ H2 _ I2 q2) fun vu s3 ⟨u, H3, I3, pu, q3⟩ =>
    thn (hk.run pins s3 σ H3 _ I3 q3) fun vk s4 ⟨k, H4, I4, pk, q4⟩ => ?_)
  obtain ⟨a, xs, rfl, hx, hk0, hsz, q⟩ := q4
  have J : Inv X pins σ H4 { s4 with heap := s4.heap.push { cls := .type "slice", data := .fields #[vl, vu, vk] } } := I4.kept (t' := s4.toks) fun b ob q => Heap.get?_push_of_some _ q
  cases r1
  obtain ⟨its, r, ht, hz⟩ := J.list hx
  have hlen := r.length
  have got : wpAny (model X.prog X.w) X.A (getItem (.ref a) (.ref s4.heap.objs.size)) (EP X pins σ Q) X.xe { s4 with heap := s4.heap.push { cls := .type "slice", data := .fields #[vl, vu, vk] } } := by
    refine wpAny_getItem_list_slice ht.isList (Heap.IsSliceOf.new ..) pl pu pk hk0 ?_ (by rw [List.size_toArray] <;> omega)
    have e : slicePick its.toArray l u k = ((sliceRange (sliceBounds l u k xs.length).1 (sliceBounds l u k xs.length).2.1 (sliceBounds l u k xs.length).2.2).filterMap (fun i => its.toArray[i]?)).toArray := by
      unfold slicePick
      rw [List.size_toArray, ← hlen]
    rw [e]
    refine ⟨.ref (s4.heap.push _).objs.size, _, J.laid (t' := s4.toks) (o := .lst (stepV xs l u k)) (fun b ob q => Heap.get?_push_of_some _ q) (Nat.le_refl _) ?_, rfl, q _ (J.hok.fresh (Nat.le_refl _))⟩
    exact ⟨hsz, _, 0, vals_pick r _, Heap.get?_push_size _ rfl⟩
  show wpAny (model X.prog X.w) X.A (subscriptTail e (.Slice lo hi st p2) (.ref a) (.ref s4.heap.objs.size)) (EP X pins σ Q) X.xe { s4 with heap := s4.heap.push { cls := .type "slice", data := .fields #[vl, vu, vk] } }
  exact tail_any (ops := [.ref a, .ref s4.heap.objs.size]) ht.isList.typeIs slot_list_getitem.lookup got (hop _ _)
end
section
variable {X : Cx} {CX : CXT} {k i : Nat} {f C : Addr} {fd : FuncData} {ps : List Str} {sp : Sp} {E : XK} {x : Str} {p pos : Pos} {e : Expr} {es : List Expr} {t : TA} {dvs : List V} {ds : List Value}
/-- c(e, ..), c a local name that holds the class at C -/
def tMakeL (i : Nat) (C : Addr) (sp : Sp) (dvs : List V) (E : XK) (t : TA) : TE := fun σ H Q => σ[i]? = some (some (.ref C)) ∧ tMake C sp dvs E t σ H Q
theorem pe_makeL (M : Mk X.K C f) (F : FnOk X.prog X.w X.K X.mg X.base CX k f fd ps sp) (room : Room (k + 1) X.A) (hN : X.N[i]? = some x) (hv : Vis X.env.scope x)
    (bi : Binds X.K fd ps ds) (va : Vals dvs ds) (out : Passes CX X E) (ha : PA X (e :: es) t)
    (hdb : (x == ("__debug__" : Str)) = false := by decide) (hcd : (x == ("__classdict__" : Str)) = false := by decide)
    (he : starEach (e :: es) X.env = (false, eval e X.env) :: starEach es X.env := by rfl) (hpl : (backTo pos (starEach es X.env)).any (·.1) = false := by rfl) :
    PE X (.Call (.Name x p) (e :: es) [] pos) (tMakeL i C sp dvs E t) := by
  refine ⟨fun pins s σ H Q I h => ?_⟩
  obtain ⟨at_, want⟩ := h
  refine wpAny_Call_Name_kw (thn ((pe_var (pos := p) hN hv hdb hcd).run pins s σ H (fun v H1 => v = .ref C ∧ H1 = H) I ⟨.ref C, at_, rfl, rfl⟩) fun u s1 ⟨v, H1, I1, r1, q1⟩ => ?_)
  obtain ⟨rfl, rfl⟩ := q1
  cases r1
  refine PySem.W.callWith_K (h₀ := X.base) I.ok.mod.kin M.kp ?_ he hpl
  exact thn (ha.run pos pins s1 σ _ _ I1 want) fun us s2 ⟨vs, H2, I2, r, q⟩ => ⟨I2.kIn, run_make M F room bi va out I2 r q⟩
end
end V3

set_option Elab.async false
set_option linter.all false
set_option maxRecDepth 100000
namespace V3
open PySem L2
def top (i : Nat) : Stmt := PySem.Challenge.pw_contrabooks_k06_texts_of_histories.main.body.getD i (.Pass ⟨0, 0, 0, 0⟩)
abbrev sSeed : Stmt := top 21
abbrev sChoose : Stmt := top 22
abbrev sOneOf : Stmt := top 23
/-- the box of draws: two numbers -/
def BoxOk (u v : Int) : Prop := 0 ≤ u ∧ 1 ≤ v ∧ v ≤ 2147483629
def box (u v : Int) : HO := .lst [.int u, .int v]
def BoxAt (H : Hp) (b : Addr) : Prop := ∃ u v, BoxOk u v ∧ H b = some (box u v)
def spSeed (K : PySem.W.Frag) : Sp := fun vs H Q _ => ∃ (a : Addr) (ns : List Int) (k : Int), vs = [.ref a, .int k] ∧ SqL K H a (ns.map V.int) ∧ ns.length ≤ 63 ∧ 0 ≤ k ∧ k ≤ 100 ∧
  ∀ (p : Addr) (u v : Int), H p = none → BoxOk u v → Q (.ref p) (upd H p (box u v))
def spChoose : Sp := fun vs H Q _ => ∃ (b : Addr) (u v m : Int), vs = [.ref b, .int m] ∧ H b = some (box u v) ∧ BoxOk u v ∧ 1 ≤ m ∧ m ≤ 10000000000000000000000000000000000000000 ∧
  ∀ d u' v' : Int, 0 ≤ d → d < m → BoxOk u' v' → Q (.int d) (upd H b (box u' v'))
def spOneOf (K : PySem.W.Frag) : Sp := fun vs H Q _ => ∃ (b l : Addr) (u v : Int) (xs : List V), vs = [.ref b, .ref l] ∧ H b = some (box u v) ∧ BoxOk u v ∧ l ≠ b ∧ SqL K H l xs ∧ 1 ≤ xs.length ∧ xs.length ≤ 1000 ∧
  ∀ (x : V) (u' v' : Int), x ∈ xs → BoxOk u' v' → Q x (upd H b (box u' v'))
structure Blt (mg : Str → Option Value) : Prop where
  len : mg "len" = none
  abs : mg "abs" = none
  int : mg "int" = none
/-- a def that stands at a name of the module -/
def Cal (P : Program) (w : World) (K : PySem.W.Frag) (mg : Str → Option Value) (base : Heap) (CX : CXT) (name : Str) (k : Nat) (ps : List Str) (sp : Sp) : Prop :=
  ∃ (f : Addr) (fd : FuncData), FnOk P w K mg base CX k f fd ps sp ∧ mg name = some (.ref f) ∧ PySem.W.keepIn K (.ref f) = true ∧ Binds K fd ps []
theorem seqL_ne {K : PySem.W.Frag} {H : Hp} {l b : Addr} {o : HO} {xs : List V} (ne : l ≠ b) (h : SqL K H l xs) : SqL K (upd H b o) l xs := by
  rcases h with (h | ⟨o, h⟩) | h
  · exact .inl (.inl (by rw [upd_ne ne]; exact h))
  · exact .inl (.inr ⟨o, by rw [upd_ne ne]; exact h⟩)
  · exact .inr h
theorem atI_ints {ns : List Int} {i : Int} (h0 : 0 ≤ i) (hj : i.toNat < ns.length) : atI (ns.map V.int) i = some (.int ns[i.toNat]) := by
  have e : ixN (ns.map V.int).length i = some i.toNat := by
    unfold ixN
    rw [if_pos h0, if_pos (by rw [List.length_map]; omega)]
  show (ixN (ns.map V.int).length i).bind (fun j => (ns.map V.int)[j]?) = some (.int ns[i.toNat])
  rw [e]
  show (ns.map V.int)[i.toNat]? = some (.int ns[i.toNat])
  rw [List.getElem?_map, List.getElem?_eq_getElem hj]
  rfl
section
variable {P : Program} {w : World} {K : PySem.W.Frag} {mg : Str → Option Value} {base : Heap}
theorem scSeed : FnScope ["_law_script", "_law_k", "_law_cell"] ["_law_script", "_law_k"] (defScope sSeed) := ⟨rfl, rfl, rfl, by decide +kernel, rfl, by decide +kernel, by decide +kernel⟩
theorem scChoose : FnScope ["_law_box", "_law_many", "_law_digit", "_law_first"] ["_law_box", "_law_many"] (defScope sChoose) := ⟨rfl, rfl, rfl, by decide +kernel, rfl, by decide +kernel, by decide +kernel⟩
theorem scOneOf : FnScope ["_law_box", "_law_some"] ["_law_box", "_law_some"] (defScope sOneOf) := ⟨rfl, rfl, rfl, by decide +kernel, rfl, by decide +kernel, by decide +kernel⟩
theorem ok_choose {f : Addr} {fd : FuncData} (F : Fun K "_law_choose" "_law_choose" sChoose f fd) (T : Blt mg) : FnOk P w K mg base CX0 1 f fd ["_law_box", "_law_many"] spChoose := by
  refine F.ok scChoose (fun vs H Q E h => ?_) (fun cdv A outer s H vs Q E hr h => ?_)
  · obtain ⟨b, u, v, m, rfl, _⟩ := h
    rfl
  · obtain ⟨b, u, v, m, rfl, hb, ok, m1, m2, k⟩ := h
    refine ⟨_, pss_cons (ps_if (pt_cmpR op_gt (pe_ix ix_list (pv 0) pe_int (fun _ _ => rfl)) pe_int (nomark _))
        (pss_cons (ps_set (i := 2) scChoose.nd rfl (Or.inl rfl) (pe_op op_mod (pe_callTy call_int1 (by rfl) T.int (by decide +kernel) (pa_cons (pe_ix ix_list (pv 0) pe_int (fun _ _ => rfl)) pa_nil)) (pv 1)))
        (pss_cons (ps_asg (pe_op op_fdivW (pe_ix ix_list (pv 0) pe_int (fun _ _ => rfl)) (pv 1)) (pg_sub (pv 0) pe_int set_list))
        (pss_one (ps_ret (pv 2))))) pss_nil)
      (pss_cons (ps_set (i := 3) scChoose.nd rfl (Or.inl rfl) (pe_op op_mod (pe_callTy call_int1 (by rfl) T.int (by decide +kernel) (pa_cons (pe_op op_add (pe_op op_mul (pe_ix ix_list (pv 0) pe_int (fun _ _ => rfl)) pe_int) pe_int) pa_nil)) pe_int))
      (pss_cons (ps_asg (pe_op op_add (pe_op op_mod (pe_callTy call_int1 (by rfl) T.int (by decide +kernel) (pa_cons (pe_op op_add (pe_op op_mul (pv 3) pe_int) pe_int) pa_nil)) pe_int) pe_int) (pg_sub (pv 0) pe_int set_list))
      (pss_one (ps_ret (pe_op op_mod (pe_callTy call_int1 (by rfl) T.int (by decide +kernel) (pa_cons (pe_op op_fdivW (pe_op op_add (pe_op op_mul (pv 3) pe_int) (pe_ix ix_list (pv 0) pe_int (fun _ _ => rfl))) pe_int) pa_nil)) (pv 1)))))), ?_⟩
    obtain ⟨u0, v1, v2⟩ := ok
    have hm : (0 : Int) < m := by omega
    have hw : m.natAbs < 2 ^ 140 := by
      have : (2 : Nat) ^ 140 = 1393796574908163946345982392040522594123776 := by decide
      omega
    refine ⟨_, rfl, b, _, 0, _, rfl, rfl, SqL.of hb, rfl, _, _, rfl, rfl, _, rfl, ?_⟩
    refine ite2 (fun c => ?_) (fun c => ?_)
    · refine ⟨_, rfl, b, _, 0, _, rfl, rfl, SqL.of hb, rfl, .inl ⟨_, rfl, _, rfl, _, _, rfl, rfl, hm, ?_⟩⟩
      refine ⟨_, rfl, b, _, 0, _, rfl, rfl, SqL.of hb, rfl, _, rfl, _, _, rfl, rfl, wide_div hm hw (by decide) (by decide), ?_⟩
      refine ⟨_, rfl, b, _, 0, 0, rfl, rfl, hb, rfl, _, rfl, ?_⟩
      exact k _ _ _ (Int.emod_nonneg _ (by omega)) (Int.emod_lt_of_pos _ hm) ⟨Int.ediv_nonneg u0 (by omega), v1, v2⟩
    · refine ⟨_, rfl, b, _, 1, _, rfl, rfl, SqL.of hb, rfl, _, _, rfl, rfl, .inl (by constructor <;> omega), _, _, rfl, rfl, .inl ⟨_, rfl, _, _, rfl, rfl, (by show (0 : Int) < 2147483563; decide), ?_⟩⟩
      have a1 := Int.emod_nonneg (v * 40014 + 11) (by decide : (2147483563 : Int) ≠ 0)
      have a2 := Int.emod_lt_of_pos (v * 40014 + 11) (by decide : (0 : Int) < 2147483563)
      refine ⟨_, rfl, _, _, rfl, rfl, .inl (by constructor <;> omega), _, _, rfl, rfl, .inl ⟨_, rfl, _, _, rfl, rfl, (by show (0 : Int) < 2147483629; decide), _, _, rfl, rfl, ?_⟩⟩
      refine ⟨_, rfl, b, _, 1, 1, rfl, rfl, hb, rfl, ?_⟩
      have b1 := Int.emod_nonneg ((v * 40014 + 11) % 2147483563 * 40692 + 2903) (by decide : (2147483629 : Int) ≠ 0)
      have b2 := Int.emod_lt_of_pos ((v * 40014 + 11) % 2147483563 * 40692 + 2903) (by decide : (0 : Int) < 2147483629)
      refine ⟨_, rfl, _, _, rfl, rfl, .inl (by constructor <;> omega), _, rfl, b, _, 1, _, rfl, rfl, SqL.of upd_same, rfl, _, _, rfl, rfl, _, _, rfl, rfl, wide_div (b := 14) (by decide) (by decide) (by decide) (by decide), .inl ⟨_, rfl, _, rfl, _, _, rfl, rfl, hm, ?_⟩⟩
      exact k _ _ _ (Int.emod_nonneg _ (by omega)) (Int.emod_lt_of_pos _ hm) ⟨u0, by omega, by omega⟩
theorem ok_oneOf {f : Addr} {fd : FuncData} (F : Fun K "_law_one_of" "_law_one_of" sOneOf f fd) (T : Blt mg) (c : Cal P w K mg base CX0 "_law_choose" 1 ["_law_box", "_law_many"] spChoose) : FnOk P w K mg base CX0 2 f fd ["_law_box", "_law_some"] (spOneOf K) := by
  obtain ⟨fC, fdC, GC, mC, kC, bC⟩ := c
  refine F.ok scOneOf (fun vs H Q E h => ?_) (fun cdv A outer s H vs Q E hr h => ?_)
  · obtain ⟨b, l, u, v, xs, rfl, _⟩ := h
    rfl
  · obtain ⟨b, l, u, v, xs, rfl, hb, ok, ne, hS, x1, x2, k⟩ := h
    refine ⟨_, pss_one (ps_ret (pe_ix ix_list (pv 1) (pe_call GC hr rfl mC kC bC .nil pass0 (pa_cons (pv 0) (pa_cons (pe_callB call_len_seq (by rfl) T.len PySem.boot_len (pa_cons (pv 1) pa_nil)) pa_nil))) (fun _ _ => rfl))), ?_⟩
    refine ⟨_, rfl, _, rfl, _, rfl, l, _, rfl, .inl hS, b, u, v, _, rfl, hb, ok, (by omega), (by omega), fun d u' v' d0 d1 ok' => ?_⟩
    have hj : d.toNat < xs.length := by omega
    refine ⟨l, xs, d, xs[d.toNat], rfl, rfl, ?_, ?_, k _ _ _ (List.getElem_mem hj) ok'⟩
    · exact seqL_ne ne hS
    · have e : ixN xs.length d = some d.toNat := by
        unfold ixN
        rw [if_pos d0, if_pos (by omega)]
      show (ixN xs.length d).bind (fun j => xs[j]?) = some xs[d.toNat]
      rw [e]
      exact List.getElem?_eq_getElem hj
theorem ok_seed {f : Addr} {fd : FuncData} (F : Fun K "_law_seed" "_law_seed" sSeed f fd) (T : Blt mg) : FnOk P w K mg base CX0 1 f fd ["_law_script", "_law_k"] (spSeed K) := by
  refine F.ok scSeed (fun vs H Q E h => ?_) (fun cdv A outer s H vs Q E hr h => ?_)
  · obtain ⟨a, ns, k, rfl, _⟩ := h
    rfl
  · obtain ⟨a, ns, k, rfl, hS, hl, k0, k1, go⟩ := h
    refine ⟨_, pss_cons (ps_set (i := 2) scSeed.nd rfl (Or.inl rfl) (pe_op op_add (pe_op op_mul pe_int (pv 1)) pe_int))
      (pss_cons (ps_if (pt_cmpR op_lt (pv 1) (pe_callB call_len_seq (by rfl) T.len PySem.boot_len (pa_cons (pv 0) pa_nil)) (nomark _))
        (pss_one (ps_set (i := 2) scSeed.nd rfl (Or.inl rfl) (pe_callB call_abs (by rfl) T.abs (by decide +kernel) (pa_cons (pe_ix ix_list (pv 0) (pv 1) (fun _ _ => rfl)) pa_nil))))
        (pss_one (ps_if (pt_cmpR op_gt (pe_callB call_len_seq (by rfl) T.len PySem.boot_len (pa_cons (pv 0) pa_nil)) pe_int (nomark _))
          (pss_one (ps_set (i := 2) scSeed.nd rfl (Or.inl rfl) (pe_op op_add (pv 2) (pe_op op_mul (pe_op op_mod (pe_callTy call_int1 (by rfl) T.int (by decide +kernel) (pa_cons (pe_callB call_abs (by rfl) T.abs (by decide +kernel) (pa_cons (pe_ix ix_list (pv 0) (pe_op op_mod (pe_callTy call_int1 (by rfl) T.int (by decide +kernel) (pa_cons (pv 1) pa_nil)) (pe_callB call_len_seq (by rfl) T.len PySem.boot_len (pa_cons (pv 0) pa_nil))) (fun _ _ => rfl)) pa_nil)) pa_nil)) pe_int) pe_int))))
          pss_nil)))
      (pss_one (ps_ret (pe_lst (pa_cons (pe_ifExp (pt_cmpR op_ge (pv 2) (pe_op op_pow pe_int pe_int) (nomark _)) (pv 2) pe_int)
        (pa_cons (pe_op op_add (pe_op op_mod (pe_callTy call_int1 (by rfl) T.int (by decide +kernel) (pa_cons (pe_op op_add (pe_op op_mul (pe_op op_mod (pe_callTy call_int1 (by rfl) T.int (by decide +kernel) (pa_cons (pv 2) pa_nil)) pe_int) pe_int) (pe_op op_mul pe_int (pv 1))) pa_nil)) pe_int) pe_int) pa_nil)))))), ?_⟩
    have hk1 : -(2 ^ 64) < (7411 : Int) ∧ (7411 : Int) < 2 ^ 64 := by constructor <;> decide
    refine ⟨_, rfl, _, _, rfl, rfl, .inl hk1, _, _, rfl, rfl, ?_⟩
    refine ⟨_, rfl, _, rfl, a, _, rfl, .inl hS, _, _, rfl, rfl, _, rfl, ?_⟩
    rw [List.length_map]
    refine ite2 (fun c => ?wayA) (fun c => ?wayB)
    case' wayA =>
      have c' : k < (ns.length : Int) := of_decide_eq_true c
      have hj : k.toNat < ns.length := by omega
      refine ⟨_, rfl, _, rfl, a, _, k, .int ns[k.toNat], rfl, rfl, hS, atI_ints k0 hj, _, rfl, ?_⟩
      have hc : 0 ≤ (if ns[k.toNat] < 0 then -ns[k.toNat] else ns[k.toNat]) := by split <;> omega
      generalize (if ns[k.toNat] < 0 then -ns[k.toNat] else ns[k.toNat]) = cell at hc
    case' wayB =>
      refine ⟨_, rfl, a, _, rfl, .inl hS, _, _, rfl, rfl, _, rfl, ?_⟩
      rw [List.length_map]
      refine ite2 (fun c2 => ?wayC) (fun c2 => ?wayD)
    case' wayC =>
      have c' : (0 : Int) < (ns.length : Int) := of_decide_eq_true c2
      have r0 := Int.emod_nonneg k (show (ns.length : Int) ≠ 0 by omega)
      have r1 := Int.emod_lt_of_pos k c'
      have hj : (k % (ns.length : Int)).toNat < ns.length := by omega
      refine ⟨_, rfl, _, rfl, _, rfl, .inl ⟨_, rfl, _, rfl, a, _, rfl, .inl hS, _, _, rfl, rfl, (by rw [List.length_map]; exact c'), ?_⟩⟩
      rw [List.length_map]
      refine ⟨a, _, k % (ns.length : Int), .int ns[(k % (ns.length : Int)).toNat], rfl, rfl, hS, atI_ints r0 hj, _, rfl, .inl ⟨_, rfl, _, _, rfl, rfl, (by show (0 : Int) < 2147483629; decide), _, _, rfl, rfl, .inr (by constructor <;> decide), _, _, rfl, rfl, ?_⟩⟩
      generalize (if ns[(k % (ns.length : Int)).toNat] < 0 then -ns[(k % (ns.length : Int)).toNat] else ns[(k % (ns.length : Int)).toNat]) = z
      have z0 := Int.emod_nonneg z (by decide : (2147483629 : Int) ≠ 0)
      have hc : 0 ≤ 7411 * k + 29 + z % 2147483629 * 40093 := by omega
      generalize 7411 * k + 29 + z % 2147483629 * 40093 = cell at hc
    case' wayD =>
      have hc : 0 ≤ 7411 * k + 29 := by omega
      generalize 7411 * k + 29 = cell at hc
    all_goals (
      refine ⟨_, rfl, _, _, rfl, rfl, ⟨by decide, by decide, by decide⟩, _, _, rfl, rfl, _, rfl, ?_⟩
      have e1 := Int.emod_nonneg cell (by decide : (2147483629 : Int) ≠ 0)
      have e2 := Int.emod_lt_of_pos cell (by decide : (0 : Int) < 2147483629)
      have f1 := Int.emod_nonneg (cell % 2147483629 * 48271 + 20021 * k) (by decide : (2147483629 : Int) ≠ 0)
      have f2 := Int.emod_lt_of_pos (cell % 2147483629 * 48271 + 20021 * k) (by decide : (0 : Int) < 2147483629)
      refine ite2 (fun _ => ⟨_, rfl, ?_⟩) (fun _ => ?_)
      all_goals (
        refine ⟨_, rfl, .inl ⟨_, rfl, _, _, rfl, rfl, (by show (0 : Int) < 2147483629; decide), _, _, rfl, rfl, .inl (by constructor <;> omega), _, rfl, _, _, rfl, rfl, .inl (by constructor <;> decide), _, _, rfl, rfl, .inl ⟨_, rfl, _, _, rfl, rfl, (by show (0 : Int) < 2147483629; decide), _, _, rfl, rfl, (by show 2 ≤ sizeLine; decide), fun p hp => ?_⟩⟩⟩
        exact go p _ _ hp ⟨by omega, by omega, by omega⟩))
end
end V3

set_option Elab.async false
set_option linter.all false
set_option maxRecDepth 100000
namespace V3
open PySem L2
abbrev sIsInt : Stmt := top 1
abbrev sIsNum : Stmt := top 2
theorem scIsInt : FnScope ["value"] ["value"] (defScope sIsInt) := ⟨rfl, rfl, rfl, by decide +kernel, rfl, by decide +kernel, by decide +kernel⟩
theorem scIsNum : FnScope ["value"] ["value"] (defScope sIsNum) := ⟨rfl, rfl, rfl, by decide +kernel, rfl, by decide +kernel, by decide +kernel⟩
end V3

set_option Elab.async false
set_option linter.all false
set_option maxRecDepth 100000
namespace V3
open PySem L2
abbrev sIsAmt : Stmt := top 3
abbrev sImInit : Stmt := inClass (top 7) 0
abbrev sBInit : Stmt := inClass (top 11) 0
abbrev sBStr : Stmt := inClass (top 11) 2
abbrev sTInit : Stmt := inClass (top 12) 0
abbrev sTStr : Stmt := inClass (top 12) 2
abbrev sRInit : Stmt := inClass (top 13) 0
abbrev sRStr : Stmt := inClass (top 13) 2
/-- any value: none of it too great -/
inductive AV (H : Hp) : V → Prop where
  | non : AV H .non
  | bl (b : Bool) : AV H (.bl b)
  | int (i : Int) (h : i.natAbs ≤ 10000000000000000000000000000000000000000) : AV H (.int i)
  | str (z : Str) : AV H (.str z)
  | lst {a : Addr} {xs : List V} (h : H a = some (.lst xs)) : AV H (.ref a)
  | tup {a : Addr} {xs : List V} (h : H a = some (.tup xs)) : AV H (.ref a)
theorem AV.same {H H' : Hp} {v : V} (h : AV H v) (s : Same H H') : AV H' v := by
  cases h with
  | non => exact .non
  | bl b => exact .bl b
  | int i h => exact .int i h
  | str z => exact .str z
  | lst h => exact .lst (s _ _ h)
  | tup h => exact .tup (s _ _ h)
def isNum : V → Int → Bool
  | .int i, n => decide (n ≤ i)
  | _, _ => false
def isI : V → Bool
  | .int _ => true
  | .bl _ => true
  | _ => false
def isB : V → Bool
  | .bl _ => true
  | _ => false
theorem av_ty {K : PySem.W.Frag} {H : Hp} {v : V} (h : AV H v) : ∃ t, TyX K H v t ∧ PySem.W.kitOne K t (.type "int") = some (isI v) ∧ PySem.W.kitOne K t (.type "bool") = some (isB v) := by
  cases h with
  | non => exact ⟨_, .base .non, (show PySem.W.kitOne K (.type "NoneType") (.type "int") = some false from kit_ty (by decide +kernel)), (show PySem.W.kitOne K (.type "NoneType") (.type "bool") = some false from kit_ty (by decide +kernel))⟩
  | bl b => exact ⟨_, .base (.bl b), (show PySem.W.kitOne K (.type "bool") (.type "int") = some true from kit_ty (by decide +kernel)), (show PySem.W.kitOne K (.type "bool") (.type "bool") = some true from kit_ty (by decide +kernel))⟩
  | int i h => exact ⟨_, .base (.int i), (show PySem.W.kitOne K (.type "int") (.type "int") = some true from kit_ty (by decide +kernel)), (show PySem.W.kitOne K (.type "int") (.type "bool") = some false from kit_ty (by decide +kernel))⟩
  | str z => exact ⟨_, .base (.str z), (show PySem.W.kitOne K (.type "str") (.type "int") = some false from kit_ty (by decide +kernel)), (show PySem.W.kitOne K (.type "str") (.type "bool") = some false from kit_ty (by decide +kernel))⟩
  | lst h => exact ⟨_, .base (.lst h), (show PySem.W.kitOne K (.type "list") (.type "int") = some false from kit_ty (by decide +kernel)), (show PySem.W.kitOne K (.type "list") (.type "bool") = some false from kit_ty (by decide +kernel))⟩
  | tup h => exact ⟨_, .base (.tup h), (show PySem.W.kitOne K (.type "tuple") (.type "int") = some false from kit_ty (by decide +kernel)), (show PySem.W.kitOne K (.type "tuple") (.type "bool") = some false from kit_ty (by decide +kernel))⟩
theorem num_of {v : V} {n : Int} (h : isNum v n = true) : ∃ i : Int, v = .int i ∧ n ≤ i := by
  cases v with
  | int i => exact ⟨i, rfl, of_decide_eq_true h⟩
  | _ => cases h
structure BltB (mg : Str → Option Value) : Prop where
  isi : mg "isinstance" = none
  int : mg "int" = none
  bool : mg "bool" = none
def isIntV : V → Bool
  | .int _ => true
  | _ => false
def spInt : Sp := fun vs H Q _ => ∃ v, vs = [v] ∧ AV H v ∧ Q (.bl (isIntV v)) H
def spNum : Sp := fun vs H Q _ => ∃ v, vs = [v] ∧ AV H v ∧ Q (.bl (isNum v 0)) H
def spAmt : Sp := fun vs H Q _ => ∃ v, vs = [v] ∧ AV H v ∧ Q (.bl (isNum v 1)) H
section
variable {P : Program} {w : World} {K : PySem.W.Frag} {mg : Str → Option Value} {base : Heap}
theorem scIsAmt : FnScope ["value"] ["value"] (defScope sIsAmt) := ⟨rfl, rfl, rfl, by decide +kernel, rfl, by decide +kernel, by decide +kernel⟩
theorem ok_isInt {f : Addr} {fd : FuncData} (F : Fun K "is_integer" "is_integer" sIsInt f fd) (T : BltB mg) : FnOk P w K mg base CX0 1 f fd ["value"] spInt := by
  refine F.ok scIsInt (fun vs H Q E h => ?_) (fun cdv A outer s H vs Q E hr h => ?_)
  · obtain ⟨v, rfl, _⟩ := h
    rfl
  · obtain ⟨v, rfl, av, q⟩ := h
    obtain ⟨t, ty, k1, k2⟩ := av_ty (K := K) av
    refine ⟨_, pss_one (ps_ret (pe_and (pe_callB call_isi (by rfl) T.isi (by decide +kernel) (pa_cons (pv 0) (pa_cons (pe_bltn (v := .ty "int") (by rfl) T.int (by decide +kernel) rfl) pa_nil)))
      (pe_one (pe_not (pe_callB call_isi (by rfl) T.isi (by decide +kernel) (pa_cons (pv 0) (pa_cons (pe_bltn (v := .ty "bool") (by rfl) T.bool (by decide +kernel) rfl) pa_nil))))))), ?_⟩
    refine ⟨_, rfl, _, _, t, _, _, rfl, .ty "int", ty, k1, _, rfl, ?_⟩
    cases v with
    | int i =>
      refine iteT ?_
      exact ⟨_, rfl, _, _, t, _, _, rfl, .ty "bool", ty, k2, _, rfl, q⟩
    | bl b =>
      refine iteT ?_
      exact ⟨_, rfl, _, _, t, _, _, rfl, .ty "bool", ty, k2, _, rfl, q⟩
    | non => exact iteF q
    | str z => exact iteF q
    | ref a => exact iteF q
    | byt z => exact iteF q
    | flt z => exact iteF q
    | ty z => exact iteF q
theorem ok_isNum {f : Addr} {fd : FuncData} (F : Fun K "is_number" "is_number" sIsNum f fd) (c : Cal P w K mg base CX0 "is_integer" 1 ["value"] spInt) : FnOk P w K mg base CX0 2 f fd ["value"] spNum := by
  obtain ⟨fI, fdI, GI, mI, kI, bI⟩ := c
  refine F.ok scIsNum (fun vs H Q E h => ?_) (fun cdv A outer s H vs Q E hr h => ?_)
  · obtain ⟨v, rfl, _⟩ := h
    rfl
  · obtain ⟨v, rfl, av, q⟩ := h
    refine ⟨_, pss_one (ps_ret (pe_and (pe_call GI hr rfl mI kI bI .nil pass0 (pa_cons (pv 0) pa_nil)) (pe_one (pe_cmpR op_ge (pv 0) pe_int (nomark _))))), ?_⟩
    refine ⟨_, rfl, v, rfl, av, _, rfl, ?_⟩
    cases v with
    | int i => exact iteT ⟨_, rfl, _, _, rfl, rfl, q⟩
    | bl b => exact iteF q
    | non => exact iteF q
    | str z => exact iteF q
    | ref a => exact iteF q
    | byt z => exact iteF q
    | flt z => exact iteF q
    | ty z => exact iteF q
theorem ok_isAmt {f : Addr} {fd : FuncData} (F : Fun K "is_amount" "is_amount" sIsAmt f fd) (c : Cal P w K mg base CX0 "is_number" 2 ["value"] spNum) : FnOk P w K mg base CX0 3 f fd ["value"] spAmt := by
  obtain ⟨fN, fdN, GN, mN, kN, bN⟩ := c
  refine F.ok scIsAmt (fun vs H Q E h => ?_) (fun cdv A outer s H vs Q E hr h => ?_)
  · obtain ⟨v, rfl, _⟩ := h
    rfl
  · obtain ⟨v, rfl, av, q⟩ := h
    refine ⟨_, pss_one (ps_ret (pe_and (pe_call GN hr rfl mN kN bN .nil pass0 (pa_cons (pv 0) pa_nil)) (pe_one (pe_cmpR op_gt (pv 0) pe_int (nomark _))))), ?_⟩
    refine ⟨_, rfl, v, rfl, av, _, rfl, ?_⟩
    cases e : isNum v 0 with
    | false =>
      refine iteF ?_
      have z : isNum v 1 = false := by
        cases v with
        | int i =>
          have h1 : ¬ (0 : Int) ≤ i := of_decide_eq_false e
          exact decide_eq_false (by omega)
        | _ => rfl
      rw [z] at q
      exact q
    | true =>
      obtain ⟨i, rfl, hi⟩ := num_of e
      refine iteT ⟨_, rfl, _, _, rfl, rfl, ?_⟩
      have z : isNum (.int i) 1 = decide (0 < i) := by
        show decide (1 ≤ i) = decide (0 < i)
        by_cases c : 0 < i
        · rw [decide_eq_true c, decide_eq_true (show 1 ≤ i by omega)]
        · rw [decide_eq_false c, decide_eq_false (show ¬ 1 ≤ i by omega)]
      rw [z] at q
      exact q
end
end V3

set_option Elab.async false
set_option linter.all false
set_option maxRecDepth 100000
/-! == and != of objects of our own classes, by their own __eq__, whatever it answers. -/
namespace V3
open PySem PySem.Spec PyProof.Rows L2
section
variable {prog : Program} {w : World} {A : Around} {E : Value → Shared → Prop} {s : Shared} {K : PySem.W.Frag} {x C L f : Addr} {h₀ : Heap} {m : Str → Option Value} {ox : Obj} {od : Option Obj} {name : Str} {b tb : Value}
theorem ifBound_B {M : Model} {args : List Value} {id : String} {Q : Option Value → Shared → Prop} (X : K.In s.heap) (I : PySem.W.InstAt s.heap x ox C od) (hs : PySem.W.findIn K (.ref C) name = some (some (.builtin id)))
    (hb : ∀ self, bindSpecial (.builtin id) self = pure (.builtin id, [self]))
    (h : wpAny M A (call (.builtin id) (.ref x :: args)) (fun v => Q (some v)) E s) : wpAny M A (callSpecialIfBound? (.ref x) name args) Q E s := by
  simp only [callSpecialIfBound?, bindSpecialIfBound?]
  refine wpAny_holding (wpAny_bind (wpAny_bind (wpAny_bind (I.type.here ((PySem.W.looks_findIn X hs).here ?_)))))
  simp only [hb]
  refine wpAny_bind (wpAny_askSetting (wpAny_ite ?_))
  have fin : wpAny M A (call (.builtin id) ([.ref x] ++ args) >>= fun v => pure (some v)) Q E s := wpAny_bind (wpAny_mono h (fun v s' h' => wpAny_pure h') fun _ _ h' => h')
  split
  · exact wpAny_bind (wpAny_pure (wpAny_pure fin))
  · exact wpAny_tryCatch (wpAny_bind (wpAny_pure (wpAny_pure fin)))
theorem ne_entry {Q : Fin → Shared → Prop} (hu : A.units < cLine) (X : K.In s.heap) (I : PySem.W.InstAt s.heap x ox C od) (hs : PySem.W.findIn K (.ref C) "__eq__" = some (some (.ref f))) (hf : PySem.W.isFn K (.ref f) = true)
    (h : wpAny (model prog w) A (call (.ref f) [.ref x, b]) (fun v s' => ∃ r, v = .bool r ∧ Q (.done (.ret (.bool (!r)))) s') E s) :
    wpAny (model prog w) A (Builtin.«object.__ne__» ⟨[.ref x, b], []⟩) Q E s := by
  unfold Builtin.«object.__ne__»
  repeat (first | with_reducible refine wpAny_cRoomFor hu ?_ | with_reducible refine wpAny_bind (PySem.W.ifBound_K X I hs hf (wpAny_mono h (fun v s' hv => ?_) fun _ _ e => e)) | wp_step)
  obtain ⟨r, rfl, q⟩ := hv
  repeat wp_step
  exact q
theorem ne_K {Q : Value → Shared → Prop} (hu : A.units + 1 < cLine) (F : PyProof.Rows.Fr h₀ L s.heap m) (X₀ : K.In h₀) (I : PySem.W.InstAt s.heap x ox C od) (hb : PySem.W.Looks (model prog w) s.heap (typeOf b) tb) (hn : PySem.W.notFirst K C tb = true)
    (hs : PySem.W.findIn K (.ref C) "__eq__" = some (some (.ref f))) (hf : PySem.W.isFn K (.ref f) = true)
    (hne : PySem.W.findIn K (.ref C) "__ne__" = some (some (.builtin "object.__ne__"))) (hob : PySem.W.subIn K (.ref C) (.type "object") = some true)
    (h : wpAny (model prog w) A.in1 (call (.ref f) [.ref x, b]) (fun v s' => ∃ r, v = .bool r ∧ Q (.bool (!r)) s') E s) : wpAny (model prog w) A (richCompare .NotEq (.ref x) b) Q E s := by
  have X := X₀.keeps F.keep
  have hu0 : A.units < cLine := Nat.lt_of_succ_lt hu
  have one : wpAny (model prog w) A (tryCompare (.ref x) "__ne__" b) (fun r s' => ∃ v, r = some v ∧ Q v s') E s := by
    unfold tryCompare
    refine wpAny_bind (ifBound_B X I hne (fun self => PySem.F.cmp_object.ne.bind self) ?_)
    refine wpAny_call (codeAny_call_builtin PySem.F.cmp_object.ne.plain PySem.F.cmpEntry_ne (PySem.W.check_slot PySem.F.cmpKind_ne PySem.F.cmpSplit_ne (I.type.andThen (PySem.W.looks_subIn X hob)) (PySem.F.cmpArgs_ne _ _) (ne_entry (A := A.in1) hu X I hs hf ?_)))
    refine wpAny_mono h (fun v s' hv => ?_) fun _ _ e => e
    obtain ⟨r, rfl, q⟩ := hv
    exact ⟨r, rfl, wpAny_pure ⟨_, rfl, q⟩⟩
  unfold richCompare
  simp only [oneThing_ref]
  refine wpAny_holding (wpAny_bind (wpAny_cRoomFor hu0 ?_))
  refine wpAny_bind (I.type.here (wpAny_bind (hb.here ?_)))
  split
  · rename_i q
    have e : PySem.W.subIn K tb (.ref C) = some false := by
      rcases Bool.or_eq_true_iff.mp hn with e | e
      · rw [beq_iff_eq.mp e] at q; simp at q
      · exact beq_iff_eq.mp e
    refine wpAny_bind ((PySem.W.looks_subIn X e).here ?_)
    simp only [Bool.false_eq_true, if_false]
    refine wpAny_bind (wpAny_mono one (fun r s' z => ?_) fun _ _ e => e)
    obtain ⟨v, rfl, hq⟩ := z
    exact wpAny_pure hq
  · refine wpAny_bind (wpAny_pure ?_)
    simp only [Bool.false_eq_true, if_false]
    refine wpAny_bind (wpAny_mono one (fun r s' z => ?_) fun _ _ e => e)
    obtain ⟨v, rfl, hq⟩ := z
    exact wpAny_pure hq
end
/-- a class with an own __eq__ at f and the __ne__ of object -/
structure EqCls (K : PySem.W.Frag) (C f : Addr) : Prop where
  eq : PySem.W.findIn K (.ref C) "__eq__" = some (some (.ref f))
  fn : PySem.W.isFn K (.ref f) = true
  ne : PySem.W.findIn K (.ref C) "__ne__" = some (some (.builtin "object.__ne__"))
  ob : PySem.W.subIn K (.ref C) (.type "object") = some true
section
variable {X : Cx} {CX : CXT} {n : Nat} {f C D : Addr} {fd : FuncData} {ps : List Str} {sp : Sp} {E : XK}
/-- f called at a pair, somewhere below the running body -/
theorem run_own {A : Around} {pins : List (Addr × Obj)} {s : Shared} {σ : L2.St} {H : Hp} {x y : V} {u v : Value} {Q : VK} (sb : Sub X n A) (F : FnOk X.prog X.w X.K X.mg X.base CX n f fd ps sp) (hb : Binds X.K fd ps []) (hx : Passes CX X E)
    (I : Inv X pins σ H s) (rx : RelV x u) (ry : RelV y v) (h : sp [x, y] H Q E) : wpAny (model X.prog X.w) A (call (.ref f) [u, v]) (EP X pins σ Q) X.xe s := by
  have e0 : Env0 X.prog X.w X.K X.mg X.base A X.stack s H := by
    have e := I.env0
    exact ⟨by rw [sb.fr]; exact e.frames, e.mod, e.bs, e.bsz, e.funs, e.frf, e.hok, e.bare⟩
  have hl := F.len _ _ _ _ h
  have r2 : Vals [x, y] [u, v] := .cons rx (.cons ry .nil)
  refine wpAny_call (codeAny_mono (F.run A X.stack s H ⟨[u, v], []⟩ [u, v] [x, y] _ E sb.room e0 (by
    have := hb s [u, v] I.kIn (by simpa using hl)
    simpa using this) r2 h) fun r s' hq => ?_)
  cases r with
  | error e => exact hx pins σ H s e s' I hq
  | ok fl =>
    cases fl with
    | ret w =>
      obtain ⟨z, H', I', rz, q⟩ := I.after hq
      exact ⟨z, H', I', rz, q⟩
    | next => exact False.elim hq
    | brk => exact False.elim hq
    | cont => exact False.elim hq
/-- x == y, x an object whose class has the own __eq__ -/
def rEqO (K : PySem.W.Frag) (n : Nat) (FF : Addr → Sp → XK → Prop) (neg : Bool) : R2 := fun x y H Q => ∃ (a C dx : Addr) (fs : List (Str × V)) (b D dy : Addr) (gs : List (Str × V)) (sp : Sp) (E : XK), x = .ref a ∧ y = .ref b ∧ H a = some (.ins C dx fs) ∧ H b = some (.ins D dy gs) ∧
  FF C sp E ∧ PySem.W.notFirst K C (.ref D) = true ∧ sp [x, y] H (fun v H' => ∃ r : Bool, v = .bl r ∧ Q (.bl (r != neg)) H') E
theorem op_eqO {FF : Addr → Sp → XK → Prop} (hF : ∀ C sp E, FF C sp E → ∃ (CX : CXT) (f : Addr) (fd : FuncData) (ps : List Str), FnOk X.prog X.w X.K X.mg X.base CX n f fd ps sp ∧ EqCls X.K C f ∧ Binds X.K fd ps [] ∧ Passes CX X E) (hr : Room n X.A) :
    OpR X (compareOp .Eq) (rEqO X.K n FF false) := by
  intro pins s σ H x y v u Q I rx ry hq
  obtain ⟨a, C, dx, fs, b, D, dy, gs, sp, E, rfl, rfl, ha, hb, ff, hn, hsp⟩ := hq
  obtain ⟨CX, f, fd, ps, F, ec, bi, hx⟩ := hF C sp E ff
  cases rx
  cases ry
  obtain ⟨mA, J, _⟩ := ins_get I.hok ha
  obtain ⟨mB, J', _⟩ := ins_get I.hok hb
  obtain ⟨od, J, _⟩ := J.look
  obtain ⟨od', J', _⟩ := J'.look
  obtain ⟨m, hF⟩ := I.fr
  show wpAny (model X.prog X.w) X.A (richCompare .Eq (.ref a) (.ref b)) (EP X pins σ Q) X.xe s
  refine PySem.W.cmp_K (op := .Eq) (tb := .ref D) hr.units0 hF I.ok.mod.kin J J'.type hn ec.eq ec.fn ?_
  refine wpAny_mono (run_own (x := .ref a) (y := .ref b) ⟨hr, rfl⟩ F bi hx I rfl rfl hsp) (fun w s' q => ?_) fun _ _ e => e
  obtain ⟨z, H', I', rz, r, ez, q⟩ := q
  subst ez
  cases rz
  refine ⟨.bl r, H', I', rfl, ?_⟩
  have e : (r != false) = r := by cases r <;> rfl
  rw [e] at q
  exact q
theorem op_neO {FF : Addr → Sp → XK → Prop} (hF : ∀ C sp E, FF C sp E → ∃ (CX : CXT) (f : Addr) (fd : FuncData) (ps : List Str), FnOk X.prog X.w X.K X.mg X.base CX n f fd ps sp ∧ EqCls X.K C f ∧ Binds X.K fd ps [] ∧ Passes CX X E) (hr : Room (n + 1) X.A) :
    OpR X (compareOp .NotEq) (rEqO X.K n FF true) := by
  intro pins s σ H x y v u Q I rx ry hq
  obtain ⟨a, C, dx, fs, b, D, dy, gs, sp, E, rfl, rfl, ha, hb, ff, hn, hsp⟩ := hq
  obtain ⟨CX, f, fd, ps, F, ec, bi, hx⟩ := hF C sp E ff
  cases rx
  cases ry
  obtain ⟨mA, J, _⟩ := ins_get I.hok ha
  obtain ⟨mB, J', _⟩ := ins_get I.hok hb
  obtain ⟨od, J, _⟩ := J.look
  obtain ⟨od', J', _⟩ := J'.look
  obtain ⟨m, hF⟩ := I.fr
  show wpAny (model X.prog X.w) X.A (richCompare .NotEq (.ref a) (.ref b)) (EP X pins σ Q) X.xe s
  refine ne_K (tb := .ref D) (by have := hr.units; omega) hF I.ok.mod.kin J J'.type hn ec.eq ec.fn ec.ne ec.ob ?_
  refine wpAny_mono (run_own (x := .ref a) (y := .ref b) (A := X.A.in1) ⟨hr.in1, rfl⟩ F bi hx I rfl rfl hsp) (fun w s' q => ?_) fun _ _ e => e
  obtain ⟨z, H', I', rz, r, ez, q⟩ := q
  subst ez
  cases rz
  refine ⟨r, rfl, .bl (!r), H', I', rfl, ?_⟩
  have e : (r != true) = !r := by cases r <;> rfl
  rw [e] at q
  exact q
end
end V3

set_option Elab.async false
set_option linter.all false
set_option maxRecDepth 100000
/-! functions that are called where no repr is under way: repr of nested lists and tuples -/
namespace V3
open PySem PySem.Spec PyProof.Rows L2
def NoG (A : Around) : Prop := A.guards = some []
theorem NoG.deeper {A : Around} (h : NoG A) (e : Env) : NoG (A.deeper e) := h
/-- what a def promises to such callers -/
structure FnG (P : Program) (w : World) (K : PySem.W.Frag)
    (mg : Str → Option Value) (base : Heap) (CX : CXT) (k : Nat)
    (f : Addr) (fd : FuncData) (ps : List Str) (sp : Sp) : Prop where
  len : ∀ vs H Q E, sp vs H Q E → vs.length = ps.length
  run : ∀ (A : Around) (up : List Env) (s : Shared) (H : Hp) (args : Args)
    (us : List Value) (vs : List V) (Q : VK) (E : XK),
    NoG A → Room k A → Env0 P w K mg base A up s H →
    BindsTo s fd args (ps.zip us) → Vals vs us → sp vs H Q E →
    codeAny (model P w) A (.call (.ref f) args) (CR CX up P w H s Q E) s
theorem FnG.of {P : Program} {w : World} {K : PySem.W.Frag} {mg : Str → Option Value} {base : Heap}
    {CX : CXT} {k : Nat} {f : Addr} {fd : FuncData} {ps : List Str} {sp : Sp}
    (F : FnOk P w K mg base CX k f fd ps sp) : FnG P w K mg base CX k f fd ps sp :=
  ⟨F.len, fun A up s H args us vs Q E _ => F.run A up s H args us vs Q E⟩
theorem FnG.up {P : Program} {w : World} {K : PySem.W.Frag} {mg : Str → Option Value} {base : Heap}
    {CX : CXT} {j k : Nat} {f : Addr} {fd : FuncData} {ps : List Str} {sp : Sp}
    (F : FnG P w K mg base CX j f fd ps sp) (h : j ≤ k) : FnG P w K mg base CX k f fd ps sp :=
  ⟨F.len, fun A up s H args us vs Q E g r => F.run A up s H args us vs Q E g (r.mono h)⟩
section
variable {P : Program} {w : World} {K : PySem.W.Frag} {mg : Str → Option Value} {base : Heap}
/-- the rule for a def of the text -/
theorem fnG {CX : CXT} {k : Nat} {f : Addr} {x qual : Str} {st : Stmt} {fd : FuncData}
    {N ps : List Str} {sp : Sp} (F : Fun K x qual st f fd) (S : FnScope N ps (defScope st))
    (len : ∀ vs H Q E, sp vs H Q E → vs.length = ps.length)
    (hbody : ∀ (cdv : Value) (A : Around) (up : List Env) (s : Shared) (H : Hp)
      (vs : List V) (Q : VK) (E : XK),
      NoG A → Room k (A.deeper (envOfC qual (defScope st) s.heap.objs.size f cdv)) →
      sp vs H Q E →
      ∃ t, PSs (cxOf CX P w K mg base N qual (defScope st) f cdv A up s H E) (defBody st) t ∧
        t { nx := fun _ H' => Q .non H', rt := Q } (start N vs) H) :
    FnG P w K mg base CX (k + 1) f fd ps sp := by
  obtain ⟨oc, od, kV, doc, pm, an, cdv, ct, osl, rfl, lk, hcd⟩ := F.ex
  refine ⟨len, fun A up s H args us vs Q E g room e0 bnd rel want => ?_⟩
  have nlen := len _ _ _ _ want
  have old := fun b o e => (e0.bs b o e).1
  have KX : K.In s.heap := e0.mod.kin.keeps old
  have lim := e0.mod.nolimit.keeps old
  have known : ∀ y ∈ ps.zip us, (defScope st).names.lookup y.1 = some .local ∨
      ((defScope st).names.lookup y.1 = some .cell ∧
        ((cellsFrom (s.heap.objs.size + 1) (defScope st).names []).lookup y.1).isSome = true) := by
    rintro ⟨n, v⟩ hy
    exact (S.par n (List.of_mem_zip hy).1).imp id fun q => ⟨q, PySem.W.cellsFrom_some _ _ _ (.inl q)⟩
  refine codeAny_call_function room.depth (KX _ _ lk) rfl S.co S.gen rfl
    (PySem.W.codeRec_of KX hcd) (bnd _ _ _ _ ?_)
  refine wpAny_newFunctionEnv_cells S.kind known fun env same s1 x => ?_
  subst same
  refine ⟨lim.keeps x.toInCall.keep, codeAny_func ?_⟩
  obtain ⟨t, ht, hq⟩ := hbody cdv A up s H vs Q E g (room.deeper _) want
  have I := inv_start (CX := CX) (E := E) S room.hd e0 nlen rel x
  refine wpAny_mono (ht.run [] s1 (start N vs) H _ I hq) (fun fl s' hs => ?_) fun e s' hs => hs
  match fl, hs with
  | .ret u, hs =>
    obtain ⟨v, σ', H', J, rv, q⟩ := hs
    exact ⟨v, H', J.os, J.bare, J.base, J.hok, rv, q⟩
  | .next, hs =>
    obtain ⟨σ', H', J, q⟩ := hs
    exact ⟨.non, H', J.os, J.bare, J.base, J.hok, rfl, q⟩
  | .brk, hs =>
    obtain ⟨_, _, _, q⟩ := hs
    exact q.elim
  | .cont, hs =>
    obtain ⟨_, _, _, q⟩ := hs
    exact q.elim
end
section
variable {X : Cx} {CX : CXT} {k : Nat} {f : Addr} {fd : FuncData} {ps : List Str} {sp : Sp}
  {dvs : List V} {ds : List Value} {E : XK} {x : Str} {p pos : Pos} {e : Expr} {es : List Expr} {t : TA}
theorem runG {pins : List (Addr × Obj)} {σ : L2.St} {H : Hp} {s : Shared} {Q : VK}
    {us : List Value} {vs : List V} (F : FnG X.prog X.w X.K X.mg X.base CX k f fd ps sp)
    (g : NoG X.A) (room : Room k X.A) (bi : Binds X.K fd ps ds) (va : Vals dvs ds)
    (out : Passes CX X E) (I : Inv X pins σ H s) (r : Vals vs us) (want : sp (vs ++ dvs) H Q E) :
    wpAny (model X.prog X.w) X.A (call (.ref f) us) (EP X pins σ Q) X.xe s := by
  have r2 := r.append va
  have nlen := r2.length.symm.trans (F.len _ _ _ _ want)
  have ran := F.run X.A X.stack s H ⟨us, []⟩ _ _ Q E g room I.env0 (bi s us I.kIn nlen) r2 want
  refine wpAny_call (codeAny_mono ran fun res s' hq => ?_)
  match res, hq with
  | .error err, hq => exact out pins σ H s err s' I hq
  | .ok (.ret u), hq => exact I.after hq
  | .ok .next, hq => exact hq.elim
  | .ok .brk, hq => exact hq.elim
  | .ok .cont, hq => exact hq.elim
/-- f(e, ..) -/
theorem pe_callG (F : FnG X.prog X.w X.K X.mg X.base CX k f fd ps sp) (g : NoG X.A)
    (room : Room k X.A) (hg : Gl X x) (hm : X.mg x = some (.ref f))
    (kp : PySem.W.keepIn X.K (.ref f) = true) (bi : Binds X.K fd ps ds) (va : Vals dvs ds)
    (out : Passes CX X E) (ha : PA X (e :: es) t)
    (hdb : (x == ("__debug__" : Str)) = false := by decide)
    (he : starEach (e :: es) X.env = (false, eval e X.env) :: starEach es X.env := by rfl)
    (hpl : (backTo pos (starEach es X.env)).any (·.1) = false := by rfl) :
    PE X (.Call (.Name x p) (e :: es) [] pos) (tCall sp dvs E t) := by
  refine ⟨fun pins s σ H Q I h => wpAny_Call_Name_kw (ld_glob I hg hm ?_ hdb)⟩
  refine PySem.W.callWith_K (h₀ := X.base) I.ok.mod.kin kp ?_ he hpl
  exact thn (ha.run pos pins s σ H _ I h) fun us s1 ⟨vs, H1, I1, r, q⟩ =>
    ⟨I1.kIn, runG F g room bi va out I1 r q⟩
/-- repr(v), v nested data -/
def rReprD (K : PySem.W.Frag) (A : Around) : List V → Hp → VK → Prop := fun xs H Q =>
  ∃ (a : Addr) (d : PyData), xs = [.ref a] ∧ Dp K H (.ref a) d ∧ d.showable = true ∧
    d.hasDict = false ∧ A.units + (d.depth + 1) < cLine ∧ d.shown.length ≤ sizeLine ∧ Q (.str d.shown) H
theorem call_reprD (g : NoG X.A) : CallR X (.builtin "repr") (rReprD X.K X.A) := by
  intro pins s σ H xs us Q I r h
  obtain ⟨a, d, rfl, hd, sh, nd, hu, hz, q⟩ := h
  obtain ⟨u, rfl, ru⟩ := vals1 r
  obtain ⟨as, rd⟩ := hd.reads I d _ _ ru
  cases ru
  exact repr_of_reads' rd sh (PyData.noDict_hsm nd) g hu (fun _ _ e => e)
    (fun h' u tk hk => ⟨.str d.shown, H, I.kept (t' := tk) hk, ⟨u, rfl⟩, q⟩) hz
end
end V3

set_option Elab.async false
set_option linter.all false
set_option maxRecDepth 100000
/-! the law's own call, where no repr is under way -/
namespace V3
open PySem PySem.Spec PyProof.Rows L2
section
variable {P : Program} {w : World} {K : PySem.W.Frag} {mg mb : Str → Option Value} {k : Nat}
  {fa a : Addr} {fd : FuncData} {x : Str} {sp : Sp} {s1 : Shared} {vs : List Value} {ns : List Int}
/-- nothing but the script is followed -/
structure Lone (H : Hp) (a : Addr) : Prop where
  only : Only H
  here : ∀ b, H b ≠ none → b = a
theorem law_from {H : Hp} (KX : K.In s1.heap) (hns : s1.heap.Ns mainGlobals mg)
    (hb : s1.heap.Ns builtinsNs mb) (hbb : ∀ y : Str, y ≠ "__name__" → mb y = bootBuiltins y)
    (lim : s1.heap.NoLimit) (gens : s1.gens = #[])
    (ha : s1.heap.get? a = some { cls := .type "list", data := .seq vs.toArray })
    (room : Room k callerA)
    (F : ∀ base : Heap, K.In base → base.Ns mainGlobals mg → FnG P w K mg base CX0 k fa fd [x] sp)
    (bi : ∀ (s : Shared) (u : Value), BindsTo s fd ⟨[u], []⟩ [(x, u)])
    (want : sp [.ref a] H (fun v _ => v = .bl true) fun _ _ _ => False)
    (lone : Lone H a) (hok : HOk P w H s1.heap) (free : H a ≠ none → K.lookup a = none) :
    codeAny (model P w) callerA (.call (.ref fa) ⟨[.ref a], []⟩)
      (fun r s' => r = .ok (.ret (.bool true)) ∧ OldK s1.heap s'.heap ∧ s'.os = s1.os ∧ AllBare s'.gens) s1 := by
  have at_a : ∀ {b : Addr}, H b ≠ none → b = a := fun {b} h => lone.here b h
  have kept : ∀ {b : Addr} {o : Obj}, s1.heap.get? b = some o → (b = a → H b = none) →
      (hidT s1.heap H).get? b = some o := by
    intro b o e n
    by_cases q : H b = none
    · exact hidT_get e q
    · exact hidT_get e (n (at_a q))
  have nsK : ∀ {b : Addr} {m : Str → Option Value}, s1.heap.Ns b m → (hidT s1.heap H).Ns b m := by
    rintro b m ⟨o, es, ep, e, d, r⟩
    refine ⟨o, es, ep, kept e fun z => ?_, d, r⟩
    subst z
    rw [ha] at e
    cases e
    exact nomatch d
  have hKb : K.In (hidT s1.heap H) := by
    intro b o e
    refine kept (KX b o e) fun z => ?_
    subst z
    by_cases q : H b = none
    · exact q
    · rw [free q] at e
      cases e
  obtain ⟨mc, c1, c2⟩ := lim
  have hM : Mod K mg (hidT s1.heap H) := ⟨hKb, nsK hns, ⟨mb, nsK hb, hbb⟩, mc, nsK c1, c2⟩
  have e0 : Env0 P w K mg (hidT s1.heap H) callerA [] s1 H :=
    ⟨rfl, hM, fun b o e => of_hidT e, Nat.le_of_eq (hidT_size _ _), trivial,
      fun b hb => (nomatch hb), hok, AllBare.of_eq gens⟩
  have ran := (F _ hKb (nsK hns)).run callerA [] s1 H ⟨[.ref a], []⟩ [.ref a] [.ref a] _ _ rfl room e0
    (bi s1 (.ref a)) (.cons rfl .nil) want
  refine codeAny_mono ran fun r s' h => ?_
  match r, h with
  | .error e, h => exact h.elim
  | .ok .next, h => exact h.elim
  | .ok .brk, h => exact h.elim
  | .ok .cont, h => exact h.elim
  | .ok (.ret u), h =>
    obtain ⟨v, H', os, bare, un, hok', r', q⟩ := h
    have q' : v = .bl true := q
    subst q'
    have r2 : u = Value.bool true := r'
    subst r2
    refine ⟨rfl, OldK.of_keep fun b o e => ?_, os, bare⟩
    cases hb : H b with
    | none => exact un.keep b o e hb (fun z => by cases z) (by simp)
    | some u =>
      rcases lone.only b with z | ⟨ob, xs, z⟩
      · rw [hb] at z
        cases z
      · obtain ⟨g1, _⟩ := hok b _ z
        obtain ⟨g2, _⟩ := hok' b _ (un.frzs b ob _ z)
        rw [e] at g1
        cases g1
        exact g2
theorem law_callG (KX : K.In s1.heap) (hns : s1.heap.Ns mainGlobals mg)
    (hb : s1.heap.Ns builtinsNs mb) (hbb : ∀ y : Str, y ≠ "__name__" → mb y = bootBuiltins y)
    (lim : s1.heap.NoLimit) (gens : s1.gens = #[])
    (ha : s1.heap.get? a = some { cls := .type "list", data := .seq vs.toArray })
    (whole : IntsAre vs ns) (few : ns.length ≤ sizeLine) (room : Room k callerA)
    (F : ∀ base : Heap, K.In base → base.Ns mainGlobals mg → FnG P w K mg base CX0 k fa fd [x] sp)
    (bi : ∀ (s : Shared) (u : Value), BindsTo s fd ⟨[u], []⟩ [(x, u)])
    (want : ∀ H : Hp, Only H → SqL K H a (ns.map V.int) → sp [.ref a] H (fun v _ => v = .bl true) fun _ _ _ => False) :
    codeAny (model P w) callerA (.call (.ref fa) ⟨[.ref a], []⟩)
      (fun r s' => r = .ok (.ret (.bool true)) ∧ OldK s1.heap s'.heap ∧ s'.os = s1.os ∧ AllBare s'.gens) s1 := by
  have rv := vals_ints whole
  have nv := whole.length
  cases hk : K.lookup a with
  | some o =>
    have e := KX a o hk
    rw [ha] at e
    cases e
    have o0 : Only (fun _ => none) := fun _ => .inl rfl
    refine law_from KX hns hb hbb lim gens ha room F bi (want _ o0 (.inr ⟨_, vs.toArray, _, hk, rfl, rfl, rfl, ?_, ?_⟩)) ⟨o0, ?_⟩ ?_ ?_
    · rw [List.size_toArray, nv]
      exact few
    · simpa using rv
    · intro b z
      exact absurd rfl z
    · intro b u z
      have z2 : (none : Option HO) = some u := z
      cases z2
    · intro z
      exact absurd rfl z
  | none =>
    let Ha : Hp := fun b => if b = a then some (.frz { cls := .type "list", data := .seq vs.toArray } (.lst (ns.map V.int))) else none
    have yes : Ha a = some (.frz { cls := .type "list", data := .seq vs.toArray } (.lst (ns.map V.int))) := if_pos rfl
    have no : ∀ b, b ≠ a → Ha b = none := fun b n => if_neg n
    have o0 : Only Ha := by
      intro b
      by_cases z : b = a
      · subst z
        exact .inr ⟨_, _, yes⟩
      · exact .inl (no b z)
    refine law_from (H := Ha) KX hns hb hbb lim gens ha room F bi (want _ o0 (.inl (.inr ⟨_, yes⟩))) ⟨o0, ?_⟩ ?_ fun _ => hk
    · intro b z
      by_cases q : b = a
      · exact q
      · exact absurd (no b q) z
    · intro b u z
      by_cases q : b = a
      · subst q
        rw [yes] at z
        cases z
        exact ⟨ha, by rw [List.length_map]; exact few, vs, _, rv, ha⟩
      · rw [no b q] at z
        cases z
end
/-- the walk from such a promise -/
theorem walk_ofG {l : PySem.W.OpenLaw} {n k : Nat} {q : Program} {loose : List Str}
    {XP : (Str → Option Value) → Heap → Prop} {YP : World → Heap → Prop} {d : DefRec}
    {K : Params → PySem.W.Frag} {sp : World → Sp} {x : Str}
    (hn : l.most = some n) (small : n ≤ sizeLine) (hdf : d.params.defaults = []) (room : Room k callerA)
    (hY : ∀ (w : World) (h : Heap), YP w h → (K w.params).In h)
    (F : ∀ (w : World) (mg : Str → Option Value) (fa : Addr) (h : Heap), (K w.params).In h →
      h.Ns mainGlobals mg → mg d.name = some (.ref fa) →
      ∃ fd : FuncData, (∀ (s : Shared) (u : Value), BindsTo s fd ⟨[u], []⟩ [(x, u)]) ∧
        ∀ base : Heap, (K w.params).In base → base.Ns mainGlobals mg →
          FnG l.prog w (K w.params) mg base CX0 k fa fd [x] (sp w))
    (hsp : ∀ (w : World) (H : Hp) (a : Addr) (ns : List Int), ns.length ≤ n → Only H →
      SqL (K w.params) H a (ns.map V.int) → sp w [.ref a] H (fun v _ => v = .bl true) fun _ _ _ => False) :
    PySem.W.WalkO q loose XP YP l.row.toRowW d [] (fun f vs => PySem.call f vs) := by
  refine Att.attach_call hn hdf fun w s0 s1 mg mb fa o pm cd doc a vs ns G Y ho hd hcd hmg hobj whole len gens => ?_
  have KX := hY w _ Y
  obtain ⟨fd, bi, hF⟩ := F w mg fa _ KX G.T.g hmg
  exact law_callG KX G.T.g G.T.b G.T.builtins G.T.nolimit gens hobj whole (Nat.le_trans len small) room hF bi
    fun H hO hS => hsp w H a ns len hO hS
end V3

set_option Elab.async false
set_option linter.all false
set_option maxRecDepth 100000
/-! x in (a, b, ..), where none of the items is x: each item's own == is run -/
namespace V3
open PySem PySem.SeqAt
open AutoSeq1 (wpAny_loadPart')
open MeetsSeq MeetsSeq2 MeetsSeq3 SeqRoads2
section
variable {prog : Program} {w : World} {A : Around} {R : Result → Shared → Prop}
theorem tuple_none (l : Addr) (items : Array Value) (n : Nat) (dd : Option Addr) (sl : Array (Option Value)) (x : Value) (I : Nat → Shared → Prop)
    (turn : ∀ i (h : i < items.size) s, I i s →
      wpAny (model prog w) A.in1 (eqBool items[i] x) (fun r s' => r = false ∧ I (i + 1) s') (fun e s' => R (.error e) s') s)
    (fin : ∀ s, I items.size s → R (.ok (.ret (.bool false))) s) {s : Shared}
    (hl : s.heap.get? l = some { cls := .type "tuple", dict := dd, data := .seq items n, slots := sl }) (h : I 0 s) :
    wpAny (model prog w) A.in1 (Builtin.«tuple.__contains__» ⟨[.ref l, x], []⟩) (GQ.FinOf prog w A R) (fun e s' => R (.error e) s') s := by
  have h0 := h
  obtain ⟨hp, g, d, tk, os⟩ := s
  wp_walk using wpAny_loadPart' hl, wpAny_forIn_array _ (fun rest b s' => b.1 = none ∧ ∃ i, rest = items.toList.drop i ∧ i ≤ items.size ∧ I i s') _
  case turn =>
    rintro y rest b s' ⟨hb, i, hz, hi, hI⟩
    have lt : i < items.toList.length := by
      rcases Nat.lt_or_ge i items.toList.length with q | q
      · exact q
      · rw [List.drop_of_length_le q] at hz
        cases hz
    have lt2 : i < items.size := by simpa using lt
    rw [List.drop_eq_getElem_cons lt] at hz
    injection hz with hy hr
    have hy2 : y = items[i] := by simpa using hy
    subst hy2
    refine wpAny_bind (wpAny_mono (turn i lt2 s' hI) (fun r s2 q => ?_) fun _ _ z => z)
    obtain ⟨rfl, q⟩ := q
    wp_walk
    exact ⟨rfl, i + 1, hr, lt2, q⟩
  case fin =>
    rintro ⟨b1, b2⟩ s' ⟨hb, i, hz, hi, hI⟩
    simp only at hb
    subst hb
    have ge : items.size ≤ i := by
      rcases Nat.lt_or_ge i items.toList.length with q | q
      · rw [List.drop_eq_getElem_cons q] at hz
        cases hz
      · simpa using q
    have e : i = items.size := by omega
    have hR := fin s' (e ▸ hI)
    wp_walk
    first | exact hR | exact ⟨_, rfl, hR⟩ | simpa using hR
  case h =>
    exact ⟨rfl, 0, rfl, Nat.zero_le _, h0⟩
end
end V3

set_option Elab.async false
set_option linter.all false
set_option maxRecDepth 100000
namespace V3
open PySem PySem.SeqAt
open AutoSeq1 (wpAny_loadPart')
section
variable {prog : Program} {w : World} {A : Around} {E : Value → Shared → Prop} {s : Shared} {x : Addr} {o : Obj}
theorem str_declines {z : Str} {t : Tok} {Q : Shared → Prop} (ho : s.heap.get? x = some o) (hd : o.data = .plain) (hq : Q s) :
    wpAny (model prog w) A (call (.builtin "str.__eq__") [.str z t, .ref x]) (fun v s' => v = .notImplemented ∧ Q s') E s := by
  refine GQ.call_here F.slot_str_eq (typeIs_str s z t) F.entry_str_eq (F.args_str_eq_2 _ _) ?_
  obtain ⟨c, dd, da, sl⟩ := o
  simp only at hd
  subst hd
  obtain ⟨hp, g, d, tk, os⟩ := s
  unfold Builtin.«str.__eq__» Builtin.Str.strCompare
  wp_walk using wpAny_load ho
  exact ⟨rfl, hq⟩
theorem none_declines {Q : Shared → Prop} (hq : Q s) :
    wpAny (model prog w) A (call (.builtin "NoneType.__eq__") [.none, .ref x]) (fun v s' => v = .notImplemented ∧ Q s') E s := by
  refine GQ.call_here F.slot_NoneType_eq (typeIs_none s) F.entry_NoneType_eq (F.args_NoneType_eq_2 _ _) ?_
  obtain ⟨hp, g, d, tk, os⟩ := s
  unfold Builtin.«NoneType.__eq__»
  wp_walk
  exact ⟨rfl, hq⟩
theorem tup_declines {K : PySem.W.Frag} {C p : Addr} {od : Option Obj} {items : Array Value} {Q : Shared → Prop} (X : K.In s.heap) (I : PySem.W.InstAt s.heap x o C od) (hs : PySem.W.subIn K (.ref C) (.type "tuple") = some false) (hp : s.heap.IsTuple p items) (hq : Q s) :
    wpAny (model prog w) A (call (.builtin "tuple.__eq__") [.ref p, .ref x]) (fun v s' => v = .notImplemented ∧ Q s') E s := by
  obtain ⟨⟨c1, d1, da, sl⟩, ho, hc, n, hd⟩ := id hp
  simp only at hc hd
  subst hc hd
  refine GQ.call_here F.slot_tuple_eq ⟨_, ho, rfl⟩ F.entry_tuple_eq (F.args_tuple_eq_2 _ _) ?_
  obtain ⟨hh, g, d, tk, os⟩ := s
  wp_walk
  refine wpAny_loadPart I.at_ (wpAny_pure ?_)
  rw [I.cls]
  refine (PySem.W.looks_subIn X hs).here ?_
  wp_walk
  exact ⟨rfl, hq⟩
end
/-! a == b by the own __eq__ of b, where that of a declines -/
section
variable {prog : Program} {w : World} {A : Around} {E : Value → Shared → Prop} {s : Shared} {K : PySem.W.Frag} {x C L f : Addr} {h₀ : Heap} {m : Str → Option Value} {ox : Obj} {od : Option Obj} {a : Value} {T id : String}
theorem turned_K {Q : Value → Shared → Prop} (hu : A.units < cLine) (F : PyProof.Rows.Fr h₀ L s.heap m) (X₀ : K.In h₀) (I : PySem.W.InstAt s.heap x ox C od) (hT : s.TypeIs a T) (sl : Slot T "__eq__" id)
    (one : oneThing? .Eq a (.ref x) = none) (hs : PySem.W.subIn K (.ref C) (.type T) = some false)
    (no : ∀ {Q : Shared → Prop}, Q s → wpAny (model prog w) A (call (.builtin id) [a, .ref x]) (fun v s' => v = .notImplemented ∧ Q s') E s)
    (he : PySem.W.findIn K (.ref C) "__eq__" = some (some (.ref f))) (hf : PySem.W.isFn K (.ref f) = true)
    (h : wpAny (model prog w) A (call (.ref f) [.ref x, a]) (fun v s' => ∃ r, v = .bool r ∧ Q (.bool r) s') E s) : wpAny (model prog w) A (richCompare .Eq a (.ref x)) Q E s := by
  have X := X₀.keeps F.keep
  unfold richCompare
  simp only [one]
  refine wpAny_holding (wpAny_bind (wpAny_cRoomFor hu ?_))
  refine wpAny_bind (wpAny_typeOf hT (wpAny_bind (I.type.here ?_)))
  split
  · refine wpAny_bind ((PySem.W.looks_subIn X hs).here ?_)
    simp only [Bool.false_eq_true, if_false]
    refine wpAny_bind (wpAny_tryCompare_declines hT sl (no ?_))
    simp only [Bool.not_false, if_true]
    have two : wpAny (model prog w) A (tryCompare (.ref x) "__eq__" a) (fun r s' => ∃ v, r = some v ∧ Q v s') E s := by
      unfold tryCompare
      refine wpAny_bind (PySem.W.ifBound_K X I he hf (wpAny_mono h (fun v s' hv => ?_) fun _ _ e => e))
      obtain ⟨r, rfl, q⟩ := hv
      exact wpAny_pure ⟨_, rfl, q⟩
    refine wpAny_bind (wpAny_mono two (fun r s' z => ?_) fun _ _ e => e)
    obtain ⟨v, rfl, hq⟩ := z
    exact wpAny_pure hq
  · rename_i q
    exact absurd (by simp) q
end
end V3

set_option Elab.async false
set_option linter.all false
set_option maxRecDepth 100000
namespace V3
open PySem PySem.Spec PyProof.Rows L2
/-- what of a class is wanted where its objects stand behind texts, None and tuples -/
structure Behind (K : PySem.W.Frag) (C : Addr) : Prop where
  s : PySem.W.subIn K (.ref C) (.type "str") = some false
  n : PySem.W.subIn K (.ref C) (.type "NoneType") = some false
  t : PySem.W.subIn K (.ref C) (.type "tuple") = some false
inductive Plain (H : Hp) : V → Prop where
  | str (z : Str) : Plain H (.str z)
  | non : Plain H .non
  | tup {b : Addr} {ys : List V} (h : H b = some (.tup ys)) : Plain H (.ref b)
section
variable {prog : Program} {w : World} {A : Around} {E : Value → Shared → Prop} {s : Shared}
theorem eqB_str {z : Str} {t : Tok} {a : Addr} {Q : Bool → Shared → Prop} (h : wpAny (model prog w) A (richCompare .Eq (.str z t) (.ref a)) (fun v s' => ∃ r, v = .bool r ∧ Q r s') E s) :
    wpAny (model prog w) A (eqBool (.str z t) (.ref a)) Q E s := by
  unfold eqBool
  refine wpAny_holding (wpAny_ite_split (fun q => absurd (eq_of_beq q) (fun e => nomatch e)) fun _ => ?_)
  refine wpAny_bind (wpAny_mono h (fun v s' hv => ?_) fun _ _ x => x)
  obtain ⟨r, rfl, q⟩ := hv
  exact wpAny_truthy_bool q
theorem eqB_non {a : Addr} {Q : Bool → Shared → Prop} (h : wpAny (model prog w) A (richCompare .Eq .none (.ref a)) (fun v s' => ∃ r, v = .bool r ∧ Q r s') E s) :
    wpAny (model prog w) A (eqBool .none (.ref a)) Q E s := by
  unfold eqBool
  refine wpAny_holding (wpAny_ite_split (fun q => absurd (eq_of_beq q) (fun e => nomatch e)) fun _ => ?_)
  refine wpAny_bind (wpAny_mono h (fun v s' hv => ?_) fun _ _ x => x)
  obtain ⟨r, rfl, q⟩ := hv
  exact wpAny_truthy_bool q
end
section
variable {X : Cx} {n : Nat}
/-- x in (..), x of an own class, no item equal to it -/
def rInO (K : PySem.W.Frag) (FF : Addr → Sp → XK → Prop) : R2 := fun x y H Q => ∃ (a p C dx : Addr) (fs : List (Str × V)) (xs : List V) (sp : Sp) (E : XK), x = .ref a ∧ y = .ref p ∧ H a = some (.ins C dx fs) ∧ H p = some (.tup xs) ∧
  (∀ z ∈ xs, Plain H z) ∧ Behind K C ∧ FF C sp E ∧ (∀ z ∈ xs, sp [.ref a, z] H (fun v H' => v = .bl false ∧ H' = H) E) ∧ Q (.bl false) H
theorem op_inO {FF : Addr → Sp → XK → Prop} (hF : ∀ C sp E, FF C sp E → ∃ (CX : CXT) (f : Addr) (fd : FuncData) (ps : List Str), FnOk X.prog X.w X.K X.mg X.base CX n f fd ps sp ∧ EqCls X.K C f ∧ Binds X.K fd ps [] ∧ Passes CX X E) (hr : Room (n + 1) X.A) :
    OpR X (compareOp .In) (rInO X.K FF) := by
  intro pins s σ H x y v u Q I rx ry hq
  obtain ⟨a, p, C, dx, fs, xs, sp, E, rfl, rfl, ha, hp, pl, bh, ff, hsp, q⟩ := hq
  obtain ⟨CX, f, fd, ps, F, ec, bi, hx⟩ := hF C sp E ff
  cases rx
  cases ry
  obtain ⟨its, rv, ht, hz⟩ := I.tuple (SqT.of hp)
  obtain ⟨⟨c0, dd, da, sl⟩, ho, hc, m, hd⟩ := id ht
  simp only at hc hd
  subst hc hd
  show wpAny (model X.prog X.w) X.A (do return .bool (← contains (.ref p) (.ref a))) (EP X pins σ Q) X.xe s
  refine wpAny_bind (wpAny_contains_slot ⟨_, ho, rfl⟩ PySem.F.slot_tuple_contains (wpAny_mono (GQ.call_here (Q := fun v s' => v = .bool false ∧ Inv X pins σ H s') PySem.F.slot_tuple_contains ⟨_, ho, rfl⟩ PySem.F.entry_tuple_contains (PySem.F.args_tuple_contains_2 _ _)
    (tuple_none p its.toArray m dd sl (.ref a) (fun _ s' => Inv X pins σ H s') ?_ (fun s' J => ⟨rfl, J⟩) ho I)) (fun v s' hv => ?_) fun _ _ e => e))
  · intro i hi s' J
    have hi2 : i < its.length := by simpa using hi
    have hi3 : i < xs.length := by rw [rv.length]; exact hi2
    obtain ⟨u, hu, ru⟩ := rv.get (List.getElem?_eq_getElem hi3)
    have eu : its.toArray[i] = u := by
      rw [List.getElem?_eq_getElem hi2] at hu
      simpa using Option.some.inj hu
    rw [eu]
    have mem : xs[i] ∈ xs := List.getElem_mem hi3
    have pz := pl _ mem
    have own := hsp _ mem
    generalize xs[i] = z at ru pz own
    obtain ⟨mA, O, _⟩ := ins_get J.hok ha
    obtain ⟨od, IA, _⟩ := O.look
    obtain ⟨mm, hFr⟩ := J.fr
    have run : wpAny (model X.prog X.w) X.A.in1 (call (.ref f) [.ref a, u]) (fun v s2 => ∃ r, v = .bool r ∧ r = false ∧ Inv X pins σ H s2) X.xe s' :=
      wpAny_mono (run_own (x := .ref a) (y := z) ⟨hr.in1, rfl⟩ F bi hx J rfl ru own) (fun w s2 k => by
        obtain ⟨z2, H', J2, rz, ez, eH⟩ := k
        subst ez
        subst eH
        cases rz
        exact ⟨false, rfl, rfl, J2⟩) fun _ _ e => e
    have hu1 : X.A.in1.units < cLine := hr.in1.units0
    cases pz with
    | str zz =>
      obtain ⟨t, rfl⟩ := ru
      refine eqB_str (turned_K (T := "str") hu1 hFr J.ok.mod.kin IA (typeIs_str _ _ _) PySem.F.slot_str_eq rfl bh.s (fun k => str_declines IA.at_ rfl k) ec.eq ec.fn (wpAny_mono run (fun v s2 k => ?_) fun _ _ e => e))
      obtain ⟨r, rfl, e, J2⟩ := k
      exact ⟨r, rfl, r, rfl, e, J2⟩
    | non =>
      cases ru
      refine eqB_non (turned_K (T := "NoneType") hu1 hFr J.ok.mod.kin IA (typeIs_none _) PySem.F.slot_NoneType_eq rfl bh.n (fun k => none_declines k) ec.eq ec.fn (wpAny_mono run (fun v s2 k => ?_) fun _ _ e => e))
      obtain ⟨r, rfl, e, J2⟩ := k
      exact ⟨r, rfl, r, rfl, e, J2⟩
    | @tup b ys hb =>
      cases ru
      obtain ⟨its2, r2, ht2, hz2⟩ := J.tuple (SqT.of hb)
      have ne : b ≠ a := by
        intro e
        subst e
        rw [ha] at hb
        cases hb
      obtain ⟨o2, ho2, hc2, _⟩ := id ht2
      refine GQ.eqBool_refG ne (turned_K (T := "tuple") hu1 hFr J.ok.mod.kin IA ⟨o2, ho2, hc2⟩ PySem.F.slot_tuple_eq (by first | rfl | simp [oneThing_ref]) bh.t (fun k => tup_declines J.kIn IA bh.t ht2 k) ec.eq ec.fn (wpAny_mono run (fun v s2 k => ?_) fun _ _ e => e))
      obtain ⟨r, rfl, e, J2⟩ := k
      exact ⟨r, rfl, r, rfl, e, J2⟩
  · obtain ⟨rfl, J⟩ := hv
    exact wpAny_truthy_bool (wpAny_pure ⟨.bl false, H, J, rfl, q⟩)
end
end V3

set_option Elab.async false
set_option linter.all false
set_option maxRecDepth 100000
namespace V3
open PySem L2 TL
def num (i : Int) : Str := Str.ofString (toString i)
def Am (i : Int) : Prop := i.natAbs ≤ 10000000000000000000000000000000000000000
theorem am_log {i : Int} (h : Am i) : i.natAbs.log2 < 1920 := Nat.lt_of_lt_of_le (PySem.Flt.log2_lt_of (k := 140) (by decide) (by
  have : (2 : Nat) ^ 140 = 1393796574908163946345982392040522594123776 := by decide
  unfold Am at h
  omega)) (by decide)
theorem num_len {i : Int} (h : Am i) : (num i).length ≤ 1921 := PyProof.Rows.int_text_len_1921 (am_log h)
theorem app_len (x y : Str) : (x ++ y).length = x.length + y.length := PySem.Str.length_append x y
theorem small {n : Nat} (h : n ≤ 10000) : n ≤ sizeLine := Nat.le_trans h (by decide)
def sp1 : Str := " "
theorem tl_num' {t : Int} (h : 0 ≤ t) : tl (num t) = numL t.toNat := by
  have e : ((t.toNat : Nat) : Int) = t := by omega
  have z := tl_num t.toNat
  rw [e] at z
  exact z
theorem num_free {t : Int} {s : Nat} (h : 0 ≤ t) (hs : s < 48 ∨ 57 < s) : s ∉ tl (num t) := by
  rw [tl_num' h]
  exact numL_free hs
theorem sp_tl : tl sp1 = [32] := by decide +kernel
theorem Same.new {p : Addr} {H : Hp} {o : HO} (hp : H p = none) : Same H (upd H p o) := fun c u h => by rw [upd_ne (ne_of_none h hp)]; exact h
theorem made_same {H : Hp} {y dy : Addr} {o1 o2 : HO} (ny : H y = none) (ndy : H dy = none) : Same H (upd (upd H dy o1) y o2) := fun b o e => by
  rw [upd_ne (ne_of_none e ny), upd_ne (ne_of_none e ndy)]
  exact e
theorem made_same2 {H : Hp} {y dy : Addr} {o1 o2 o3 : HO} (ny : H y = none) (ndy : H dy = none) : Same H (upd (upd (upd H dy o1) y o2) y o3) := fun b o e => by
  rw [upd_ne (ne_of_none e ny), upd_ne (ne_of_none e ny), upd_ne (ne_of_none e ndy)]
  exact e
def SameX (b : Addr) (H H' : Hp) : Prop := ∀ c o, c ≠ b → H c = some o → H' c = some o
theorem SameX.refl {b : Addr} {H : Hp} : SameX b H H := fun _ _ _ h => h
theorem SameX.trans {b : Addr} {H H1 H2 : Hp} (s : SameX b H H1) (t : SameX b H1 H2) : SameX b H H2 := fun c o n h => t c o n (s c o n h)
theorem SameX.of {b : Addr} {H H' : Hp} (s : Same H H') : SameX b H H' := fun c o _ h => s c o h
theorem SameX.box {b : Addr} {H : Hp} {o : HO} : SameX b H (upd H b o) := fun c _ n h => by rw [upd_ne n]; exact h
def Pre (b : Addr) (H H' : Hp) : Prop := SameX b H H' ∧ ∃ u v, BoxOk u v ∧ H' b = some (box u v)
theorem Pre.trans {b : Addr} {H H1 H2 : Hp} (s : Pre b H H1) (t : Pre b H1 H2) : Pre b H H2 := ⟨s.1.trans t.1, t.2⟩
theorem Pre.then {b : Addr} {H H1 H2 : Hp} (s : Pre b H H1) (t : Same H1 H2) : Pre b H H2 := by
  obtain ⟨h, u, v, ok, e⟩ := s
  exact ⟨h.trans (SameX.of t), u, v, ok, t _ _ e⟩
theorem Pre.box {b : Addr} {H : Hp} {u v : Int} (ok : BoxOk u v) : Pre b H (upd H b (box u v)) := ⟨SameX.box, u, v, ok, upd_same⟩
theorem Pre.start {b : Addr} {H : Hp} {u v : Int} (ok : BoxOk u v) (h : H b = some (V3.box u v)) : Pre b H H := ⟨SameX.refl, u, v, ok, h⟩
def Keep (H H' : Hp) : Prop := ∀ c o, (∀ xs, o ≠ .lst xs) → H c = some o → H' c = some o
theorem Keep.of {H H' : Hp} (s : Same H H') : Keep H H' := fun c o _ h => s c o h
theorem Keep.lst {H : Hp} {D : Addr} {xs : List V} {o : HO} (hD : H D = some (.lst xs)) : Keep H (upd H D o) := fun c u n h => by
  have nc : c ≠ D := fun e => by
    subst e
    rw [hD] at h
    injection h with h
    exact n _ h.symm
  rw [upd_ne nc]
  exact h
theorem Keep.pre {H H' : Hp} {b : Addr} {xs : List V} (hb : H b = some (.lst xs)) (s : SameX b H H') : Keep H H' := fun c u n h => by
  have nc : c ≠ b := fun e => by
    subst e
    rw [hb] at h
    injection h with h
    exact n _ h.symm
  exact s c u nc h
theorem at_end {α : Type} {xs : List α} {x y : α} {i : Nat} (h : (xs ++ [x])[i]? = some y) : (i < xs.length ∧ xs[i]? = some y) ∨ (i = xs.length ∧ y = x) := by
  by_cases c : i < xs.length
  · exact .inl ⟨c, by rw [List.getElem?_append_left c] at h; exact h⟩
  · rw [List.getElem?_append_right (by omega)] at h
    obtain ⟨l, e⟩ := List.getElem?_eq_some_iff.mp h
    have z : i - xs.length = 0 := by simpa using l
    exact .inr ⟨by omega, by simp [z] at e; exact e.symm⟩
theorem at_old {α : Type} {xs : List α} {x y : α} {i : Nat} (h : xs[i]? = some y) : (xs ++ [x])[i]? = some y := by
  have l := (List.getElem?_eq_some_iff.mp h).1
  rw [List.getElem?_append_left l]
  exact h
theorem at_new {α : Type} {xs : List α} {x : α} {n : Nat} (h : xs.length = n) : (xs ++ [x])[n]? = some x := by
  subst h
  simp
theorem take_next {α : Type} {ms : List α} {m : α} {i : Nat} (h : ms[i]? = some m) : ms.take (i + 1) = ms.take i ++ [m] := by
  rw [List.take_add_one, h]
  rfl
theorem Same.upn {H H1 : Hp} {b : Addr} {o : HO} (s : Same H H1) (nb : H b = none) : Same H (upd H1 b o) := fun c u e => by
  rw [upd_ne (ne_of_none e nb)]
  exact s c u e
theorem Pre.all {b : Addr} {H H' : Hp} (p : Pre b H H') (n : H b = none) : Same H H' := fun c o h => p.1 c o (ne_of_none h n) h
end V3

set_option Elab.async false
set_option linter.all false
set_option maxRecDepth 100000
namespace V3
open PySem L2
/-! the error -/
def spIM (C : Addr) : Sp := fun vs H Q _ => ∃ (a : Addr) (y : V), vs = [.ref a, y] ∧ H a = some (exo a C none) ∧
  ∀ d, H d = none → d ≠ a → Q .non (upd (upd H d (exd d [("word", y)])) a (exo a C (some d)))
/-- what the module says of InvalidMove -/
structure ImTxt (P : Program) (w : World) (K : PySem.W.Frag) (mg : Str → Option Value) (base : Heap) (C : Addr) : Prop where
  g : mg "InvalidMove" = some (.ref C)
  o : OexC K C
  no : PySem.W.findIn K (.ref C) "word" = some none
  ini : ∃ (f : Addr) (fd : FuncData), FnOk P w K mg base CX0 1 f fd ["self", "word"] (spIM C) ∧ PySem.W.findIn K (.ref C) "__init__" = some (some (.ref f)) ∧ PySem.W.typeIn K (.ref f) = some (.type "function") ∧ Binds K fd ["self", "word"] []
/-- behind a raise: an error with the word, all else as it was -/
def Er (C : Addr) (H : Hp) (E : XK) (word : Str) : Prop := ∀ (d : Addr) (H' : Hp), Same H H' → H' d = some (.xd [("word", .str word)]) → E (.ref C) (some d) H'
section
variable {P : Program} {w : World} {K : PySem.W.Frag} {mg : Str → Option Value} {base : Heap}
theorem scImInit : FnScope ["self", "word"] ["self", "word"] (defScope sImInit) := ⟨rfl, rfl, rfl, by decide +kernel, rfl, by decide +kernel, by decide +kernel⟩
theorem ok_imInit {f C : Addr} {fd : FuncData} (F : Fun K "__init__" "InvalidMove.__init__" sImInit f fd) (o : OexC K C) (no : PySem.W.findIn K (.ref C) "word" = some none) : FnOk P w K mg base CX0 1 f fd ["self", "word"] (spIM C) := by
  refine F.ok scImInit (fun vs H Q E h => ?_) (fun cdv A outer s H vs Q E hr h => ?_)
  · obtain ⟨a, y, rfl, _⟩ := h
    rfl
  · obtain ⟨a, y, rfl, ha, q⟩ := h
    refine ⟨_, pss_one (ps_ost (pv 0) (pv 1)), ?_⟩
    exact ⟨_, rfl, _, rfl, a, C, rfl, o, no, .inl ⟨ha, fun dx h1 h2 => q dx h1 h2⟩⟩
theorem raise_same {H : Hp} {a d : Addr} {o1 o2 o3 o4 : HO} (na : H a = none) (nd : upd H a o1 d = none) (ne : d ≠ a) : Same H (upd (del (upd (upd (upd H a o1) d o2) a o3) a) d o4) := by
  intro b o e
  have ba : b ≠ a := fun z => by
    rw [z, na] at e
    cases e
  have hd : H d = none := by
    rw [upd_ne ne] at nd
    exact nd
  have bd : b ≠ d := fun z => by
    rw [z, hd] at e
    cases e
  rw [upd_ne bd, del_ne ba, upd_ne ba, upd_ne bd, upd_ne ba]
  exact e
/-- raise InvalidMove("..") in a def's own frame -/
theorem er_read {C : Addr} {H : Hp} {E : XK} {word : Str} (h : Er C H E word) : ∀ a, H a = none → spIM C (.ref a :: ([V.str word] ++ [])) (upd H a (exo a C none))
    (fun v H2 => v = .non ∧ ∃ (d : Addr) (fs : List (Str × V)), H2 a = some (exo a C (some d)) ∧ H2 d = some (exd d fs) ∧ H d = none ∧ E (.ref C) (some d) (upd (del H2 a) d (.xd fs))) (fun _ _ _ => False) := by
  intro a na
  refine ⟨a, _, rfl, upd_same, fun d nd ne => ⟨rfl, d, [("word", .str word)], upd_same, ?_, ?_, ?_⟩⟩
  · rw [upd_ne ne]
    exact upd_same
  · rw [upd_ne ne] at nd
    exact nd
  · exact h d _ (raise_same na nd ne) upd_same
/-! Begin -/
def spBegin (C CM : Addr) : Sp := fun vs H Q E => ∃ (x dx : Addr) (v : V), vs = [.ref x, v] ∧ H x = some (.ins C dx []) ∧ AV H v ∧
  (isNum v 1 = true → Q .non (upd H x (.ins C dx [("amount", v)]))) ∧ (isNum v 1 = false → Er CM H E "amount")
theorem scBInit : FnScope ["self", "amount"] ["self", "amount"] (defScope sBInit) := ⟨rfl, rfl, rfl, by decide +kernel, rfl, by decide +kernel, by decide +kernel⟩
abbrev CalNum (P : Program) (w : World) (K : PySem.W.Frag) (mg : Str → Option Value) (base : Heap) : Prop := Cal P w K mg base CX0 "is_number" 2 ["value"] spNum
abbrev CalAmt (P : Program) (w : World) (K : PySem.W.Frag) (mg : Str → Option Value) (base : Heap) : Prop := Cal P w K mg base CX0 "is_amount" 3 ["value"] spAmt
theorem ok_bInit {f C CM : Addr} {fd : FuncData} (F : Fun K "__init__" "Begin.__init__" sBInit f fd) (cl : Cls K C) (nA : NoAttr K C "amount") (cA : CalAmt P w K mg base) (M : ImTxt P w K mg base CM) : FnOk P w K mg base (L2.CX P w) 4 f fd ["self", "amount"] (spBegin C CM) := by
  obtain ⟨fA, fdA, GA, mA, kA, bA⟩ := cA
  obtain ⟨fI, fdI, GI, iI, tI, bI⟩ := M.ini
  refine F.okX scBInit (fun vs H Q E h => ?_) (fun cdv A outer s H vs Q E hr h => ?_)
  · obtain ⟨x, dx, v, rfl, _⟩ := h
    rfl
  · obtain ⟨x, dx, v, rfl, hx, av, q1, q2⟩ := h
    refine ⟨_, pss_cons (ps_if (pt_not (pt_val (pe_call GA hr rfl mA kA bA .nil pass0 (pa_cons (pv 1) pa_nil)))) (pss_one (ps_raise rfl (takes_of rfl rfl rfl rfl) (pmk_oex M.o iI tI GI (hr.mono (by decide)) bI .nil pass0 rfl M.g (by exact (pa_cons pe_str pa_nil))))) pss_nil)
      (pss_one (ps_fld (pv 0) (pv 1) rfl)), ?_⟩
    refine ⟨_, rfl, v, rfl, av, _, rfl, ?_⟩
    cases e : isNum v 1 with
    | true => exact iteF ⟨_, rfl, _, rfl, x, C, dx, _, rfl, hx, cl, nA, (by show 0 < 1000; decide), q1 e⟩
    | false => exact iteT ⟨(by show 1 ≤ 1000; decide), er_read (q2 e)⟩
/-! Take, Right -/
def two (a v : V) : List (Str × V) := [("at", a), ("amount", v)]
theorem ne_at : ¬ (("at" : Str) = "amount") := by decide +kernel
theorem put_two (a v : V) : putF "amount" v (putF "at" a []) = two a v := by
  show (if ("at" : Str) = "amount" then [(("at" : Str), v)] else (("at" : Str), a) :: putF "amount" v []) = two a v
  rw [if_neg ne_at]
  rfl
theorem two_at (a v : V) : (two a v).lookup ("at" : Str) = some a := by
  rw [← put_two, lookup_putF, if_neg ne_at, lookup_putF, if_pos rfl]
theorem two_am (a v : V) : (two a v).lookup ("amount" : Str) = some v := by
  rw [← put_two, lookup_putF, if_pos rfl]
def spTake (C CM : Addr) : Sp := fun vs H Q E => ∃ (x dx : Addr) (a v : V), vs = [.ref x, a, v] ∧ H x = some (.ins C dx []) ∧ AV H a ∧ AV H v ∧
  (isNum a 0 = true → (v = .non ∨ isNum v 1 = true) → Q .non (upd H x (.ins C dx (two a v)))) ∧ (isNum a 0 = false → Er CM H E "at") ∧
  (isNum a 0 = true → ¬ v = .non → isNum v 1 = false → Er CM H E "amount")
def spRight (C CM : Addr) : Sp := fun vs H Q E => ∃ (x dx : Addr) (a v : V), vs = [.ref x, a, v] ∧ H x = some (.ins C dx []) ∧ AV H a ∧ AV H v ∧
  (isNum a 0 = true → isNum v 1 = true → Q .non (upd H x (.ins C dx (two a v)))) ∧ (isNum a 0 = false → Er CM H E "at") ∧
  (isNum a 0 = true → isNum v 1 = false → Er CM H E "amount")
theorem scTInit : FnScope ["self", "at", "amount"] ["self", "at", "amount"] (defScope sTInit) := ⟨rfl, rfl, rfl, by decide +kernel, rfl, by decide +kernel, by decide +kernel⟩
theorem scRInit : FnScope ["self", "at", "amount"] ["self", "at", "amount"] (defScope sRInit) := ⟨rfl, rfl, rfl, by decide +kernel, rfl, by decide +kernel, by decide +kernel⟩
theorem ok_tInit {f C CM : Addr} {fd : FuncData} {dvs : List V} (F : FunD K "__init__" "Take.__init__" (defArgs sTInit) (defBody sTInit) (defScope sTInit) dvs [] f fd) (cl : Cls K C) (nT : NoAttr K C "at") (nA : NoAttr K C "amount") (cN : CalNum P w K mg base) (cA : CalAmt P w K mg base) (M : ImTxt P w K mg base CM) : FnOk P w K mg base (L2.CX P w) 4 f fd ["self", "at", "amount"] (spTake C CM) := by
  obtain ⟨fN, fdN, GN, mN, kN, bN⟩ := cN
  obtain ⟨fA, fdA, GA, mA, kA, bA⟩ := cA
  obtain ⟨fI, fdI, GI, iI, tI, bI⟩ := M.ini
  refine F.ok scTInit (fun vs H Q E h => ?_) (fun cdv A outer s H vs Q E hr h => ?_)
  · obtain ⟨x, dx, a, v, rfl, _⟩ := h
    rfl
  · obtain ⟨x, dx, a, v, rfl, hx, aa, av, q1, q2, q3⟩ := h
    refine ⟨_, pss_cons (ps_if (pt_not (pt_val (pe_call GN (hr.mono (by decide)) rfl mN kN bN .nil pass0 (pa_cons (pv 1) pa_nil)))) (pss_one (ps_raise rfl (takes_of rfl rfl rfl rfl) (pmk_oex M.o iI tI GI (hr.mono (by decide)) bI .nil pass0 rfl M.g (by exact (pa_cons pe_str pa_nil))))) pss_nil)
      (pss_cons (ps_if (PW.pt (pw_and (pt_cmpR op_notN (pv 2) pe_non (nomark _)) (pw_and1 (pt_not (pt_val (pe_call GA hr rfl mA kA bA .nil pass0 (pa_cons (pv 2) pa_nil))))))) (pss_one (ps_raise rfl (takes_of rfl rfl rfl rfl) (pmk_oex M.o iI tI GI (hr.mono (by decide)) bI .nil pass0 rfl M.g (by exact (pa_cons pe_str pa_nil))))) pss_nil)
      (pss_cons (ps_fld (pv 0) (pv 1) rfl) (pss_one (ps_fld (pv 0) (pv 2) rfl)))), ?_⟩
    refine ⟨_, rfl, a, rfl, aa, _, rfl, ?_⟩
    cases e : isNum a 0 with
    | false => exact iteT ⟨(by show 1 ≤ 1000; decide), er_read (q2 e)⟩
    | true =>
      have stores : (v = .non ∨ isNum v 1 = true) → Q .non (upd (upd H x (.ins C dx (putF "at" a []))) x (.ins C dx (putF "amount" v (putF "at" a [])))) := fun z => by
        rw [upd_upd, put_two]
        exact q1 e z
      refine iteF ⟨_, rfl, rfl, _, rfl, ?_⟩
      by_cases c : v = .non
      · rw [decide_eq_true c]
        exact iteF (iteF ⟨_, rfl, _, rfl, x, C, dx, _, rfl, hx, cl, nT, (by show 0 < 1000; decide), _, rfl, _, rfl, x, C, dx, _, rfl, upd_same, cl, nA, (by show 1 < 1000; decide), stores (.inl c)⟩)
      · rw [decide_eq_false c]
        refine iteT ⟨_, rfl, v, rfl, av, _, rfl, ?_⟩
        cases e2 : isNum v 1 with
        | false => exact iteT ⟨(by show 1 ≤ 1000; decide), er_read (q3 e c e2)⟩
        | true => exact iteF ⟨_, rfl, _, rfl, x, C, dx, _, rfl, hx, cl, nT, (by show 0 < 1000; decide), _, rfl, _, rfl, x, C, dx, _, rfl, upd_same, cl, nA, (by show 1 < 1000; decide), stores (.inr e2)⟩
theorem ok_rInit {f C CM : Addr} {fd : FuncData} (F : Fun K "__init__" "Right.__init__" sRInit f fd) (cl : Cls K C) (nT : NoAttr K C "at") (nA : NoAttr K C "amount") (cN : CalNum P w K mg base) (cA : CalAmt P w K mg base) (M : ImTxt P w K mg base CM) : FnOk P w K mg base (L2.CX P w) 4 f fd ["self", "at", "amount"] (spRight C CM) := by
  obtain ⟨fN, fdN, GN, mN, kN, bN⟩ := cN
  obtain ⟨fA, fdA, GA, mA, kA, bA⟩ := cA
  obtain ⟨fI, fdI, GI, iI, tI, bI⟩ := M.ini
  refine F.okX scRInit (fun vs H Q E h => ?_) (fun cdv A outer s H vs Q E hr h => ?_)
  · obtain ⟨x, dx, a, v, rfl, _⟩ := h
    rfl
  · obtain ⟨x, dx, a, v, rfl, hx, aa, av, q1, q2, q3⟩ := h
    refine ⟨_, pss_cons (ps_if (pt_not (pt_val (pe_call GN (hr.mono (by decide)) rfl mN kN bN .nil pass0 (pa_cons (pv 1) pa_nil)))) (pss_one (ps_raise rfl (takes_of rfl rfl rfl rfl) (pmk_oex M.o iI tI GI (hr.mono (by decide)) bI .nil pass0 rfl M.g (by exact (pa_cons pe_str pa_nil))))) pss_nil)
      (pss_cons (ps_if (pt_not (pt_val (pe_call GA hr rfl mA kA bA .nil pass0 (pa_cons (pv 2) pa_nil)))) (pss_one (ps_raise rfl (takes_of rfl rfl rfl rfl) (pmk_oex M.o iI tI GI (hr.mono (by decide)) bI .nil pass0 rfl M.g (by exact (pa_cons pe_str pa_nil))))) pss_nil)
      (pss_cons (ps_fld (pv 0) (pv 1) rfl) (pss_one (ps_fld (pv 0) (pv 2) rfl)))), ?_⟩
    refine ⟨_, rfl, a, rfl, aa, _, rfl, ?_⟩
    cases e : isNum a 0 with
    | false => exact iteT ⟨(by show 1 ≤ 1000; decide), er_read (q2 e)⟩
    | true =>
      refine iteF ⟨_, rfl, v, rfl, av, _, rfl, ?_⟩
      cases e2 : isNum v 1 with
      | false => exact iteT ⟨(by show 1 ≤ 1000; decide), er_read (q3 e e2)⟩
      | true =>
        have stores : Q .non (upd (upd H x (.ins C dx (putF "at" a []))) x (.ins C dx (putF "amount" v (putF "at" a [])))) := by
          rw [upd_upd, put_two]
          exact q1 e e2
        exact iteF ⟨_, rfl, _, rfl, x, C, dx, _, rfl, hx, cl, nT, (by show 0 < 1000; decide), _, rfl, _, rfl, x, C, dx, _, rfl, upd_same, cl, nA, (by show 1 < 1000; decide), stores⟩
/-! the texts -/
def bText (i : Int) : Str := Str.empty ++ "begin " ++ num i
def tText (i : Int) : Str := Str.empty ++ "take " ++ num i
def tbText (i j : Int) : Str := Str.empty ++ "take " ++ num i ++ " by " ++ num j
def rText (i j : Int) : Str := Str.empty ++ "right " ++ num i ++ " to " ++ num j
def spBStr (C : Addr) : Sp := fun vs H Q _ => ∃ (x dx : Addr) (i : Int), vs = [.ref x] ∧ H x = some (.ins C dx [("amount", .int i)]) ∧ Am i ∧ Q (.str (bText i)) H
def spTStr (C : Addr) : Sp := fun vs H Q _ => ∃ (x dx : Addr) (i : Int) (v : V), vs = [.ref x] ∧ H x = some (.ins C dx (two (.int i) v)) ∧ Am i ∧
  ((v = .non ∧ Q (.str (tText i)) H) ∨ ∃ j, v = .int j ∧ Am j ∧ Q (.str (tbText i j)) H)
def spRStr (C : Addr) : Sp := fun vs H Q _ => ∃ (x dx : Addr) (i j : Int), vs = [.ref x] ∧ H x = some (.ins C dx (two (.int i) (.int j))) ∧ Am i ∧ Am j ∧ Q (.str (rText i j)) H
theorem scBStr : FnScope ["self"] ["self"] (defScope sBStr) := ⟨rfl, rfl, rfl, by decide +kernel, rfl, by decide +kernel, by decide +kernel⟩
theorem scTStr : FnScope ["self"] ["self"] (defScope sTStr) := ⟨rfl, rfl, rfl, by decide +kernel, rfl, by decide +kernel, by decide +kernel⟩
theorem scRStr : FnScope ["self"] ["self"] (defScope sRStr) := ⟨rfl, rfl, rfl, by decide +kernel, rfl, by decide +kernel, by decide +kernel⟩
theorem ok_bStr {f C : Addr} {fd : FuncData} (F : Fun K "__str__" "Begin.__str__" sBStr f fd) (cl : Cls K C) (nA : NoAttr K C "amount") : FnOk P w K mg base CX0 1 f fd ["self"] (spBStr C) := by
  refine F.ok scBStr (fun vs H Q E h => ?_) (fun cdv A outer s H vs Q E hr h => ?_)
  · obtain ⟨x, dx, i, rfl, _⟩ := h
    rfl
  · obtain ⟨x, dx, i, rfl, hx, am, q⟩ := h
    have l := num_len am
    refine ⟨_, pss_one (ps_ret (pe_joined (.cons pe_str (.cons (pe_fmt (pe_fld (pv 0) rfl)) .nil)))), ?_⟩
    have e1 : ("begin " : Str).length = 6 := by decide +kernel
    have e0 : (Str.empty).length = 0 := rfl
    refine ⟨_, rfl, small (by rw [app_len, e1, e0]; decide), _, rfl, x, C, dx, _, _, rfl, hx, cl, nA, rfl, .inr ⟨i, rfl, am_log am, _, rfl, small ?_, q⟩⟩
    show (Str.empty ++ "begin " ++ num i).length ≤ 10000
    rw [app_len, app_len, e1, e0]
    omega
end
end V3

set_option Elab.async false
set_option linter.all false
set_option maxRecDepth 100000
namespace V3
open PySem L2 TL
/-! a move, its words, its text -/
inductive Mv where
  | beg (a : Int) | take (t : Int) | takeBy (t a : Int) | right (t a : Int) | shut
  deriving DecidableEq
def Idx (t : Int) : Prop := 0 ≤ t ∧ t ≤ 10000000000000000000000000000000000000000
def Amt (a : Int) : Prop := 1 ≤ a ∧ a ≤ 10000000000000000000000000000000000000000
def Mv.ok : Mv → Prop
  | .beg a => Amt a
  | .take t => Idx t
  | .takeBy t a => Idx t ∧ Amt a
  | .right t a => Idx t ∧ Amt a
  | .shut => True
def Mv.evens : Mv → List Str
  | .beg _ => ["begin"]
  | .take _ => ["take"]
  | .takeBy _ _ => ["take", "by"]
  | .right _ _ => ["right", "to"]
  | .shut => ["shut"]
def Mv.nums : Mv → List Int
  | .beg a => [a]
  | .take t => [t]
  | .takeBy t a => [t, a]
  | .right t a => [t, a]
  | .shut => []
def Mv.words : Mv → List Str
  | .beg a => ["begin", num a]
  | .take t => ["take", num t]
  | .takeBy t a => ["take", num t, "by", num a]
  | .right t a => ["right", num t, "to", num a]
  | .shut => ["shut"]
def Mv.text (m : Mv) : Str := Str.join sp1 m.words
theorem nums_ok {m : Mv} (h : m.ok) : ∀ n ∈ m.nums, Idx n := by
  intro n hn
  cases m with
  | shut => cases hn
  | _ =>
    simp only [Mv.nums, List.mem_cons, List.not_mem_nil, or_false] at hn
    simp only [Mv.ok, Amt, Idx] at h
    unfold Idx
    first
      | (subst hn; omega)
      | (rcases hn with rfl | rfl <;> omega)
theorem at_am {t : Int} (h : Idx t) : Am t := by
  unfold Idx at h
  unfold Am
  omega
/-- no blank in a word, no semicolon either -/
theorem words_free {m : Mv} (h : m.ok) : ∀ p ∈ m.words, 32 ∉ tl p ∧ 59 ∉ tl p := by
  have k : ∀ z : Int, 0 ≤ z → 32 ∉ tl (num z) ∧ 59 ∉ tl (num z) := fun z hz => ⟨num_free hz (by decide), num_free hz (by decide)⟩
  have e1 : 32 ∉ tl "begin" ∧ 59 ∉ tl "begin" := by decide +kernel
  have e2 : 32 ∉ tl "take" ∧ 59 ∉ tl "take" := by decide +kernel
  have e3 : 32 ∉ tl "by" ∧ 59 ∉ tl "by" := by decide +kernel
  have e4 : 32 ∉ tl "right" ∧ 59 ∉ tl "right" := by decide +kernel
  have e5 : 32 ∉ tl "to" ∧ 59 ∉ tl "to" := by decide +kernel
  have e6 : 32 ∉ tl "shut" ∧ 59 ∉ tl "shut" := by decide +kernel
  intro p hp
  cases m with
  | beg a =>
    have h' : Amt a := h
    unfold Amt at h'
    simp only [Mv.words, List.mem_cons, List.not_mem_nil, or_false] at hp
    rcases hp with rfl | rfl
    · exact e1
    · exact k a (by omega)
  | take t =>
    have h' : Idx t := h
    unfold Idx at h'
    simp only [Mv.words, List.mem_cons, List.not_mem_nil, or_false] at hp
    rcases hp with rfl | rfl
    · exact e2
    · exact k t (by omega)
  | takeBy t a =>
    have h' : Idx t ∧ Amt a := h
    unfold Idx Amt at h'
    simp only [Mv.words, List.mem_cons, List.not_mem_nil, or_false] at hp
    rcases hp with rfl | rfl | rfl | rfl
    · exact e2
    · exact k t (by omega)
    · exact e3
    · exact k a (by omega)
  | right t a =>
    have h' : Idx t ∧ Amt a := h
    unfold Idx Amt at h'
    simp only [Mv.words, List.mem_cons, List.not_mem_nil, or_false] at hp
    rcases hp with rfl | rfl | rfl | rfl
    · exact e4
    · exact k t (by omega)
    · exact e5
    · exact k a (by omega)
  | shut =>
    simp only [Mv.words, List.mem_cons, List.not_mem_nil, or_false] at hp
    subst hp
    exact e6
theorem words_ne (m : Mv) : m.words ≠ [] := by cases m <;> exact (fun z => nomatch z)
theorem split_text {m : Mv} (h : m.ok) : Txt.split m.text sp1 = m.words := by
  unfold Mv.text
  have z := split_join sp_tl (by decide +kernel) (words_ne m) fun p hp => (words_free h p hp).1
  rw [join_eq] at z
  exact z
/-- the texts that the program writes are these -/
theorem b_text (a : Int) : bText a = (Mv.beg a).text := ext_tl (by
  unfold bText Mv.text
  rw [tl_join]
  simp only [tl_append, Mv.words, List.map, joinL, sp_tl]
  have e : tl ("begin " : Str) = tl ("begin" : Str) ++ [32] := by decide +kernel
  rw [e]
  simp [Str.empty, tl])
end V3

set_option Elab.async false
set_option linter.all false
set_option maxRecDepth 100000
namespace V3
open PySem L2 TL
abbrev sReadNumber : Stmt := top 4
theorem digit_yes : ∀ c : Nat, c < 58 → 48 ≤ c → Unicode.isDigit c = true := by decide +kernel
theorem all_list (x : Str) (p : Nat → Bool) : x.cps.all p = (tl x).all p := by
  unfold tl
  rw [Array.all_toList]
theorem num_digit {t : Int} (h : 0 ≤ t) : Txt.isdigit (num t) = true := by
  unfold Txt.isdigit
  rw [all_list, tl_num' h]
  have l : (num t).length > 0 := by
    rw [len_tl, tl_num' h]
    exact List.length_pos_iff.mpr (numL_ne _)
  rw [decide_eq_true l, Bool.true_and]
  exact List.all_eq_true.mpr fun c hc => by
    obtain ⟨a, b⟩ := numL_digits _ c hc
    exact digit_yes c (by omega) a
theorem num_ascii {t : Int} (h : 0 ≤ t) : Txt.isascii (num t) = true := by
  unfold Txt.isascii
  rw [all_list, tl_num' h]
  exact List.all_eq_true.mpr fun c hc => by
    obtain ⟨a, b⟩ := numL_digits _ c hc
    exact decide_eq_true (by omega)
/-- the first digit of a number that is not 0 is not 0 -/
theorem head_digit : ∀ n : Nat, 0 < n → (numL n).take 1 ≠ [48] := by
  intro n
  induction n using Nat.strongRecOn with
  | _ n ih =>
    intro hn
    by_cases h : n < 10
    · rw [numL_lt h]
      intro z
      simp at z
      omega
    · rw [numL_step (by omega)]
      have k := ih (n / 10) (by omega) (by omega)
      have e : (numL (n / 10) ++ [48 + n % 10]).take 1 = (numL (n / 10)).take 1 := by
        cases q : numL (n / 10) with
        | nil => exact absurd q (numL_ne _)
        | cons a l => rfl
      rw [e]
      exact k
theorem num_starts {t : Int} (h : 0 ≤ t) (e : Txt.startswith (num t) "0" = true) : num t = "0" := by
  have z : tl ("0" : Str) = [48] := by decide +kernel
  have hA : PySem.StrLaws.At (num t) "0" (num t).length 0 := by
    unfold Txt.startswith at e
    obtain ⟨e1, e2⟩ := Bool.and_eq_true_iff.mp e
    exact ⟨of_decide_eq_true e1, e2⟩
  have p := (at_iff (by rw [z]; exact (fun q => nomatch q)) 0).mp hA
  rw [z, tl_num' h] at p
  have q : (numL t.toNat).take 1 = [48] := by
    have q2 : ((numL t.toNat).drop 0).take 1 == [48] := p
    simpa using q2
  by_cases n : 0 < t.toNat
  · exact absurd q (head_digit _ n)
  · refine ext_tl ?_
    rw [tl_num' h, z]
    have e0 : t.toNat = 0 := by omega
    rw [e0]
    exact numL_lt (by decide)
def spRN : Sp := fun vs H Q _ => ∃ t : Int, vs = [.str (num t)] ∧ V3.Idx t ∧ Q (.int t) H
section
variable {P : Program} {w : World} {K : PySem.W.Frag} {mg : Str → Option Value} {base : Heap}
theorem scReadNumber : FnScope ["text"] ["text"] (defScope sReadNumber) := ⟨rfl, rfl, rfl, by decide +kernel, rfl, by decide +kernel, by decide +kernel⟩
theorem ok_readNumber {f : Addr} {fd : FuncData} (F : Fun K "read_number" "read_number" sReadNumber f fd) (zi : mg "int" = none) : FnOk P w K mg base CX0 1 f fd ["text"] spRN := by
  refine F.ok scReadNumber (fun vs H Q E h => ?_) (fun cdv A outer s H vs Q E hr h => ?_)
  · obtain ⟨t, rfl, _⟩ := h
    rfl
  · obtain ⟨t, rfl, ok, q⟩ := h
    refine ⟨_, pss_cons (ps_if (pt_not (PW.pt (pw_and (pt_val (pe_m0 PySem.F.slot_str_isascii PySem.F.type_str_isascii mt_isascii (pv 0))) (pw_and1 (pt_val (pe_m0 PySem.F.slot_str_isdigit PySem.F.type_str_isdigit mt_isdigit (pv 0))))))) (pss_one (ps_ret pe_non)) pss_nil)
      (pss_cons (ps_if (PW.pt (pw_and (pt_val (pe_m1 PySem.F.slot_str_startswith PySem.F.type_str_startswith mt_startswith (pv 0) pe_str)) (pw_and1 (pt_cmpR op_ne (pv 0) pe_str (nomark _))))) (pss_one (ps_ret pe_non)) pss_nil)
      (pss_one (ps_ret (pe_callTy call_int_str (by rfl) zi (by decide +kernel) (pa_cons (pv 0) pa_nil))))), ?_⟩
    have t0 : 0 ≤ t := ok.1
    refine ⟨_, rfl, ⟨_, rfl⟩, _, rfl, rfl, trivial, _, rfl, ?_⟩
    rw [num_ascii t0]
    refine iteT ⟨_, rfl, ⟨_, rfl⟩, _, rfl, rfl, trivial, _, rfl, ?_⟩
    rw [num_digit t0]
    refine iteF ⟨_, rfl, ⟨_, rfl⟩, _, _, rfl, rfl, _, rfl, ?_⟩
    have e : ((t.toNat : Nat) : Int) = t := by omega
    have nl : (numL t.toNat).length ≤ 41 := numL_len (k := 41) (by decide) (by
      have := ok.2
      have p : (10 : Nat) ^ 41 = 100000000000000000000000000000000000000000 := by decide
      omega)
    have fin : tRet (tCB (fun xs H Q => ∃ a n, xs = [.str a] ∧ PySem.intText? a = some n ∧ a.length ≤ 640 ∧ Q (.int n) H) (tCons (tVar 0) tNil)) { nx := fun _ H' => Q .non H', rt := Q } (start ["text"] [V.str (num t)]) H := by
      refine ⟨_, rfl, _, t, rfl, ?_, ?_, q⟩
      · have z := int_num (n := t.toNat) (by omega)
        rw [e] at z
        exact z
      · rw [len_tl, tl_num' t0]
        omega
    cases es : Txt.startswith (num t) "0" with
    | false => exact iteF (iteF fin)
    | true =>
      refine iteT ⟨_, rfl, rfl, _, rfl, ?_⟩
      rw [num_starts t0 es] at fin ⊢
      rw [decide_eq_true rfl]
      exact iteF fin
end
end V3

set_option Elab.async false
set_option linter.all false
set_option maxRecDepth 100000
namespace V3
open PySem L2 TL
abbrev sMoveOf : Stmt := top 19
abbrev sReadMove : Stmt := top 18
abbrev sReadMoves : Stmt := top 17
abbrev sHRead : Stmt := inClass (top 15) 1
/-- where the classes stand -/
structure Cl where
  B : Addr
  T : Addr
  R : Addr
  S : Addr
  Hi : Addr
def Mv.obj (c : Cl) (dx : Addr) : Mv → HO
  | .beg a => .ins c.B dx [("amount", .int a)]
  | .take t => .ins c.T dx (two (.int t) .non)
  | .takeBy t a => .ins c.T dx (two (.int t) (.int a))
  | .right t a => .ins c.R dx (two (.int t) (.int a))
  | .shut => .ins c.S dx []
def MvAt (c : Cl) (H : Hp) (v : V) (m : Mv) : Prop := ∃ x dx, v = .ref x ∧ H x = some (m.obj c dx)
theorem MvAt.same {c : Cl} {H H' : Hp} {v : V} {m : Mv} (h : MvAt c H v m) (s : Same H H') : MvAt c H' v m := by
  obtain ⟨x, dx, e, hx⟩ := h
  exact ⟨x, dx, e, s _ _ hx⟩
theorem num_yes {i n : Int} (h : n ≤ i) : isNum (.int i) n = true := decide_eq_true h
structure MkTxt (P : Program) (w : World) (K : PySem.W.Frag) (mg : Str → Option Value) (base : Heap) (name : Str) (ps : List Str) (C : Addr) (spI : Sp) (dv : List V) : Prop where
  g : mg name = some (.ref C)
  ini : ∃ (f : Addr) (fd : FuncData), FnOk P w K mg base (L2.CX P w) 4 f fd ps spI ∧ Mk K C f ∧ Binds K fd ps [] ∧ ∃ ds, Vals dv ds ∧ Binds K fd ps ds
/-- the program's moves, how they are made -/
structure MvTxt (P : Program) (w : World) (K : PySem.W.Frag) (mg : Str → Option Value) (base : Heap) (c : Cl) (CM : Addr) : Prop where
  B : MkTxt P w K mg base "Begin" ["self", "amount"] c.B (spBegin c.B CM) []
  T : MkTxt P w K mg base "Take" ["self", "at", "amount"] c.T (spTake c.T CM) [.non]
  R : MkTxt P w K mg base "Right" ["self", "at", "amount"] c.R (spRight c.R CM) []
  S : Mk0 K c.S
  gS : mg "Shut" = some (.ref c.S)
def spMO (c : Cl) : Sp := fun vs H Q _ => ∃ (w n : Addr) (m : Mv), vs = [.ref w, .ref n] ∧ H w = some (.lst (m.evens.map V.str)) ∧ H n = some (.lst (m.nums.map V.int)) ∧ m.ok ∧
  ∀ (x dx : Addr) (H' : Hp), Same H H' → H' x = some (m.obj c dx) → Q (.ref x) H'
section
variable {P : Program} {w : World} {K : PySem.W.Frag} {mg : Str → Option Value} {base : Heap}
theorem scMoveOf : FnScope ["words", "numbers", "form"] ["words", "numbers"] (defScope sMoveOf) := ⟨rfl, rfl, rfl, by decide +kernel, rfl, by decide +kernel, by decide +kernel⟩
/-- form == (..): a new tuple, the answer by the data -/
theorem form_eq {D : Ends} {σ : L2.St} {H : Hp} {q : Addr} {fs ls : List V} {ds es : List PyData} {t : TA} {b : Bool} {A B : TS}
    (hσ : σ[2]? = some (some (.ref q))) (hq : H q = some (.tup fs)) (hf : ∀ H', DpAll K H' fs ds) (ht : ∀ Q', Q' ls H → t σ H Q') (hl : ∀ H', DpAll K H' ls es) (hz : ls.length ≤ sizeLine)
    (s1 : SeqAt.shaped (.tuple ds) = true) (s2 : SeqAt.shaped (.tuple es) = true) (e : PyData.eqv (.tuple ds) (.tuple es) = b) (k : ∀ H', Same H H' → if b = true then A D σ H' else B D σ H') :
    tIfS (tTest (tOp (rEqD K) (tVar 2) (tTup t))) A B D σ H := by
  refine ⟨_, hσ, ht _ ⟨hz, fun p np => ?_⟩⟩
  have s3 : Same H (upd H p (.tup ls)) := Same.new np
  refine ⟨.tuple ds, .tuple es, .tup (SqT.of (s3 _ _ hq)) (hf _), .tup (SqT.of upd_same) (hl _), s1, s2, _, rfl, ?_⟩
  rw [e]
  exact k _ s3
theorem ok_moveOf {f CM : Addr} {c : Cl} {fd : FuncData} (F : Fun K "move_of" "move_of" sMoveOf f fd) (zl : mg "len" = none) (T : MvTxt P w K mg base c CM) : FnOk P w K mg base CX0 6 f fd ["words", "numbers"] (spMO c) := by
  obtain ⟨f1, fd1, G1, M1, b1, _⟩ := T.B.ini
  obtain ⟨f3, fd3, G3, M3, b3, ds3, vd3, c3⟩ := T.T.ini
  obtain ⟨f5, fd5, G5, M5, b5, _⟩ := T.R.ini
  refine F.ok scMoveOf (fun vs H Q E h => ?_) (fun cdv A outer s H vs Q E hr h => ?_)
  · obtain ⟨w, n, m, rfl, _⟩ := h
    rfl
  · obtain ⟨wa, na, m, rfl, hw, hn, ok, k⟩ := h
    refine ⟨_, pss_cons (ps_set (i := 2) scMoveOf.nd rfl (Or.inl rfl) (pe_tup (StX.pa_star (pv 0) (pa_cons (pe_callB call_len_seq (by rfl) zl PySem.boot_len (pa_cons (pv 1) pa_nil)) pa_nil))))
      (pss_cons (ps_if (pt_cmpR (op_eqD hr.units) (pv 2) (pe_tup (pa_cons pe_str (pa_cons pe_int pa_nil))) (nomark _)) (pss_one (ps_ret (pe_make M1 G1 hr rfl T.B.g b1 .nil passL (pa_cons (pe_ix ix_list (pv 1) pe_int (fun _ _ => rfl)) pa_nil)))) pss_nil)
      (pss_cons (ps_if (pt_cmpR (op_eqD hr.units) (pv 2) (pe_tup (pa_cons pe_str (pa_cons pe_int pa_nil))) (nomark _)) (pss_one (ps_ret (pe_make M3 G3 hr rfl T.T.g c3 vd3 passL (pa_cons (pe_ix ix_list (pv 1) pe_int (fun _ _ => rfl)) pa_nil)))) pss_nil)
      (pss_cons (ps_if (pt_cmpR (op_eqD hr.units) (pv 2) (pe_tup (pa_cons pe_str (pa_cons pe_str (pa_cons pe_int pa_nil)))) (nomark _)) (pss_one (ps_ret (pe_make M3 G3 hr rfl T.T.g b3 .nil passL (pa_cons (pe_ix ix_list (pv 1) pe_int (fun _ _ => rfl)) (pa_cons (pe_ix ix_list (pv 1) pe_int (fun _ _ => rfl)) pa_nil))))) pss_nil)
      (pss_cons (ps_if (pt_cmpR (op_eqD hr.units) (pv 2) (pe_tup (pa_cons pe_str (pa_cons pe_str (pa_cons pe_int pa_nil)))) (nomark _)) (pss_one (ps_ret (pe_make M5 G5 hr rfl T.R.g b5 .nil passL (pa_cons (pe_ix ix_list (pv 1) pe_int (fun _ _ => rfl)) (pa_cons (pe_ix ix_list (pv 1) pe_int (fun _ _ => rfl)) pa_nil))))) pss_nil)
      (pss_cons (ps_if (pt_cmpR (op_eqD hr.units) (pv 2) (pe_tup (pa_cons pe_str (pa_cons pe_int pa_nil))) (nomark _)) (pss_one (ps_ret (pe_new0 T.S rfl T.gS))) pss_nil)
      (pss_one (ps_ret pe_non))))))), ?_⟩
    refine ⟨_, rfl, wa, _, rfl, .inr (SqL.of hw), _, rfl, na, _, rfl, .inl (SqL.of hn), ?_⟩
    rcases m with a | t | ⟨t, a⟩ | ⟨t, a⟩ | _
    · obtain ⟨a1, a2⟩ := (show Amt a from ok)
      refine ⟨(by show 2 ≤ sizeLine; decide), fun q nq => ?_⟩
      have hq : upd H q (.tup [.str "begin", .int 1]) q = some (.tup [.str "begin", .int 1]) := upd_same
      have S0 : Same H (upd H q (.tup [.str "begin", .int 1])) := Same.new nq
      change _ at hq
      show tSeq _ _ _ _ (upd H q (.tup [.str "begin", .int 1]))
      generalize upd H q (.tup [.str "begin", .int 1]) = H1 at hq S0 ⊢
      refine form_eq (fs := [.str "begin", .int 1]) (ls := [.str "begin", .int 1]) (b := true) rfl hq (fun _ => .cons (.str _) (.cons (.int _) .nil)) (fun _ h => h) (fun _ => .cons (.str _) (.cons (.int _) .nil)) (by show 2 ≤ sizeLine; decide) (by first | rfl | decide +kernel) (by first | rfl | decide +kernel) (by first | rfl | decide +kernel) (fun H2 s2 => iteT ?_)
      have SS := (S0).trans s2
      exact ⟨_, rfl, na, _, 0, _, rfl, rfl, SqL.of (SS _ _ hn), rfl, fun y dy ny ndy ne => ⟨y, dy, .int a, rfl, upd_same, .int _ (by omega), fun _ => ⟨rfl, k y dy _ (SS.trans (made_same2 ny ndy)) upd_same⟩, fun e => absurd (num_yes a1) (by rw [e]; decide)⟩⟩
    · obtain ⟨t1, t2⟩ := (show Idx t from ok)
      refine ⟨(by show 2 ≤ sizeLine; decide), fun q nq => ?_⟩
      have hq : upd H q (.tup [.str "take", .int 1]) q = some (.tup [.str "take", .int 1]) := upd_same
      have S0 : Same H (upd H q (.tup [.str "take", .int 1])) := Same.new nq
      change _ at hq
      show tSeq _ _ _ _ (upd H q (.tup [.str "take", .int 1]))
      generalize upd H q (.tup [.str "take", .int 1]) = H1 at hq S0 ⊢
      refine form_eq (fs := [.str "take", .int 1]) (ls := [.str "begin", .int 1]) (b := false) rfl hq (fun _ => .cons (.str _) (.cons (.int _) .nil)) (fun _ h => h) (fun _ => .cons (.str _) (.cons (.int _) .nil)) (by show 2 ≤ sizeLine; decide) (by first | rfl | decide +kernel) (by first | rfl | decide +kernel) (by first | rfl | decide +kernel) (fun H2 s2 => iteF ?_)
      have hq2 := s2 _ _ hq
      refine form_eq (fs := [.str "take", .int 1]) (ls := [.str "take", .int 1]) (b := true) rfl hq2 (fun _ => .cons (.str _) (.cons (.int _) .nil)) (fun _ h => h) (fun _ => .cons (.str _) (.cons (.int _) .nil)) (by show 2 ≤ sizeLine; decide) (by first | rfl | decide +kernel) (by first | rfl | decide +kernel) (by first | rfl | decide +kernel) (fun H3 s3 => iteT ?_)
      have SS := ((S0).trans s2).trans s3
      exact ⟨_, rfl, na, _, 0, _, rfl, rfl, SqL.of (SS _ _ hn), rfl, fun y dy ny ndy ne => ⟨y, dy, .int t, .non, rfl, upd_same, .int _ (by omega), .non, fun _ _ => ⟨rfl, k y dy _ (SS.trans (made_same2 ny ndy)) upd_same⟩, fun e => absurd (num_yes t1) (by rw [e]; decide), fun _ c => absurd rfl c⟩⟩
    · obtain ⟨⟨t1, t2⟩, a1, a2⟩ := (show Idx t ∧ Amt a from ok)
      refine ⟨(by show 3 ≤ sizeLine; decide), fun q nq => ?_⟩
      have hq : upd H q (.tup [.str "take", .str "by", .int 2]) q = some (.tup [.str "take", .str "by", .int 2]) := upd_same
      have S0 : Same H (upd H q (.tup [.str "take", .str "by", .int 2])) := Same.new nq
      change _ at hq
      show tSeq _ _ _ _ (upd H q (.tup [.str "take", .str "by", .int 2]))
      generalize upd H q (.tup [.str "take", .str "by", .int 2]) = H1 at hq S0 ⊢
      refine form_eq (fs := [.str "take", .str "by", .int 2]) (ls := [.str "begin", .int 1]) (b := false) rfl hq (fun _ => .cons (.str _) (.cons (.str _) (.cons (.int _) .nil))) (fun _ h => h) (fun _ => .cons (.str _) (.cons (.int _) .nil)) (by show 2 ≤ sizeLine; decide) (by first | rfl | decide +kernel) (by first | rfl | decide +kernel) (by first | rfl | decide +kernel) (fun H2 s2 => iteF ?_)
      have hq2 := s2 _ _ hq
      refine form_eq (fs := [.str "take", .str "by", .int 2]) (ls := [.str "take", .int 1]) (b := false) rfl hq2 (fun _ => .cons (.str _) (.cons (.str _) (.cons (.int _) .nil))) (fun _ h => h) (fun _ => .cons (.str _) (.cons (.int _) .nil)) (by show 2 ≤ sizeLine; decide) (by first | rfl | decide +kernel) (by first | rfl | decide +kernel) (by first | rfl | decide +kernel) (fun H3 s3 => iteF ?_)
      have hq3 := s3 _ _ hq2
      refine form_eq (fs := [.str "take", .str "by", .int 2]) (ls := [.str "take", .str "by", .int 2]) (b := true) rfl hq3 (fun _ => .cons (.str _) (.cons (.str _) (.cons (.int _) .nil))) (fun _ h => h) (fun _ => .cons (.str _) (.cons (.str _) (.cons (.int _) .nil))) (by show 3 ≤ sizeLine; decide) (by first | rfl | decide +kernel) (by first | rfl | decide +kernel) (by first | rfl | decide +kernel) (fun H4 s4 => iteT ?_)
      have SS := (((S0).trans s2).trans s3).trans s4
      exact ⟨_, rfl, na, _, 0, _, rfl, rfl, SqL.of (SS _ _ hn), rfl, _, rfl, na, _, 1, _, rfl, rfl, SqL.of (SS _ _ hn), rfl, fun y dy ny ndy ne => ⟨y, dy, .int t, .int a, rfl, upd_same, .int _ (by omega), .int _ (by omega), fun _ _ => ⟨rfl, k y dy _ (SS.trans (made_same2 ny ndy)) upd_same⟩, fun e => absurd (num_yes t1) (by rw [e]; decide), fun _ _ e => absurd (num_yes a1) (by rw [e]; decide)⟩⟩
    · obtain ⟨⟨t1, t2⟩, a1, a2⟩ := (show Idx t ∧ Amt a from ok)
      refine ⟨(by show 3 ≤ sizeLine; decide), fun q nq => ?_⟩
      have hq : upd H q (.tup [.str "right", .str "to", .int 2]) q = some (.tup [.str "right", .str "to", .int 2]) := upd_same
      have S0 : Same H (upd H q (.tup [.str "right", .str "to", .int 2])) := Same.new nq
      change _ at hq
      show tSeq _ _ _ _ (upd H q (.tup [.str "right", .str "to", .int 2]))
      generalize upd H q (.tup [.str "right", .str "to", .int 2]) = H1 at hq S0 ⊢
      refine form_eq (fs := [.str "right", .str "to", .int 2]) (ls := [.str "begin", .int 1]) (b := false) rfl hq (fun _ => .cons (.str _) (.cons (.str _) (.cons (.int _) .nil))) (fun _ h => h) (fun _ => .cons (.str _) (.cons (.int _) .nil)) (by show 2 ≤ sizeLine; decide) (by first | rfl | decide +kernel) (by first | rfl | decide +kernel) (by first | rfl | decide +kernel) (fun H2 s2 => iteF ?_)
      have hq2 := s2 _ _ hq
      refine form_eq (fs := [.str "right", .str "to", .int 2]) (ls := [.str "take", .int 1]) (b := false) rfl hq2 (fun _ => .cons (.str _) (.cons (.str _) (.cons (.int _) .nil))) (fun _ h => h) (fun _ => .cons (.str _) (.cons (.int _) .nil)) (by show 2 ≤ sizeLine; decide) (by first | rfl | decide +kernel) (by first | rfl | decide +kernel) (by first | rfl | decide +kernel) (fun H3 s3 => iteF ?_)
      have hq3 := s3 _ _ hq2
      refine form_eq (fs := [.str "right", .str "to", .int 2]) (ls := [.str "take", .str "by", .int 2]) (b := false) rfl hq3 (fun _ => .cons (.str _) (.cons (.str _) (.cons (.int _) .nil))) (fun _ h => h) (fun _ => .cons (.str _) (.cons (.str _) (.cons (.int _) .nil))) (by show 3 ≤ sizeLine; decide) (by first | rfl | decide +kernel) (by first | rfl | decide +kernel) (by first | rfl | decide +kernel) (fun H4 s4 => iteF ?_)
      have hq4 := s4 _ _ hq3
      refine form_eq (fs := [.str "right", .str "to", .int 2]) (ls := [.str "right", .str "to", .int 2]) (b := true) rfl hq4 (fun _ => .cons (.str _) (.cons (.str _) (.cons (.int _) .nil))) (fun _ h => h) (fun _ => .cons (.str _) (.cons (.str _) (.cons (.int _) .nil))) (by show 3 ≤ sizeLine; decide) (by first | rfl | decide +kernel) (by first | rfl | decide +kernel) (by first | rfl | decide +kernel) (fun H5 s5 => iteT ?_)
      have SS := ((((S0).trans s2).trans s3).trans s4).trans s5
      exact ⟨_, rfl, na, _, 0, _, rfl, rfl, SqL.of (SS _ _ hn), rfl, _, rfl, na, _, 1, _, rfl, rfl, SqL.of (SS _ _ hn), rfl, fun y dy ny ndy ne => ⟨y, dy, .int t, .int a, rfl, upd_same, .int _ (by omega), .int _ (by omega), fun _ _ => ⟨rfl, k y dy _ (SS.trans (made_same2 ny ndy)) upd_same⟩, fun e => absurd (num_yes t1) (by rw [e]; decide), fun _ e => absurd (num_yes a1) (by rw [e]; decide)⟩⟩
    · skip
      refine ⟨(by show 2 ≤ sizeLine; decide), fun q nq => ?_⟩
      have hq : upd H q (.tup [.str "shut", .int 0]) q = some (.tup [.str "shut", .int 0]) := upd_same
      have S0 : Same H (upd H q (.tup [.str "shut", .int 0])) := Same.new nq
      change _ at hq
      show tSeq _ _ _ _ (upd H q (.tup [.str "shut", .int 0]))
      generalize upd H q (.tup [.str "shut", .int 0]) = H1 at hq S0 ⊢
      refine form_eq (fs := [.str "shut", .int 0]) (ls := [.str "begin", .int 1]) (b := false) rfl hq (fun _ => .cons (.str _) (.cons (.int _) .nil)) (fun _ h => h) (fun _ => .cons (.str _) (.cons (.int _) .nil)) (by show 2 ≤ sizeLine; decide) (by first | rfl | decide +kernel) (by first | rfl | decide +kernel) (by first | rfl | decide +kernel) (fun H2 s2 => iteF ?_)
      have hq2 := s2 _ _ hq
      refine form_eq (fs := [.str "shut", .int 0]) (ls := [.str "take", .int 1]) (b := false) rfl hq2 (fun _ => .cons (.str _) (.cons (.int _) .nil)) (fun _ h => h) (fun _ => .cons (.str _) (.cons (.int _) .nil)) (by show 2 ≤ sizeLine; decide) (by first | rfl | decide +kernel) (by first | rfl | decide +kernel) (by first | rfl | decide +kernel) (fun H3 s3 => iteF ?_)
      have hq3 := s3 _ _ hq2
      refine form_eq (fs := [.str "shut", .int 0]) (ls := [.str "take", .str "by", .int 2]) (b := false) rfl hq3 (fun _ => .cons (.str _) (.cons (.int _) .nil)) (fun _ h => h) (fun _ => .cons (.str _) (.cons (.str _) (.cons (.int _) .nil))) (by show 3 ≤ sizeLine; decide) (by first | rfl | decide +kernel) (by first | rfl | decide +kernel) (by first | rfl | decide +kernel) (fun H4 s4 => iteF ?_)
      have hq4 := s4 _ _ hq3
      refine form_eq (fs := [.str "shut", .int 0]) (ls := [.str "right", .str "to", .int 2]) (b := false) rfl hq4 (fun _ => .cons (.str _) (.cons (.int _) .nil)) (fun _ h => h) (fun _ => .cons (.str _) (.cons (.str _) (.cons (.int _) .nil))) (by show 3 ≤ sizeLine; decide) (by first | rfl | decide +kernel) (by first | rfl | decide +kernel) (by first | rfl | decide +kernel) (fun H5 s5 => iteF ?_)
      have hq5 := s5 _ _ hq4
      refine form_eq (fs := [.str "shut", .int 0]) (ls := [.str "shut", .int 0]) (b := true) rfl hq5 (fun _ => .cons (.str _) (.cons (.int _) .nil)) (fun _ h => h) (fun _ => .cons (.str _) (.cons (.int _) .nil)) (by show 2 ≤ sizeLine; decide) (by first | rfl | decide +kernel) (by first | rfl | decide +kernel) (by first | rfl | decide +kernel) (fun H6 s6 => iteT ?_)
      have SS := (((((S0).trans s2).trans s3).trans s4).trans s5).trans s6
      exact fun y dy ny ndy ne => k y dy _ (SS.trans (made_same ny ndy)) upd_same
end
end V3

set_option Elab.async false
set_option linter.all false
set_option maxRecDepth 100000
namespace V3
open PySem L2 TL
abbrev sSStr : Stmt := inClass (top 14) 1
abbrev sBEq : Stmt := inClass (top 11) 1
abbrev sTEq : Stmt := inClass (top 12) 1
abbrev sREq : Stmt := inClass (top 13) 1
abbrev sSEq : Stmt := inClass (top 14) 0
section
variable {P : Program} {w : World} {K : PySem.W.Frag} {mg : Str → Option Value} {base : Heap}
theorem ok_tStr {f C : Addr} {fd : FuncData} (F : Fun K "__str__" "Take.__str__" sTStr f fd) (cl : Cls K C) (nT : NoAttr K C "at") (nA : NoAttr K C "amount") : FnOk P w K mg base CX0 1 f fd ["self"] (spTStr C) := by
  refine F.ok scTStr (fun vs H Q E h => ?_) (fun cdv A outer s H vs Q E hr h => ?_)
  · obtain ⟨x, dx, i, v, rfl, _⟩ := h
    rfl
  · obtain ⟨x, dx, i, v, rfl, hx, am, q⟩ := h
    have l := num_len am
    have e1 : ("take " : Str).length = 5 := by decide +kernel
    have e2 : (" by " : Str).length = 4 := by decide +kernel
    have e0 : (Str.empty).length = 0 := rfl
    refine ⟨_, pss_cons (ps_if (pt_cmpR op_isN (pe_fld (pv 0) rfl) pe_non (nomark _)) (pss_one (ps_ret (pe_joined (.cons pe_str (.cons (pe_fmt (pe_fld (pv 0) rfl)) .nil))))) pss_nil)
      (pss_one (ps_ret (pe_joined (.cons pe_str (.cons (pe_fmt (pe_fld (pv 0) rfl)) (.cons pe_str (.cons (pe_fmt (pe_fld (pv 0) rfl)) .nil))))))), ?_⟩
    refine ⟨_, rfl, x, C, dx, _, _, rfl, hx, cl, nA, two_am _ _, rfl, _, rfl, ?_⟩
    have l1 : (Str.empty ++ "take " ++ num i).length ≤ 5000 := by
      rw [app_len, app_len, e1, e0]
      omega
    rcases q with ⟨rfl, q⟩ | ⟨j, rfl, aj, q⟩
    · rw [decide_eq_true rfl]
      exact iteT ⟨_, rfl, small (by rw [app_len, e1, e0]; decide), _, rfl, x, C, dx, _, _, rfl, hx, cl, nT, two_at _ _, .inr ⟨i, rfl, am_log am, _, rfl, small (Nat.le_trans l1 (by decide)), q⟩⟩
    · rw [decide_eq_false (fun z => nomatch z)]
      have lj := num_len aj
      have l2 : (Str.empty ++ "take " ++ num i ++ " by ").length ≤ 6000 := by
        rw [app_len, e2]
        omega
      refine iteF ⟨_, rfl, small (by rw [app_len, e1, e0]; decide), _, rfl, x, C, dx, _, _, rfl, hx, cl, nT, two_at _ _, .inr ⟨i, rfl, am_log am, _, rfl, small (Nat.le_trans l1 (by decide)), _, rfl, small (Nat.le_trans l2 (by decide)), _, rfl, x, C, dx, _, _, rfl, hx, cl, nA, two_am _ _, .inr ⟨j, rfl, am_log aj, _, rfl, small ?_, q⟩⟩⟩
      show (Str.empty ++ "take " ++ num i ++ " by " ++ num j).length ≤ 10000
      rw [app_len]
      omega
theorem ok_rStr {f C : Addr} {fd : FuncData} (F : Fun K "__str__" "Right.__str__" sRStr f fd) (cl : Cls K C) (nT : NoAttr K C "at") (nA : NoAttr K C "amount") : FnOk P w K mg base CX0 1 f fd ["self"] (spRStr C) := by
  refine F.ok scRStr (fun vs H Q E h => ?_) (fun cdv A outer s H vs Q E hr h => ?_)
  · obtain ⟨x, dx, i, j, rfl, _⟩ := h
    rfl
  · obtain ⟨x, dx, i, j, rfl, hx, am, aj, q⟩ := h
    have l := num_len am
    have lj := num_len aj
    have e1 : ("right " : Str).length = 6 := by decide +kernel
    have e2 : (" to " : Str).length = 4 := by decide +kernel
    have e0 : (Str.empty).length = 0 := rfl
    have l1 : (Str.empty ++ "right " ++ num i).length ≤ 5000 := by
      rw [app_len, app_len, e1, e0]
      omega
    have l2 : (Str.empty ++ "right " ++ num i ++ " to ").length ≤ 6000 := by
      rw [app_len, e2]
      omega
    refine ⟨_, pss_one (ps_ret (pe_joined (.cons pe_str (.cons (pe_fmt (pe_fld (pv 0) rfl)) (.cons pe_str (.cons (pe_fmt (pe_fld (pv 0) rfl)) .nil)))))), ?_⟩
    refine ⟨_, rfl, small (by rw [app_len, e1, e0]; decide), _, rfl, x, C, dx, _, _, rfl, hx, cl, nT, two_at _ _, .inr ⟨i, rfl, am_log am, _, rfl, small (Nat.le_trans l1 (by decide)), _, rfl, small (Nat.le_trans l2 (by decide)), _, rfl, x, C, dx, _, _, rfl, hx, cl, nA, two_am _ _, .inr ⟨j, rfl, am_log aj, _, rfl, small ?_, q⟩⟩⟩
    show (Str.empty ++ "right " ++ num i ++ " to " ++ num j).length ≤ 10000
    rw [app_len]
    omega
end
/-! the text of any move, and == of moves -/
def Mv.kind : Mv → Nat
  | .beg _ => 0
  | .take _ => 1
  | .takeBy _ _ => 1
  | .right _ _ => 2
  | .shut => 3
def Cl.at (c : Cl) : Nat → Addr
  | 0 => c.B
  | 1 => c.T
  | 2 => c.R
  | _ => c.S
theorem t_text (i : Int) : tText i = (Mv.take i).text := ext_tl (by
  unfold tText Mv.text
  rw [tl_join]
  simp only [tl_append, Mv.words, List.map, joinL, sp_tl]
  have e : tl ("take " : Str) = tl ("take" : Str) ++ [32] := by decide +kernel
  rw [e]
  simp [Str.empty, tl])
theorem tb_text (i j : Int) : tbText i j = (Mv.takeBy i j).text := ext_tl (by
  unfold tbText Mv.text
  rw [tl_join]
  simp only [tl_append, Mv.words, List.map, joinL, sp_tl]
  have e : tl ("take " : Str) = tl ("take" : Str) ++ [32] := by decide +kernel
  have e2 : tl (" by " : Str) = [32] ++ tl ("by" : Str) ++ [32] := by decide +kernel
  rw [e, e2]
  simp [Str.empty, tl])
theorem r_text (i j : Int) : rText i j = (Mv.right i j).text := ext_tl (by
  unfold rText Mv.text
  rw [tl_join]
  simp only [tl_append, Mv.words, List.map, joinL, sp_tl]
  have e : tl ("right " : Str) = tl ("right" : Str) ++ [32] := by decide +kernel
  have e2 : tl (" to " : Str) = [32] ++ tl ("to" : Str) ++ [32] := by decide +kernel
  rw [e, e2]
  simp [Str.empty, tl])
theorem am_of {a : Int} (h : Amt a) : Am a := by
  unfold Amt at h
  unfold Am
  omega
/-- str of a move of a kind -/
def spMS (c : Cl) (k : Nat) : Sp := fun vs H Q _ => ∃ (x dx : Addr) (m : Mv), vs = [.ref x] ∧ H x = some (m.obj c dx) ∧ m.kind = k ∧ m.ok ∧ Q (.str m.text) H
section
variable {P : Program} {w : World} {K : PySem.W.Frag} {mg : Str → Option Value} {base : Heap}
theorem scSStr : FnScope ["self"] ["self"] (defScope sSStr) := ⟨rfl, rfl, rfl, by decide +kernel, rfl, by decide +kernel, by decide +kernel⟩
theorem ok_sStr {f : Addr} {c : Cl} {fd : FuncData} (F : Fun K "__str__" "Shut.__str__" sSStr f fd) : FnOk P w K mg base CX0 1 f fd ["self"] (spMS c 3) := by
  refine F.ok scSStr (fun vs H Q E h => ?_) (fun cdv A outer s H vs Q E hr h => ?_)
  · obtain ⟨x, dx, m, rfl, _⟩ := h
    rfl
  · obtain ⟨x, dx, m, rfl, hx, hk, ok, q⟩ := h
    refine ⟨_, pss_one (ps_ret pe_str), ?_⟩
    cases m with
    | shut =>
      have e : Mv.shut.text = "shut" := by decide +kernel
      rw [e] at q
      exact q
    | _ => cases hk
theorem ms_b {f : Addr} {c : Cl} {fd : FuncData} (G : FnOk P w K mg base CX0 1 f fd ["self"] (spBStr c.B)) : FnOk P w K mg base CX0 1 f fd ["self"] (spMS c 0) := G.imp fun vs H Q E h => by
  obtain ⟨x, dx, m, rfl, hx, hk, ok, q⟩ := h
  cases m with
  | beg a =>
    rw [← b_text] at q
    exact ⟨x, dx, a, rfl, hx, am_of ok, q⟩
  | _ => cases hk
theorem ms_t {f : Addr} {c : Cl} {fd : FuncData} (G : FnOk P w K mg base CX0 1 f fd ["self"] (spTStr c.T)) : FnOk P w K mg base CX0 1 f fd ["self"] (spMS c 1) := G.imp fun vs H Q E h => by
  obtain ⟨x, dx, m, rfl, hx, hk, ok, q⟩ := h
  cases m with
  | take i =>
    rw [← t_text] at q
    exact ⟨x, dx, i, _, rfl, hx, at_am ok, .inl ⟨rfl, q⟩⟩
  | takeBy i j =>
    rw [← tb_text] at q
    exact ⟨x, dx, i, _, rfl, hx, at_am ok.1, .inr ⟨j, rfl, am_of ok.2, q⟩⟩
  | _ => cases hk
theorem ms_r {f : Addr} {c : Cl} {fd : FuncData} (G : FnOk P w K mg base CX0 1 f fd ["self"] (spRStr c.R)) : FnOk P w K mg base CX0 1 f fd ["self"] (spMS c 2) := G.imp fun vs H Q E h => by
  obtain ⟨x, dx, m, rfl, hx, hk, ok, q⟩ := h
  cases m with
  | right i j =>
    rw [← r_text] at q
    exact ⟨x, dx, i, j, rfl, hx, at_am ok.1, am_of ok.2, q⟩
  | _ => cases hk
end
theorem mv_at (c : Cl) (m : Mv) (dx : Addr) : ∃ fs, m.obj c dx = .ins (c.at m.kind) dx fs := by
  cases m <;> exact ⟨_, rfl⟩
theorem kind_lt (m : Mv) : m.kind < 4 := by
  cases m <;> (simp only [Mv.kind]; omega)
/-- how the classes of moves tell their text -/
structure StrTxt (P : Program) (w : World) (K : PySem.W.Frag) (mg : Str → Option Value) (base : Heap) (c : Cl) : Prop where
  s : ∀ k, k < 4 → ∃ (f : Addr) (fd : FuncData), FnOk P w K mg base CX0 1 f fd ["self"] (spMS c k) ∧ PySem.W.findIn K (.ref (c.at k)) "__str__" = some (some (.ref f)) ∧ PySem.W.isFn K (.ref f) = true ∧ Binds K fd ["self"] []
/-- str(x), x any move -/
def rStrM (c : Cl) : List V → Hp → VK → Prop := fun xs H Q => ∃ v m, xs = [v] ∧ MvAt c H v m ∧ m.ok ∧ Q (.str m.text) H
theorem call_strM {X : Cx} {c : Cl} (T : StrTxt X.prog X.w X.K X.mg X.base c) (room : Room 3 X.A) : CallR X (.type "str") (rStrM c) := by
  intro pins s σ H xs us Q I r h
  obtain ⟨v, m, rfl, ⟨x, dx, rfl, hx⟩, ok, q⟩ := h
  obtain ⟨f, fd, G, at_, isf, bi⟩ := T.s m.kind (kind_lt m)
  obtain ⟨fs, eo⟩ := mv_at c m dx
  refine call_strO (E := fun _ _ _ => False) G at_ isf bi pass0 room pins s σ H _ us Q I r ⟨x, dx, fs, rfl, by rw [hx, eo], x, dx, m, rfl, hx, rfl, ok, _, rfl, q⟩
/-- what of the classes of moves is == and isinstance -/
structure MvCls (K : PySem.W.Frag) (c : Cl) (MV : Addr) : Prop where
  cl : ∀ k, k < 4 → Cls K (c.at k) ∧ PySem.W.findIn K (.ref (c.at k)) "__class__" = some (some (.builtin "object.__class__")) ∧ PySem.W.mroIn K (c.at k) (.type "object") = some true ∧ PySem.W.kitOne K (.ref (c.at k)) (.ref MV) = some true
  gn : PySem.W.specialIn K (.builtin "object.__class__") "__get__" = some (some (.builtin "getset_descriptor.__get__"))
  tk : PySem.W.takesIn K (.builtin "object.__class__") = some true
  nf : ∀ k, k < 4 → ∀ j, j < 4 → PySem.W.notFirst K (c.at k) (.ref (c.at j)) = true
def spMEq (c : Cl) : Sp := fun vs H Q _ => ∃ (u v : V) (m n : Mv), vs = [u, v] ∧ MvAt c H u m ∧ MvAt c H v n ∧ m.ok ∧ n.ok ∧ Q (.bl (decide (m.text = n.text))) H
section
variable {P : Program} {w : World} {K : PySem.W.Frag} {mg : Str → Option Value} {base : Heap}
theorem scBEq : FnScope ["self", "other"] ["self", "other"] (defScope sBEq) := ⟨rfl, rfl, rfl, by decide +kernel, rfl, by decide +kernel, by decide +kernel⟩
theorem scTEq : FnScope ["self", "other"] ["self", "other"] (defScope sTEq) := ⟨rfl, rfl, rfl, by decide +kernel, rfl, by decide +kernel, by decide +kernel⟩
theorem scREq : FnScope ["self", "other"] ["self", "other"] (defScope sREq) := ⟨rfl, rfl, rfl, by decide +kernel, rfl, by decide +kernel, by decide +kernel⟩
theorem scSEq : FnScope ["self", "other"] ["self", "other"] (defScope sSEq) := ⟨rfl, rfl, rfl, by decide +kernel, rfl, by decide +kernel, by decide +kernel⟩
structure BltE (mg : Str → Option Value) : Prop where
  isi : mg "isinstance" = none
  str : mg "str" = none
theorem meq_run {c : Cl} {MV : Addr} {H : Hp} {u v : V} {m n : Mv} {Q : VK} (C : MvCls K c MV) (hu : MvAt c H u m) (hv : MvAt c H v n) (mo : m.ok) (no : n.ok) (q : Q (.bl (decide (m.text = n.text))) H) :
    tAndV (tCB (rIsi K) (tCons (tVar 1) (tCons (tC (.ref MV)) tNil))) (tOp rEq (tCB (rStrM c) (tCons (tVar 0) tNil)) (tCB (rStrM c) (tCons (tVar 1) tNil))) (start ["self", "other"] [u, v]) H Q := by
  obtain ⟨y, dy, rfl, hy⟩ := id hv
  obtain ⟨fs, eo⟩ := mv_at c n dy
  obtain ⟨cl, ca, mr, ki⟩ := C.cl n.kind (kind_lt n)
  refine ⟨_, rfl, _, _, _, _, _, rfl, .own MV, .base (.ins (by rw [hy, eo]) cl ca C.gn C.tk mr), ki, _, rfl, iteT ⟨_, rfl, u, m, rfl, hu, mo, _, rfl, _, n, rfl, hv, no, rfl, ?_⟩⟩
  have e : (V.str m.text = V.str n.text) ↔ (m.text = n.text) := ⟨fun z => by injection z, fun z => by rw [z]⟩
  have e2 : decide (V.str m.text = V.str n.text) = decide (m.text = n.text) := by
    by_cases h : m.text = n.text
    · rw [decide_eq_true h, decide_eq_true (e.mpr h)]
    · rw [decide_eq_false h, decide_eq_false (fun z => h (e.mp z))]
  rw [e2]
  exact q
theorem ok_bEq {f MV : Addr} {c : Cl} {fd : FuncData} (F : Fun K "__eq__" "Begin.__eq__" sBEq f fd) (T : BltE mg) (S : StrTxt P w K mg base c) (C : MvCls K c MV) (gM : mg "Move" = some (.ref MV)) : FnOk P w K mg base CX0 4 f fd ["self", "other"] (spMEq c) := by
  refine F.ok scBEq (fun vs H Q E h => ?_) (fun cdv A outer s H vs Q E hr h => ?_)
  · obtain ⟨u, v, m, n, rfl, _⟩ := h
    rfl
  · obtain ⟨u, v, m, n, rfl, hu, hv, mo, no, q⟩ := h
    exact ⟨_, pss_one (ps_ret (pe_and (pe_callB call_isi (by rfl) T.isi (by decide +kernel) (pa_cons (pv 1) (pa_cons (pe_glob (v := .ref MV) rfl gM rfl) pa_nil))) (pe_one (pe_cmpR op_eq (pe_callTy (call_strM S hr) (by rfl) T.str (by decide +kernel) (pa_cons (pv 0) pa_nil)) (pe_callTy (call_strM S hr) (by rfl) T.str (by decide +kernel) (pa_cons (pv 1) pa_nil)) (nomark _))))),
      meq_run C hu hv mo no q⟩
theorem ok_tEq {f MV : Addr} {c : Cl} {fd : FuncData} (F : Fun K "__eq__" "Take.__eq__" sTEq f fd) (T : BltE mg) (S : StrTxt P w K mg base c) (C : MvCls K c MV) (gM : mg "Move" = some (.ref MV)) : FnOk P w K mg base CX0 4 f fd ["self", "other"] (spMEq c) := by
  refine F.ok scTEq (fun vs H Q E h => ?_) (fun cdv A outer s H vs Q E hr h => ?_)
  · obtain ⟨u, v, m, n, rfl, _⟩ := h
    rfl
  · obtain ⟨u, v, m, n, rfl, hu, hv, mo, no, q⟩ := h
    exact ⟨_, pss_one (ps_ret (pe_and (pe_callB call_isi (by rfl) T.isi (by decide +kernel) (pa_cons (pv 1) (pa_cons (pe_glob (v := .ref MV) rfl gM rfl) pa_nil))) (pe_one (pe_cmpR op_eq (pe_callTy (call_strM S hr) (by rfl) T.str (by decide +kernel) (pa_cons (pv 0) pa_nil)) (pe_callTy (call_strM S hr) (by rfl) T.str (by decide +kernel) (pa_cons (pv 1) pa_nil)) (nomark _))))),
      meq_run C hu hv mo no q⟩
theorem ok_rEq' {f MV : Addr} {c : Cl} {fd : FuncData} (F : Fun K "__eq__" "Right.__eq__" sREq f fd) (T : BltE mg) (S : StrTxt P w K mg base c) (C : MvCls K c MV) (gM : mg "Move" = some (.ref MV)) : FnOk P w K mg base CX0 4 f fd ["self", "other"] (spMEq c) := by
  refine F.ok scREq (fun vs H Q E h => ?_) (fun cdv A outer s H vs Q E hr h => ?_)
  · obtain ⟨u, v, m, n, rfl, _⟩ := h
    rfl
  · obtain ⟨u, v, m, n, rfl, hu, hv, mo, no, q⟩ := h
    exact ⟨_, pss_one (ps_ret (pe_and (pe_callB call_isi (by rfl) T.isi (by decide +kernel) (pa_cons (pv 1) (pa_cons (pe_glob (v := .ref MV) rfl gM rfl) pa_nil))) (pe_one (pe_cmpR op_eq (pe_callTy (call_strM S hr) (by rfl) T.str (by decide +kernel) (pa_cons (pv 0) pa_nil)) (pe_callTy (call_strM S hr) (by rfl) T.str (by decide +kernel) (pa_cons (pv 1) pa_nil)) (nomark _))))),
      meq_run C hu hv mo no q⟩
theorem ok_sEq {f MV : Addr} {c : Cl} {fd : FuncData} (F : Fun K "__eq__" "Shut.__eq__" sSEq f fd) (T : BltE mg) (S : StrTxt P w K mg base c) (C : MvCls K c MV) (gM : mg "Move" = some (.ref MV)) : FnOk P w K mg base CX0 4 f fd ["self", "other"] (spMEq c) := by
  refine F.ok scSEq (fun vs H Q E h => ?_) (fun cdv A outer s H vs Q E hr h => ?_)
  · obtain ⟨u, v, m, n, rfl, _⟩ := h
    rfl
  · obtain ⟨u, v, m, n, rfl, hu, hv, mo, no, q⟩ := h
    exact ⟨_, pss_one (ps_ret (pe_and (pe_callB call_isi (by rfl) T.isi (by decide +kernel) (pa_cons (pv 1) (pa_cons (pe_glob (v := .ref MV) rfl gM rfl) pa_nil))) (pe_one (pe_cmpR op_eq (pe_callTy (call_strM S hr) (by rfl) T.str (by decide +kernel) (pa_cons (pv 0) pa_nil)) (pe_callTy (call_strM S hr) (by rfl) T.str (by decide +kernel) (pa_cons (pv 1) pa_nil)) (nomark _))))),
      meq_run C hu hv mo no q⟩
end
end V3

set_option Elab.async false
set_option linter.all false
set_option maxRecDepth 100000
namespace V3
open PySem L2 TL
/-! read_move -/
theorem text_len {m : Mv} (h : m.ok) : m.text.length ≤ 5000 := by
  have e0 : (Str.empty).length = 0 := rfl
  have e1 : ("begin " : Str).length = 6 := by decide +kernel
  have e2 : ("take " : Str).length = 5 := by decide +kernel
  have e3 : (" by " : Str).length = 4 := by decide +kernel
  have e4 : ("right " : Str).length = 6 := by decide +kernel
  have e5 : (" to " : Str).length = 4 := by decide +kernel
  cases m with
  | beg a =>
    rw [← b_text]
    have l := num_len (am_of h)
    unfold bText
    rw [app_len, app_len, e0, e1]
    omega
  | take t =>
    rw [← t_text]
    have l := num_len (at_am h)
    unfold tText
    rw [app_len, app_len, e0, e2]
    omega
  | takeBy t a =>
    rw [← tb_text]
    have l := num_len (at_am h.1)
    have l2 := num_len (am_of h.2)
    unfold tbText
    rw [app_len, app_len, app_len, app_len, e0, e2, e3]
    omega
  | right t a =>
    rw [← r_text]
    have l := num_len (at_am h.1)
    have l2 := num_len (am_of h.2)
    unfold rText
    rw [app_len, app_len, app_len, app_len, e0, e4, e5]
    omega
  | shut =>
    have e : Mv.shut.text.length = 4 := by decide +kernel
    rw [e]
    decide
theorem st12 : sliceRange (sliceBounds (some 1) none (some 2) 2).1 (sliceBounds (some 1) none (some 2) 2).2.1 (sliceBounds (some 1) none (some 2) 2).2.2 = [1] := by decide +kernel
theorem st14 : sliceRange (sliceBounds (some 1) none (some 2) 4).1 (sliceBounds (some 1) none (some 2) 4).2.1 (sliceBounds (some 1) none (some 2) 4).2.2 = [1, 3] := by decide +kernel
theorem st11 : sliceRange (sliceBounds (some 1) none (some 2) 1).1 (sliceBounds (some 1) none (some 2) 1).2.1 (sliceBounds (some 1) none (some 2) 1).2.2 = [] := by decide +kernel
theorem st02 : sliceRange (sliceBounds none none (some 2) 2).1 (sliceBounds none none (some 2) 2).2.1 (sliceBounds none none (some 2) 2).2.2 = [0] := by decide +kernel
theorem st04 : sliceRange (sliceBounds none none (some 2) 4).1 (sliceBounds none none (some 2) 4).2.1 (sliceBounds none none (some 2) 4).2.2 = [0, 2] := by decide +kernel
theorem st01 : sliceRange (sliceBounds none none (some 2) 1).1 (sliceBounds none none (some 2) 1).2.1 (sliceBounds none none (some 2) 1).2.2 = [0] := by decide +kernel
theorem step_of {xs : List V} {lo hi st : Option Int} {n : Nat} {l : List Nat} (hn : xs.length = n) (h : sliceRange (sliceBounds lo hi st n).1 (sliceBounds lo hi st n).2.1 (sliceBounds lo hi st n).2.2 = l) : stepV xs lo hi st = l.filterMap (fun i => xs[i]?) := by
  unfold stepV
  rw [hn, h]
theorem step_nums (m : Mv) : stepV (m.words.map V.str) (some 1) none (some 2) = (m.nums.map num).map V.str := by
  cases m with
  | beg a => exact step_of (n := 2) rfl st12
  | take t => exact step_of (n := 2) rfl st12
  | takeBy t a => exact step_of (n := 4) rfl st14
  | right t a => exact step_of (n := 4) rfl st14
  | shut => exact step_of (n := 1) rfl st11
theorem step_evens (m : Mv) : stepV (m.words.map V.str) none none (some 2) = m.evens.map V.str := by
  cases m with
  | beg a => exact step_of (n := 2) rfl st02
  | take t => exact step_of (n := 2) rfl st02
  | takeBy t a => exact step_of (n := 4) rfl st04
  | right t a => exact step_of (n := 4) rfl st04
  | shut => exact step_of (n := 1) rfl st01
theorem nums_len (m : Mv) : m.nums.length ≤ 2 := by cases m <;> (simp only [Mv.nums, List.length_cons, List.length_nil]; omega)
theorem evens_len (m : Mv) : m.evens.length ≤ 2 := by cases m <;> (simp only [Mv.evens, List.length_cons, List.length_nil]; omega)
theorem none_in (l : List Int) : inV .non (l.map V.int) = false := by
  induction l with
  | nil => rfl
  | cons a l ih => exact ih
theorem flat_ints (l : List Int) : (l.map V.int).all flatV = true := by
  induction l with
  | nil => rfl
  | cons a l ih => exact ih
theorem get_num {l : List Int} {i : Nat} {z : V} (h : (List.map V.str (List.map num l))[i]? = some z) : ∃ t, l[i]? = some t ∧ z = .str (num t) := by
  rw [List.getElem?_map, List.getElem?_map] at h
  cases e : l[i]? with
  | none => rw [e] at h; cases h
  | some t =>
    rw [e] at h
    exact ⟨t, rfl, (Option.some.inj h).symm⟩
theorem take_next' {α : Type} : ∀ {l : List α} {i : Nat} {x : α}, l[i]? = some x → l.take (i + 1) = l.take i ++ [x]
  | [], i, x, h => by simp at h
  | a :: l, 0, x, h => by
    have e : a = x := Option.some.inj h
    subst e
    rfl
  | a :: l, i + 1, x, h => by
    have ih := take_next' (l := l) (i := i) (x := x) h
    show a :: l.take (i + 1) = a :: l.take i ++ [x]
    rw [ih]
    rfl
def spRM (c : Cl) : Sp := fun vs H Q _ => ∃ m : Mv, vs = [.str m.text] ∧ m.ok ∧ ∀ (x dx : Addr) (H' : Hp), Same H H' → H' x = some (m.obj c dx) → Q (.ref x) H'
section
variable {P : Program} {w : World} {K : PySem.W.Frag} {mg : Str → Option Value} {base : Heap}
abbrev CalReadNumber (P : Program) (w : World) (K : PySem.W.Frag) (mg : Str → Option Value) (base : Heap) : Prop := Cal P w K mg base CX0 "read_number" 1 ["text"] spRN
abbrev CalMoveOf (P : Program) (w : World) (K : PySem.W.Frag) (mg : Str → Option Value) (base : Heap) (c : Cl) : Prop := Cal P w K mg base CX0 "move_of" 6 ["words", "numbers"] (spMO c)
theorem scReadMove : FnScope ["text", "words", "numbers", "word"] ["text"] (defScope sReadMove) := ⟨rfl, rfl, rfl, by decide +kernel, rfl, by decide +kernel, by decide +kernel⟩
theorem ok_readMove {f : Addr} {c : Cl} {fd : FuncData} (F : Fun K "read_move" "read_move" sReadMove f fd) (cN : CalReadNumber P w K mg base) (cM : CalMoveOf P w K mg base c) : FnOk P w K mg base CX0 7 f fd ["text"] (spRM c) := by
  obtain ⟨fN, fdN, GN, mN, kN, bN⟩ := cN
  obtain ⟨fM, fdM, GM, mM, kM, bM⟩ := cM
  refine F.ok scReadMove (fun vs H Q E h => ?_) (fun cdv A outer s H vs Q E hr h => ?_)
  · obtain ⟨m, rfl, _⟩ := h
    rfl
  · obtain ⟨m, rfl, ok, k⟩ := h
    refine ⟨_, pss_cons (ps_set (i := 1) scReadMove.nd rfl (Or.inl rfl) (pe_split (pv 0) pe_str))
      (pss_cons (ps_setLc (i := 2) (own := [("word", 3)]) (g := gName 3) (tt := tYes) (te := tCall spRN [] (fun _ _ _ => False) (tCons (tVar 3) tNil)) (by rfl) scReadMove.nd rfl rfl (sw_true rfl rfl rfl (by decide +kernel)) (pi_list (pe_step (pv 1) (po_some pe_int) po_none (po_some pe_int)))
          (blkOk_by (own := [("word", 3)]) (N := ["text", "words", "numbers", "word"]) (sc := defScope sReadMove) (by decide +kernel)) (fun _ _ _ _ _ => pg_name (i := 3) scReadMove.nd rfl (Or.inl rfl)) (fun _ _ _ _ _ => pts_nil)
          (fun _ _ _ _ _ => pe_call GN (hr.mono (by decide)) rfl mN kN bN .nil pass0 (pa_cons (pv 3) pa_nil)))
      (pss_cons (ps_if (pt_cmpR op_in_seq pe_non (pv 2) rfl) (pss_one (ps_ret pe_non)) pss_nil)
      (pss_one (ps_try_thru0 (pss_one (ps_ret (pe_call (E := fun _ _ _ => False) GM hr rfl mM kM bM .nil pass0 (pa_cons (pe_step (pv 1) po_none po_none (po_some pe_int)) (pa_cons (pv 2) pa_nil))))))))), ?_⟩
    have tl_ := text_len ok
    refine ⟨_, rfl, ⟨_, rfl⟩, _, sp1, rfl, rfl, by decide +kernel, Nat.le_trans (Nat.add_le_add_right tl_ 2) (by decide), fun wa nw => ?_⟩
    rw [split_text ok]
    have S1 : Same H (upd H wa (.lst (m.words.map V.str))) := Same.new nw
    have hw : upd H wa (.lst (m.words.map V.str)) wa = some (.lst (m.words.map V.str)) := upd_same
    generalize upd H wa (.lst (m.words.map V.str)) = H1 at S1 hw ⊢
    refine ⟨_, rfl, _, rfl, 2, rfl, wa, _, rfl, SqL.of hw, by decide, ?_, fun pa np => ?_⟩
    · rw [step_nums, List.length_map, List.length_map]
      exact Nat.le_trans (nums_len m) (by decide)
    rw [step_nums]
    have S2 : Same H1 (upd H1 pa (.lst ((m.nums.map num).map V.str))) := Same.new np
    have hp : upd H1 pa (.lst ((m.nums.map num).map V.str)) pa = some (.lst ((m.nums.map num).map V.str)) := upd_same
    generalize upd H1 pa (.lst ((m.nums.map num).map V.str)) = H2 at S2 hp ⊢
    refine ⟨pa, rfl, ⟨_, SqL.of hp⟩, fun D nD => ?_⟩
    refine lc_list (K := K) (a := pa) (xs := (m.nums.map num).map V.str) (fun i Hh => Same H2 Hh ∧ H2 D = none ∧ Hh D = some (.lst ((m.nums.take i).map V.int))) ⟨Same.new nD, nD, upd_same⟩ (fun i Hh _ p => SqL.of (p.1 _ _ hp)) ?_ ?_
    · intro i z Hh hi p
      obtain ⟨t, ht, rfl⟩ := get_num hi
      have okt : V3.Idx t := nums_ok ok t (List.mem_of_getElem? ht)
      refine ⟨rfl, ?_⟩
      unfold tYes
      dsimp only
      refine iteT ⟨_, rfl, t, rfl, okt, _, p.2.2, ?_, fun c o h => ?_, p.2.1, ?_⟩
      · have l := nums_len m
        refine Nat.lt_of_le_of_lt (m := 100) ?_ (by decide)
        rw [List.length_map, List.length_take]
        omega
      · rw [upd_ne (ne_of_none h p.2.1)]
        exact p.1 c o h
      · rw [upd_same, take_next' ht, List.map_append]
        rfl
    · intro H3 p
      obtain ⟨S3, nD, hD⟩ := p
      have e : ((m.nums.map num).map V.str).length = m.nums.length := by rw [List.length_map, List.length_map]
      rw [e, List.take_length] at hD
      refine ⟨_, rfl, D, _, rfl, .inl (SqL.of hD), rfl, flat_ints _, _, rfl, ?_⟩
      rw [none_in]
      have hw3 := S3 _ _ (S2 _ _ hw)
      refine iteF ⟨_, rfl, 2, rfl, wa, _, rfl, SqL.of hw3, by decide, ?_, fun qa nq => ?_⟩
      · rw [step_evens, List.length_map]
        exact Nat.le_trans (evens_len m) (by decide)
      rw [step_evens]
      have S4 : Same H3 (upd H3 qa (.lst (m.evens.map V.str))) := Same.new nq
      have hq : upd H3 qa (.lst (m.evens.map V.str)) qa = some (.lst (m.evens.map V.str)) := upd_same
      generalize upd H3 qa (.lst (m.evens.map V.str)) = H4 at S4 hq ⊢
      exact ⟨_, rfl, qa, D, m, rfl, hq, S4 _ _ hD, ok, fun x dx H' s5 hx => k x dx H' ((((S1.trans S2).trans S3).trans S4).trans s5) hx⟩
end
end V3

set_option Elab.async false
set_option linter.all false
set_option maxRecDepth 100000
namespace V3
open PySem L2 TL
/-! read_moves -/
def MvsAt (c : Cl) (H : Hp) : List V → List Mv → Prop
  | [], [] => True
  | x :: xs, m :: ms => MvAt c H x m ∧ MvsAt c H xs ms
  | _, _ => False
theorem MvsAt.same {c : Cl} {H H' : Hp} (s : Same H H') : ∀ {xs : List V} {ms : List Mv}, MvsAt c H xs ms → MvsAt c H' xs ms
  | [], [], _ => trivial
  | _ :: _, _ :: _, h => ⟨h.1.same s, MvsAt.same s h.2⟩
  | [], _ :: _, h => h.elim
  | _ :: _, [], h => h.elim
theorem MvsAt.snoc {c : Cl} {H : Hp} {x : V} {m : Mv} (hx : MvAt c H x m) : ∀ {xs : List V} {ms : List Mv}, MvsAt c H xs ms → MvsAt c H (xs ++ [x]) (ms ++ [m])
  | [], [], _ => ⟨hx, trivial⟩
  | _ :: _, _ :: _, h => ⟨h.1, MvsAt.snoc hx h.2⟩
  | [], _ :: _, h => h.elim
  | _ :: _, [], h => h.elim
theorem MvsAt.len {c : Cl} {H : Hp} : ∀ {xs : List V} {ms : List Mv}, MvsAt c H xs ms → xs.length = ms.length
  | [], [], _ => rfl
  | _ :: xs, _ :: ms, h => by rw [List.length_cons, List.length_cons, MvsAt.len h.2]
  | [], _ :: _, h => h.elim
  | _ :: _, [], h => h.elim
theorem MvAt.upd_lst {c : Cl} {H : Hp} {D : Addr} {o : HO} {ys : List V} {v : V} {m : Mv} (hD : H D = some (.lst ys)) (h : MvAt c H v m) : MvAt c (upd H D o) v m := by
  obtain ⟨x, dx, rfl, hx⟩ := h
  refine ⟨x, dx, rfl, ?_⟩
  have ne : x ≠ D := by
    intro e
    subst e
    rw [hx] at hD
    obtain ⟨fs, eo⟩ := mv_at c m dx
    rw [eo] at hD
    cases hD
  rw [upd_ne ne]
  exact hx
theorem MvsAt.upd_lst {c : Cl} {H : Hp} {D : Addr} {o : HO} {ys : List V} (hD : H D = some (.lst ys)) : ∀ {xs : List V} {ms : List Mv}, MvsAt c H xs ms → MvsAt c (upd H D o) xs ms
  | [], [], _ => trivial
  | _ :: _, _ :: _, h => ⟨h.1.upd_lst hD, MvsAt.upd_lst hD h.2⟩
  | [], _ :: _, h => h.elim
  | _ :: _, [], h => h.elim
def semi : Str := "; "
theorem semi_tl : tl semi = [59, 32] := by decide +kernel
def hText (ms : List Mv) : Str := Str.join semi (ms.map Mv.text)
theorem join_free {y : List Nat} {s : Nat} (hy : s ∉ y) : ∀ {l : List (List Nat)}, (∀ p ∈ l, s ∉ p) → s ∉ joinL y l
  | [], _ => fun z => nomatch z
  | [a], h => h a (List.mem_cons_self ..)
  | a :: b :: l, h => by
    have e : joinL y (a :: b :: l) = a ++ y ++ joinL y (b :: l) := by first | rfl | simp [joinL]
    rw [e]
    intro z
    rcases List.mem_append.mp z with z | z
    · rcases List.mem_append.mp z with z | z
      · exact h a (List.mem_cons_self ..) z
      · exact hy z
    · exact join_free hy (fun p hp => h p (List.mem_cons_of_mem _ hp)) z
theorem text_free {m : Mv} (h : m.ok) : 59 ∉ tl m.text := by
  unfold Mv.text
  rw [tl_join]
  refine join_free (by rw [sp_tl]; decide) fun p hp => ?_
  obtain ⟨z, hz, rfl⟩ := List.mem_map.mp hp
  exact (words_free h z hz).2
theorem split_texts {ms : List Mv} (hne : ms ≠ []) (h : ∀ m ∈ ms, m.ok) : Txt.split (hText ms) semi = ms.map Mv.text := by
  unfold hText
  have z := split_join semi_tl (by decide +kernel) (parts := ms.map Mv.text) (fun e => hne (List.map_eq_nil_iff.mp e)) fun p hp => by
    obtain ⟨m, hm, rfl⟩ := List.mem_map.mp hp
    exact text_free (h m hm)
  rw [join_eq] at z
  exact z
theorem joinL_len {y : List Nat} {k : Nat} : ∀ {l : List (List Nat)}, (∀ p ∈ l, p.length ≤ k) → (joinL y l).length ≤ l.length * (k + y.length)
  | [], _ => by simp [joinL]
  | [a], h => by
    have z := h a (List.mem_cons_self ..)
    have e : joinL y [a] = a := by first | rfl | simp [joinL]
    rw [e, List.length_singleton]
    omega
  | a :: b :: l, h => by
    have e : joinL y (a :: b :: l) = a ++ y ++ joinL y (b :: l) := by first | rfl | simp [joinL]
    have z := h a (List.mem_cons_self ..)
    have ih := joinL_len (y := y) (k := k) (l := b :: l) fun p hp => h p (List.mem_cons_of_mem _ hp)
    rw [e, List.length_append, List.length_append, List.length_cons, Nat.succ_mul]
    omega
theorem hText_len {ms : List Mv} (h : ∀ m ∈ ms, m.ok) (n : ms.length ≤ 1000) : (hText ms).length ≤ 5002000 := by
  unfold hText
  rw [len_tl, tl_join]
  have z := joinL_len (y := tl semi) (k := 5000) (l := (ms.map Mv.text).map tl) fun p hp => by
    obtain ⟨q, hq, rfl⟩ := List.mem_map.mp hp
    obtain ⟨m, hm, rfl⟩ := List.mem_map.mp hq
    rw [← len_tl]
    exact text_len (h m hm)
  have e : (tl semi).length = 2 := by rw [semi_tl]; rfl
  rw [e, List.length_map, List.length_map] at z
  exact Nat.le_trans z (by omega)
theorem text_pos {m : Mv} : 0 < m.text.length := by
  rw [len_tl]
  unfold Mv.text
  rw [tl_join]
  have k : ∀ (a : List Nat) (l : List (List Nat)), a.length ≤ (joinL (tl sp1) (a :: l)).length := fun a l => by
    cases l with
    | nil => exact Nat.le_of_eq (by first | rfl | simp [joinL])
    | cons b l =>
      have e : joinL (tl sp1) (a :: b :: l) = a ++ tl sp1 ++ joinL (tl sp1) (b :: l) := by first | rfl | simp [joinL]
      rw [e, List.length_append, List.length_append]
      omega
  have e1 : 0 < (tl "begin").length := by decide +kernel
  have e2 : 0 < (tl "take").length := by decide +kernel
  have e3 : 0 < (tl "right").length := by decide +kernel
  have e4 : 0 < (tl "shut").length := by decide +kernel
  cases m with
  | beg a => exact Nat.lt_of_lt_of_le e1 (k _ _)
  | take t => exact Nat.lt_of_lt_of_le e2 (k _ _)
  | takeBy t a => exact Nat.lt_of_lt_of_le e2 (k _ _)
  | right t a => exact Nat.lt_of_lt_of_le e3 (k _ _)
  | shut => exact Nat.lt_of_lt_of_le e4 (k _ _)
theorem hText_pos {ms : List Mv} (hne : ms ≠ []) : (hText ms).length ≠ 0 := by
  cases ms with
  | nil => exact absurd rfl hne
  | cons m l =>
    have z := @text_pos m
    rw [len_tl] at z
    unfold hText
    rw [len_tl, tl_join]
    cases l with
    | nil =>
      have e : joinL (tl semi) ([Mv.text m].map tl) = tl m.text := by first | rfl | simp [joinL]
      show (joinL (tl semi) ([Mv.text m].map tl)).length ≠ 0
      rw [e]
      omega
    | cons b l =>
      have e : joinL (tl semi) (((m :: b :: l).map Mv.text).map tl) = tl m.text ++ tl semi ++ joinL (tl semi) (((b :: l).map Mv.text).map tl) := by first | rfl | simp [joinL]
      rw [e, List.length_append, List.length_append]
      omega
def spRMs (c : Cl) : Sp := fun vs H Q _ => ∃ ms : List Mv, vs = [.str (hText ms)] ∧ (∀ m ∈ ms, m.ok) ∧ ms.length ≤ 1000 ∧ ∀ (D : Addr) (xs : List V) (H' : Hp), Same H H' → H' D = some (.lst xs) → MvsAt c H' xs ms → Q (.ref D) H'
theorem set_ne' {σ : L2.St} {i j : Nat} {v : Option V} (h : i ≠ j) : (σ.set i v)[j]? = σ[j]? := List.getElem?_set_ne h
theorem set_eq' {σ : L2.St} {i : Nat} {v : Option V} (h : i < σ.length) : (σ.set i v)[i]? = some v := by
  rw [List.getElem?_set_self h]
section
variable {P : Program} {w : World} {K : PySem.W.Frag} {mg : Str → Option Value} {base : Heap}
abbrev CalReadMove (P : Program) (w : World) (K : PySem.W.Frag) (mg : Str → Option Value) (base : Heap) (c : Cl) : Prop := Cal P w K mg base CX0 "read_move" 7 ["text"] (spRM c)
theorem scReadMoves : FnScope ["text", "moves", "parts", "at", "part", "move"] ["text"] (defScope sReadMoves) := ⟨rfl, rfl, rfl, by decide +kernel, rfl, by decide +kernel, by decide +kernel⟩
/-- what the loop keeps -/
def RdI (c : Cl) (H : Hp) (ms : List Mv) (D p : Addr) (i : Nat) (σ : L2.St) (Hh : Hp) : Prop := σ.length = 6 ∧ σ[1]? = some (some (.ref D)) ∧ Same H Hh ∧ H D = none ∧ p ≠ D ∧ Hh p = some (.lst ((ms.map Mv.text).map V.str)) ∧ ∃ xs, Hh D = some (.lst xs) ∧ MvsAt c Hh xs (ms.take i)
theorem read_loop {c : Cl} {ms : List Mv} {H H2 : Hp} {D p : Addr} {σ : L2.St} {Q : VK} {nx : L2.St → Hp → Prop} (l6 : σ.length = 6) (hd : σ[1]? = some (some (.ref D))) (hp2 : σ[2]? = some (some (.ref p))) (S : Same H H2) (nD : H D = none) (pD : p ≠ D)
    (hp : H2 p = some (.lst ((ms.map Mv.text).map V.str))) (hD : H2 D = some (.lst [])) (ok : ∀ m ∈ ms, m.ok) (n : ms.length ≤ 1000)
    (k : ∀ (D : Addr) (xs : List V) (H' : Hp), Same H H' → H' D = some (HO.lst xs) → MvsAt c H' xs ms → Q (V.ref D) H') :
    tSeq (tFor (iEnum K (tCons (tVar 2) tNil)) (gTup K 2 (gCons (gName 3) (gCons (gName 4) gNil)))
        (tSeq (tAsg (tCall (spRM c) [] (fun _ _ _ => False) (tCons (tVar 4) tNil)) (gName 5))
          (tSeq (tIfS (tTest (tOp (fun x y H Q => y = V.non ∧ Q (V.bl (decide (x = V.non))) H) (tVar 5) (tC V.non))) tNever tNext)
            (tDrop (tBM K "list" rAppend (tVar 1) (tCons (tVar 5) tNil))))))
      (tRet (tVar 1)) { nx := nx, rt := Q } σ H2 := by
  have lp : ((ms.map Mv.text).map V.str).length = ms.length := by rw [List.length_map, List.length_map]
  refine ⟨_, hp2, p, _, rfl, SqL.of hp, ?_⟩
  refine for_it (walk_enum (K := K) (a := p) (xs := (ms.map Mv.text).map V.str)) (RdI c H ms D p) ⟨l6, hd, S, nD, pD, hp, [], hD, trivial⟩ (fun i σ Hh _ q => SqL.of q.2.2.2.2.2.1) ?_ ?_
  · rintro i v σ1 Hh Hh' hi ⟨l6, hd, S, nD, pD, hp, xs, hD, mv⟩ ⟨T, x, y, rfl, nT, rfl, ex, ey⟩
    have ex := (Option.some.inj ex).symm
    subst ex
    rw [lp] at hi
    have hm : ms[i]? = some ms[i] := List.getElem?_eq_getElem hi
    have ey2 : y = .str (ms[i]).text := by
      dsimp only at ey
      rw [List.getElem?_map, List.getElem?_map, hm] at ey
      exact (Option.some.inj ey).symm
    subst ey2
    have okm : (ms[i]).ok := ok _ (List.getElem_mem hi)
    refine ⟨T, _, rfl, SqT.of upd_same, rfl, _, _, rfl, ⟨_, _, rfl, rfl, ?_⟩⟩
    have sT : Same Hh (upd Hh T (.tup [.int (i : Nat), .str (ms[i]).text])) := Same.new nT
    generalize upd Hh T (.tup [.int (i : Nat), .str (ms[i]).text]) = H3 at sT ⊢
    refine ⟨_, set_eq' (by rw [List.length_set]; omega), ms[i], rfl, okm, fun z dz H4 s4 hz => ?_⟩
    have S4 : Same Hh H4 := sT.trans s4
    refine ⟨_, set_eq' (by rw [List.length_set, List.length_set]; omega), rfl, _, rfl, ?_⟩
    rw [decide_eq_false (fun e => nomatch e)]
    refine iteF ?_
    have l1 : (((σ1.set 3 (some (V.int (i : Nat)))).set 4 (some (V.str (ms[i]).text))).set 5 (some (V.ref z)))[1]? = some (some (V.ref D)) := by
      rw [set_ne' (by decide), set_ne' (by decide), set_ne' (by decide)]
      exact hd
    have l5 : (((σ1.set 3 (some (V.int (i : Nat)))).set 4 (some (V.str (ms[i]).text))).set 5 (some (V.ref z)))[5]? = some (some (V.ref z)) := set_eq' (by rw [List.length_set, List.length_set]; omega)
    have ll : (((σ1.set 3 (some (V.int (i : Nat)))).set 4 (some (V.str (ms[i]).text))).set 5 (some (V.ref z))).length = 6 := by
      rw [List.length_set, List.length_set, List.length_set]
      exact l6
    have hD4 := S4 _ _ hD
    have mz : MvAt c H4 (.ref z) ms[i] := ⟨z, dz, rfl, hz⟩
    have le := mv.len
    rw [List.length_take] at le
    refine ⟨_, l1, .inl ⟨rfl, _, SqL.of hD4⟩, _, l5, D, xs, _, rfl, rfl, hD4, Nat.lt_of_le_of_lt (m := 1000) (by omega) (by decide), ?_⟩
    refine ⟨ll, l1, ?_, nD, pD, ?_, xs ++ [.ref z], upd_same, ?_⟩
    · intro a o e
      rw [upd_ne (ne_of_none e nD)]
      exact S4 _ _ (S _ _ e)
    · rw [upd_ne pD]
      exact S4 _ _ hp
    · rw [take_next' hm]
      exact MvsAt.snoc (mz.upd_lst hD4) ((mv.same S4).upd_lst hD4)
  · rintro σ1 Hh ⟨l6, hd, S, nD, pD, hp, xs, hD, mv⟩
    rw [lp, List.take_length] at mv
    exact ⟨_, hd, k D xs Hh S hD mv⟩
theorem ok_readMoves {f : Addr} {c : Cl} {fd : FuncData} (F : Fun K "read_moves" "read_moves" sReadMoves f fd) (cR : CalReadMove P w K mg base c) (ze : mg "enumerate" = none) : FnOk P w K mg base CX0 8 f fd ["text"] (spRMs c) := by
  obtain ⟨fR, fdR, GR, mR, kR, bR⟩ := cR
  refine F.ok scReadMoves (fun vs H Q E h => ?_) (fun cdv A outer s H vs Q E hr h => ?_)
  · obtain ⟨ms, rfl, _⟩ := h
    rfl
  · obtain ⟨ms, rfl, ok, n, k⟩ := h
    refine ⟨_, pss_cons (ps_set (i := 1) scReadMoves.nd rfl (Or.inl rfl) (pe_lst pa_nil))
      (pss_cons (ps_set (i := 2) scReadMoves.nd rfl (Or.inl rfl) (pe_ifExp (pt_truth (pv 0) (by intro _; rfl)) (pe_split (pv 0) pe_str) (pe_lst pa_nil)))
      (pss_cons (ps_for PassesOwn.never rfl (pi_enum (by rfl) ze (pa_cons (pv 2) pa_nil)) (pg_tup rfl (pgs_cons (pg_name (i := 3) scReadMoves.nd rfl (Or.inl rfl)) (pgs_cons (pg_name (i := 4) scReadMoves.nd rfl (Or.inl rfl)) pgs_nil)))
        (pss_cons (ps_set (i := 5) scReadMoves.nd rfl (Or.inl rfl) (pe_call (E := fun _ _ _ => False) GR hr rfl mR kR bR .nil pass0 (pa_cons (pv 4) pa_nil)))
        (pss_cons (ps_if (pt_cmpR op_isN (pv 5) pe_non (nomark _)) (pss_one ps_never) pss_nil)
        (pss_one (ps_expr (pe_bm PySem.F.plainAttrs_list PySem.F.slot_list_append PySem.F.type_list_append mt_append (pv 1) (pa_cons (pv 5) pa_nil)))))))
      (pss_one (ps_ret (pv 1))))), ?_⟩
    have tl_ := hText_len ok n
    refine ⟨?_, fun D nD => ?_⟩
    · show (0 : Nat) ≤ sizeLine
      exact Nat.zero_le _
    have hD : upd H D (.lst []) D = some (.lst []) := upd_same
    have S1 : Same H (upd H D (.lst [])) := Same.new nD
    generalize upd H D (.lst []) = H1 at S1 hD ⊢
    by_cases hms : ms = []
    · subst hms
      have e0 : (hText []).length = 0 := by decide +kernel
      refine ⟨_, rfl, false, ⟨Nat.le_trans tl_ (by decide), by rw [e0]; rfl⟩, iteF ⟨?_, fun p np => ?_⟩⟩
      · show (0 : Nat) ≤ sizeLine
        exact Nat.zero_le _
      exact read_loop (ms := []) rfl rfl rfl (S1.trans (Same.new np)) nD (Ne.symm (ne_of_none hD np)) upd_same (Same.new np _ _ hD) ok n k
    · refine ⟨_, rfl, true, ⟨Nat.le_trans tl_ (by decide), ?_⟩, iteT ⟨_, rfl, ⟨_, rfl⟩, _, semi, rfl, rfl, by decide +kernel, Nat.le_trans (Nat.add_le_add_right tl_ 2) (by decide), fun p np => ?_⟩⟩
      · have z := hText_pos hms
        first | exact (bne_iff_ne.mpr z).symm | simpa using z
      rw [split_texts hms ok]
      exact read_loop rfl rfl rfl (S1.trans (Same.new np)) nD (Ne.symm (ne_of_none hD np)) upd_same (Same.new np _ _ hD) ok n k
end
end V3

set_option Elab.async false
set_option linter.all false
set_option maxRecDepth 100000
namespace V3
open PySem L2 TL
abbrev sIsMoves : Stmt := top 16
abbrev sHInit : Stmt := inClass (top 15) 0
abbrev sHEq : Stmt := inClass (top 15) 6
abbrev sHStr : Stmt := inClass (top 15) 7
/-! histories -/
def hist (C dx q : Addr) : HO := .ins C dx [("moves", .ref q)]
def HiAt (c : Cl) (H : Hp) (v : V) (ms : List Mv) : Prop := ∃ x dx q xs, v = .ref x ∧ H x = some (hist c.Hi dx q) ∧ H q = some (.tup xs) ∧ MvsAt c H xs ms
theorem HiAt.same {c : Cl} {H H' : Hp} {v : V} {ms : List Mv} (h : HiAt c H v ms) (s : Same H H') : HiAt c H' v ms := by
  obtain ⟨x, dx, q, xs, e, hx, hq, mv⟩ := h
  exact ⟨x, dx, q, xs, e, s _ _ hx, s _ _ hq, mv.same s⟩
theorem MvsAt.at {c : Cl} {H : Hp} : ∀ {xs : List V} {ms : List Mv} {i : Nat} {x : V}, MvsAt c H xs ms → xs[i]? = some x → ∃ m, ms[i]? = some m ∧ MvAt c H x m
  | [], _, i, x, _, e => by simp at e
  | _ :: _, [], _, _, h, _ => h.elim
  | y :: ys, m :: ms, 0, x, h, e => ⟨m, rfl, by
    have e2 : y = x := Option.some.inj e
    subst e2
    exact h.1⟩
  | y :: ys, m :: ms, i + 1, x, h, e => MvsAt.at (xs := ys) (ms := ms) (i := i) h.2 e
structure BltH (mg : Str → Option Value) : Prop where
  isi : mg "isinstance" = none
  list : mg "list" = none
  tuple : mg "tuple" = none
  all : mg "all" = none
  str : mg "str" = none
def spIsMM (c : Cl) : Sp := fun vs H Q _ => ∃ (a : Addr) (xs : List V) (ms : List Mv), vs = [.ref a] ∧ H a = some (.lst xs) ∧ MvsAt c H xs ms ∧ ms.length ≤ 1000 ∧ ∀ H', Same H H' → Q (.bl true) H'
def spHIM (c : Cl) : Sp := fun vs H Q _ => ∃ (x dx a : Addr) (xs : List V) (ms : List Mv), vs = [.ref x, .ref a] ∧ H x = some (.ins c.Hi dx []) ∧ H a = some (.lst xs) ∧ MvsAt c H xs ms ∧ ms.length ≤ 1000 ∧
  ∀ (q : Addr) (H' : Hp), (∀ d o, d ≠ x → H d = some o → H' d = some o) → H' x = some (hist c.Hi dx q) → H' q = some (.tup xs) → Q .non H'
theorem all_tt : ∀ n : Nat, (List.replicate n (V.bl true)).all (fun v => v == .bl true) = true := by
  intro n
  induction n with
  | zero => rfl
  | succ n ih => rw [List.replicate_succ, List.all_cons, ih]; rfl
theorem rep_bl (n : Nat) : List.replicate n (V.bl true) = (List.replicate n true).map V.bl := by
  rw [List.map_replicate]
section
variable {P : Program} {w : World} {K : PySem.W.Frag} {mg : Str → Option Value} {base : Heap}
theorem kitAny_lt {K : PySem.W.Frag} : PySem.W.kitAny K (.type "list") [.type "list", .type "tuple"] = some true := by
  refine kitAny_cons (show PySem.W.kitOne K (.type "list") (.type "list") = some true from kit_ty (by decide +kernel)) (fun z => by cases z) (fun z => rfl)
theorem scIsMoves : FnScope ["value", "item"] ["value"] (defScope sIsMoves) := ⟨rfl, rfl, rfl, by decide +kernel, rfl, by decide +kernel, by decide +kernel⟩
theorem ok_isMovesM {f MV : Addr} {c : Cl} {fd : FuncData} (F : Fun K "is_moves" "is_moves" sIsMoves f fd) (T : BltH mg) (C : MvCls K c MV) (gM : mg "Move" = some (.ref MV)) : FnOk P w K mg base CX0 1 f fd ["value"] (spIsMM c) := by
  refine F.ok scIsMoves (fun vs H Q E h => ?_) (fun cdv A outer s H vs Q E hr h => ?_)
  · obtain ⟨a, xs, ms, rfl, _⟩ := h
    rfl
  · obtain ⟨a, xs, ms, rfl, ha, mv, n, k⟩ := h
    refine ⟨_, pss_one (ps_ret (pe_and (pe_callB call_isiT (by rfl) T.isi (by decide +kernel) (pa_cons (pv 0) (pa_cons (pe_tup (pa_cons (pe_bltn (v := .ty "list") (by rfl) T.list (by decide +kernel) rfl) (pa_cons (pe_bltn (v := .ty "tuple") (by rfl) T.tuple (by decide +kernel) rfl) pa_nil))) pa_nil)))
        (pe_one (pe_callB (cr_all rfl) (by rfl) T.all (by decide +kernel) (pa_cons (pe_lc (own := [("item", 1)]) (g := gName 1) (tt := tYes) (te := tCB (rIsi K) (tCons (tVar 1) (tCons (tC (.ref MV)) tNil))) (by rfl) scIsMoves.nd (pi_list (pv 0)) (blkOk_by (own := [("item", 1)]) (N := ["value", "item"]) (sc := defScope sIsMoves) (by decide +kernel)) (fun _ _ _ _ _ => pg_name (i := 1) scIsMoves.nd rfl (Or.inl rfl)) (fun _ _ _ _ _ => pts_nil)
          (fun _ _ _ _ _ => pe_callB call_isi (by rfl) T.isi (by decide +kernel) (pa_cons (pv 1) (pa_cons (pe_glob (v := .ref MV) rfl gM rfl) pa_nil)))) pa_nil))))), ?_⟩
    refine ⟨_, rfl, (by show 2 ≤ sizeLine; decide), fun tp ntp => ?_⟩
    have s1 : Same H (upd H tp (.tup [.ty "list", .ty "tuple"])) := Same.new ntp
    have ht : upd H tp (.tup [.ty "list", .ty "tuple"]) tp = some (.tup [.ty "list", .ty "tuple"]) := upd_same
    generalize upd H tp (.tup [.ty "list", .ty "tuple"]) = H1 at s1 ht ⊢
    have ha1 := s1 _ _ ha
    have mv1 := mv.same s1
    have lx := mv.len
    refine ⟨_, tp, _, _, _, _, rfl, ht, .cons (.ty "list") (.cons (.ty "tuple") .nil), .base (.lst ha1), kitAny_lt, _, rfl, iteT ?_⟩
    refine ⟨_, rfl, a, rfl, ⟨xs, SqL.of ha1⟩, fun D nD => ?_⟩
    refine lc_list (K := K) (a := a) (xs := xs) (fun i Hh => Same H1 Hh ∧ H1 D = none ∧ Hh D = some (.lst (List.replicate i (V.bl true)))) ⟨Same.new nD, nD, upd_same⟩ (fun i Hh _ p => SqL.of (p.1 _ _ ha1)) ?_ ?_
    · intro i z Hh hi p
      obtain ⟨m, hm, mz⟩ := mv1.at hi
      obtain ⟨y, dy, rfl, hy⟩ := mz.same p.1
      obtain ⟨fs, eo⟩ := mv_at c m dy
      obtain ⟨cl, ca, mr, ki⟩ := C.cl m.kind (kind_lt m)
      have il : i < xs.length := by
        by_cases q : i < xs.length
        · exact q
        · rw [List.getElem?_eq_none (by omega)] at hi
          cases hi
      refine ⟨rfl, ?_⟩
      unfold tYes
      dsimp only
      refine iteT ⟨_, rfl, _, _, _, _, _, rfl, .own MV, .base (.ins (by rw [hy, eo]) cl ca C.gn C.tk mr), ki, _, p.2.2, ?_, fun c o h => ?_, p.2.1, ?_⟩
      · rw [List.length_replicate]
        exact Nat.lt_of_lt_of_le (m := 1001) (by omega) (by decide)
      · rw [upd_ne (ne_of_none h p.2.1)]
        exact p.1 c o h
      · rw [upd_same, List.replicate_succ']
    · intro Hh p
      obtain ⟨s2, _, e⟩ := p
      refine ⟨D, List.replicate xs.length true, rfl, SqL.of (by rw [e, rep_bl]), ?_⟩
      have z : (List.replicate xs.length true).all id = true := by
        rw [List.all_eq_true]
        intro x hx
        rw [List.eq_of_mem_replicate hx]
        rfl
      rw [z]
      exact k _ (s1.trans s2)
abbrev CalIsMM (P : Program) (w : World) (K : PySem.W.Frag) (mg : Str → Option Value) (base : Heap) (c : Cl) : Prop := Cal P w K mg base CX0 "is_moves" 1 ["value"] (spIsMM c)
theorem scHInit : FnScope ["self", "moves"] ["self", "moves"] (defScope sHInit) := ⟨rfl, rfl, rfl, by decide +kernel, rfl, by decide +kernel, by decide +kernel⟩
theorem ok_hInitM {f : Addr} {c : Cl} {fd : FuncData} {dvs : List V} (F : FunD K "__init__" "History.__init__" (defArgs sHInit) (defBody sHInit) (defScope sHInit) dvs [] f fd) (cl : Cls K c.Hi) (nM : NoAttr K c.Hi "moves") (cI : CalIsMM P w K mg base c) (zt : mg "tuple" = none) :
    FnOk P w K mg base CX0 3 f fd ["self", "moves"] (spHIM c) := by
  obtain ⟨fA, fdA, GA, mA, kA, bA⟩ := cI
  refine F.ok scHInit (fun vs H Q E h => ?_) (fun cdv A outer s H vs Q E hr h => ?_)
  · obtain ⟨x, dx, a, xs, ms, rfl, _⟩ := h
    rfl
  · obtain ⟨x, dx, a, xs, ms, rfl, hx, ha, mv, n, q1⟩ := h
    refine ⟨_, pss_cons (ps_if (pt_not (pt_val (pe_call GA (hr.mono (by decide)) rfl mA kA bA .nil pass0 (pa_cons (pv 1) pa_nil)))) (pss_one ps_never) pss_nil)
      (pss_one (ps_fld (pv 0) (pe_callTy call_tuple_of (by rfl) zt (by decide +kernel) (pa_cons (pv 1) pa_nil)) rfl)), ?_⟩
    refine ⟨_, rfl, a, xs, ms, rfl, ha, mv, n, fun H1 s1 => ⟨_, rfl, ?_⟩⟩
    have hx1 := s1 _ _ hx
    refine iteF ⟨_, rfl, a, xs, rfl, .inl ⟨SqL.of (s1 _ _ ha), fun l nl => ?_⟩⟩
    have nxl : x ≠ l := ne_of_none hx1 nl
    refine ⟨_, rfl, x, c.Hi, dx, _, rfl, (by rw [upd_ne nxl]; exact hx1), cl, nM, (by show 0 < 1000; decide), ?_⟩
    refine q1 l _ (fun c o nc h => ?_) upd_same ?_
    · rw [upd_ne nc, upd_ne (ne_of_none (s1 _ _ h) nl)]
      exact s1 _ _ h
    · rw [upd_ne (Ne.symm nxl)]
      exact upd_same
end
end V3

set_option Elab.async false
set_option linter.all false
set_option maxRecDepth 100000
namespace V3
open PySem L2 TL
def spRead (c : Cl) : Sp := fun vs H Q _ => ∃ ms : List Mv, vs = [.ref c.Hi, .str (hText ms)] ∧ (∀ m ∈ ms, m.ok) ∧ ms.length ≤ 1000 ∧ ∀ v H', Same H H' → HiAt c H' v ms → Q v H'
def spHStr (c : Cl) : Sp := fun vs H Q _ => ∃ v ms, vs = [v] ∧ HiAt c H v ms ∧ (∀ m ∈ ms, m.ok) ∧ ms.length ≤ 1000 ∧ ∀ H', Same H H' → Q (.str (hText ms)) H'
def spHEq (c : Cl) : Sp := fun vs H Q _ => ∃ u v ms, vs = [u, v] ∧ HiAt c H u ms ∧ HiAt c H v ms ∧ (∀ m ∈ ms, m.ok) ∧ ∀ H', Same H H' → Q (.bl true) H'
/-- the two moves are the same -/
def DMv (c : Cl) : Eqv := fun x y H => ∃ m : Mv, MvAt c H x m ∧ MvAt c H y m ∧ m.ok
theorem mon_mv {c : Cl} : Mon (DMv c) := fun x y H H' e d => by
  obtain ⟨m, hx, hy, ok⟩ := d
  exact ⟨m, hx.same e, hy.same e, ok⟩
theorem prs_mv {c : Cl} {H : Hp} : ∀ {xs ys : List V} {ms : List Mv}, MvsAt c H xs ms → MvsAt c H ys ms → (∀ m ∈ ms, m.ok) → Prs (DMv c) xs ys H
  | [], [], [], _, _, _ => Prs.nil
  | x :: xs, y :: ys, m :: ms, h, h2, ok => Prs.cons ⟨m, h.1, h2.1, ok m (List.mem_cons_self ..)⟩ (prs_mv h.2 h2.2 fun m hm => ok m (List.mem_cons_of_mem _ hm))
  | [], _, _ :: _, h, _, _ => h.elim
  | _ :: _, _, [], h, _, _ => h.elim
  | _, [], _ :: _, _, h, _ => h.elim
  | _, _ :: _, [], _, h, _ => h.elim
structure EqTxt (P : Program) (w : World) (K : PySem.W.Frag) (mg : Str → Option Value) (base : Heap) (c : Cl) : Prop where
  e : ∀ k, k < 4 → ∃ (f : Addr) (fd : FuncData), FnOk P w K mg base CX0 4 f fd ["self", "other"] (spMEq c) ∧ EqCls K (c.at k) f ∧ Binds K fd ["self", "other"] []
section
variable {X : Cx} {c : Cl}
theorem rcG_mv (T : EqTxt X.prog X.w X.K X.mg X.base c) : RcG X 4 (DMv c) := by
  intro A pins s σ H x y u v sb I rx ry d
  obtain ⟨m, ⟨a, dx, rfl, ha⟩, ⟨b, dy, rfl, hb⟩, ok⟩ := d
  obtain ⟨f, fd, F, ec, bi⟩ := T.e m.kind (kind_lt m)
  obtain ⟨fs, eo⟩ := mv_at c m dx
  obtain ⟨gs, eo2⟩ := mv_at c m dy
  cases rx
  cases ry
  obtain ⟨mA, J, _⟩ := ins_get I.hok (ha.trans (congrArg some eo))
  obtain ⟨mB, J', _⟩ := ins_get I.hok (hb.trans (congrArg some eo2))
  obtain ⟨od, J, _⟩ := J.look
  obtain ⟨od', J', _⟩ := J'.look
  obtain ⟨mm, hF⟩ := I.fr
  refine PySem.W.cmp_K (op := .Eq) (tb := .ref (c.at m.kind)) sb.room.units0 hF I.ok.mod.kin J J'.type (by simp [PySem.W.notFirst]) ec.eq ec.fn ?_
  refine wpAny_mono (run_own (x := .ref a) (y := .ref b) (E := fun _ _ _ => False) (Q := fun v H' => v = .bl true ∧ H' = H) sb F bi pass0 I rfl rfl ⟨_, _, m, m, rfl, ⟨a, dx, rfl, ha⟩, ⟨b, dy, rfl, hb⟩, ok, ok, by rw [decide_eq_true rfl], rfl⟩) (fun w s' q => ?_) fun _ _ e => e
  obtain ⟨z, H', I', rz, ez, eH⟩ := q
  subst ez
  subst eH
  cases rz
  exact ⟨rfl, H', I', Ext.rfl'⟩
theorem eqG_mv (T : EqTxt X.prog X.w X.K X.mg X.base c) : EqG X 4 (DMv c) := (rcG_mv T).eqG fun _ _ _ d => by
  obtain ⟨m, ⟨a, dx, rfl, ha⟩, ⟨b, dy, rfl, hb⟩, ok⟩ := d
  exact ⟨a, b, rfl, rfl⟩
end
structure HiCls (K : PySem.W.Frag) (c : Cl) : Prop where
  cl : Cls K c.Hi
  nM : NoAttr K c.Hi "moves"
  ca : PySem.W.findIn K (.ref c.Hi) "__class__" = some (some (.builtin "object.__class__"))
  gn : PySem.W.specialIn K (.builtin "object.__class__") "__get__" = some (some (.builtin "getset_descriptor.__get__"))
  tk : PySem.W.takesIn K (.builtin "object.__class__") = some true
  mr : PySem.W.mroIn K c.Hi (.type "object") = some true
  ki : PySem.W.kitOne K (.ref c.Hi) (.ref c.Hi) = some true
section
variable {P : Program} {w : World} {K : PySem.W.Frag} {mg : Str → Option Value} {base : Heap}
theorem sum_texts : ∀ {ms : List Mv}, (∀ m ∈ ms, m.ok) → ((ms.map Mv.text).map (·.length)).sum ≤ ms.length * 5000
  | [], _ => Nat.le_refl _
  | m :: ms, h => by
    have ih := sum_texts (ms := ms) fun z hz => h z (List.mem_cons_of_mem _ hz)
    have z := text_len (h m (List.mem_cons_self ..))
    rw [List.map_cons, List.map_cons, List.sum_cons, List.length_cons, Nat.succ_mul]
    omega
theorem scHRead : FnScope ["cls", "text"] ["cls", "text"] (defScope sHRead) := ⟨rfl, rfl, rfl, by decide +kernel, rfl, by decide +kernel, by decide +kernel⟩
theorem scHStr : FnScope ["self", "move"] ["self"] (defScope sHStr) := ⟨rfl, rfl, rfl, by decide +kernel, rfl, by decide +kernel, by decide +kernel⟩
theorem scHEq : FnScope ["self", "other"] ["self", "other"] (defScope sHEq) := ⟨rfl, rfl, rfl, by decide +kernel, rfl, by decide +kernel, by decide +kernel⟩
abbrev CalReadMoves (P : Program) (w : World) (K : PySem.W.Frag) (mg : Str → Option Value) (base : Heap) (c : Cl) : Prop := Cal P w K mg base CX0 "read_moves" 8 ["text"] (spRMs c)
/-- History's making -/
structure HiTxt (P : Program) (w : World) (K : PySem.W.Frag) (mg : Str → Option Value) (base : Heap) (c : Cl) : Prop where
  g : mg "History" = some (.ref c.Hi)
  ini : ∃ (f : Addr) (fd : FuncData), FnOk P w K mg base CX0 3 f fd ["self", "moves"] (spHIM c) ∧ Mk K c.Hi f ∧ Binds K fd ["self", "moves"] []
theorem hi_made {c : Cl} {H H' : Hp} {x dx q : Addr} {xs : List V} {ms : List Mv} (nx : H x = none) (ndx : H dx = none) (mv : MvsAt c H xs ms) (s : ∀ d o, d ≠ x → upd (upd H dx (.own x)) x (.ins c.Hi dx []) d = some o → H' d = some o)
    (hx : H' x = some (hist c.Hi dx q)) (hq : H' q = some (.tup xs)) : Same H H' ∧ HiAt c H' (.ref x) ms := by
  have S : Same H H' := fun d o e => by
    have n1 := ne_of_none e nx
    refine s d o n1 ?_
    rw [upd_ne n1, upd_ne (ne_of_none e ndx)]
    exact e
  exact ⟨S, x, dx, q, xs, rfl, hx, hq, mv.same S⟩
theorem ok_hRead {f : Addr} {c : Cl} {fd : FuncData} (F : Fun K "read" "History.read" sHRead f fd) (cR : CalReadMoves P w K mg base c) (T : HiTxt P w K mg base c) : FnOk P w K mg base CX0 9 f fd ["cls", "text"] (spRead c) := by
  obtain ⟨fR, fdR, GR, mR, kR, bR⟩ := cR
  obtain ⟨fI, fdI, GI, MI, bI⟩ := T.ini
  refine F.ok scHRead (fun vs H Q E h => ?_) (fun cdv A outer s H vs Q E hr h => ?_)
  · obtain ⟨ms, rfl, _⟩ := h
    rfl
  · obtain ⟨ms, rfl, ok, n, k⟩ := h
    refine ⟨_, pss_one (ps_ret (pe_makeL (i := 0) (E := fun _ _ _ => False) MI GI (hr.mono (by decide)) rfl (Or.inl rfl) bI .nil pass0 (pa_cons (pe_call (E := fun _ _ _ => False) GR hr rfl mR kR bR .nil pass0 (pa_cons (pv 1) pa_nil)) pa_nil))), ?_⟩
    refine ⟨rfl, _, rfl, ms, rfl, ok, n, fun D xs H1 s1 hD mv x dx nx ndx ne => ⟨x, dx, D, xs, ms, rfl, upd_same, made_same nx ndx _ _ hD, mv.same (made_same nx ndx), n, fun q H' s hx hq => ⟨rfl, ?_⟩⟩⟩
    obtain ⟨S, hi⟩ := hi_made nx ndx mv s hx hq
    exact k _ H' (s1.trans S) hi
theorem ok_hStr {f : Addr} {c : Cl} {fd : FuncData} (F : Fun K "__str__" "History.__str__" sHStr f fd) (S : StrTxt P w K mg base c) (C : HiCls K c) (zs : mg "str" = none) : FnOk P w K mg base CX0 4 f fd ["self"] (spHStr c) := by
  refine F.ok scHStr (fun vs H Q E h => ?_) (fun cdv A outer s H vs Q E hr h => ?_)
  · obtain ⟨v, ms, rfl, _⟩ := h
    rfl
  · obtain ⟨v, ms, rfl, ⟨x, dx, q, xs, rfl, hx, hq, mv⟩, ok, n, k⟩ := h
    refine ⟨_, pss_one (ps_ret (pe_join pe_str (pe_lc (own := [("move", 1)]) (g := gName 1) (tt := tYes) (te := tCB (rStrM c) (tCons (tVar 1) tNil)) (by rfl) scHStr.nd (pi_tup (pe_fld (pv 0) rfl)) (blkOk_by (own := [("move", 1)]) (N := ["self", "move"]) (sc := defScope sHStr) (by decide +kernel)) (fun _ _ _ _ _ => pg_name (i := 1) scHStr.nd rfl (Or.inl rfl)) (fun _ _ _ _ _ => pts_nil)
          (fun _ _ _ _ _ => pe_callTy (call_strM S hr) (by rfl) zs (by decide +kernel) (pa_cons (pv 1) pa_nil))))), ?_⟩
    refine ⟨⟨_, rfl⟩, _, rfl, x, c.Hi, dx, _, _, rfl, hx, C.cl, C.nM, rfl, q, rfl, ⟨xs, SqT.of hq⟩, fun D nD => ?_⟩
    have lx := mv.len
    refine lc_tup (K := K) (a := q) (xs := xs) (fun i Hh => Same H Hh ∧ H D = none ∧ Hh D = some (.lst (((ms.take i).map Mv.text).map V.str))) ⟨Same.new nD, nD, upd_same⟩ (fun i Hh _ p => SqT.of (p.1 _ _ hq)) ?_ ?_
    · intro i z Hh hi p
      obtain ⟨m, hm, mz⟩ := mv.at hi
      refine ⟨rfl, ?_⟩
      unfold tYes
      dsimp only
      refine iteT ⟨_, rfl, _, m, rfl, mz.same p.1, ok m (List.mem_of_getElem? hm), _, p.2.2, ?_, fun c o h => ?_, p.2.1, ?_⟩
      · rw [List.length_map, List.length_map, List.length_take]
        exact Nat.lt_of_lt_of_le (m := 1001) (by omega) (by decide)
      · rw [upd_ne (ne_of_none h p.2.1)]
        exact p.1 c o h
      · rw [upd_same, take_next' hm, List.map_append, List.map_append]
        rfl
    · intro Hh p
      obtain ⟨s2, _, e⟩ := p
      rw [lx, List.take_length] at e
      refine ⟨semi, D, ms.map Mv.text, rfl, rfl, .inl (SqL.of e), ?_, ?_⟩
      · have z := sum_texts ok
        have e2 : (semi).length = 2 := by decide +kernel
        rw [e2, List.length_map]
        exact Nat.le_trans (Nat.add_le_add_right z _) (by omega)
      · rw [join_eq]
        exact k _ s2
theorem ok_hEq {f : Addr} {c : Cl} {fd : FuncData} (F : Fun K "__eq__" "History.__eq__" sHEq f fd) (T : EqTxt P w K mg base c) (C : HiCls K c) (zi : mg "isinstance" = none) (gH : mg "History" = some (.ref c.Hi)) : FnOk P w K mg base CX0 6 f fd ["self", "other"] (spHEq c) := by
  refine F.ok scHEq (fun vs H Q E h => ?_) (fun cdv A outer s H vs Q E hr h => ?_)
  · obtain ⟨u, v, ms, rfl, _⟩ := h
    rfl
  · obtain ⟨u, v, ms, rfl, ⟨x, dx, q, xs, rfl, hx, hq, mv⟩, ⟨x2, dx2, q2, xs2, rfl, hx2, hq2, mv2⟩, ok, k⟩ := h
    refine ⟨_, pss_one (ps_ret (pe_and (pe_callB call_isi (by rfl) zi (by decide +kernel) (pa_cons (pv 1) (pa_cons (pe_glob (v := .ref c.Hi) rfl gH rfl) pa_nil))) (pe_one (pe_cmpR (op_eqG (n := 5) (rcG_tup mon_mv (eqG_mv T)) hr) (pe_fld (pv 0) rfl) (pe_fld (pv 1) rfl) (nomark _))))), ?_⟩
    refine ⟨_, rfl, _, _, _, _, _, rfl, .own c.Hi, .base (.ins hx2 C.cl C.ca C.gn C.tk C.mr), C.ki, _, rfl, iteT ⟨_, rfl, x, c.Hi, dx, _, _, rfl, hx, C.cl, C.nM, rfl, _, rfl, x2, c.Hi, dx2, _, _, rfl, hx2, C.cl, C.nM, rfl, ⟨q, q2, xs, xs2, rfl, rfl, SqT.of hq, SqT.of hq2, prs_mv mv mv2 ok⟩, fun H' e => k H' e⟩⟩
end
end V3

set_option Elab.async false
set_option linter.all false
set_option maxRecDepth 100000
/-! x + y by an own __add__; x[i], x[a:b:c] by an own __getitem__. -/
namespace V3
open PySem PySem.Spec PyProof.Rows L2
section
variable {X : Cx} {n : Nat}
theorem vals_back {z : V} {u : Value} {Q : Value → Shared → Prop} {s' : Shared} (r : RelV z u) (q : Q u s') : PySem.W.CmpBack Q u s' := by
  cases z with
  | non => cases r; exact q
  | bl b => cases r; exact q
  | int i => obtain ⟨t, rfl⟩ := r; exact q
  | str i => obtain ⟨t, rfl⟩ := r; exact q
  | byt i => obtain ⟨t, rfl⟩ := r; exact q
  | flt i => obtain ⟨t, rfl⟩ := r; exact q
  | ref a => cases r; exact q
  | ty a => cases r; exact q
/-- a class with an own method at f for a binary operator -/
structure BinCls (K : PySem.W.Frag) (C f : Addr) (op : Operator) : Prop where
  sf : PySem.W.selfFirst K C = true
  at_ : PySem.W.findIn K (.ref C) (PySem.dunder op.info.2) = some (some (.ref f))
  fn : PySem.W.isFn K (.ref f) = true
/-- x op y, both of one class -/
def rBinS (FF : Addr → Sp → XK → Prop) : R2 := fun x y H Q => ∃ (a C dx : Addr) (fs : List (Str × V)) (b dy : Addr) (gs : List (Str × V)) (sp : Sp) (E : XK), x = .ref a ∧ y = .ref b ∧ H a = some (.ins C dx fs) ∧ H b = some (.ins C dy gs) ∧
  FF C sp E ∧ sp [x, y] H Q E
theorem op_binS {op : Operator} {FF : Addr → Sp → XK → Prop} (hF : ∀ C sp E, FF C sp E → ∃ (CX : CXT) (f : Addr) (fd : FuncData) (ps : List Str), FnOk X.prog X.w X.K X.mg X.base CX n f fd ps sp ∧ BinCls X.K C f op ∧ Binds X.K fd ps [] ∧ Passes CX X E) (hr : Room n X.A) :
    OpR X (binaryOp op) (rBinS FF) := by
  intro pins s σ H x y v u Q I rx ry hq
  obtain ⟨a, C, dx, fs, b, dy, gs, sp, E, rfl, rfl, ha, hb, ff, hsp⟩ := hq
  obtain ⟨CX, f, fd, ps, F, ec, bi, hx⟩ := hF C sp E ff
  cases rx
  cases ry
  obtain ⟨mA, J, _⟩ := ins_get I.hok ha
  obtain ⟨mB, J', _⟩ := ins_get I.hok hb
  obtain ⟨od, J, _⟩ := J.look
  obtain ⟨od', J', _⟩ := J'.look
  obtain ⟨m, hF⟩ := I.fr
  refine PySem.W.binop_K hF I.ok.mod.kin J J'.type ec.sf ec.at_ ec.fn ?_
  refine wpAny_mono (run_own (x := .ref a) (y := .ref b) ⟨hr, rfl⟩ F bi hx I rfl rfl hsp) (fun w s' q => ?_) fun _ _ e => e
  obtain ⟨z, H', I', rz, q⟩ := q
  exact vals_back rz ⟨z, H', I', rz, q⟩
/-- a class with an own __getitem__ at f -/
structure GetCls (K : PySem.W.Frag) (C f : Addr) : Prop where
  at_ : PySem.W.findIn K (.ref C) "__getitem__" = some (some (.ref f))
  fn : PySem.W.isFn K (.ref f) = true
  fi : PySem.W.fnIn K f = true
def rIxO (FF : Addr → Sp → XK → Prop) : R2 := fun x y H Q => ∃ (a C dx : Addr) (fs : List (Str × V)) (sp : Sp) (E : XK), x = .ref a ∧ H a = some (.ins C dx fs) ∧ FF C sp E ∧ sp [x, y] H Q E
/-- the call that x[i] makes -/
theorem sub_own {FF : Addr → Sp → XK → Prop} (hF : ∀ C sp E, FF C sp E → ∃ (CX : CXT) (f : Addr) (fd : FuncData) (ps : List Str), FnOk X.prog X.w X.K X.mg X.base CX n f fd ps sp ∧ GetCls X.K C f ∧ Binds X.K fd ps [] ∧ Passes CX X E) (hr : Room (n + 1) X.A)
    {value slice : Expr} {pins : List (Addr × Obj)} {s : Shared} {σ : L2.St} {H : Hp} {x y : V} {v u : Value} {Q : VK} (I : Inv X pins σ H s) (rx : RelV x v) (ry : RelV y u) (hq : rIxO FF x y H Q)
    (hsl : ∀ a : Addr, subscripted slice true (.ref a) u = runValue (.builtin "lifetime.subscript" ⟨[.ref a, u], []⟩)) : wpAny (model X.prog X.w) X.A (subscriptTail value slice v u) (EP X pins σ Q) X.xe s := by
  obtain ⟨a, C, dx, fs, sp, E, rfl, ha, ff, hsp⟩ := hq
  obtain ⟨CX, f, fd, ps, F, ec, bi, hx⟩ := hF C sp E ff
  cases rx
  obtain ⟨mA, J, _⟩ := ins_get I.hok ha
  obtain ⟨od, J, _⟩ := J.look
  obtain ⟨m, hF⟩ := I.fr
  refine PySem.W.sub_K hF I.ok.mod.kin J ec.at_ ec.fi ec.fn ?_ (hsl a)
  exact run_own (x := .ref a) (y := y) (A := X.A.in1) ⟨hr.in1, rfl⟩ F bi hx I rfl ry hsp
/-- x[i] -/
theorem pe_ixO {FF : Addr → Sp → XK → Prop} (hF : ∀ C sp E, FF C sp E → ∃ (CX : CXT) (f : Addr) (fd : FuncData) (ps : List Str), FnOk X.prog X.w X.K X.mg X.base CX n f fd ps sp ∧ GetCls X.K C f ∧ Binds X.K fd ps [] ∧ Passes CX X E) (hr : Room (n + 1) X.A)
    {a b : Expr} {ta tb : TE} {pos : Pos} (ha : PE X a ta) (hb : PE X b tb)
    (hsl : ∀ (o : Addr) (u : Value), subscripted b true (.ref o) u = runValue (.builtin "lifetime.subscript" ⟨[.ref o, u], []⟩) := by intro _ _; with_unfolding_all rfl) : PE X (.Subscript a b pos) (tOp (rIxO FF) ta tb) := by
  refine ⟨fun pins s σ H Q I h => ?_⟩
  exact Subscript_ (binT ha hb I h fun v u s2 x y H2 I2 rx ry q => sub_own hF hr I2 rx ry q fun o => hsl o u)
/-- a slice object -/
def SlH (p : Addr) (lo hi st : Option Int) : HO := .ext fun h => ∃ vl vu vk, h.IsSliceOf p vl vu vk ∧ IsPart vl lo ∧ IsPart vu hi ∧ IsPart vk st
def tSlO (FF : Addr → Sp → XK → Prop) (te : TE) (tl th ts : TO) : TE := fun σ H Q => te σ H fun x H1 => tl σ H1 fun l H2 => th σ H2 fun u H3 => ts σ H3 fun k H4 =>
  ∀ p, H4 p = none → rIxO FF x (.ref p) (upd H4 p (SlH p l u k)) Q
theorem po_no : PO X none tNoPart := ⟨fun pins s σ H Q I h => by
  rw [evalPart_none]
  exact wpAny_pure ⟨none, H, I, .none, h⟩⟩
/-- x[a:b:c] -/
theorem pe_slO {FF : Addr → Sp → XK → Prop} (hF : ∀ C sp E, FF C sp E → ∃ (CX : CXT) (f : Addr) (fd : FuncData) (ps : List Str), FnOk X.prog X.w X.K X.mg X.base CX n f fd ps sp ∧ GetCls X.K C f ∧ Binds X.K fd ps [] ∧ Passes CX X E) (hr : Room (n + 1) X.A)
    {e : Expr} {te : TE} {lo hi st : Option Expr} {tl th ts : TO} {p2 pos : Pos} (he : PE X e te) (hl : PO X lo tl) (hu : PO X hi th) (hk : PO X st ts)
    (hsl : ∀ (o : Addr) (u : Value), subscripted (.Slice lo hi st p2) true (.ref o) u = runValue (.builtin "lifetime.subscript" ⟨[.ref o, u], []⟩) := by intro _ _; with_unfolding_all rfl) :
    PE X (.Subscript e (.Slice lo hi st p2) pos) (tSlO FF te tl th ts) := by
  refine ⟨fun pins s σ H Q I h => ?_⟩
  refine Subscript_ (thn (he.run pins s σ H _ I h) fun v s1 ⟨x, H1, I1, r1, q1⟩ => ?_)
  refine wpAny_Slice (thn (hl.run pins s1 σ H1 _ I1 q1) fun vl s2 ⟨l, H2, I2, pl, q2⟩ =>
    thn (hu.run pins s2 σ H2 _ I2 q2) fun vu s3 ⟨u, H3, I3, pu, q3⟩ =>
    thn (hk.run pins s3 σ H3 _ I3 q3) fun vk s4 ⟨k, H4, I4, pk, q4⟩ => ?_)
  have J : Inv X pins σ (upd H4 s4.heap.objs.size (SlH s4.heap.objs.size l u k)) { s4 with heap := s4.heap.push { cls := .type "slice", data := .fields #[vl, vu, vk] } } :=
    I4.laid (t' := s4.toks) (o := SlH s4.heap.objs.size l u k) (fun b ob q => Heap.get?_push_of_some _ q) (Nat.le_refl _)
      ⟨⟨vl, vu, vk, Heap.IsSliceOf.new .., pl, pu, pk⟩, ⟨_, Heap.get?_push_size _ rfl⟩, fun h1 h2 ⟨a, b, c, ⟨o, ho, hc, hd⟩, p1, p2, p3⟩ kp => ⟨a, b, c, ⟨o, kp o ho, hc, hd⟩, p1, p2, p3⟩⟩
  exact sub_own (y := .ref s4.heap.objs.size) hF hr J r1 rfl (q4 _ (I4.hok.fresh (Nat.le_refl _))) fun o => hsl o _
end
end V3

set_option Elab.async false
set_option linter.all false
set_option maxRecDepth 100000
/-! slices of tuples, with any step. -/
namespace HT
open PySem PySem.Spec PyProof.Rows
section
variable {prog : Program} {w : World} {A : Around} {E : Value → Shared → Prop} {s : Shared}
theorem sliceApplied_any {sl : Addr} {vl vu vk : Value} {lo hi st : Option Int} {n : Nat} {Q : Int × Int × Nat → Shared → Prop} (hs : s.heap.IsSliceOf sl vl vu vk) (pl : IsPart vl lo) (pu : IsPart vu hi) (pk : IsPart vk st) (h0 : st ≠ some 0)
    (h : Q ((Builtin.Slice.sliceAdjust lo hi (st.getD 1) (n : Int)).1, st.getD 1, Builtin.Slice.slicePlaces (Builtin.Slice.sliceAdjust lo hi (st.getD 1) (n : Int)).1 (Builtin.Slice.sliceAdjust lo hi (st.getD 1) (n : Int)).2 (st.getD 1)) s) : wpAny (model prog w) A (Builtin.Slice.sliceApplied (.ref sl) (pure (n : Int))) Q E s := by
  obtain ⟨os, hos, hcs, hds⟩ := id hs
  unfold Builtin.Slice.sliceApplied Builtin.Slice.sliceFields
  refine wpAny_bind (wpAny_bind (wpAny_field hos hds (x := vl) rfl (wpAny_bind (wpAny_field hos hds (x := vu) rfl (wpAny_bind (wpAny_field hos hds (x := vk) rfl (wpAny_pure ?_)))))))
  refine wpAny_bind (slicePart_ pk ?_)
  have hc : ¬ ((st.getD 1 == 0) = true) := by
    cases st with
    | none => decide
    | some c =>
      intro q
      exact h0 (by rw [show c = 0 from eq_of_beq q])
  show wpAny _ _ (if (st.getD 1 == 0) = true then _ else _) _ _ s
  rw [if_neg hc]
  refine wpAny_bind (slicePart_ pl (wpAny_bind (slicePart_ pu (wpAny_bind (wpAny_pure ?_)))))
  exact wpAny_pure h
/-- the places of a slice -/
def idxT (lo hi st : Option Int) (n : Nat) : List Nat :=
  (List.range (Builtin.Slice.slicePlaces (Builtin.Slice.sliceAdjust lo hi (st.getD 1) (n : Int)).1 (Builtin.Slice.sliceAdjust lo hi (st.getD 1) (n : Int)).2 (st.getD 1))).map fun (k : Nat) => ((Builtin.Slice.sliceAdjust lo hi (st.getD 1) (n : Int)).1 + (k : Int) * st.getD 1).toNat
theorem getItem_tuple_any {t sl : Addr} {items : Array Value} {vl vu vk : Value} {lo hi st : Option Int} {Q : Value → Shared → Prop} (ht : IsTup s.heap t items) (hs : s.heap.IsSliceOf sl vl vu vk) (pl : IsPart vl lo) (pu : IsPart vu hi) (pk : IsPart vk st) (h0 : st ≠ some 0)
    (hsz : ((idxT lo hi st items.size).filterMap fun i => items[i]?).length ≤ sizeLine)
    (hw : (idxT lo hi st items.size) = List.range items.size → Q (.ref t) s)
    (h : Q (.ref s.heap.objs.size) { s with heap := s.heap.push { cls := .type "tuple", data := .seq ((idxT lo hi st items.size).filterMap fun i => items[i]?).toArray } })
    : wpAny (model prog w) A (getItem (.ref t) (.ref sl)) Q E s := by
  obtain ⟨os, hos, hcs, hds⟩ := id hs
  have hTs : s.TypeIs (.ref sl) "slice" := ⟨os, hos, hcs⟩
  unfold getItem
  try with_reducible refine wpAny_holding ?_
  first | refine wpAny_bind (wpAny_pure ?_) | skip
  refine wpAny_bind (wpAny_sequenceKey ht.typeIs (by decide) ?_)
  refine wpAny_bind (wpAny_callSpecial?_slot (name := Str.ofString "__getitem__") ht.typeIs PyProof.Rows.slot_tuple_getitem
    (wpAny_call_entry PyProof.Rows.slot_tuple_getitem ht.typeIs entry_tuple_getitem ?_ (args_tuple_getitem _ _)))
  show wpAny _ _ (Builtin.Tuple.tupleItemsOf (.ref t) >>= _) _ _ s
  refine wpAny_bind (tupleItemsOf_ ht ?_)
  refine wpAny_bind (wpAny_typeOf hTs ?_)
  rw [if_pos (by decide)]
  refine wpAny_bind (sliceApplied_any hs pl pu pk h0 ?_)
  unfold idxT at hsz hw h
  rw [List.filterMap_map] at hsz h
  generalize (Builtin.Slice.sliceAdjust lo hi (st.getD 1) ((items.size : Nat) : Int)).1 = a at hsz hw h ⊢
  generalize (Builtin.Slice.sliceAdjust lo hi (st.getD 1) ((items.size : Nat) : Int)).2 = b at hsz hw h ⊢
  generalize st.getD 1 = c at hsz hw h ⊢
  generalize Builtin.Slice.slicePlaces a b c = n at hsz hw h ⊢
  show wpAny _ _ (if (a == 0 && c == 1 && n == items.size) = true then _ else _) _ _ s
  by_cases q : (a == 0 && c == 1 && n == items.size) = true
  · rw [if_pos q]
    rw [Bool.and_eq_true, Bool.and_eq_true] at q
    have q1 : a = 0 := eq_of_beq q.1.1
    have q2 : c = 1 := eq_of_beq q.1.2
    have q3 : n = items.size := eq_of_beq q.2
    subst q1 q2 q3
    have hQ := hw (by
      have e : (fun (k : Nat) => ((0 : Int) + (k : Int) * 1).toNat) = id := by
        funext k
        show ((0 : Int) + (k : Int) * 1).toNat = k
        omega
      rw [e, List.map_id])
    refine wpAny_bind ?_
    show wpAny _ _ (typeOf (.ref t) >>= fun T => pure (T == .type "tuple")) _ _ s
    refine wpAny_bind (wpAny_typeOf ht.typeIs (wpAny_pure ?_))
    first
      | rw [if_pos (by decide)]
      | simp only [beq_self_eq_true, if_true]
    first
      | exact wpAny_bind (wpAny_rule (wpAny_pure ⟨_, rfl, wpAny_pure hQ⟩))
      | exact wpAny_bind (wpAny_rule (wpAny_bind (wpAny_pure (wpAny_pure ⟨_, rfl, wpAny_pure hQ⟩))))
  · rw [if_neg q]
    have htake : sizeOk (.seq (((List.range n).filterMap ((fun i => items[i]?) ∘ fun (k : Nat) => (a + (k : Int) * c).toNat))).toArray) := by
      show ((List.range n).filterMap ((fun i => items[i]?) ∘ fun (k : Nat) => (a + (k : Int) * c).toNat)).toArray.size ≤ sizeLine
      rw [List.size_toArray]
      exact hsz
    first
      | exact wpAny_bind (m := Builtin.Tuple.tupleExact _) (wpAny_newObj_type (wpAny_pure ⟨_, rfl, wpAny_pure h⟩) htake)
      | exact wpAny_bind (m := Builtin.Tuple.tupleExact _) (wpAny_newObj_type (wpAny_bind (wpAny_pure (wpAny_pure ⟨_, rfl, wpAny_pure h⟩))) htake)
      | exact wpAny_bind (wpAny_bind (m := Builtin.Tuple.tupleExact _) (wpAny_newObj_type (wpAny_pure (wpAny_pure ⟨_, rfl, wpAny_pure h⟩)) htake))
      | exact wpAny_bind (wpAny_bind (m := Builtin.Tuple.tupleExact _) (wpAny_newObj_type (wpAny_pure ⟨_, rfl, wpAny_pure h⟩) htake))
end
end HT

set_option Elab.async false
set_option linter.all false
set_option maxRecDepth 100000
/-! slices of tuples, at the level of values -/
namespace V3
open PySem PySem.Spec PyProof.Rows L2
/-- what a slice picks -/
def stepL {α : Type} (xs : List α) (lo hi st : Option Int) : List α := (HT.idxT lo hi st xs.length).filterMap fun i => xs[i]?
theorem pick_self {α : Type} (xs : List α) : (List.range xs.length).filterMap (fun i => xs[i]?) = xs := by
  have z := pick_run xs.toArray 0 xs.length
  rw [List.filterMap_map] at z
  have e : ((fun x => xs.toArray[x]?) ∘ fun x => 0 + x) = fun i => xs[i]? := by
    funext i
    simp
  rw [e] at z
  simpa using z
theorem fm_congr {α β : Type} {f g : α → Option β} : ∀ {xs : List α}, (∀ x ∈ xs, f x = g x) → xs.filterMap f = xs.filterMap g
  | [], _ => rfl
  | x :: r, h => by
    have e := h x (List.mem_cons_self ..)
    have ih := fm_congr (xs := r) fun y hy => h y (List.mem_cons_of_mem _ hy)
    rw [List.filterMap_cons, List.filterMap_cons, e, ih]
theorem step_len {α : Type} (xs : List α) {lo hi st : Option Int} : (stepL xs lo hi st).length ≤ (HT.idxT lo hi st xs.length).length := List.length_filterMap_le ..
theorem step_one {α : Type} (xs : List α) (lo hi : Option Int) : stepL xs lo hi none = (xs.drop (HT.sIx xs.length 0 lo)).take (HT.sIx xs.length xs.length hi - HT.sIx xs.length 0 lo) := by
  unfold stepL HT.idxT
  show List.filterMap (fun i => xs[i]?) (List.map (fun (k : Nat) => ((Builtin.Slice.sliceAdjust lo hi 1 (xs.length : Int)).1 + (k : Int) * 1).toNat) (List.range (Builtin.Slice.slicePlaces (Builtin.Slice.sliceAdjust lo hi 1 (xs.length : Int)).1 (Builtin.Slice.sliceAdjust lo hi 1 (xs.length : Int)).2 1))) = _
  rw [HT.adjust_gen lo hi xs.length]
  show List.filterMap (fun i => xs[i]?) (List.map (fun (k : Nat) => (((HT.sIx xs.length 0 lo : Nat) : Int) + (k : Int) * 1).toNat) (List.range (Builtin.Slice.slicePlaces ((HT.sIx xs.length 0 lo : Nat) : Int) ((HT.sIx xs.length xs.length hi : Nat) : Int) 1))) = _
  rw [HT.places_gen]
  generalize HT.sIx xs.length 0 lo = i
  generalize HT.sIx xs.length xs.length hi - i = k
  have z := pick_run xs.toArray i k
  have e : (fun (k : Nat) => ((i : Int) + (k : Int) * 1).toNat) = fun x => i + x := by
    funext m
    omega
  rw [e]
  simpa using z
theorem step_to {α : Type} (xs : List α) {k : Nat} (h : k ≤ xs.length) : stepL xs none (some (k : Int)) none = xs.take k := by
  rw [step_one, HT.sIx_nat, HT.sIx_none, Nat.min_eq_left h]
  simp
theorem step_from {α : Type} (xs : List α) {k : Nat} (h : k ≤ xs.length) : stepL xs (some (k : Int)) none none = xs.drop k := by
  rw [step_one, HT.sIx_nat, HT.sIx_none, Nat.min_eq_left h]
  exact List.take_of_length_le (by rw [List.length_drop]; exact Nat.le_refl _)
theorem step_back {α : Type} (xs : List α) : stepL xs none none (some (-1)) = xs.reverse := by
  unfold stepL HT.idxT
  have a1 : Builtin.Slice.sliceAdjust none none ((some (-1 : Int)).getD 1) (xs.length : Int) = ((xs.length : Int) - 1, -1) := by
    simp [Builtin.Slice.sliceAdjust]
  have a2 : Builtin.Slice.slicePlaces ((xs.length : Int) - 1) (-1) ((some (-1 : Int)).getD 1) = xs.length := by
    unfold Builtin.Slice.slicePlaces
    simp
    omega
  rw [a1]
  show List.filterMap (fun i => xs[i]?) (List.map (fun (k : Nat) => ((xs.length : Int) - 1 + (k : Int) * (some (-1 : Int)).getD 1).toNat) (List.range (Builtin.Slice.slicePlaces ((xs.length : Int) - 1) (-1) ((some (-1 : Int)).getD 1)))) = _
  rw [a2, List.filterMap_map]
  have z := pick_self xs.reverse
  rw [List.length_reverse] at z
  refine Eq.trans (fm_congr fun k hk => ?_) z
  have lt : k < xs.length := List.mem_range.mp hk
  rw [List.getElem?_reverse lt]
  have e : ((xs.length : Int) - 1 + (k : Int) * (some (-1 : Int)).getD 1).toNat = xs.length - 1 - k := by
    show ((xs.length : Int) - 1 + (k : Int) * (-1)).toNat = _
    omega
  show xs[((xs.length : Int) - 1 + (k : Int) * (some (-1 : Int)).getD 1).toNat]? = _
  rw [e]
theorem vals_idx {xs : List V} {us : List Value} (r : Vals xs us) : ∀ idx : List Nat, Vals (idx.filterMap fun i => xs[i]?) (idx.filterMap fun i => us.toArray[i]?) := vals_pick r
section
variable {X : Cx}
/-- what t[slice] wants -/
def wSl (K : PySem.W.Frag) (p : Addr) (xs : List V) (lo hi st : Option Int) (H : Hp) (Q : VK) : Prop := SqT K H p xs ∧ st ≠ some 0 ∧ (stepL xs lo hi st).length ≤ sizeLine ∧
  (HT.idxT lo hi st xs.length = List.range xs.length → Q (.ref p) H) ∧ ∀ r, H r = none → Q (.ref r) (upd H r (.tup (stepL xs lo hi st)))
theorem run_sl {pins : List (Addr × Obj)} {s : Shared} {σ : L2.St} {H : Hp} {p sl : Addr} {xs : List V} {vl vu vk : Value} {lo hi st : Option Int} {Q : VK} (I : Inv X pins σ H s) (hs : s.heap.IsSliceOf sl vl vu vk) (pl : IsPart vl lo) (pu : IsPart vu hi) (pk : IsPart vk st)
    (h : wSl X.K p xs lo hi st H Q) : ∃ items : Array Value, IsTup s.heap p items ∧ wpAny (model X.prog X.w) X.A (getItem (.ref p) (.ref sl)) (EP X pins σ Q) X.xe s := by
  obtain ⟨hx, h0, hz, hw, hq⟩ := h
  obtain ⟨its, r, ht, hsz⟩ := I.tuple hx
  have ln : xs.length = its.toArray.size := by rw [List.size_toArray]; exact r.length
  refine ⟨its.toArray, ht, HT.getItem_tuple_any ht hs pl pu pk h0 ?_ (fun e => ?_) ?_⟩
  · unfold stepL at hz
    rw [ln] at hz
    rw [← (vals_idx r _).length]
    exact hz
  · exact ⟨.ref p, H, I, rfl, hw (by rw [ln]; exact e)⟩
  · have v := vals_idx r (HT.idxT lo hi st its.toArray.size)
    rw [← ln] at v ⊢
    refine ⟨.ref s.heap.objs.size, _, I.laid (t' := s.toks) (o := .tup (stepL xs lo hi st)) (fun b ob q => Heap.get?_push_of_some _ q) (Nat.le_refl _) ?_, rfl, hq _ (I.hok.fresh (Nat.le_refl _))⟩
    exact ⟨hz, _, v, ⟨_, Heap.get?_push_size _ rfl, rfl, _, rfl⟩⟩
/-- t[a:b:c] -/
def tStepT (K : PySem.W.Frag) (te : TE) (tl th ts : TO) : TE := fun σ H Q => te σ H fun x H1 => tl σ H1 fun l H2 => th σ H2 fun u H3 => ts σ H3 fun k H4 => ∃ p xs, x = .ref p ∧ wSl K p xs l u k H4 Q
theorem pe_stepT {e : Expr} {te : TE} {lo hi st : Option Expr} {tl th ts : TO} {p2 pos : Pos} (he : PE X e te) (hl : PO X lo tl) (hu : PO X hi th) (hk : PO X st ts)
    (hop : ∀ (o : Value) (n : Addr), subscripted (.Slice lo hi st p2) false o (.ref n) = operate [o, .ref n] (getItem o (.ref n)) := by intro _ _; with_unfolding_all rfl) :
    PE X (.Subscript e (.Slice lo hi st p2) pos) (tStepT X.K te tl th ts) := by
  refine ⟨fun pins s σ H Q I h => ?_⟩
  refine Subscript_ (thn (he.run pins s σ H _ I h) fun v s1 ⟨x, H1, I1, r1, q1⟩ => ?_)
  refine wpAny_Slice (thn (hl.run pins s1 σ H1 _ I1 q1) fun vl s2 ⟨l, H2, I2, pl, q2⟩ =>
    thn (hu.run pins s2 σ H2 _ I2 q2) fun vu s3 ⟨u, H3, I3, pu, q3⟩ =>
    thn (hk.run pins s3 σ H3 _ I3 q3) fun vk s4 ⟨k, H4, I4, pk, q4⟩ => ?_)
  obtain ⟨p, xs, rfl, w⟩ := q4
  have J : Inv X pins σ H4 { s4 with heap := s4.heap.push { cls := .type "slice", data := .fields #[vl, vu, vk] } } := I4.kept (t' := s4.toks) fun b ob q => Heap.get?_push_of_some _ q
  cases r1
  obtain ⟨items, ht, got⟩ := run_sl J (Heap.IsSliceOf.new ..) pl pu pk w
  exact tail_any (ops := [.ref p, .ref s4.heap.objs.size]) ht.typeIs slot_tuple_getitem.lookup got (hop _ _)
/-- t[s], s a slice -/
def rIxSl (K : PySem.W.Frag) : R2 := fun x y H Q => ∃ p q xs lo hi st, x = .ref p ∧ y = .ref q ∧ H q = some (SlH q lo hi st) ∧ wSl K p xs lo hi st H Q
theorem ix_slice : IxR X (rIxSl X.K) := by
  intro value slice pins s σ H x y v u Q I rx ry h hs
  obtain ⟨p, q, xs, lo, hi, st, rfl, rfl, hq, w⟩ := h
  cases rx
  cases ry
  obtain ⟨⟨vl, vu, vk, so, pl, pu, pk⟩, _, _⟩ := I.hok _ _ hq
  obtain ⟨items, ht, got⟩ := run_sl I so pl pu pk w
  exact tail_any (ops := [.ref p, .ref q]) ht.typeIs slot_tuple_getitem.lookup got hs
end
end V3

set_option Elab.async false
set_option linter.all false
set_option maxRecDepth 100000
/-! readings that leave all as it was: what they answer -/
namespace V3
open PySem L2
def EvV (W : Hp → Prop) (σ : L2.St) (te : TE) (R : V → Hp → Prop) : Prop := ∀ H Q, W H → (∀ v H', Same H H' → W H' → R v H' → Q v H') → te σ H Q
def EvB (W : Hp → Prop) (σ : L2.St) (tt : TT) (b : Bool) : Prop := ∀ H Q, W H → (∀ H', Same H H' → W H' → Q b H') → tt σ H Q
def EvO (W : Hp → Prop) (σ : L2.St) (tO : TO) (o : Option Int) : Prop := ∀ H Q, W H → (∀ H', Same H H' → W H' → Q o H') → tO σ H Q
def StV (R : V → Hp → Prop) : Prop := ∀ v H H', Same H H' → R v H → R v H'
def isIv (i : Int) : V → Hp → Prop := fun v _ => v = .int i
def isSv (s : Str) : V → Hp → Prop := fun v _ => v = .str s
def isBv (b : Bool) : V → Hp → Prop := fun v _ => v = .bl b
def isVv (u : V) : V → Hp → Prop := fun v _ => v = u
theorem st_i {i : Int} : StV (isIv i) := fun _ _ _ _ h => h
theorem st_s {i : Str} : StV (isSv i) := fun _ _ _ _ h => h
theorem st_b {i : Bool} : StV (isBv i) := fun _ _ _ _ h => h
theorem st_v {u : V} : StV (isVv u) := fun _ _ _ _ h => h
section
variable {W : Hp → Prop} {σ : L2.St} {ta tb te : TE} {R Ra Rb : V → Hp → Prop}
theorem ev_var {i : Nat} {v : V} (e : σ[i]? = some (some v)) (h : ∀ H, W H → R v H) : EvV W σ (tVar i) R := fun H Q w k => ⟨v, e, k v H (Same.refl H) w (h H w)⟩
theorem ev_c {v : V} : EvV W σ (tC v) (isVv v) := fun H Q w k => k v H (Same.refl H) w rfl
theorem ev_int {i : Int} : EvV W σ (tC (.int i)) (isIv i) := fun H Q w k => k _ H (Same.refl H) w rfl
theorem ev_str {s : Str} : EvV W σ (tC (.str s)) (isSv s) := fun H Q w k => k _ H (Same.refl H) w rfl
/-- a two-place operation -/
theorem ev_op {r : R2} (sa : StV Ra) (ha : EvV W σ ta Ra) (hb : EvV W σ tb Rb) (h : ∀ x y H Q, W H → Ra x H → Rb y H → (∀ v H', Same H H' → W H' → R v H' → Q v H') → r x y H Q) : EvV W σ (tOp r ta tb) R := fun H Q w k =>
  ha H _ w fun x H1 s1 w1 rx => hb H1 _ w1 fun y H2 s2 w2 ry => h x y H2 Q w2 (sa _ _ _ s2 rx) ry fun v H' s w' rv => k v H' ((s1.trans s2).trans s) w' rv
/-- a call with one argument -/
theorem ev_cb1 {r : List V → Hp → VK → Prop} (ha : EvV W σ ta Ra) (h : ∀ x H Q, W H → Ra x H → (∀ v H', Same H H' → W H' → R v H' → Q v H') → r [x] H Q) : EvV W σ (tCB r (tCons ta tNil)) R := fun H Q w k =>
  ha H _ w fun x H1 s1 w1 rx => h x H1 Q w1 rx fun v H' s w' rv => k v H' (s1.trans s) w' rv
theorem ev_test {b : Bool} (h : EvV W σ te (isBv b)) : EvB W σ (tTest te) b := fun H Q w k => h H _ w fun v H' s w' e => ⟨b, e, k H' s w'⟩
theorem ev_or {t u : TT} {b : Bool} (h : EvB W σ t false) (h2 : EvB W σ u b) : EvB W σ (tOr t u) b := fun H Q w k =>
  h H _ w fun H1 s1 w1 => iteF (h2 H1 _ w1 fun H2 s2 w2 => k H2 (s1.trans s2) w2)
theorem evo_none : EvO W σ tNoPart none := fun H Q w k => k H (Same.refl H) w
theorem evo_some {i : Int} (h : EvV W σ te (isIv i)) : EvO W σ (tPart te) (some i) := fun H Q w k => h H _ w fun v H' s w' e => ⟨i, e, k H' s w'⟩
theorem ev_add {i j : Int} (ha : EvV W σ ta (isIv i)) (hb : EvV W σ tb (isIv j)) : EvV W σ (tOp (rI0 fun i j => .int (i + j)) ta tb) (isIv (i + j)) :=
  ev_op st_i ha hb fun x y H Q w ex ey k => ⟨i, j, ex, ey, k _ H (Same.refl H) w rfl⟩
/-- != and == of flat values -/
theorem ev_neI {i j : Int} (ha : EvV W σ ta (isIv i)) (hb : EvV W σ tb (isIv j)) : EvV W σ (tOp rNe ta tb) (isBv (!decide (i = j))) :=
  ev_op st_i ha hb fun x y H Q w ex ey k => by
    cases ex
    cases ey
    refine ⟨rfl, k _ H (Same.refl H) w ?_⟩
    have e : (V.int i = V.int j) ↔ (i = j) := ⟨fun z => by injection z, fun z => by rw [z]⟩
    show V.bl (!decide (V.int i = V.int j)) = V.bl (!decide (i = j))
    by_cases h : i = j
    · rw [decide_eq_true h, decide_eq_true (e.mpr h)]
    · rw [decide_eq_false h, decide_eq_false (fun z => h (e.mp z))]
theorem dec_str {i j : Str} : decide (V.str i = V.str j) = decide (i = j) := by
  have e : (V.str i = V.str j) ↔ (i = j) := ⟨fun z => by injection z, fun z => by rw [z]⟩
  by_cases h : i = j
  · rw [decide_eq_true h, decide_eq_true (e.mpr h)]
  · rw [decide_eq_false h, decide_eq_false (fun z => h (e.mp z))]
theorem dec_bl {i j : Bool} : decide (V.bl i = V.bl j) = decide (i = j) := by
  have e : (V.bl i = V.bl j) ↔ (i = j) := ⟨fun z => by injection z, fun z => by rw [z]⟩
  by_cases h : i = j
  · rw [decide_eq_true h, decide_eq_true (e.mpr h)]
  · rw [decide_eq_false h, decide_eq_false (fun z => h (e.mp z))]
theorem ev_neS {i j : Str} (ha : EvV W σ ta (isSv i)) (hb : EvV W σ tb (isSv j)) : EvV W σ (tOp rNe ta tb) (isBv (!decide (i = j))) :=
  ev_op st_s ha hb fun x y H Q w ex ey k => by
    cases ex
    cases ey
    exact ⟨rfl, k _ H (Same.refl H) w (congrArg (fun b => V.bl (!b)) dec_str)⟩
theorem ev_eqS {i j : Str} (ha : EvV W σ ta (isSv i)) (hb : EvV W σ tb (isSv j)) : EvV W σ (tOp rEq ta tb) (isBv (decide (i = j))) :=
  ev_op st_s ha hb fun x y H Q w ex ey k => by
    cases ex
    cases ey
    exact ⟨rfl, k _ H (Same.refl H) w (congrArg V.bl dec_str)⟩
theorem ev_neB {i j : Bool} (ha : EvV W σ ta (isBv i)) (hb : EvV W σ tb (isBv j)) : EvV W σ (tOp rNe ta tb) (isBv (!decide (i = j))) :=
  ev_op st_b ha hb fun x y H Q w ex ey k => by
    cases ex
    cases ey
    exact ⟨rfl, k _ H (Same.refl H) w (congrArg (fun b => V.bl (!b)) dec_bl)⟩
theorem ev_eqB {i j : Bool} (ha : EvV W σ ta (isBv i)) (hb : EvV W σ tb (isBv j)) : EvV W σ (tOp rEq ta tb) (isBv (decide (i = j))) :=
  ev_op st_b ha hb fun x y H Q w ex ey k => by
    cases ex
    cases ey
    exact ⟨rfl, k _ H (Same.refl H) w (congrArg V.bl dec_bl)⟩
theorem ev_to {R' : V → Hp → Prop} (h : EvV W σ te R) (e : ∀ v H, R v H → R' v H) : EvV W σ te R' := fun H Q w k => h H Q w fun v H' s w' r => k v H' s w' (e v H' r)
theorem ev_bool {b b' : Bool} (h : EvB W σ t b) (e : b = b') : EvB W σ t b' := e ▸ h
/-- an if whose test fails -/
theorem if_no {c : TT} {t u : TS} {D : Ends} {H : Hp} (h : EvB W σ c false) (w : W H) (k : ∀ H', Same H H' → W H' → u D σ H') : tIfS c t u D σ H := h H _ w fun H' s w' => iteF (k H' s w')
end
end V3

set_option Elab.async false
set_option linter.all false
set_option maxRecDepth 100000
/-! a loop over a list or a tuple -/
namespace V3
open PySem L2 TL
def iSeq (K : PySem.W.Frag) (tl : TE) : TI := fun σ H R => tl σ H fun x H1 => ∃ a, x = .ref a ∧ (((∃ xs, SqL K H1 a xs) ∧ R (Itl K a) H1) ∨ ((∃ xs, SqT K H1 a xs) ∧ R (Itt K a) H1))
theorem pi_seq {X : Cx} {tg l : Expr} {tl : TE} (hl : PE X l tl) : PI X tg l (iSeq X.K tl) := by
  refine ⟨fun pins s σ H R J h => ?_⟩
  have nw : ∀ {s1 : Shared} {H1 : Hp} {o : Obj}, Inv X pins σ H1 s1 → Inv X pins σ H1 { s1 with heap := s1.heap.push o } := fun {s1 H1 o} I1 => I1.kept (t' := s1.toks) fun b o e => PySem.Heap.get?_push_of_some _ e
  refine thn (hl.run pins s σ H _ J h) fun v s1 ⟨x, H1, I1, r1, a, ea, q1⟩ => ?_
  subst ea
  cases r1
  have fp : ∀ b ∈ [s1.heap.objs.size], FpOk X pins H1 b := fun b hb => by
    rw [List.mem_singleton.mp hb]
    exact I1.fpOk (Nat.le_refl _) (I1.hok.fresh (Nat.le_refl _))
  rcases q1 with ⟨⟨xs, hq⟩, q⟩ | ⟨⟨xs, hq⟩, q⟩
  · obtain ⟨its, rv, p, hz⟩ := I1.list hq
    exact wpAny_pyIter_list p.isList ⟨s1.heap.objs.size, [s1.heap.objs.size], _, _, H1, rfl, nw I1, turn_list a _, ⟨_, PySem.Heap.get?_push_size _ rfl, rfl, rfl⟩, fp, q⟩
  · obtain ⟨its, rv, p, hz⟩ := I1.tuple hq
    exact wpAny_pyIter_tuple (show s1.heap.IsTuple a its.toArray from p) ⟨s1.heap.objs.size, [s1.heap.objs.size], _, _, H1, rfl, nw I1, turn_tuple a _, ⟨_, PySem.Heap.get?_push_size _ rfl, rfl, rfl⟩, fp, q⟩
theorem for_seq {K : PySem.W.Frag} {a : Addr} {xs : List V} {g : TG} {tb : TS} {D : Ends} {σ : L2.St} {H : Hp} (Pv : Nat → L2.St → Hp → Prop) (h : H a = some (.lst xs) ∨ H a = some (.tup xs)) (h0 : Pv 0 σ H) (hl : ∀ i σ H', Pv i σ H' → Same H H')
    (hs : ∀ i x σ H, xs[i]? = some x → Pv i σ H → g x σ H fun σ2 H2 => tb { D with nx := Pv (i + 1), ct := Pv (i + 1), bk := D.nx } σ2 H2) (hd : ∀ σ H, Pv xs.length σ H → D.nx σ H) :
    ((∃ xs, SqL K H a xs) ∧ ∃ W : Nat → Nat → L2.St → Hp → Prop, (∃ m, W 0 m σ H) ∧ ∀ i m σ H, W i m σ H →
      ((Itl K a).stop i H ∧ D.nx σ H) ∨ ((Itl K a).go i H ∧ ∃ N : L2.St → Hp → Prop, (∀ σ' H', N σ' H' → ∃ m', m' < m ∧ W (i + 1) m' σ' H') ∧ ∀ x H', (Itl K a).yld i H x H' → g x σ H' fun σ2 H2 => tb { D with nx := N, ct := N, bk := D.nx } σ2 H2)) ∨
    ((∃ xs, SqT K H a xs) ∧ ∃ W : Nat → Nat → L2.St → Hp → Prop, (∃ m, W 0 m σ H) ∧ ∀ i m σ H, W i m σ H →
      ((Itt K a).stop i H ∧ D.nx σ H) ∨ ((Itt K a).go i H ∧ ∃ N : L2.St → Hp → Prop, (∀ σ' H', N σ' H' → ∃ m', m' < m ∧ W (i + 1) m' σ' H') ∧ ∀ x H', (Itt K a).yld i H x H' → g x σ H' fun σ2 H2 => tb { D with nx := N, ct := N, bk := D.nx } σ2 H2)) := by
  rcases h with h | h
  · exact .inl ⟨⟨xs, SqL.of h⟩, for_list Pv h0 (fun i σ H' _ z => SqL.of (hl i σ H' z _ _ h)) hs hd⟩
  · exact .inr ⟨⟨xs, SqT.of h⟩, for_tup Pv h0 (fun i σ H' _ z => SqT.of (hl i σ H' z _ _ h)) hs hd⟩
end V3

set_option Elab.async false
set_option linter.all false
set_option maxRecDepth 100000
namespace V3
open PySem L2 TL
/-! rows of houses and of reports: their words and texts -/
def kindL : List Str := ["first", "new", "minus", "plus"]
def stateL : List Str := ["open", "shut"]
def deedL : List Str := ["whole", "part", "right"]
def placeL : List Str := ["now", "there"]
def whoseL : List Str := ["own", "target", "top", "deed"]
inductive Rw where
  | lt (k s d p : Str)
  | ct (k : Str) (w : Int) (o : Str)
  deriving DecidableEq
def Wt (w : Int) : Prop := w = -1 ∨ w = 0 ∨ w = 1
def Rw.ok : Rw → Prop
  | .lt k s d p => k ∈ kindL ∧ s ∈ stateL ∧ d ∈ deedL ∧ p ∈ placeL ∧ (d = "right" → k = "first" ∨ k = "new")
  | .ct k w o => k ∈ kindL ∧ Wt w ∧ o ∈ whoseL
def Rw.words : Rw → List Str
  | .lt k s d p => [k, s, d, p]
  | .ct k w o => [k, num w, o]
def Rw.text (m : Rw) : Str := Str.join sp1 m.words
def Rw.kind : Rw → Nat
  | .lt _ _ _ _ => 0
  | .ct _ _ _ => 1
theorem all_free : ∀ p ∈ kindL ++ stateL ++ deedL ++ placeL ++ whoseL ++ [num (-1), num 0, num 1], (32 ∉ tl p ∧ 10 ∉ tl p) ∧ p.length ≤ 6 := by decide +kernel
theorem wt_word {w : Int} (h : Wt w) : num w ∈ [num (-1), num 0, num 1] := by
  rcases h with rfl | rfl | rfl <;> simp
theorem word_ok {m : Rw} (h : m.ok) : ∀ p ∈ m.words, (32 ∉ tl p ∧ 10 ∉ tl p) ∧ p.length ≤ 6 := by
  intro p hp
  refine all_free p ?_
  cases m with
  | lt k s d q =>
    obtain ⟨a, b, c, e, _⟩ := h
    simp only [Rw.words, List.mem_cons, List.not_mem_nil, or_false] at hp
    simp only [List.mem_append]
    rcases hp with rfl | rfl | rfl | rfl
    · exact .inl (.inl (.inl (.inl (.inl a))))
    · exact .inl (.inl (.inl (.inl (.inr b))))
    · exact .inl (.inl (.inl (.inr c)))
    · exact .inl (.inl (.inr e))
  | ct k w o =>
    obtain ⟨a, b, c⟩ := h
    simp only [Rw.words, List.mem_cons, List.not_mem_nil, or_false] at hp
    simp only [List.mem_append]
    rcases hp with rfl | rfl | rfl
    · exact .inl (.inl (.inl (.inl (.inl a))))
    · exact .inr (wt_word b)
    · exact .inl (.inr c)
theorem rw_ne (m : Rw) : m.words ≠ [] := by cases m <;> exact (fun z => nomatch z)
theorem rw_split {m : Rw} (h : m.ok) : Txt.split m.text sp1 = m.words := by
  unfold Rw.text
  have z := split_join sp_tl (by decide +kernel) (rw_ne m) fun p hp => (word_ok h p hp).1.1
  rw [join_eq] at z
  exact z
theorem wt_inj {v w : Int} (hv : Wt v) (hw : Wt w) (e : num v = num w) : v = w := by
  have d1 : num (-1) ≠ num 0 := by decide +kernel
  have d2 : num (-1) ≠ num 1 := by decide +kernel
  have d3 : num 0 ≠ num 1 := by decide +kernel
  rcases hv with rfl | rfl | rfl <;> rcases hw with rfl | rfl | rfl <;> first | rfl | exact absurd e d1 | exact absurd e d2 | exact absurd e d3 | exact absurd e.symm d1 | exact absurd e.symm d2 | exact absurd e.symm d3
theorem rw_inj {m n : Rw} (hm : m.ok) (hn : n.ok) (h : m.text = n.text) : m = n := by
  have e : m.words = n.words := by rw [← rw_split hm, ← rw_split hn, h]
  cases m with
  | lt k s d p =>
    cases n with
    | lt k' s' d' p' =>
      simp only [Rw.words, List.cons.injEq, and_true] at e
      obtain ⟨rfl, rfl, rfl, rfl⟩ := e
      rfl
    | ct k' w' o' => simp [Rw.words] at e
  | ct k w o =>
    cases n with
    | lt k' s' d' p' => simp [Rw.words] at e
    | ct k' w' o' =>
      simp only [Rw.words, List.cons.injEq, and_true] at e
      obtain ⟨rfl, ew, rfl⟩ := e
      rw [wt_inj hm.2.1 hn.2.1 ew]
theorem rw_dec {m n : Rw} (hm : m.ok) (hn : n.ok) : decide (m.text = n.text) = decide (m = n) := by
  by_cases h : m = n
  · rw [h, decide_eq_true rfl, decide_eq_true rfl]
  · rw [decide_eq_false h, decide_eq_false (fun e => h (rw_inj hm hn e))]
/-- what the two classes write -/
theorem let_text (k s d p : Str) : Str.empty ++ k ++ " " ++ s ++ " " ++ d ++ " " ++ p = (Rw.lt k s d p).text := ext_tl (by
  unfold Rw.text
  rw [tl_join]
  have e : tl (" " : Str) = [32] := by decide +kernel
  simp only [tl_append, Rw.words, List.map, joinL, sp_tl, e]
  simp [Str.empty, tl])
theorem cnt_text (k : Str) (w : Int) (o : Str) : Str.empty ++ k ++ " " ++ num w ++ " " ++ o = (Rw.ct k w o).text := ext_tl (by
  unfold Rw.text
  rw [tl_join]
  have e : tl (" " : Str) = [32] := by decide +kernel
  simp only [tl_append, Rw.words, List.map, joinL, sp_tl, e]
  simp [Str.empty, tl])
theorem inV_str {k : Str} {L : List Str} : inV (.str k) (L.map V.str) = decide (k ∈ L) := by
  induction L with
  | nil => rfl
  | cons a r ih =>
    have e : inV (.str k) ((a :: r).map V.str) = (a == k || inV (.str k) (r.map V.str)) := rfl
    rw [e, ih]
    by_cases q : k = a
    · subst q
      simp
    · have z : (a == k) = false := Bool.eq_false_iff.mpr fun w => q (eq_of_beq w).symm
      rw [z]
      simp [q]
theorem flat_strs (L : List Str) : (L.map V.str).all flatV = true := by
  induction L with
  | nil => rfl
  | cons a r ih => simpa [flatV] using ih
/-- fields -/
theorem putF_ne {f g : Str} {v x : V} {r : List (Str × V)} (h : g ≠ f) : putF f v ((g, x) :: r) = (g, x) :: putF f v r := by
  show (if g = f then _ else _) = _
  rw [if_neg h]
theorem lk_ne {f g : Str} {v : V} {r : List (Str × V)} (h : (g == f) = false) : List.lookup g ((f, v) :: r) = List.lookup g r := by
  simp [List.lookup, h]
structure Rc where
  L : Addr
  C : Addr
def Rc.at (c : Rc) : Nat → Addr
  | 0 => c.L
  | _ => c.C
def letF (k s d p : V) : List (Str × V) := [("kind", k), ("state", s), ("deed", d), ("place", p)]
def cntF (k w o : V) : List (Str × V) := [("kind", k), ("weight", w), ("whose", o)]
def Rw.fs : Rw → List (Str × V)
  | .lt k s d p => letF (.str k) (.str s) (.str d) (.str p)
  | .ct k w o => cntF (.str k) (.int w) (.str o)
def Rw.obj (c : Rc) (dx : Addr) (m : Rw) : HO := .ins (c.at m.kind) dx m.fs
def RwAt (c : Rc) (H : Hp) (v : V) (m : Rw) : Prop := ∃ x dx, v = .ref x ∧ H x = some (m.obj c dx)
theorem RwAt.keep {c : Rc} {H H' : Hp} {v : V} {m : Rw} (h : RwAt c H v m) (s : Keep H H') : RwAt c H' v m := by
  obtain ⟨x, dx, e, hx⟩ := h
  exact ⟨x, dx, e, s _ _ (fun _ z => by cases z) hx⟩
theorem RwAt.same {c : Rc} {H H' : Hp} {v : V} {m : Rw} (h : RwAt c H v m) (s : Same H H') : RwAt c H' v m := h.keep (Keep.of s)
theorem rkind_lt (m : Rw) : m.kind < 2 := by cases m <;> (simp only [Rw.kind]; omega)
theorem let_put (k s d p : V) : putF "place" p (putF "deed" d (putF "state" s (putF "kind" k []))) = letF k s d p := by
  have a1 : ("kind" : Str) ≠ "state" := by decide +kernel
  have a2 : ("kind" : Str) ≠ "deed" := by decide +kernel
  have a3 : ("kind" : Str) ≠ "place" := by decide +kernel
  have a4 : ("state" : Str) ≠ "deed" := by decide +kernel
  have a5 : ("state" : Str) ≠ "place" := by decide +kernel
  have a6 : ("deed" : Str) ≠ "place" := by decide +kernel
  show putF "place" p (putF "deed" d (putF "state" s [("kind", k)])) = _
  rw [putF_ne a1]
  show putF "place" p (putF "deed" d [("kind", k), ("state", s)]) = _
  rw [putF_ne a2, putF_ne a4]
  show putF "place" p [("kind", k), ("state", s), ("deed", d)] = _
  rw [putF_ne a3, putF_ne a5, putF_ne a6]
  rfl
theorem cnt_put (k w o : V) : putF "whose" o (putF "weight" w (putF "kind" k [])) = cntF k w o := by
  have a1 : ("kind" : Str) ≠ "weight" := by decide +kernel
  have a2 : ("kind" : Str) ≠ "whose" := by decide +kernel
  have a3 : ("weight" : Str) ≠ "whose" := by decide +kernel
  show putF "whose" o (putF "weight" w [("kind", k)]) = _
  rw [putF_ne a1]
  show putF "whose" o [("kind", k), ("weight", w)] = _
  rw [putF_ne a2, putF_ne a3]
  rfl
theorem let_kind (k s d p : V) : (letF k s d p).lookup ("kind" : Str) = some k := rfl
theorem let_state (k s d p : V) : (letF k s d p).lookup ("state" : Str) = some s := by
  unfold letF
  rw [lk_ne (by decide +kernel)]
  rfl
theorem let_deed (k s d p : V) : (letF k s d p).lookup ("deed" : Str) = some d := by
  unfold letF
  rw [lk_ne (by decide +kernel), lk_ne (by decide +kernel)]
  rfl
theorem let_place (k s d p : V) : (letF k s d p).lookup ("place" : Str) = some p := by
  unfold letF
  rw [lk_ne (by decide +kernel), lk_ne (by decide +kernel), lk_ne (by decide +kernel)]
  rfl
theorem cnt_kind (k w o : V) : (cntF k w o).lookup ("kind" : Str) = some k := rfl
theorem cnt_weight (k w o : V) : (cntF k w o).lookup ("weight" : Str) = some w := by
  unfold cntF
  rw [lk_ne (by decide +kernel)]
  rfl
theorem cnt_whose (k w o : V) : (cntF k w o).lookup ("whose" : Str) = some o := by
  unfold cntF
  rw [lk_ne (by decide +kernel), lk_ne (by decide +kernel)]
  rfl
end V3

set_option Elab.async false
set_option linter.all false
set_option maxRecDepth 100000
namespace V3
open PySem L2 TL
-- no sWrongWord
-- no sLInit
-- no sLStr
/-! the rows of houses alone -/
structure RowH (K : PySem.W.Frag) (mg : Str → Option Value) (KA SA DA PA : Addr) : Prop where
  kinds : mg "KINDS" = some (.ref KA)
  states : mg "STATES" = some (.ref SA)
  deeds : mg "DEEDS" = some (.ref DA)
  places : mg "PLACES" = some (.ref PA)
  tK : ∀ H, SqT K H KA (kindL.map V.str)
  tS : ∀ H, SqT K H SA (stateL.map V.str)
  tD : ∀ H, SqT K H DA (deedL.map V.str)
  tP : ∀ H, SqT K H PA (placeL.map V.str)
structure BltR (mg : Str → Option Value) : Prop where
  isi : mg "isinstance" = none
  int : mg "int" = none
  bool : mg "bool" = none
  str : mg "str" = none
def spIntI : Sp := fun vs H Q _ => ∃ i : Int, vs = [.int i] ∧ Q (.bl true) H
def spWord : Sp := fun vs H Q _ => ∃ k s d p, vs = [.str k, .str s, .str d, .str p] ∧ (Rw.lt k s d p).ok ∧ ∀ H', Same H H' → Q .non H'
def spLInit (c : Rc) : Sp := fun vs H Q _ => ∃ x dx k s d p, vs = [.ref x, .str k, .str s, .str d, .str p] ∧ H x = some (.ins c.L dx []) ∧ (Rw.lt k s d p).ok ∧ ∀ H', SameX x H H' → H' x = some ((Rw.lt k s d p).obj c dx) → Q .non H'
def spRS (c : Rc) (k : Nat) : Sp := fun vs H Q _ => ∃ (x dx : Addr) (m : Rw), vs = [.ref x] ∧ H x = some (m.obj c dx) ∧ m.kind = k ∧ m.ok ∧ Q (.str m.text) H
theorem lt_put {f : Str} {v : V} {n : Nat} : ∀ {fs : List (Str × V)}, fs.length < n → (putF f v fs).length < n + 1
  | [], h => by
    show 1 < n + 1
    have : 0 < n := h
    omega
  | (g, x) :: r, h => by
    show (if g = f then (g, v) :: r else (g, x) :: putF f v r).length < n + 1
    have l : r.length + 1 < n := h
    split
    · show r.length + 1 < n + 1
      omega
    · have z := lt_put (f := f) (v := v) (n := n - 1) (fs := r) (by omega)
      show (putF f v r).length + 1 < n + 1
      omega
theorem SameX.upd {x : Addr} {H H' : Hp} {o : HO} (s : SameX x H H') : SameX x H (upd H' x o) := fun c u n h => by
  rw [upd_ne n]
  exact s c u n h
/-- what an object's class must have of its fields -/
structure LetC (K : PySem.W.Frag) (c : Rc) : Prop where
  cl : Cls K c.L
  k : NoAttr K c.L "kind"
  s : NoAttr K c.L "state"
  d : NoAttr K c.L "deed"
  p : NoAttr K c.L "place"
section
variable {P : Program} {w : World} {K : PySem.W.Frag} {mg : Str → Option Value} {base : Heap} {KA SA DA PA : Addr}
end
end V3

set_option Elab.async false
set_option linter.all false
set_option maxRecDepth 100000
namespace V3
open PySem L2 TL
-- no sRows
section
variable {X : Cx} {e : Expr} {o : Expr} {to te : TE}
def rJoinK (K : PySem.W.Frag) : V → List V → Hp → VK → Prop := fun x xs H Q => ∃ a p, ∃ ys : List Str, x = .str a ∧ xs = [.ref p] ∧ (SqL K H p (ys.map V.str) ∨ SqT K H p (ys.map V.str)) ∧
  (ys.map (·.length)).sum + ys.length * a.length ≤ 16777216 ∧ Q (.str (Txt.join a ys)) H
/-- the same rules, K said -/
theorem pe_joinK {K : PySem.W.Frag} {apos pos : Pos} (ho : PE X o to) (he : PE X e te) (hK : X.K = K := by rfl) (hs : starEach [e] X.env = [(false, eval e X.env)] := by rfl) (hbase : attributeBase o "join" X.env (eval o X.env) = eval o X.env := by rfl) (hline : (apos.endLine == pos.line) = true := by rfl) :
    PE X (.Call (.Attribute o "join" apos) [e] [] pos) (tM1 (rJoinK K) to te) := by
  subst hK
  exact pe_join ho he hs hbase hline
theorem pe_ixT {K : PySem.W.Frag} {a b : Expr} {ta tb : TE} {pos : Pos} (ha : PE X a ta) (hb : PE X b tb) (hs : PlainIx b) (hK : X.K = K := by rfl) : PE X (.Subscript a b pos) (tOp (rIxT K) ta tb) := by
  subst hK
  exact pe_ix ix_tup ha hb hs
theorem pe_ixL {K : PySem.W.Frag} {a b : Expr} {ta tb : TE} {pos : Pos} (ha : PE X a ta) (hb : PE X b tb) (hs : PlainIx b) (hK : X.K = K := by rfl) : PE X (.Subscript a b pos) (tOp (rIxL K) ta tb) := by
  subst hK
  exact pe_ix ix_list ha hb hs
end
/-- a list of values that stand for those of another list -/
def Ls {α : Type} (R : V → α → Prop) (vs : List V) (ms : List α) : Prop := vs.length = ms.length ∧ ∀ (i : Nat) (m : α), ms[i]? = some m → ∃ v, vs[i]? = some v ∧ R v m
theorem Ls.nil {α : Type} {R : V → α → Prop} : Ls R [] [] := ⟨rfl, fun i m h => by simp at h⟩
theorem Ls.imp {α : Type} {R R' : V → α → Prop} {vs : List V} {ms : List α} (d : Ls R vs ms) (h : ∀ v m, R v m → R' v m) : Ls R' vs ms := ⟨d.1, fun i m e => by
  obtain ⟨v, e', r⟩ := d.2 i m e
  exact ⟨v, e', h _ _ r⟩⟩
theorem Ls.push {α : Type} {R : V → α → Prop} {vs : List V} {ms : List α} {v : V} {m : α} (d : Ls R vs ms) (t : R v m) : Ls R (vs ++ [v]) (ms ++ [m]) := by
  refine ⟨by simp [d.1], fun i n hn => ?_⟩
  rcases at_end hn with ⟨_, q⟩ | ⟨rfl, rfl⟩
  · obtain ⟨w, e, t'⟩ := d.2 i n q
    exact ⟨w, at_old e, t'⟩
  · exact ⟨v, at_new d.1, t⟩
theorem Ls.get {α : Type} {R : V → α → Prop} {vs : List V} {ms : List α} {v : V} {i : Nat} (d : Ls R vs ms) (h : vs[i]? = some v) : ∃ m, ms[i]? = some m ∧ R v m := by
  have l := (List.getElem?_eq_some_iff.mp h).1
  have e := List.getElem?_eq_getElem (l := ms) (i := i) (by rw [← d.1]; exact l)
  obtain ⟨w, q, t⟩ := d.2 i _ e
  rw [h] at q
  injection q with q
  subst q
  exact ⟨_, e, t⟩
theorem Ls.get2 {α : Type} {R : V → α → Prop} {vs : List V} {ms : List α} {v : V} {i : Nat} {m : α} (d : Ls R vs ms) (h : vs[i]? = some v) (hm : ms[i]? = some m) : R v m := by
  obtain ⟨w, q, t⟩ := d.2 i _ hm
  rw [h] at q
  injection q with q
  subst q
  exact t
/-- the tuple of a row -/
def Rw.tupV : Rw → List V
  | .lt k s d p => [.str k, .str s, .str d, .str p]
  | .ct k w o => [.str k, .int w, .str o]
def TpAt (H : Hp) (v : V) (m : Rw) : Prop := ∃ p, v = .ref p ∧ H p = some (.tup m.tupV)
theorem TpAt.keep {H H' : Hp} {v : V} {m : Rw} (h : TpAt H v m) (s : Keep H H') : TpAt H' v m := by
  obtain ⟨p, e, hp⟩ := h
  exact ⟨p, e, s _ _ (fun _ z => by cases z) hp⟩
theorem TpAt.same {H H' : Hp} {v : V} {m : Rw} (h : TpAt H v m) (s : Same H H') : TpAt H' v m := h.keep (Keep.of s)
/-- tuples of rows, each of them a row of a kind -/
def RowLs (kd : Nat) (H : Hp) (vs : List V) (ms : List Rw) : Prop := Ls (fun v m => TpAt H v m ∧ m.ok ∧ m.kind = kd) vs ms
theorem RowLs.keep {kd : Nat} {H H' : Hp} {vs : List V} {ms : List Rw} (d : RowLs kd H vs ms) (s : Keep H H') : RowLs kd H' vs ms := d.imp fun _ _ h => ⟨h.1.keep s, h.2⟩
def spRows : Sp := fun vs H Q _ => ∃ (b : Addr) (u v : Int) (n : Int), vs = [.ref b, .int n] ∧ H b = some (box u v) ∧ BoxOk u v ∧ 0 ≤ n ∧ n ≤ 100 ∧
  ∀ (D : Addr) (xs : List V) (ms : List Rw) (H' : Hp), Pre b H H' → H' D = some (.lst xs) → D ≠ b → (∀ c o, c ≠ b → H c = some o → c ≠ D) → RowLs 0 H' xs ms → (ms.length : Int) = n → Q (.ref D) H'
def spLetOf (c : Rc) : Sp := fun vs H Q _ => ∃ (v : V) (m : Rw), vs = [v] ∧ TpAt H v m ∧ m.ok ∧ m.kind = 0 ∧ ∀ (x : V) (H' : Hp), Same H H' → RwAt c H' x m → Q x H'
structure MkR (P : Program) (w : World) (K : PySem.W.Frag) (mg : Str → Option Value) (base : Heap) (name : Str) (ps : List Str) (C : Addr) (k : Nat) (spI : Sp) : Prop where
  g : mg name = some (.ref C)
  ini : ∃ (f : Addr) (fd : FuncData), FnOk P w K mg base CX0 k f fd ps spI ∧ Mk K C f ∧ Binds K fd ps []
structure BltG (mg : Str → Option Value) : Prop where
  range : mg "range" = none
  str : mg "str" = none
theorem mk_let {c : Rc} {x dx : Addr} {H : Hp} {k s d p : Str} {R : VK} {E : XK} (ok : (Rw.lt k s d p).ok) (nx : H x = none) (ndx : H dx = none) (q : ∀ H', Same H H' → RwAt c H' (.ref x) (.lt k s d p) → R .non H') :
    spLInit c [.ref x, .str k, .str s, .str d, .str p] (upd (upd H dx (.own x)) x (.ins c.L dx [])) R E :=
  ⟨x, dx, k, s, d, p, rfl, upd_same, ok, fun H' s' hx => q H' (fun a o e => s' a o (ne_of_none e nx) (made_same nx ndx a o e)) ⟨x, dx, rfl, hx⟩⟩
theorem oneOf_at {K : PySem.W.Frag} {b l : Addr} {u v : Int} {H : Hp} {xs : List V} {Q : VK} (hb : H b = some (box u v)) (ok : BoxOk u v) (ne : l ≠ b) (hl : H l = some (.lst xs)) (h1 : 1 ≤ xs.length) (h2 : xs.length ≤ 1000)
    (k : ∀ x H', x ∈ xs → Pre b H H' → Q x H') : spOneOf K [.ref b, .ref l] H Q E :=
  ⟨b, l, u, v, xs, rfl, hb, ok, ne, SqL.of hl, h1, h2, fun x _ _ hx ok' => k x _ hx (Pre.box ok')⟩
theorem oneOf_new {K : PySem.W.Frag} {b l : Addr} {u v : Int} {H : Hp} {xs : List V} {Q : VK} (hb : H b = some (box u v)) (ok : BoxOk u v) (nl : H l = none) (h1 : 1 ≤ xs.length) (h2 : xs.length ≤ 1000)
    (k : ∀ x H', x ∈ xs → Pre b H H' → Q x H') : spOneOf K [.ref b, .ref l] (upd H l (.lst xs)) Q E0 := by
  have nbl : b ≠ l := ne_of_none hb nl
  refine oneOf_at (by rw [upd_ne nbl]; exact hb) ok (Ne.symm nbl) upd_same h1 h2 fun x H' hx p => k x H' hx ⟨fun c o n e => p.1 c o n (by rw [upd_ne (ne_of_none e nl)]; exact e), p.2⟩
section
variable {P : Program} {w : World} {K : PySem.W.Frag} {mg : Str → Option Value} {base : Heap}
abbrev CalOne (P : Program) (w : World) (K : PySem.W.Frag) (mg : Str → Option Value) (base : Heap) : Prop := Cal P w K mg base CX0 "_law_one_of" 2 ["_law_box", "_law_some"] (spOneOf K)
end
end V3

set_option Elab.async false
set_option linter.all false
set_option maxRecDepth 100000
namespace V3
open PySem PySem.Spec PyProof.Rows L2
/-! enumerate over a tuple -/
set_option maxHeartbeats 1000000 in
theorem new_enumT (a : Addr) (its : Array Value) :
    Meets (Builtin.«enumerate.__new__» ⟨[.type "enumerate", .ref a], []⟩) (fun _ R s => s.heap.IsTuple a its ∧
      R (.ok (.ret (.ref (s.heap.push { cls := .type "tuple_iterator", data := .fields #[.ref a, .int 0 0] }).objs.size)))
        { s with heap := (s.heap.push { cls := .type "tuple_iterator", data := .fields #[.ref a, .int 0 0] }).push { cls := .type "enumerate", data := .fields #[.none, .bool false, .ref s.heap.objs.size, rawInt 0, .none, .none] } }) :=
  .of_wp fun prog w A R s h => by
    obtain ⟨hp, g, d, tk, os⟩ := s
    obtain ⟨h1, h⟩ := h
    have sb := sub_enumerate
    have q1 : ∀ {A' : Around} {E : Value → Shared → Prop} {Q : Value → Shared → Prop}, Q (.ref hp.objs.size) ⟨hp.push { cls := .type "tuple_iterator", data := .fields #[.ref a, .int 0 0] }, g, d, tk, os⟩ → wpAny (model prog w) A' (pyIter (.ref a)) Q E ⟨hp, g, d, tk, os⟩ :=
      fun q => (begins_tuple a its).iter prog w _ _ ⟨hp, g, d, tk, os⟩ _ h1 q
    wp_walk using q1
    refine wpAny_stack_any fun st => wpAny_pure ?_
    split
    · rename_i c _ _ _ _ _
      cases (c == Value.type "enumerate") <;> (wp_walk using q1; exact ⟨_, rfl, h⟩)
    · wp_walk using q1
      exact ⟨_, rfl, h⟩
theorem call_enumT {prog : Program} {w : World} {A : Around} {E : Value → Shared → Prop} {s : Shared} {a : Addr} {its : Array Value} {Q : Value → Shared → Prop} (ha : s.heap.IsTuple a its)
    (k : ∀ h', IsEnum h' (s.heap.objs.size + 1) s.heap.objs.size 0 .none → h'.IsTupleIter s.heap.objs.size a 0 → (∀ b o, s.heap.get? b = some o → h'.get? b = some o) → Q (.ref (s.heap.objs.size + 1)) { s with heap := h' }) :
    wpAny (model prog w) A (call (.type "enumerate") [.ref a]) Q E s := by
  refine callType_new F.called_enumerate (by decide) (F.typeCall_enumerate_1 _) (F.newCall_enumerate_1 _) (fun obj => F.args_object_init_2 obj _) F.entry_enumerate_new (new_enumT a its) ⟨ha, ?_⟩
  have sz : (s.heap.push { cls := .type "tuple_iterator", data := .fields #[.ref a, .int 0 0] }).objs.size = s.heap.objs.size + 1 := Heap.size_push ..
  show _ ∧ _
  rw [sz]
  have e1 : IsEnum ((s.heap.push { cls := .type "tuple_iterator", data := .fields #[.ref a, .int 0 0] }).push { cls := .type "enumerate", data := .fields #[.none, .bool false, .ref s.heap.objs.size, rawInt 0, .none, .none] }) (s.heap.objs.size + 1) s.heap.objs.size 0 .none := by
    have z := Heap.get?_push_size (s.heap.push { cls := .type "tuple_iterator", data := .fields #[.ref a, .int 0 0] }) (o := { cls := .type "enumerate", data := .fields #[.none, .bool false, .ref s.heap.objs.size, rawInt 0, .none, .none] }) rfl
    rw [sz] at z
    exact z
  exact ⟨⟨_, e1, rfl⟩, k _ e1 ⟨_, Heap.get?_push_of_some _ (Heap.get?_push_size _ rfl), rfl, rfl⟩ fun b o x => Heap.get?_push_of_some _ (Heap.get?_push_of_some _ x)⟩
/-- the tuple at a, each item in a new pair with its number -/
def Iet (K : PySem.W.Frag) (a : Addr) : It :=
  ⟨fun i H => ∃ xs x, SqT K H a xs ∧ xs[i]? = some x, fun i H v H' => ∃ T x, v = .ref T ∧ H T = none ∧ H' = upd H T (.tup [.int (i : Nat), x]) ∧ ∀ xs, SqT K H a xs → xs[i]? = some x, fun i H => ∃ xs, SqT K H a xs ∧ xs.length = i⟩
theorem turn_enumT {P : Program} {w : World} {K : PySem.W.Frag} {elts : List Expr} {kk : Nat} {tpos : Pos} (a e it : Addr) :
    Turn P w K (.Tuple elts kk tpos) (Iet K a) [e, it] e (fun i h => (∃ old, IsEnum h e it ((i : Nat) : Int) old) ∧ h.IsTupleIter it a i ∧ e ≠ it ∧ a ≠ it ∧ e ≠ a) where
  mem := by simp
  obj := fun i h st b hb => by
    obtain ⟨⟨old, g1⟩, ⟨o, ho, hc, hd⟩, _⟩ := st
    have z0 : b = e ∨ b = it := by simpa using hb
    rcases z0 with z | z
    · rw [z]
      exact ⟨_, g1, fun v q => nomatch q⟩
    · rw [z]
      exact ⟨o, ho, fun v q => by rw [hd] at q; cases q⟩
  keep := fun i h h' st k => let ⟨⟨old, g1⟩, g2, g3⟩ := st; ⟨⟨old, k e (by simp) _ g1⟩, g2.at fun o q => k it (by simp) o q, g3⟩
  item := by
    intro X hP hw hK hc i pins s σ H E I hf st hg
    subst hP hw hK
    obtain ⟨⟨old, g1⟩, g2, n1, n2, n3⟩ := st
    obtain ⟨xs, x, hq, hx⟩ := hg
    obtain ⟨its, rv, p, hz⟩ := I.tuple hq
    obtain ⟨u, hu, ru⟩ := rv.get hx
    have el : e < s.heap.objs.size := Heap.lt_size g1
    have il : it < s.heap.objs.size := by
      obtain ⟨_, q, _⟩ := g2
      exact Heap.lt_size q
    have lt : i < its.toArray.size := by
      have z := (List.getElem?_eq_some_iff.mp hu).1
      simpa using z
    refine wpAny_pyNext_enum_itemD (Draws.tuple (A := X.A.in1) (show X.A.in1.handled = none from I.ok.hd hc) it a n2 its.toArray) g1 ⟨g2, p⟩ lt n1 (by simp only [List.mem_cons, List.not_mem_nil, or_false, not_or]; exact ⟨n1, n3⟩) fun y h' tk hP ho st' hT hsz hk => ?_
    obtain rfl : y = u := by
      have z : its.toArray[i]? = some y := hP
      have z2 : its.toArray[i]? = some u := by simpa using hu
      rw [z2] at z
      exact (Option.some.inj z).symm
    refine ⟨_, rfl, wpAny_letOwnedTupleGo_enum (s := { s with heap := h', toks := tk + 1 }) ho fun h'' g1' sb => ?_⟩
    have T2 : h''.get? s.heap.objs.size = some { cls := .type "tuple", data := .seq #[.int i tk, y] } := (sb.2 _ (Nat.ne_of_gt el)).trans hT
    have new : ObjOk X.prog X.w (upd H s.heap.objs.size (.tup [.int (i : Nat), x])) h'' s.heap.objs.size (.tup [.int (i : Nat), x]) :=
      ⟨by show 2 ≤ sizeLine; decide, [.int i tk, y], .cons ⟨_, rfl⟩ (.cons ru .nil), ⟨_, T2, rfl, _, rfl⟩⟩
    have J : Inv X pins σ (upd H s.heap.objs.size (.tup [.int (i : Nat), x])) { s with heap := h'', toks := tk + 1 } :=
      I.turnedNew (ch := [e, it]) (fun b ob hb q => (sb.2 b (fun z => hb (by simp [z]))).trans (hk b ob (fun z => hb (by simp [z])) (fun z => hb (by simp [z])) q)) hf (Nat.le_refl _) new
    refine ⟨.ref s.heap.objs.size, _, J, rfl, ⟨_, x, rfl, I.hok.fresh (Nat.le_refl _), rfl, fun ys hy => by rw [I.tuple_inj hy hq]; exact hx⟩, ⟨⟨y, ?_⟩, st'.1.at fun o q => (sb.2 it (Ne.symm n1)).trans q, n1, n2, n3⟩, fun b hb => ?_⟩
    · have e1 : ((i + 1 : Nat) : Int) = (i : Int) + 1 := by omega
      rw [e1]
      exact g1'
    · have lb : b < s.heap.objs.size := by
        have z0 : b = e ∨ b = it := by simpa using hb
        rcases z0 with z | z
        · rw [z]
          exact el
        · rw [z]
          exact il
      rw [upd_ne (Nat.ne_of_lt lb)]
      exact (hf b hb).1
  done := by
    intro X hP hw hK hc i pins s σ H E I hf st hg
    subst hP hw hK
    obtain ⟨⟨old, g1⟩, g2, n1, n2, n3⟩ := st
    obtain ⟨xs, hq, hx⟩ := hg
    obtain ⟨its, rv, p, hz⟩ := I.tuple hq
    obtain ⟨f0, f1, f2, f3, f4, f5⟩ := hf it (by simp)
    have ei : i = its.toArray.size := by
      have z := rv.length
      simp only [List.size_toArray]
      omega
    exact wpAny_pyNext_enum_endD (Draws.tuple (A := X.A.in1) (show X.A.in1.handled = none from I.ok.hd hc) it a n2 its.toArray) g1 (by rw [← ei]; exact ⟨g2, p⟩) fun h' eb => ⟨rfl, I.turned (t' := s.toks) (fun b o hb q => eb b o hb q) f0 f1 f3 f4 f5⟩
  self := fun A i s Q E st h => let ⟨⟨_, g1⟩, _⟩ := st; wpAny_pyIter_enum g1 h
def iEnumT (K : PySem.W.Frag) (ta : TA) : TI := fun σ H R => ta σ H fun vs H1 => ∃ a xs, vs = [.ref a] ∧ SqT K H1 a xs ∧ R (Iet K a) H1
theorem pi_enumT {X : Cx} {e : Expr} {ta : TA} {p pos tpos : Pos} {elts : List Expr} {kk : Nat} (hg : Gl X "enumerate") (hm : X.mg "enumerate" = none) (ha : PA X [e] ta) (hs : starEach [e] X.env = [(false, eval e X.env)] := by rfl) :
    PI X (.Tuple elts kk tpos) (.Call (.Name "enumerate" p) [e] [] pos) (iEnumT X.K ta) := by
  refine ⟨fun pins s σ H R I h => ?_⟩
  refine Call_ (ld_blt I hg hm boot_enumerate (PyProof.Rows.callWith_type1 (thn (ha.run pos pins s σ H _ I h) fun us s1 ⟨vs, H1, I1, r1, a, xs, ex, hq, q⟩ => ?_) hs rfl))
  subst ex
  cases r1 with
  | cons r rr =>
    cases rr
    cases r
    obtain ⟨its, rv, p', hz⟩ := I1.tuple hq
    have al : a < s1.heap.objs.size := IsTup.lt p'
    refine call_enumT (its := its.toArray) p' fun h' he hit hk => wpAny_pyIter_enum he ?_
    have I2 : Inv X pins σ H1 { s1 with heap := h' } := I1.kept (t' := s1.toks) hk
    refine ⟨s1.heap.objs.size + 1, [s1.heap.objs.size + 1, s1.heap.objs.size], _, _, H1, rfl, I2, turn_enumT a (s1.heap.objs.size + 1) s1.heap.objs.size, ⟨⟨.none, he⟩, hit, Nat.succ_ne_self _, Nat.ne_of_lt al, Nat.ne_of_gt (Nat.lt_succ_of_lt al)⟩, fun b hb => ?_, q⟩
    have z0 : b = s1.heap.objs.size + 1 ∨ b = s1.heap.objs.size := by simpa using hb
    have le : s1.heap.objs.size ≤ b := by
      rcases z0 with z | z
      · rw [z]
        exact Nat.le_add_right _ _
      · rw [z]
        exact Nat.le_refl _
    exact I1.fpOk le (I1.hok.fresh le)
theorem walk_enumT {K : PySem.W.Frag} {a : Addr} {xs : List V} : Walk (Iet K a) xs.length (fun H => SqT K H a xs) (YPair (fun i => some (.int (i : Nat))) (fun i => xs[i]?)) := by
  refine ⟨fun i _ hi q => ⟨xs, xs[i], q, by simp [hi]⟩, fun _ q => ⟨xs, q, rfl⟩, fun i H v H' _ q y => ?_⟩
  obtain ⟨T, x, h1, h2, h3, h4⟩ := y
  exact ⟨T, .int (i : Nat), x, h1, h2, h3, rfl, h4 xs q⟩
end V3

set_option Elab.async false
set_option linter.all false
set_option maxRecDepth 100000
namespace V3
open PySem L2 TL
-- no sIsRows
-- no sHasRow
-- no sHsInit
-- no sHsLen
/-! houses -/
def checkL : List Str := ["left", "all"]
def depthL : List Str := ["depth 0", "depth 1", "depth 2", "depth 3", "depth 4"]
structure Hs where
  d : Int
  ch : Str
  rs : List Rw
  deriving DecidableEq
def Hs.ok (h : Hs) : Prop := 0 ≤ h.d ∧ h.d ≤ 4 ∧ h.ch ∈ checkL ∧ (∀ m ∈ h.rs, m.ok ∧ m.kind = 0) ∧ h.rs.length ≤ 100
def hsF (d ch q : V) : List (Str × V) := [("depth", d), ("check", ch), ("rows", q)]
theorem hs_put (d ch q : V) : putF "rows" q (putF "check" ch (putF "depth" d [])) = hsF d ch q := by
  have a1 : ("depth" : Str) ≠ "check" := by decide +kernel
  have a2 : ("depth" : Str) ≠ "rows" := by decide +kernel
  have a3 : ("check" : Str) ≠ "rows" := by decide +kernel
  show putF "rows" q (putF "check" ch [("depth", d)]) = _
  rw [putF_ne a1]
  show putF "rows" q [("depth", d), ("check", ch)] = _
  rw [putF_ne a2, putF_ne a3]
  rfl
theorem hs_d (d ch q : V) : (hsF d ch q).lookup ("depth" : Str) = some d := rfl
theorem hs_ch (d ch q : V) : (hsF d ch q).lookup ("check" : Str) = some ch := by
  unfold hsF
  rw [lk_ne (by decide +kernel)]
  rfl
theorem hs_rs (d ch q : V) : (hsF d ch q).lookup ("rows" : Str) = some q := by
  unfold hsF
  rw [lk_ne (by decide +kernel), lk_ne (by decide +kernel)]
  rfl
/-- objects of rows, one after another -/
def RwLs (c : Rc) (H : Hp) (us : List V) (ms : List Rw) : Prop := Ls (RwAt c H) us ms
theorem RwLs.keep {c : Rc} {H H' : Hp} {us : List V} {ms : List Rw} (d : RwLs c H us ms) (s : Keep H H') : RwLs c H' us ms := d.imp fun _ _ h => h.keep s
theorem RwLs.same {c : Rc} {H H' : Hp} {us : List V} {ms : List Rw} (d : RwLs c H us ms) (s : Same H H') : RwLs c H' us ms := d.keep (Keep.of s)
/-- a tuple, tracked or written -/
def TupK (K : PySem.W.Frag) (H : Hp) (q : Addr) (us : List V) : Prop := H q = some (.tup us) ∨ ∀ H', SqT K H' q us
theorem TupK.sq {K : PySem.W.Frag} {H : Hp} {q : Addr} {us : List V} (h : TupK K H q us) : SqT K H q us := h.elim SqT.of fun z => z H
theorem TupK.keep {K : PySem.W.Frag} {H H' : Hp} {q : Addr} {us : List V} (h : TupK K H q us) (s : Keep H H') : TupK K H' q us := h.elim (fun z => .inl (s _ _ (fun _ y => by cases y) z)) .inr
theorem TupK.same {K : PySem.W.Frag} {H H' : Hp} {q : Addr} {us : List V} (h : TupK K H q us) (s : Same H H') : TupK K H' q us := h.keep (Keep.of s)
def HsAt (K : PySem.W.Frag) (c : Rc) (C : Addr) (H : Hp) (v : V) (h : Hs) : Prop := ∃ x dx q us, v = .ref x ∧ H x = some (.ins C dx (hsF (.int h.d) (.str h.ch) (.ref q))) ∧ TupK K H q us ∧ RwLs c H us h.rs
theorem HsAt.keep {K : PySem.W.Frag} {c : Rc} {C : Addr} {H H' : Hp} {v : V} {h : Hs} (a : HsAt K c C H v h) (s : Keep H H') : HsAt K c C H' v h := by
  obtain ⟨x, dx, q, us, e, hx, hq, r⟩ := a
  exact ⟨x, dx, q, us, e, s _ _ (fun _ z => by cases z) hx, hq.keep s, r.keep s⟩
theorem HsAt.same {K : PySem.W.Frag} {c : Rc} {C : Addr} {H H' : Hp} {v : V} {h : Hs} (a : HsAt K c C H v h) (s : Same H H') : HsAt K c C H' v h := a.keep (Keep.of s)
structure BltK (mg : Str → Option Value) : Prop where
  isi : mg "isinstance" = none
  int : mg "int" = none
  bool : mg "bool" = none
  list : mg "list" = none
  tuple : mg "tuple" = none
  all : mg "all" = none
  len : mg "len" = none
  str : mg "str" = none
/-- the written tuples and lists of the module -/
structure HsT (K : PySem.W.Frag) (mg : Str → Option Value) (CA DA : Addr) : Prop where
  checks : mg "CHECKS" = some (.ref CA)
  depths : mg "DEPTH_LINES" = some (.ref DA)
  tC : ∀ H, SqT K H CA (checkL.map V.str)
  tD : ∀ H, SqT K H DA (depthL.map V.str)
/-- what House's class must have -/
structure HsC (K : PySem.W.Frag) (C : Addr) : Prop where
  cl : Cls K C
  d : NoAttr K C "depth"
  ch : NoAttr K C "check"
  rs : NoAttr K C "rows"
/-- what Let's class must be to isinstance -/
structure LetI (K : PySem.W.Frag) (c : Rc) : Prop where
  cl : Cls K c.L
  ca : PySem.W.findIn K (.ref c.L) "__class__" = some (some (.builtin "object.__class__"))
  mr : PySem.W.mroIn K c.L (.type "object") = some true
  gn : PySem.W.specialIn K (.builtin "object.__class__") "__get__" = some (some (.builtin "getset_descriptor.__get__"))
  tk : PySem.W.takesIn K (.builtin "object.__class__") = some true
  ki : PySem.W.kitOne K (.ref c.L) (.ref c.L) = some true
def spNumI : Sp := fun vs H Q _ => ∃ i : Int, vs = [.int i] ∧ Q (.bl (decide (0 ≤ i))) H
def spIsRows (c : Rc) : Sp := fun vs H Q _ => ∃ (a : Addr) (us : List V) (ms : List Rw), vs = [.ref a] ∧ H a = some (.lst us) ∧ RwLs c H us ms ∧ (∀ m ∈ ms, m.kind = 0) ∧ ms.length ≤ 1000 ∧ ∀ H', Same H H' → Q (.bl true) H'
def spHsInit (K : PySem.W.Frag) (c : Rc) (C : Addr) : Sp := fun vs H Q _ => ∃ (x dx l : Addr) (us : List V) (h : Hs), vs = [.ref x, .int h.d, .str h.ch, .ref l] ∧ H x = some (.ins C dx []) ∧ H l = some (.lst us) ∧ RwLs c H us h.rs ∧ h.ok ∧
  ∀ H', SameX x H H' → HsAt K c C H' (.ref x) h → Q .non H'
def spHsLen (K : PySem.W.Frag) (c : Rc) (C : Addr) : Sp := fun vs H Q _ => ∃ (v : V) (h : Hs), vs = [v] ∧ HsAt K c C H v h ∧ Q (.int (h.rs.length : Int)) H
/-- whether a whole number is the number of a row -/
def hasRow (h : Hs) (i : Int) : Bool := decide (0 ≤ i) && decide (i < (h.rs.length : Int))
def spHasRow (K : PySem.W.Frag) (c : Rc) (C : Addr) : Sp := fun vs H Q _ => ∃ (v : V) (h : Hs) (i : Int), vs = [v, .int i] ∧ HsAt K c C H v h ∧ Q (.bl (hasRow h i)) H
theorem kit_lt {K : PySem.W.Frag} : PySem.W.kitAny K (.type "list") [.type "list", .type "tuple"] = some true :=
  kitAny_cons (show PySem.W.kitOne K (.type "list") (.type "list") = some true from kit_ty (by decide +kernel)) (fun z => nomatch z) (fun z => rfl)
theorem repl_bl (n : Nat) : List.replicate n (V.bl true) = (List.replicate n true).map V.bl := by
  rw [List.map_replicate]
section
variable {P : Program} {w : World} {K : PySem.W.Frag} {mg : Str → Option Value} {base : Heap}
theorem ok_intK {f : Addr} {fd : FuncData} (F : Fun K "is_integer" "is_integer" sIsInt f fd) (T : BltK mg) : FnOk P w K mg base CX0 1 f fd ["value"] spIntI := by
  refine F.ok scIsInt (fun vs H Q E h => ?_) (fun cdv A outer s H vs Q E hr h => ?_)
  · obtain ⟨v, rfl, _⟩ := h
    rfl
  · obtain ⟨i, rfl, q⟩ := h
    refine ⟨_, pss_one (ps_ret (pe_and (pe_callB call_isi (by rfl) T.isi (by decide +kernel) (pa_cons (pv 0) (pa_cons (pe_bltn (v := .ty "int") (by rfl) T.int (by decide +kernel) rfl) pa_nil)))
      (pe_one (pe_not (pe_callB call_isi (by rfl) T.isi (by decide +kernel) (pa_cons (pv 0) (pa_cons (pe_bltn (v := .ty "bool") (by rfl) T.bool (by decide +kernel) rfl) pa_nil))))))), ?_⟩
    refine ⟨_, rfl, _, _, _, _, _, rfl, .ty "int", .base (.int i), (show PySem.W.kitOne K (.type "int") (.type "int") = some true from kit_ty (by decide +kernel)), _, rfl, iteT ?_⟩
    exact ⟨_, rfl, _, _, _, _, _, rfl, .ty "bool", .base (.int i), (show PySem.W.kitOne K (.type "int") (.type "bool") = some false from kit_ty (by decide +kernel)), _, rfl, q⟩
theorem ok_numK {f : Addr} {fd : FuncData} (F : Fun K "is_number" "is_number" sIsNum f fd) (cI : Cal P w K mg base CX0 "is_integer" 1 ["value"] spIntI) : FnOk P w K mg base CX0 2 f fd ["value"] spNumI := by
  obtain ⟨fI, fdI, GI, mI, kI, bI⟩ := cI
  refine F.ok scIsNum (fun vs H Q E h => ?_) (fun cdv A outer s H vs Q E hr h => ?_)
  · obtain ⟨v, rfl, _⟩ := h
    rfl
  · obtain ⟨i, rfl, q⟩ := h
    refine ⟨_, pss_one (ps_ret (pe_and (pe_call GI hr rfl mI kI bI .nil pass0 (pa_cons (pv 0) pa_nil)) (pe_one (pe_cmpR op_ge (pv 0) pe_int (nomark _))))), ?_⟩
    exact ⟨_, rfl, i, rfl, _, rfl, iteT ⟨_, rfl, _, _, rfl, rfl, q⟩⟩
end
end V3

set_option Elab.async false
set_option linter.all false
set_option maxRecDepth 100000
namespace V3
open PySem L2 TL
-- no sHsStr
-- no sHsEq
-- no sPlaced
/-! houses: their texts, ==, the place that a house tells -/
def nlS : Str := "\n"
def Hs.lines (h : Hs) : List Str := (Str.empty ++ "depth " ++ num h.d) :: (Str.empty ++ "check " ++ h.ch) :: h.rs.map Rw.text
def Hs.text (h : Hs) : Str := Str.join nlS h.lines
theorem lt_len {m : Rw} (ok : m.ok) (kd : m.kind = 0) : m.text.length ≤ 27 := by
  cases m with
  | ct k w o => cases kd
  | lt k s d p =>
    have l : ∀ z ∈ (Rw.lt k s d p).words, z.length ≤ 6 := fun z hz => (word_ok ok z hz).2
    simp only [Rw.words, List.mem_cons, List.not_mem_nil, or_false, forall_eq_or_imp, forall_eq] at l
    obtain ⟨l1, l2, l3, l4⟩ := l
    have l0 : (Str.empty).length = 0 := rfl
    have lb : (" " : Str).length = 1 := by decide +kernel
    rw [← let_text]
    simp only [app_len]
    omega
theorem num_dep {d : Int} (a : 0 ≤ d) (b : d ≤ 4) : (num d).length = 1 := by
  have h : d = 0 ∨ d = 1 ∨ d = 2 ∨ d = 3 ∨ d = 4 := by omega
  rcases h with rfl | rfl | rfl | rfl | rfl <;> decide +kernel
theorem ch_len {z : Str} (h : z ∈ checkL) : z.length ≤ 4 := by
  have q : ∀ z ∈ checkL, z.length ≤ 4 := by decide +kernel
  exact q z h
theorem sum_le {n : Nat} : ∀ l : List Str, (∀ z ∈ l, z.length ≤ n) → (l.map (·.length)).sum ≤ n * l.length
  | [], _ => by simp
  | a :: r, h => by
    have h1 := h a (by simp)
    have h2 := sum_le r fun z hz => h z (by simp [hz])
    simp only [List.map_cons, List.sum_cons, List.length_cons]
    have e : n * (r.length + 1) = n * r.length + n := by rw [Nat.mul_add, Nat.mul_one]
    omega
theorem lines_len {h : Hs} (ok : h.ok) : ∀ z ∈ h.lines, z.length ≤ 30 := by
  obtain ⟨d0, d4, hc, hm, hn⟩ := ok
  intro z hz
  have e1 : ("depth " : Str).length = 6 := by decide +kernel
  have e2 : ("check " : Str).length = 6 := by decide +kernel
  have l0 : (Str.empty).length = 0 := rfl
  simp only [Hs.lines, List.mem_cons, List.mem_map] at hz
  rcases hz with rfl | rfl | ⟨m, mm, rfl⟩
  · have := num_dep d0 d4
    simp only [app_len]
    omega
  · have := ch_len hc
    simp only [app_len]
    omega
  · have := lt_len (hm m mm).1 (hm m mm).2
    omega
theorem lines_n {h : Hs} (ok : h.ok) : h.lines.length ≤ 102 := by
  have := ok.2.2.2.2
  simp only [Hs.lines, List.length_cons, List.length_map]
  omega
def spHsStr (K : PySem.W.Frag) (c : Rc) (C : Addr) : Sp := fun vs H Q _ => ∃ (v : V) (h : Hs), vs = [v] ∧ HsAt K c C H v h ∧ h.ok ∧ ∀ H', Same H H' → Q (.str h.text) H'
structure StrH (P : Program) (w : World) (K : PySem.W.Frag) (mg : Str → Option Value) (base : Heap) (c : Rc) : Prop where
  s : ∃ (f : Addr) (fd : FuncData), FnOk P w K mg base CX0 1 f fd ["self"] (spRS c 0) ∧ PySem.W.findIn K (.ref c.L) "__str__" = some (some (.ref f)) ∧ PySem.W.isFn K (.ref f) = true ∧ Binds K fd ["self"] []
def rStrH (c : Rc) : List V → Hp → VK → Prop := fun xs H Q => ∃ v m, xs = [v] ∧ RwAt c H v m ∧ m.ok ∧ m.kind = 0 ∧ Q (.str m.text) H
theorem call_strH {X : Cx} {c : Rc} (T : StrH X.prog X.w X.K X.mg X.base c) (room : Room 3 X.A) : CallR X (.type "str") (rStrH c) := by
  intro pins s σ H xs us Q I r h
  obtain ⟨v, m, rfl, ⟨x, dx, rfl, hx⟩, ok, kd, q⟩ := h
  obtain ⟨f, fd, G, at_, isf, bi⟩ := T.s
  have hx2 : H x = some (.ins c.L dx m.fs) := by
    rw [hx]
    show some (HO.ins (c.at m.kind) dx m.fs) = _
    rw [kd]
    rfl
  refine call_strO (E := fun _ _ _ => False) G at_ isf bi pass0 room pins s σ H _ us Q I r ⟨x, dx, m.fs, rfl, hx2, x, dx, m, rfl, hx, kd, ok, _, rfl, q⟩
theorem take_nxt {α : Type} {l : List α} {i : Nat} {x : α} (h : l[i]? = some x) : l.take (i + 1) = l.take i ++ [x] := by
  rw [List.take_add_one, h]
  rfl
/-- the first fitting row's place -/
def placeIn (k s d : Str) : List Rw → Option Str
  | [] => none
  | .lt k' s' d' p :: r => if k' = k ∧ s' = s ∧ d' = d then some p else placeIn k s d r
  | .ct _ _ _ :: r => placeIn k s d r
def optV : Option Str → V
  | some p => .str p
  | none => .non
def spPlaced (K : PySem.W.Frag) (c : Rc) (C : Addr) : Sp := fun vs H Q _ => ∃ (v : V) (h : Hs) (k s d : Str), vs = [v, .str k, .str s, .str d] ∧ HsAt K c C H v h ∧ h.ok ∧ k ∈ kindL ∧ s ∈ stateL ∧ d ∈ deedL ∧ ∀ H', Same H H' → Q (optV (placeIn k s d h.rs)) H'
theorem word_lay : ∀ z ∈ kindL ++ stateL ++ deedL ++ placeL, PyData.canLay0 (.str z) = true := by decide +kernel
theorem lay_k {z : Str} (h : z ∈ kindL) : PyData.canLay0 (.str z) = true := word_lay z (by simp [h])
theorem lay_s {z : Str} (h : z ∈ stateL) : PyData.canLay0 (.str z) = true := word_lay z (by simp [h])
theorem lay_d {z : Str} (h : z ∈ deedL) : PyData.canLay0 (.str z) = true := word_lay z (by simp [h])
theorem tri_shaped {a b c : Str} (ha : a ∈ kindL) (hb : b ∈ stateL) (hc : c ∈ deedL) : SeqAt.shaped (.tuple [.str a, .str b, .str c]) = true := by
  have kt : ∀ xs : List PyData, PyData.canLay0 (.tuple xs) = PyData.canLayAll0 xs := fun xs => by simp [PyData.canLay0]
  simp [SeqAt.shaped, kt, PyData.canLayAll0, lay_k ha, lay_s hb, lay_d hc, PyData.depth, PyData.depthAll]
theorem str_beq (a b : Str) : (a == b) = decide (a = b) := by
  by_cases h : a = b
  · rw [decide_eq_true h, h]
    simp
  · rw [decide_eq_false h]
    simpa using h
theorem tri_eqv (a b c a' b' c' : Str) : PyData.eqv (.tuple [.str a, .str b, .str c]) (.tuple [.str a', .str b', .str c']) = decide (a = a' ∧ b = b' ∧ c = c') := by
  simp [PyData.eqv, PyData.eqvAll, str_beq, Bool.decide_and]
/-- the two notes of a House object's own str and == -/
structure HsStr (P : Program) (w : World) (K : PySem.W.Frag) (mg : Str → Option Value) (base : Heap) (c : Rc) (C : Addr) : Prop where
  s : ∃ (f : Addr) (fd : FuncData), FnOk P w K mg base CX0 4 f fd ["self"] (spHsStr K c C) ∧ PySem.W.findIn K (.ref C) "__str__" = some (some (.ref f)) ∧ PySem.W.isFn K (.ref f) = true ∧ Binds K fd ["self"] []
def rStrK (K : PySem.W.Frag) (c : Rc) (C : Addr) : List V → Hp → VK → Prop := fun xs H Q => ∃ v h, xs = [v] ∧ HsAt K c C H v h ∧ h.ok ∧ ∀ H', Same H H' → Q (.str h.text) H'
theorem call_strK {X : Cx} {c : Rc} {C : Addr} (T : HsStr X.prog X.w X.K X.mg X.base c C) (room : Room 6 X.A) : CallR X (.type "str") (rStrK X.K c C) := by
  intro pins s σ H xs us Q I r h
  obtain ⟨v, h, rfl, a, ok, q⟩ := h
  obtain ⟨f, fd, G, at_, isf, bi⟩ := T.s
  obtain ⟨x, dx, q1, us1, rfl, hx, hq, rl⟩ := id a
  exact call_strO (E := fun _ _ _ => False) G at_ isf bi pass0 room pins s σ H _ us Q I r ⟨x, dx, _, rfl, hx, _, h, rfl, a, ok, fun H' sm => ⟨_, rfl, q H' sm⟩⟩
/-- what House's class must be to isinstance -/
structure HsI (K : PySem.W.Frag) (C : Addr) : Prop where
  cl : Cls K C
  ca : PySem.W.findIn K (.ref C) "__class__" = some (some (.builtin "object.__class__"))
  mr : PySem.W.mroIn K C (.type "object") = some true
  gn : PySem.W.specialIn K (.builtin "object.__class__") "__get__" = some (some (.builtin "getset_descriptor.__get__"))
  tk : PySem.W.takesIn K (.builtin "object.__class__") = some true
  ki : PySem.W.kitOne K (.ref C) (.ref C) = some true
def spHsEq (K : PySem.W.Frag) (c : Rc) (C : Addr) : Sp := fun vs H Q _ => ∃ (u v : V) (h g : Hs), vs = [u, v] ∧ HsAt K c C H u h ∧ HsAt K c C H v g ∧ h.ok ∧ g.ok ∧ ∀ H', Same H H' → Q (.bl (decide (h.text = g.text))) H'
section
variable {P : Program} {w : World} {K : PySem.W.Frag} {mg : Str → Option Value} {base : Heap}
end
end V3

set_option Elab.async false
set_option linter.all false
set_option maxRecDepth 100000
namespace V3
open PySem PySem.Spec PyProof.Rows L2
/-! own exception classes over IndexError whose init is a def -/
abbrev ieTail : List Value := [.type "IndexError", .type "LookupError", .type "Exception", .type "BaseException", .type "object"]
/-- own classes, and then IndexError's line -/
def lineI : List Value → Bool
  | .ref _ :: r => lineI r
  | l => l == ieTail
theorem lineI_or (l : List Value) (e : lineI l = true) : (∃ c r, l = .ref c :: r ∧ lineI r = true) ∨ l = ieTail := by
  cases l with
  | nil => exact .inr (beq_iff_eq.mp e)
  | cons v r => cases v with
    | ref c => exact .inl ⟨c, r, rfl, e⟩
    | _ => exact .inr (beq_iff_eq.mp e)
theorem lineI_pass (me : Value) : ∀ l : List Value, lineI l = true → refuseLoop me "__setattr__" l = pure ()
  | [], e => absurd e (by decide)
  | v :: r, e => by
    rcases lineI_or (v :: r) e with ⟨c, r', q, h⟩ | q
    · obtain ⟨rfl, rfl⟩ := List.cons.inj q
      rw [refuseLoop_ref]
      exact lineI_pass me r h
    · rw [q]
      exact PySem.F.store_IndexError.passes me
theorem lineI_has (Y : String) : ∀ l : List Value, lineI l = true → l.contains (.type Y) = ieTail.contains (.type Y)
  | [], e => absurd e (by decide)
  | v :: r, e => by
    rcases lineI_or (v :: r) e with ⟨c, r', q, h⟩ | q
    · obtain ⟨rfl, rfl⟩ := List.cons.inj q
      rw [List.contains_cons, lineI_has Y r h]
      rfl
    · rw [q]
theorem lineI_ne {l : List Value} (e : lineI l = true) : l.isEmpty = false := by
  cases l with
  | nil => exact absurd e (by decide)
  | cons _ _ => rfl
section
open Builtin Builtin.ObjectAttr PySem.W PySem.Calls PySem.HandSPX
variable {prog : Program} {w : World} {A : Around} {E : Value → Shared → Prop} {R : Result → Shared → Prop} {hp : Heap} {g : Array GenState} {d : Drawn} {t : Nat} {os : OsState}
/-- a first field of an instance without a dict, by object's own way -/
theorem osaI {K : W.Frag} {n : Str} {tk : Tok} {v : Value} {x C : Addr} {fv : Array Value} {cd : ClassData} (Y : K.In hp) (gx : hp.get? x = some { cls := .ref C, data := .fields fv }) (gc : W.clsIn K C = some cd) (gm : lineI cd.mro = true) (gh : cd.hasDict = true) (ga : W.findIn K (.ref C) n = some none)
    (q : ∀ h' tk' dx, (∀ b o, b ≠ x → hp.get? b = some o → h'.get? b = some o) → hp.objs.size ≤ dx → dx ≠ x → h'.get? x = some { cls := .ref C, dict := some dx, data := .fields fv } → h'.Ns1 dx (fun y => if y = n then some v else none) → R (.ok (.ret .none)) ⟨h', g, d, tk', os⟩) :
    codeAny (model prog w) A (.call (.builtin "object.__setattr__") ⟨[.ref x, .str n tk, v], []⟩) R ⟨hp, g, d, t, os⟩ := by
  have J : W.InstAt hp x { cls := .ref C, data := .fields fv } C none := ⟨gx, rfl, rfl, trivial⟩
  have S := F.store_object
  have nem := lineI_ne gm
  have hasO : cd.mro.contains (.type "object") = true := (lineI_has "object" _ gm).trans (by decide +kernel)
  have xs : x ≠ hp.objs.size := Nat.ne_of_lt (Heap.lt_size gx)
  have sb : W.Looks (model prog w) hp (isInstance (.ref x) (.type "object")) true := J.type.andThen (W.looks_mroIn Y (by unfold W.mroIn; rw [gc, Option.bind_some, if_neg (by rw [nem]; decide), hasO]))
  refine codeAny_call_builtin S.slot.plain S.entry (@W.check_slot (model prog w) _ _ ⟨hp, g, d, t, os⟩ "object.__setattr__" "object" "__setattr__" (.ref x) [.str n tk, v] [] _ S.kind S.split sb (S.args (.ref x) (.str n tk) v) ?_)
  have lm : W.Looks (model prog w) hp (mroOf (.ref C)) cd.mro := (W.looks_clsIn Y gc).andThen .now
  have l3 : W.Looks (model prog w) hp (storeTaker? none) none := .now
  have lc : W.Looks (model prog w) hp (classData C) cd := W.looks_clsIn Y gc
  rw [W.osa_eq, refuse_eq]
  refine wpAny_bind (wpAny_bind (J.type.at (wpAny_bind (lm.at ?_))))
  rw [lineI_pass _ _ gm]
  refine wpAny_pure (wpAny_bind (J.type.at (wpAny_bind ((W.looks_findIn Y ga).at (wpAny_bind (l3.at ?_))))))
  show wpAny _ _ (storeInOwnDict (.ref x) (.ref C) (.str n tk) n v false) _ _ _
  obtain ⟨nm, bs, mro, ns, qn, hd, sn, sb', ab, col, del⟩ := cd
  dsimp only at gh
  subst gh
  unfold storeInOwnDict ownDictForStores
  repeat (first | with_reducible refine store_in_new ?_ ?_ | with_reducible refine wpAny_loadPart_at gx ?_ | with_reducible refine lc.at ?_ | wp_step)
  · exact ⟨_, #[], _, (Heap.get?_update_ne _ _ _ _ xs.symm).trans (Heap.get?_push_at rfl rfl), rfl, fun e he => absurd he (by simp), fun _ => rfl⟩
  · intro h' tk' hn' hs
    have gx1 : (hp.push { cls := .type "dict", data := .dict #[] }).get? x = some { cls := .ref C, data := .fields fv } := Heap.get?_push_of_some _ gx
    refine q h' tk' hp.objs.size (fun b o hb ho => ?_) (Nat.le_refl _) xs.symm ?_ hn'
    · exact (hs.2 b (Nat.ne_of_lt (Heap.lt_size ho))).trans ((Heap.get?_update_ne _ _ _ _ hb).trans (Heap.get?_push_of_some _ ho))
    · exact (hs.2 x xs).trans (Heap.get?_update_self _ gx1 rfl)
end
/-- what the written part says of such a class -/
structure OexI (K : PySem.W.Frag) (C : Addr) : Prop where
  cls : ∃ nm q N bs bm sn sub ab col dd k0 k1 k2 k3 k5, K.lookup C = some (excClassObj nm q C N bs bm true sn sub ab col dd k0 k1 k2 k3 k5 "IndexError.__new__") ∧ lineI bm = true
  sa : PySem.W.findIn K (.ref C) "__setattr__" = some (some (.builtin "object.__setattr__"))
  exC : PySem.W.subIn K (.ref C) (.type "BaseException") = some true
  tyC : PySem.W.typeIn K (.ref C) = some (.type "type")
  kC : PySem.W.keepIn K (.ref C) = true
section
variable {X : Cx} {pins : List (Addr × Obj)} {σ : L2.St} {H : Hp} {s : Shared} {a C dx : Addr} {f : Str} {y : V} {u : Value} {fs : List (Str × V)} {Q : Unit → Shared → Prop} {E : Value → Shared → Prop} {A : Around}
theorem ostI_new (T : OexI X.K C) (I : Inv X pins σ H s) (e : H a = some (exo a C none)) (no : PySem.W.findIn X.K (.ref C) f = some none) (ry : RelV y u)
    (k : ∀ dx s', H dx = none → dx ≠ a → Inv X pins σ (upd (upd H dx (exd dx [(f, y)])) a (exo a C (some dx))) s' → Q () s') : wpAny (model X.prog X.w) A (setAttr (.ref a) f u) Q E s := by
  obtain ⟨nm, q, N, bs, bm, sn, sub, ab, col, dd, k0, k1, k2, k3, k5, gC, gm⟩ := T.cls
  have gl : PySem.W.clsIn X.K C = some { name := nm, bases := bs, mro := .ref C :: bm, ns := N, qualname := q, hasDict := true, slotNames := sn, subclasses := sub, abstract := ab, collection := col, hasDel := false } := by
    unfold PySem.W.clsIn
    rw [gC] <;> rfl
  obtain ⟨t1, ho⟩ := exo_at I.hok e
  obtain ⟨hp, g, d, t, os⟩ := s
  refine PySem.W.set_plain I.kIn (ox := { cls := .ref C, dict := none, data := .fields #[.ref t1, .none, .none, .none, .bool false, .none] }) (od := none) ⟨ho, rfl, rfl, trivial⟩ T.sa ?_
  refine osaI I.kIn ho gl (show lineI (.ref C :: bm) = true from gm) rfl no (fun h' tk' dx kk dn dne hx hn => ?_)
  have fd : H dx = none := I.hok.fresh dn
  have nd : ∀ {b : Addr} {o : Obj}, hp.get? b = some o → b ≠ dx := fun {b o} z => Nat.ne_of_lt (Nat.lt_of_lt_of_le (Heap.lt_size z) dn)
  have na : ∀ {b : Addr}, H b = none → b ≠ a := fun {b} n z => by
    rw [z, e] at n
    cases n
  have U : Un X.fs [] H (upd (upd H dx (exd dx [(f, y)])) a (exo a C (some dx))) hp h' := {
    keep := fun b o z n _ _ => kk b o (na n) z
    slot := fun b o z n _ _ => ⟨o.slots, kk b o (na n) z⟩
    free := fun b o z n _ => by rw [upd_ne (na n), upd_ne (nd z)] <;> exact n
    there := fun b o z _ => by
      by_cases eb : b = a
      · exact ⟨_, by rw [eb] <;> exact hx⟩
      · exact ⟨o, kk b o eb z⟩
    tups := fun b xs z => by rw [upd_ne (at_ne e z exo_tup), upd_ne (ne_of_none z fd)] <;> exact z
    frzs := fun b o v z => by rw [upd_ne (at_ne e z exo_frz), upd_ne (ne_of_none z fd)] <;> exact z
    tbls := fun b ps z => ⟨#[], by rw [upd_ne (at_ne e z exo_tbl), upd_ne (ne_of_none z fd), z] <;> simp⟩ }
  refine k dx _ fd dne (I.un (t' := tk') U fun b o z => ?_)
  by_cases eb : b = a
  · subst eb
    rw [upd_same] at z
    cases z
    exact exo_ok hx
  · rw [upd_ne eb] at z
    by_cases ed : b = dx
    · subst ed
      rw [upd_same] at z
      cases z
      exact exd_ok hn (relO_put (f := f) (fs := []) ry fun _ => True.intro)
    · rw [upd_ne ed] at z
      refine (I.hok b o z).stay (fun c v hc y2 => ?_) (fun c hc => by rw [upd_ne (at_ne e hc exo_own), upd_ne (ne_of_none hc fd)] <;> exact hc) (fun c xs hc => by rw [upd_ne (at_ne e hc exo_tup), upd_ne (ne_of_none hc fd)] <;> exact hc)
      refine kk c v ?_ y2
      rcases hc with hc | hc
      · rw [hc]
        exact eb
      · exact at_ne e hc exo_own
end
/-- self.f = y, the first field of an instance that is being made -/
def tOstI (K : PySem.W.Frag) (f : Str) (to te : TE) : TS := fun D σ H => te σ H fun y H1 => to σ H1 fun x H2 => ∃ a C : Addr, x = .ref a ∧ OexI K C ∧ PySem.W.findIn K (.ref C) f = some none ∧
  H2 a = some (exo a C none) ∧ ∀ dx, H2 dx = none → dx ≠ a → D.nx σ (upd (upd H2 dx (exd dx [(f, y)])) a (exo a C (some dx)))
section
variable {X : Cx} {o e : Expr} {es : List Expr} {to te : TE} {ta : TA} {f : Str} {p p' pos : Pos}
theorem ps_ostI (ho : PE X o to) (he : PE X e te) (hs : swapsWith e (some (.Attribute o f p')) pos.line X.env = pure false := by rfl) : PS X (.Assign [.Attribute o f p'] e pos) (tOstI X.K f to te) := by
  refine ⟨fun pins s σ H D I h => ?_⟩
  refine plainObj_wpAny_Assign_Attribute (thn (he.run pins s σ H _ I h) fun v s1 ⟨y, H1, I1, r1, q1⟩ => thn (ho.run pins s1 σ H1 _ I1 q1) fun u s2 ⟨x, H2, I2, r2, a, C, ex, T, no, ea, q⟩ => ?_) hs
  subst ex
  obtain rfl : u = Value.ref a := r2
  exact ostI_new T I2 ea no r1 fun dx s' n ne J => ⟨σ, _, J, q dx n ne⟩
/-- C(e, ..) by its own init, C's line ending in IndexError's -/
theorem pmk_oexI {CX : CXT} {x : Str} {C fI : Addr} {k : Nat} {fd : FuncData} {ps : List Str} {sp : Sp} (T : OexI X.K C) (iC : PySem.W.findIn X.K (.ref C) "__init__" = some (some (.ref fI))) (tI : PySem.W.typeIn X.K (.ref fI) = some (.type "function"))
    (F1 : FnOk X.prog X.w X.K X.mg X.base CX k fI fd ps sp) (room : Room (k + 1) X.A) (bi : Binds X.K fd ps []) (ps' : Passes CX X (fun _ _ _ => False)) (hg : Gl X x) (hm : X.mg x = some (.ref C)) (ha : PA X (e :: es) ta)
    (nd : (x == ("__debug__" : Str)) = false := by decide) (st : starEach (e :: es) X.env = (false, eval e X.env) :: starEach es X.env := by rfl) (pl : (backTo pos (starEach es X.env)).any (·.1) = false := by rfl) :
    PMk X (.Call (.Name x p) (e :: es) [] pos) (tMkO C sp [] ta) := by
  intro pins s σ H Q I h
  obtain ⟨nm, q, N, bs, bm, sn, sub, ab, col, dd, k0, k1, k2, k3, k5, gC, gm⟩ := T.cls
  refine wpAny_Call_Name_kw (ld_glob I hg hm ?_ nd)
  refine PySem.W.callWith_K (h₀ := X.base) I.ok.mod.kin T.kC (thn (ha.run pos pins s σ H _ I h) fun us s1 ⟨vs, H1, I1, r1, hz, q1⟩ => ⟨I1.kIn, ?_⟩) st pl
  show wpAny _ _ (call (.ref C) us) _ _ _
  obtain ⟨hp, g, dr, tk, os⟩ := s1
  have sz : hp.objs.size ≤ hp.objs.size + 1 := Nat.le_succ _
  have fr : H1 (hp.objs.size + 1) = none := I1.hok.fresh sz
  have sp1 := q1 (hp.objs.size + 1) fr
  have keep2 : ∀ b o, hp.get? b = some o → ((hp.push (PySem.W.kdv_tup us)).push (PySem.HandSPX.excO C hp.objs.size)).get? b = some o := fun b o z => Heap.get?_push_of_some _ (Heap.get?_push_of_some _ z)
  have at2 : ((hp.push (PySem.W.kdv_tup us)).push (PySem.HandSPX.excO C hp.objs.size)).get? (hp.objs.size + 1) = some (PySem.HandSPX.excO C hp.objs.size) := by heap_get
  have J : Inv X pins σ (upd H1 (hp.objs.size + 1) (exo (hp.objs.size + 1) C none)) ⟨(hp.push (PySem.W.kdv_tup us)).push (PySem.HandSPX.excO C hp.objs.size), g, dr, tk, os⟩ :=
    I1.laid (t' := tk) (a := hp.objs.size + 1) (o := exo (hp.objs.size + 1) C none) (h' := (hp.push (PySem.W.kdv_tup us)).push (PySem.HandSPX.excO C hp.objs.size)) keep2 sz (exo_ok at2)
  rw [List.append_nil] at sp1
  have r2 : Vals (V.ref (hp.objs.size + 1) :: vs) (Value.ref (hp.objs.size + 1) :: us) := .cons rfl r1
  have len2 : (Value.ref (hp.objs.size + 1) :: us ++ []).length = ps.length := by
    have z := r2.length
    rw [F1.len _ _ _ _ sp1] at z
    rw [List.append_nil]
    exact z.symm
  have few : us.length ≤ sizeLine := by
    rw [← Paired.length r1, sizeLine_eq] <;> omega
  have b2 := bi _ (Value.ref (hp.objs.size + 1) :: us) J.kIn len2
  rw [List.append_nil] at b2
  refine wpAny_call (PySem.HandSPX.call_own PySem.F.excBase_IndexError (fun Y => lineI_has Y bm gm) (I1.kIn _ _ gC) (PySem.W.looks_findIn I1.kIn iC) (fun self => PySem.W.bind_fn I1.kIn self tI) few
    (codeAny_mono (F1.run _ X.stack _ _ ⟨Value.ref (hp.objs.size + 1) :: us, []⟩ (Value.ref (hp.objs.size + 1) :: us) _ _ (fun _ _ _ => False) (room.make C us []) (J.env0.make C us []) b2 r2 sp1) fun r s' z => ?_))
  cases r with
  | error er => exact ps' pins σ _ _ er s' J z
  | ok fl =>
    cases fl with
    | ret u =>
      obtain ⟨v, H2, os2, bare2, un2, ok2, rv, ev, d, fs, ea, ed, nd1, q2⟩ := z
      subst ev
      obtain ⟨h2, g2, d2, t2, os'⟩ := s'
      exact ⟨rv, mk_end (raises_own T.exC T.tyC) I1 sz keep2 un2 ok2 os2 bare2 ea ed nd1 q2⟩
    | next => exact z.elim
    | brk => exact z.elim
    | cont => exact z.elim
end
end V3

set_option Elab.async false
set_option linter.all false
set_option maxRecDepth 100000
namespace V3
open PySem L2 TL
-- no sNrInit
/-! NoRow; a house without some rows -/
def spIX (C : Addr) : Sp := fun vs H Q _ => ∃ (a : Addr) (y : V), vs = [.ref a, y] ∧ H a = some (exo a C none) ∧
  ∀ d, H d = none → d ≠ a → Q .non (upd (upd H d (exd d [("at", y)])) a (exo a C (some d)))
structure NrTxt (P : Program) (w : World) (K : PySem.W.Frag) (mg : Str → Option Value) (base : Heap) (C : Addr) : Prop where
  g : mg "NoRow" = some (.ref C)
  o : OexI K C
  no : PySem.W.findIn K (.ref C) "at" = some none
  ini : ∃ (f : Addr) (fd : FuncData), FnOk P w K mg base CX0 1 f fd ["self", "at"] (spIX C) ∧ PySem.W.findIn K (.ref C) "__init__" = some (some (.ref f)) ∧ PySem.W.typeIn K (.ref f) = some (.type "function") ∧ Binds K fd ["self", "at"] []
/-- behind a raise: an error with the number, all else as it was -/
def ErI (C : Addr) (H : Hp) (E : XK) (i : Int) : Prop := ∀ (d : Addr) (H' : Hp), Same H H' → H' d = some (.xd [("at", .int i)]) → E (.ref C) (some d) H'
theorem raise_sameI {H : Hp} {a d : Addr} {o1 o2 o3 o4 : HO} (na : H a = none) (nd : upd H a o1 d = none) (ne : d ≠ a) : Same H (upd (del (upd (upd (upd H a o1) d o2) a o3) a) d o4) := by
  intro b o e
  have ba : b ≠ a := ne_of_none e na
  have hd : H d = none := by
    rw [upd_ne ne] at nd
    exact nd
  have bd : b ≠ d := ne_of_none e hd
  rw [upd_ne bd, del_ne ba, upd_ne ba, upd_ne bd, upd_ne ba]
  exact e
theorem er_readI {C : Addr} {H : Hp} {E : XK} {i : Int} (h : ErI C H E i) : ∀ a, H a = none → spIX C (.ref a :: ([V.int i] ++ [])) (upd H a (exo a C none))
    (fun v H2 => v = .non ∧ ∃ (d : Addr) (fs : List (Str × V)), H2 a = some (exo a C (some d)) ∧ H2 d = some (exd d fs) ∧ H d = none ∧ E (.ref C) (some d) (upd (del H2 a) d (.xd fs))) (fun _ _ _ => False) := by
  intro a na
  refine ⟨a, _, rfl, upd_same, fun d nd ne => ⟨rfl, d, [("at", .int i)], upd_same, ?_, ?_, ?_⟩⟩
  · rw [upd_ne ne]
    exact upd_same
  · rw [upd_ne ne] at nd
    exact nd
  · exact h d _ (raise_sameI na nd ne) upd_same
/-- the rows whose numbers, from j on, are none of these -/
def keepFrom (ns : List Int) : Nat → List Rw → List Rw
  | _, [] => []
  | j, m :: r => if ((j : Nat) : Int) ∈ ns then keepFrom ns (j + 1) r else m :: keepFrom ns (j + 1) r
theorem keep_snoc (ns : List Int) (m : Rw) : ∀ (l : List Rw) (j : Nat), keepFrom ns j (l ++ [m]) = keepFrom ns j l ++ (if ((j + l.length : Nat) : Int) ∈ ns then [] else [m])
  | [], j => by
    show (if ((j : Nat) : Int) ∈ ns then keepFrom ns (j + 1) [] else m :: keepFrom ns (j + 1) []) = [] ++ (if ((j + 0 : Nat) : Int) ∈ ns then [] else [m])
    rfl
  | a :: l, j => by
    have ih := keep_snoc ns m l (j + 1)
    have e : j + 1 + l.length = j + (a :: l).length := by
      rw [List.length_cons]
      omega
    rw [e] at ih
    show (if ((j : Nat) : Int) ∈ ns then keepFrom ns (j + 1) (l ++ [m]) else a :: keepFrom ns (j + 1) (l ++ [m])) = (if ((j : Nat) : Int) ∈ ns then keepFrom ns (j + 1) l else a :: keepFrom ns (j + 1) l) ++ _
    by_cases h : ((j : Nat) : Int) ∈ ns
    · rw [if_pos h, if_pos h, ih]
    · rw [if_neg h, if_neg h, ih, List.cons_append]
theorem keep_sub (ns : List Int) : ∀ (l : List Rw) (j : Nat), (keepFrom ns j l).length ≤ l.length ∧ ∀ m ∈ keepFrom ns j l, m ∈ l
  | [], _ => ⟨Nat.le_refl _, fun m h => by cases h⟩
  | a :: l, j => by
    obtain ⟨h1, h2⟩ := keep_sub ns l (j + 1)
    show (if ((j : Nat) : Int) ∈ ns then keepFrom ns (j + 1) l else a :: keepFrom ns (j + 1) l).length ≤ _ ∧ ∀ m ∈ (if ((j : Nat) : Int) ∈ ns then keepFrom ns (j + 1) l else a :: keepFrom ns (j + 1) l), _
    by_cases h : ((j : Nat) : Int) ∈ ns
    · rw [if_pos h]
      exact ⟨by rw [List.length_cons]; omega, fun m z => List.mem_cons_of_mem _ (h2 m z)⟩
    · rw [if_neg h]
      refine ⟨by simp only [List.length_cons]; omega, fun m z => ?_⟩
      rcases List.mem_cons.mp z with z | z
      · rw [z]
        exact List.mem_cons_self
      · exact List.mem_cons_of_mem _ (h2 m z)
def Hs.less (h : Hs) (ns : List Int) : Hs := ⟨h.d, h.ch, keepFrom ns 0 h.rs⟩
theorem less_ok {h : Hs} (ok : h.ok) (ns : List Int) : (h.less ns).ok := by
  obtain ⟨d0, d4, hc, hm, hn⟩ := ok
  obtain ⟨h1, h2⟩ := keep_sub ns h.rs 0
  exact ⟨d0, d4, hc, fun m z => hm m (h2 m z), Nat.le_trans h1 hn⟩
def badRow (h : Hs) (ns : List Int) : Option Int := ns.find? fun i => !hasRow h i
def NumsAt (K : PySem.W.Frag) (H : Hp) (p : Addr) (ns : List Int) : Prop := SqL K H p (ns.map V.int) ∨ SqT K H p (ns.map V.int)
/-- a list or a tuple of whole numbers that stays -/
def NumsIn (H : Hp) (p : Addr) (ns : List Int) : Prop := H p = some (.lst (ns.map V.int)) ∨ H p = some (.tup (ns.map V.int))
theorem NumsIn.same {H H' : Hp} {p : Addr} {ns : List Int} (h : NumsIn H p ns) (s : Same H H') : NumsIn H' p ns := h.elim (fun z => .inl (s _ _ z)) (fun z => .inr (s _ _ z))
theorem NumsIn.sq {K : PySem.W.Frag} {H : Hp} {p : Addr} {ns : List Int} (h : NumsIn H p ns) : SqL K H p (ns.map V.int) ∨ SqT K H p (ns.map V.int) := h.elim (fun z => .inl (SqL.of z)) (fun z => .inr (SqT.of z))
def spWithout (K : PySem.W.Frag) (c : Rc) (C CN : Addr) : Sp := fun vs H Q E => ∃ (v : V) (p : Addr) (h : Hs) (ns : List Int), vs = [v, .ref p] ∧ HsAt K c C H v h ∧ h.ok ∧ NumsIn H p ns ∧
  (badRow h ns = none → ∀ w H', Same H H' → HsAt K c C H' w (h.less ns) → Q w H') ∧ ∀ i, badRow h ns = some i → ErI CN H E i
theorem flat_intsH (L : List Int) : (L.map V.int).all flatV = true := by
  induction L with
  | nil => rfl
  | cons a r ih => simpa [flatV] using ih
theorem inV_int {i : Int} {L : List Int} : inV (.int i) (L.map V.int) = decide (i ∈ L) := by
  induction L with
  | nil => rfl
  | cons a r ih =>
    have e : inV (.int i) ((a :: r).map V.int) = (a == i || inV (.int i) (r.map V.int)) := rfl
    rw [e, ih]
    by_cases q : i = a
    · subst q
      simp
    · have z : (a == i) = false := Bool.eq_false_iff.mpr fun w => q (eq_of_beq w).symm
      rw [z]
      simp [q]
/-- House, how it is made -/
structure MkH (P : Program) (w : World) (K : PySem.W.Frag) (mg : Str → Option Value) (base : Heap) (c : Rc) (C : Addr) : Prop where
  g : mg "House" = some (.ref C)
  ini : ∃ (f : Addr) (fd : FuncData), FnOk P w K mg base CX0 4 f fd ["self", "depth", "check", "rows"] (spHsInit K c C) ∧ Mk K C f ∧ Binds K fd ["self", "depth", "check", "rows"] []
theorem mk_house {K : PySem.W.Frag} {c : Rc} {C x dx l : Addr} {H : Hp} {us : List V} {h : Hs} {R : VK} {E : XK} (hl : H l = some (.lst us)) (rl : RwLs c H us h.rs) (ok : h.ok) (nx : H x = none) (ndx : H dx = none) (q : ∀ H', Same H H' → HsAt K c C H' (.ref x) h → R .non H') :
    spHsInit K c C [.ref x, .int h.d, .str h.ch, .ref l] (upd (upd H dx (.own x)) x (.ins C dx [])) R E := by
  have s0 : Same H (upd (upd H dx (.own x)) x (.ins C dx [])) := made_same nx ndx
  exact ⟨x, dx, l, us, h, rfl, upd_same, s0 _ _ hl, rl.same s0, ok, fun H' s' a => q H' (fun b o e => s' b o (ne_of_none e nx) (s0 b o e)) a⟩
section
variable {P : Program} {w : World} {K : PySem.W.Frag} {mg : Str → Option Value} {base : Heap}
end
end V3

set_option Elab.async false
set_option linter.all false
set_option maxRecDepth 100000
/-! texts taken apart: words, lines, rows; the lines of a house -/
namespace V3
open PySem L2 TL
theorem sp_eq : sp1 = (⟨#[32]⟩ : Str) := by decide +kernel
theorem nl_eq : nlS = (⟨#[10]⟩ : Str) := by decide +kernel
theorem nl_tl : tl nlS = [10] := by decide +kernel
theorem words_no {x : Str} : ∀ p ∈ Txt.split x sp1, 32 ∉ tl p := by
  rw [sp_eq]
  exact StrLaws.split_free x 32
theorem lines_no {x : Str} : ∀ p ∈ Txt.split x nlS, 10 ∉ tl p := by
  rw [nl_eq]
  exact StrLaws.split_free x 10
theorem split_ne (x y : Str) : Txt.split x y ≠ [] := fun e => by
  have z := PyProof.Rows.split_pos x y
  rw [e] at z
  exact absurd z (by decide)
theorem mem_joinL {S : List Nat} {s : Nat} : ∀ {ps : List (List Nat)} {p : List Nat}, p ∈ ps → s ∈ p → s ∈ joinL S ps
  | [], _, h, _ => by cases h
  | [a], p, h, q => by
    rw [List.mem_singleton.mp h] at q
    exact q
  | a :: b :: r, p, h, q => by
    show s ∈ a ++ (S ++ joinL S (b :: r))
    rcases List.mem_cons.mp h with rfl | h
    · exact List.mem_append_left _ q
    · exact List.mem_append_right _ (List.mem_append_right _ (mem_joinL h q))
theorem free_joinL {S : List Nat} {s : Nat} (hS : s ∉ S) : ∀ {ps : List (List Nat)}, (∀ p ∈ ps, s ∉ p) → s ∉ joinL S ps
  | [], _ => fun z => nomatch z
  | [a], h => h a (List.mem_cons_self ..)
  | a :: b :: r, h => by
    show s ∉ a ++ (S ++ joinL S (b :: r))
    intro z
    rcases List.mem_append.mp z with z | z
    · exact h a (List.mem_cons_self ..) z
    · rcases List.mem_append.mp z with z | z
      · exact hS z
      · exact free_joinL hS (fun p hp => h p (List.mem_cons_of_mem _ hp)) z
theorem part_no {x y : Str} {s : Nat} (h : s ∉ tl x) : ∀ p ∈ Txt.split x y, s ∉ tl p := fun p hp q => h (by
  have e := congrArg tl (StrLaws.join_split x y)
  rw [tl_join] at e
  rw [← e]
  exact mem_joinL (List.mem_map.mpr ⟨p, hp, rfl⟩) q)
theorem join_no {y : Str} {ps : List Str} {s : Nat} (hy : s ∉ tl y) (h : ∀ p ∈ ps, s ∉ tl p) : s ∉ tl (Str.join y ps) := by
  rw [tl_join]
  refine free_joinL hy fun p hp => ?_
  obtain ⟨z, hz, rfl⟩ := List.mem_map.mp hp
  exact h z hz
theorem split_lines {L : List Str} (h : L ≠ []) (f : ∀ p ∈ L, 10 ∉ tl p) : Txt.split (Str.join nlS L) nlS = L := by
  have z := split_join nl_tl (by decide +kernel) h f
  rw [join_eq] at z
  exact z
/-! a row -/
def rowB (k s d p : Str) : Bool := decide (k ∈ kindL) && (decide (s ∈ stateL) && (decide (d ∈ deedL) && (decide (p ∈ placeL) && (!decide (d = "right") || (decide (k = "first") || decide (k = "new"))))))
theorem rowB_iff {k s d p : Str} : rowB k s d p = true ↔ (Rw.lt k s d p).ok := by
  unfold rowB Rw.ok
  simp only [Bool.and_eq_true, decide_eq_true_eq, Bool.or_eq_true, Bool.not_eq_true', decide_eq_false_iff_not]
  constructor
  · rintro ⟨a, b, c, e, f⟩
    exact ⟨a, b, c, e, fun z => f.resolve_left fun y => y z⟩
  · rintro ⟨a, b, c, e, f⟩
    refine ⟨a, b, c, e, ?_⟩
    by_cases z : d = "right"
    · exact .inr (f z)
    · exact .inl z
def rowW : List Str → Option Rw
  | [k, s, d, p] => if rowB k s d p = true then some (.lt k s d p) else none
  | _ => none
def rowOf (x : Str) : Option Rw := rowW (Txt.split x sp1)
theorem rowW_some {ws : List Str} {m : Rw} (h : rowW ws = some m) : m.ok ∧ m.kind = 0 ∧ m.words = ws := by
  match ws, h with
  | [k, s, d, p], h =>
    have h : (if rowB k s d p = true then some (Rw.lt k s d p) else none) = some m := h
    by_cases c : rowB k s d p = true
    · rw [if_pos c] at h
      cases h
      exact ⟨rowB_iff.mp c, rfl, rfl⟩
    · rw [if_neg c] at h
      cases h
  | [], h => cases h
  | [_], h => cases h
  | [_, _], h => cases h
  | [_, _, _], h => cases h
  | _ :: _ :: _ :: _ :: _ :: _, h => cases h
theorem rowOf_some {x : Str} {m : Rw} (h : rowOf x = some m) : m.ok ∧ m.kind = 0 ∧ m.text = x := by
  obtain ⟨a, b, e⟩ := rowW_some h
  refine ⟨a, b, ?_⟩
  unfold Rw.text
  rw [e]
  exact StrLaws.join_split x sp1
theorem rowOf_text {m : Rw} (ok : m.ok) (kd : m.kind = 0) : rowOf m.text = some m := by
  unfold rowOf
  rw [rw_split ok]
  cases m with
  | ct _ _ _ => cases kd
  | lt k s d p =>
    show (if rowB k s d p = true then some (Rw.lt k s d p) else none) = _
    rw [if_pos (rowB_iff.mpr ok)]
/-! lines -/
def checkLn : List Str := ["check left", "check all"]
def standB (j : Nat) (x : Str) : Bool := if j = 0 then decide (x ∈ depthL) else if j = 1 then decide (x ∈ checkLn) else (rowOf x).isSome
def badFrom : Nat → List Str → Option Nat
  | _, [] => none
  | j, x :: r => if standB j x = true then badFrom (j + 1) r else some j
def badLine (L : List Str) : Option Nat := match badFrom 0 L with
  | some i => some i
  | none => if L.length < 2 then some L.length else none
theorem bad_none : ∀ {L : List Str} {j : Nat}, badFrom j L = none → ∀ i x, L[i]? = some x → standB (j + i) x = true
  | [], _, _, i, x, e => by simp at e
  | y :: r, j, h, i, x, e => by
    have h' : (if standB j y = true then badFrom (j + 1) r else some j) = none := h
    by_cases c : standB j y = true
    · rw [if_pos c] at h'
      cases i with
      | zero =>
        have e : y = x := by simpa using e
        subst e
        exact c
      | succ i =>
        have z := bad_none h' i x (by simpa using e)
        have e2 : j + 1 + i = j + (i + 1) := by omega
        rw [e2] at z
        exact z
    · rw [if_neg c] at h'
      cases h'
theorem bad_all : ∀ {L : List Str} {j : Nat}, (∀ i x, L[i]? = some x → standB (j + i) x = true) → badFrom j L = none
  | [], _, _ => rfl
  | y :: r, j, h => by
    show (if standB j y = true then badFrom (j + 1) r else some j) = none
    have h0 : standB j y = true := h 0 y rfl
    rw [if_pos h0]
    refine bad_all fun i x e => ?_
    have z := h (i + 1) x (by simpa using e)
    have e2 : j + 1 + i = j + (i + 1) := by omega
    rw [e2]
    exact z
theorem badFrom_step {j i : Nat} : ∀ {L : List Str} {x : Str}, badFrom j L = badFrom (j + i) (L.drop i) → L[i]? = some x → standB (j + i) x = true → badFrom j L = badFrom (j + (i + 1)) (L.drop (i + 1)) := by
  intro L x h e s
  have il : i < L.length := (List.getElem?_eq_some_iff.mp e).1
  have ex := (List.getElem?_eq_some_iff.mp e).2
  rw [List.drop_eq_getElem_cons il, ex] at h
  rw [h]
  show (if standB (j + i) x = true then badFrom (j + i + 1) (L.drop (i + 1)) else some (j + i)) = _
  rw [if_pos s]
  rfl
theorem badFrom_hit {j i : Nat} {L : List Str} {x : Str} (h : badFrom j L = badFrom (j + i) (L.drop i)) (e : L[i]? = some x) (s : standB (j + i) x = false) : badFrom j L = some (j + i) := by
  have il : i < L.length := (List.getElem?_eq_some_iff.mp e).1
  have ex := (List.getElem?_eq_some_iff.mp e).2
  rw [List.drop_eq_getElem_cons il, ex] at h
  rw [h]
  show (if standB (j + i) x = true then badFrom (j + i + 1) (L.drop (i + 1)) else some (j + i)) = _
  rw [if_neg (by rw [s]; exact Bool.false_ne_true)]
/-- the rows that some lines are -/
theorem rows_of : ∀ {L : List Str}, (∀ x ∈ L, (rowOf x).isSome = true) → ∃ ms : List Rw, ms.map Rw.text = L ∧ (∀ m ∈ ms, m.ok ∧ m.kind = 0) ∧ L.map rowOf = ms.map some
  | [], _ => ⟨[], rfl, (fun m h => by cases h), rfl⟩
  | x :: r, h => by
    obtain ⟨ms, e, k, q⟩ := rows_of (L := r) fun y hy => h y (List.mem_cons_of_mem _ hy)
    have z := h x (List.mem_cons_self ..)
    cases em : rowOf x with
    | none => rw [em] at z; cases z
    | some m =>
      obtain ⟨a, b, c⟩ := rowOf_some em
      refine ⟨m :: ms, by rw [List.map_cons, c, e], fun n hn => ?_, by rw [List.map_cons, List.map_cons, em, q]⟩
      rcases List.mem_cons.mp hn with rfl | hn
      · exact ⟨a, b⟩
      · exact k n hn
theorem depth_at : ∀ j : Nat, j < 5 → depthL[j]? = some (Str.empty ++ "depth " ++ num (j : Int)) := by decide +kernel
theorem check_at : ∀ j : Nat, j < 2 → ∃ c, checkL[j]? = some c ∧ checkLn[j]? = some (Str.empty ++ "check " ++ c) := by decide +kernel
theorem first_at : ∀ j : Nat, j < 5 → ∀ i : Nat, i < j → depthL[i]? ≠ depthL[j]? := by decide +kernel
theorem firstC_at : ∀ j : Nat, j < 2 → ∀ i : Nat, i < j → checkLn[i]? ≠ checkLn[j]? := by decide +kernel
/-- lines that can stand are those of a house; where its first two stand in the tables -/
theorem house_of {L : List Str} (h : badLine L = none) (n : L.length ≤ 102) : ∃ (g : Hs) (j i : Nat) (a b : Str), g.ok ∧ g.lines = L ∧ g.d = (j : Int) ∧ L[0]? = some a ∧ L[1]? = some b ∧ depthL[j]? = some a ∧ (∀ m, m < j → depthL[m]? ≠ some a) ∧
    checkLn[i]? = some b ∧ (∀ m, m < i → checkLn[m]? ≠ some b) ∧ checkL[i]? = some g.ch ∧ (L.drop 2).map rowOf = g.rs.map some := by
  unfold badLine at h
  cases e : badFrom 0 L with
  | some i => rw [e] at h; cases h
  | none =>
    rw [e] at h
    have h : (if L.length < 2 then some L.length else none) = none := h
    have l2 : ¬ L.length < 2 := fun c => by rw [if_pos c] at h; cases h
    have all := bad_none e
    match L, l2, n, all with
    | a :: b :: r, _, n, all =>
      have sa := all 0 a rfl
      have sb := all 1 b rfl
      have sa : decide (a ∈ depthL) = true := sa
      have sb : decide (b ∈ checkLn) = true := sb
      have sr : ∀ x ∈ r, (rowOf x).isSome = true := fun x hx => by
        obtain ⟨i, hi, ei⟩ := List.mem_iff_getElem.mp hx
        have z := all (i + 2) x (by simp [hi, ei])
        unfold standB at z
        rw [if_neg (by omega), if_neg (by omega)] at z
        exact z
      obtain ⟨j, hj, ej⟩ := List.mem_iff_getElem.mp (of_decide_eq_true sa)
      obtain ⟨i, hi, ei⟩ := List.mem_iff_getElem.mp (of_decide_eq_true sb)
      have j5 : j < 5 := hj
      have i2 : i < 2 := hi
      have ej : depthL[j]? = some a := by rw [List.getElem?_eq_getElem hj, ej]
      have ei : checkLn[i]? = some b := by rw [List.getElem?_eq_getElem hi, ei]
      obtain ⟨c, ec, eb⟩ := check_at i i2
      have eb : b = Str.empty ++ "check " ++ c := by rw [ei] at eb; exact Option.some.inj eb
      have ea : a = Str.empty ++ "depth " ++ num (j : Int) := by rw [depth_at j j5] at ej; exact (Option.some.inj ej).symm
      obtain ⟨ms, em, km, qm⟩ := rows_of sr
      have lm : ms.length = r.length := by rw [← em, List.length_map]
      refine ⟨⟨(j : Int), c, ms⟩, j, i, a, b, ⟨by show (0 : Int) ≤ (j : Int); omega, by show (j : Int) ≤ 4; omega, List.mem_of_getElem? ec, km, by show ms.length ≤ 100; simp only [List.length_cons] at n; omega⟩, ?_, rfl, rfl, rfl, ej, fun m hm z => ?_, ei, fun m hm z => ?_, ec, qm⟩
      · show (Str.empty ++ Str.ofString "depth " ++ num (j : Int)) :: (Str.empty ++ Str.ofString "check " ++ c) :: ms.map Rw.text = a :: b :: r
        rw [em, ea, eb]
      · exact first_at j j5 m hm (z.trans ej.symm)
      · exact firstC_at i i2 m hm (z.trans ei.symm)
    | [], l2, _, _ => exact absurd (by decide) l2
    | [_], l2, _, _ => exact absurd (by show 1 < 2; decide) l2
theorem num5 {d : Int} (a : 0 ≤ d) (b : d ≤ 4) : ∃ j : Nat, j < 5 ∧ d = (j : Int) := ⟨d.toNat, by omega, by omega⟩
/-- the lines of a house can stand -/
theorem lines_ok {g : Hs} (ok : g.ok) : badLine g.lines = none := by
  obtain ⟨d0, d4, hc, hm, hn⟩ := ok
  have z : badFrom 0 g.lines = none := bad_all fun i x e => by
    rw [Nat.zero_add]
    match i, e with
    | 0, e =>
      have e : Str.empty ++ "depth " ++ num g.d = x := by simpa [Hs.lines] using e
      obtain ⟨j, j5, ej⟩ := num5 d0 d4
      rw [ej] at e
      show decide (x ∈ depthL) = true
      rw [← e]
      exact decide_eq_true (List.mem_of_getElem? (depth_at j j5))
    | 1, e =>
      have e : Str.empty ++ "check " ++ g.ch = x := by simpa [Hs.lines] using e
      have q : ∀ c ∈ checkL, Str.empty ++ "check " ++ c ∈ checkLn := by decide +kernel
      show decide (x ∈ checkLn) = true
      rw [← e]
      exact decide_eq_true (q _ hc)
    | i + 2, e =>
      have e : (g.rs.map Rw.text)[i]? = some x := by simpa [Hs.lines] using e
      unfold standB
      rw [if_neg (by omega), if_neg (by omega)]
      rw [List.getElem?_map] at e
      cases em : g.rs[i]? with
      | none => rw [em] at e; cases e
      | some m =>
        rw [em] at e
        have e : m.text = x := Option.some.inj e
        obtain ⟨a, b⟩ := hm m (List.mem_of_getElem? em)
        rw [← e, rowOf_text a b]
        rfl
  unfold badLine
  rw [z]
  show (if g.lines.length < 2 then some g.lines.length else none) = none
  rw [if_neg (by simp only [Hs.lines, List.length_cons]; omega)]
theorem lines_no10 {g : Hs} (ok : g.ok) : ∀ p ∈ g.lines, 10 ∉ tl p := by
  obtain ⟨d0, d4, hc, hm, hn⟩ := ok
  intro p hp
  simp only [Hs.lines, List.mem_cons, List.mem_map] at hp
  rcases hp with rfl | rfl | ⟨m, mm, rfl⟩
  · obtain ⟨j, j5, ej⟩ := num5 d0 d4
    have q : ∀ x ∈ depthL, 10 ∉ tl x := by decide +kernel
    rw [ej]
    exact q _ (List.mem_of_getElem? (depth_at j j5))
  · have q : ∀ c ∈ checkL, 10 ∉ tl (Str.empty ++ "check " ++ c) := by decide +kernel
    exact q _ hc
  · unfold Rw.text
    exact join_no (by decide +kernel) fun w hw => (word_ok (hm m mm).1 w hw).1.2
theorem text_split {g : Hs} (ok : g.ok) : Txt.split g.text nlS = g.lines := split_lines (by simp [Hs.lines]) (lines_no10 ok)
theorem lines_inj {g h : Hs} (go : g.ok) (ho : h.ok) (e : g.lines = h.lines) : g = h := by
  have q : ∀ a ∈ [(0 : Int), 1, 2, 3, 4], ∀ b ∈ [(0 : Int), 1, 2, 3, 4], Str.empty ++ "depth " ++ num a = Str.empty ++ "depth " ++ num b → a = b := by decide +kernel
  have q2 : ∀ a ∈ checkL, ∀ b ∈ checkL, Str.empty ++ "check " ++ a = Str.empty ++ "check " ++ b → a = b := by decide +kernel
  have m : ∀ d : Int, 0 ≤ d → d ≤ 4 → d ∈ [(0 : Int), 1, 2, 3, 4] := fun d a b => by
    have : d = 0 ∨ d = 1 ∨ d = 2 ∨ d = 3 ∨ d = 4 := by omega
    simpa using this
  obtain ⟨d, c, rs⟩ := g
  obtain ⟨d', c', rs'⟩ := h
  simp only [Hs.lines, List.cons.injEq] at e
  obtain ⟨e1, e2, e3⟩ := e
  have e1 := q d (m _ go.1 go.2.1) d' (m _ ho.1 ho.2.1) e1
  have e2 := q2 c go.2.2.1 c' ho.2.2.1 e2
  have e4 : ∀ {rs rs' : List Rw}, (∀ m ∈ rs, m.ok ∧ m.kind = 0) → (∀ m ∈ rs', m.ok ∧ m.kind = 0) → rs.map Rw.text = rs'.map Rw.text → rs = rs' := by
    intro rs
    induction rs with
    | nil => intro rs' _ _ e; cases rs' with
      | nil => rfl
      | cons _ _ => cases e
    | cons a r ih => intro rs' ka kb e; cases rs' with
      | nil => cases e
      | cons b r' =>
        simp only [List.map_cons, List.cons.injEq] at e
        rw [rw_inj (ka a (List.mem_cons_self ..)).1 (kb b (List.mem_cons_self ..)).1 e.1, ih (fun m hm => ka m (List.mem_cons_of_mem _ hm)) (fun m hm => kb m (List.mem_cons_of_mem _ hm)) e.2]
  have e5 : rs = rs' := e4 go.2.2.2.1 ho.2.2.2.1 e3
  rw [e1, e2, e5]
/-! weights -/
def wgt (L : List Str) : Nat := (L.map (·.length)).sum + L.length
theorem wgt_app (a b : List Str) : wgt (a ++ b) = wgt a + wgt b := by
  unfold wgt
  simp only [List.map_append, List.sum_append, List.length_append]
  omega
theorem wgt_cut (a : List Str) (n : Nat) : wgt (a.take n) + wgt (a.drop n) = wgt a := by rw [← wgt_app, List.take_append_drop]
theorem wgt_take (a : List Str) (n : Nat) : wgt (a.take n) ≤ wgt a := by have := wgt_cut a n; omega
theorem wgt_drop (a : List Str) (n : Nat) : wgt (a.drop n) ≤ wgt a := by have := wgt_cut a n; omega
theorem wgt_rev (a : List Str) : wgt a.reverse = wgt a := by
  unfold wgt
  rw [List.map_reverse, List.sum_reverse, List.length_reverse]
theorem wgt_mem {a : List Str} {x : Str} (h : x ∈ a) : x.length + 1 ≤ wgt a := by
  obtain ⟨i, hi, e⟩ := List.mem_iff_getElem.mp h
  have z := wgt_cut a i
  rw [List.drop_eq_getElem_cons hi, e] at z
  have y : wgt (x :: a.drop (i + 1)) = x.length + 1 + wgt (a.drop (i + 1)) := by
    unfold wgt
    simp only [List.map_cons, List.sum_cons, List.length_cons]
    omega
  omega
theorem wgt_split (x y : Str) (hy : 1 ≤ y.length) : wgt (Txt.split x y) ≤ x.length + 1 := PyProof.Rows.split_weight x y hy
theorem len_join1 {y : Str} (hy : y.length = 1) (L : List Str) : (Str.join y L).length ≤ wgt L := by
  cases L with
  | nil => show (Str.join y []).length ≤ 0; exact Nat.le_of_eq rfl
  | cons a l =>
    rw [PyProof.Rows.len_join_cons, hy]
    unfold wgt
    simp only [List.length_cons]
    omega
end V3

set_option Elab.async false
set_option linter.all false
set_option maxRecDepth 100000
/-! any text of moves: numbers, words, parts -/
namespace V3
open PySem L2 TL
def digL (l : List Nat) : Bool := l.all fun c => decide (48 ≤ c) && decide (c ≤ 57)
/-- digits of a number, without leading zeros -/
def canL (l : List Nat) : Bool := !l.isEmpty && digL l && (decide (l = [48]) || !decide (l.take 1 = [48]))
def valL (l : List Nat) : Nat := l.foldl (fun a c => a * 10 + (c - 48)) 0
theorem val_snoc (l : List Nat) (c : Nat) : valL (l ++ [c]) = valL l * 10 + (c - 48) := by
  unfold valL
  rw [List.foldl_append]
  rfl
theorem dig_snoc {l : List Nat} {c : Nat} (h : digL (l ++ [c]) = true) : digL l = true ∧ 48 ≤ c ∧ c ≤ 57 := by
  unfold digL at h ⊢
  rw [List.all_append, Bool.and_eq_true] at h
  obtain ⟨a, b⟩ := h
  simp only [List.all_cons, List.all_nil, Bool.and_true, Bool.and_eq_true, decide_eq_true_eq] at b
  exact ⟨a, b⟩
theorem snoc_of {l : List Nat} (h : l ≠ []) : ∃ r c, l = r ++ [c] := ⟨l.dropLast, l.getLast h, (List.dropLast_concat_getLast h).symm⟩
theorem can_num : ∀ (n : Nat) (l : List Nat), l.length ≤ n → canL l = true → numL (valL l) = l ∧ valL l < 10 ^ l.length
  | 0, l, hl, h => by
    have e : l = [] := List.length_eq_zero_iff.mp (by omega)
    subst e
    cases h
  | n + 1, l, hl, h => by
    unfold canL at h
    simp only [Bool.and_eq_true, Bool.not_eq_true', Bool.or_eq_true, decide_eq_true_eq, decide_eq_false_iff_not] at h
    obtain ⟨⟨h1, h2⟩, h3⟩ := h
    have ne : l ≠ [] := fun e => by rw [e] at h1; cases h1
    obtain ⟨r, c, rfl⟩ := snoc_of ne
    obtain ⟨d1, c1, c2⟩ := dig_snoc h2
    rw [val_snoc]
    by_cases r0 : r = []
    · subst r0
      have v0 : valL [] = 0 := rfl
      rw [v0, numL_lt (by omega)]
      refine ⟨?_, by show 0 * 10 + (c - 48) < 10 ^ 1; omega⟩
      have e : 48 + (0 * 10 + (c - 48)) = c := by omega
      rw [e]
      rfl
    · obtain ⟨a, r', rfl⟩ := List.exists_cons_of_ne_nil r0
      have t1 : (a :: r').take 1 = [a] := rfl
      have a1 : ¬ a = 48 := fun e => by
        subst e
        rcases h3 with z | z
        · simp at z
        · exact z rfl
      have hr : canL (a :: r') = true := by
        unfold canL
        rw [d1, t1]
        simp [a1]
      obtain ⟨ih, ib⟩ := can_num n (a :: r') (by rw [List.length_append, List.length_singleton] at hl; omega) hr
      have pos : 1 ≤ valL (a :: r') := by
        refine Nat.pos_of_ne_zero fun z => ?_
        rw [z, numL_lt (by decide)] at ih
        have e : 48 + 0 = a := (List.cons.inj ih).1
        exact a1 e.symm
      generalize a :: r' = r at ih ib pos
      have d10 : (valL r * 10 + (c - 48)) / 10 = valL r := by omega
      have m10 : (valL r * 10 + (c - 48)) % 10 = c - 48 := by omega
      rw [numL_step (by omega), d10, m10, ih]
      have e : 48 + (c - 48) = c := by omega
      rw [e]
      refine ⟨rfl, ?_⟩
      rw [List.length_append, List.length_singleton, Nat.pow_succ]
      omega
theorem can_of (n : Nat) : canL (numL n) = true := by
  have d : digL (numL n) = true := by
    unfold digL
    exact List.all_eq_true.mpr fun c hc => by
      obtain ⟨a, b⟩ := numL_digits n c hc
      rw [decide_eq_true (by omega : 48 ≤ c), decide_eq_true (by omega : c ≤ 57)]
      rfl
  unfold canL
  have e : (numL n).isEmpty = false := by
    cases q : numL n with
    | nil => exact absurd q (numL_ne n)
    | cons a l => rfl
  rw [d, e]
  by_cases h : 0 < n
  · rw [decide_eq_false (head_digit n h)]
    simp
  · have e0 : n = 0 := by omega
    subst e0
    rw [numL_lt (by decide)]
    rfl
def numOf (w : Str) : Option Int := if canL (tl w) = true then some ((valL (tl w) : Nat) : Int) else none
theorem numOf_some {w : Str} {t : Int} (h : numOf w = some t) : w = num t ∧ 0 ≤ t ∧ canL (tl w) = true ∧ (w.length ≤ 40 → Idx t) := by
  unfold numOf at h
  split at h
  · rename_i c
    cases h
    obtain ⟨a, b⟩ := can_num _ (tl w) (Nat.le_refl _) c
    refine ⟨ext_tl ?_, by omega, c, fun l => ⟨by omega, ?_⟩⟩
    · rw [tl_num' (by omega), Int.toNat_natCast, a]
    · rw [← len_tl] at b
      have z : (10 : Nat) ^ w.length ≤ 10 ^ 40 := Nat.pow_le_pow_right (by decide) l
      have y : (10 : Nat) ^ 40 = 10000000000000000000000000000000000000000 := by decide
      omega
  · cases h
theorem numOf_num {t : Int} (h : 0 ≤ t) : numOf (num t) = some t := by
  unfold numOf
  rw [tl_num' h, if_pos (can_of _)]
  obtain ⟨a, _⟩ := can_num _ (numL t.toNat) (Nat.le_refl _) (can_of _)
  rw [numL_inj a]
  congr 1
  omega
/-- what a text must be for the number's reading -/
theorem asc_dig (w : Str) : (Txt.isascii w && Txt.isdigit w) = (!(tl w).isEmpty && digL (tl w)) := by
  have k : ∀ c : Nat, c < 128 → Unicode.isDigit c = (decide (48 ≤ c) && decide (c ≤ 57)) := by decide +kernel
  unfold Txt.isascii Txt.isdigit
  rw [all_list, all_list]
  have e : decide (w.length > 0) = !(tl w).isEmpty := by
    rw [len_tl]
    cases tl w <;> rfl
  rw [e]
  have z : ∀ l : List Nat, (l.all (fun c => decide (c < 128)) && l.all Unicode.isDigit) = digL l := fun l => by
    induction l with
    | nil => rfl
    | cons a r ih =>
      unfold digL at ih ⊢
      rw [List.all_cons, List.all_cons, List.all_cons, ← ih]
      by_cases c : a < 128
      · rw [decide_eq_true c, k a c]
        cases decide (48 ≤ a) <;> cases decide (a ≤ 57) <;> cases (r.all fun c => decide (c < 128)) <;> cases (r.all Unicode.isDigit) <;> rfl
      · rw [decide_eq_false c, decide_eq_false (by omega : ¬ a ≤ 57), Bool.and_false, Bool.false_and, Bool.false_and, Bool.false_and]
  have zz := z (tl w)
  cases h1 : (tl w).all (fun c => decide (c < 128)) <;> cases h2 : (tl w).all Unicode.isDigit <;> rw [h1, h2] at zz <;> rw [← zz] <;> cases (tl w).isEmpty <;> first | rfl | (simp at *)
theorem starts_zero (w : Str) : Txt.startswith w "0" = decide ((tl w).take 1 = [48]) := by
  have z : tl ("0" : Str) = [48] := by decide +kernel
  rw [Bool.eq_iff_iff, decide_eq_true_eq]
  have a := at_iff (x := w) (y := "0") (by rw [z]; exact (fun q => nomatch q)) 0
  rw [z] at a
  have b : Txt.startswith w "0" = true ↔ PySem.StrLaws.At w "0" w.length 0 := by
    unfold Txt.startswith
    rw [Bool.and_eq_true]
    exact ⟨fun ⟨e1, e2⟩ => ⟨of_decide_eq_true e1, e2⟩, fun ⟨e1, e2⟩ => ⟨decide_eq_true e1, e2⟩⟩
  rw [b, a]
  show ((tl w).drop 0).take 1 == [48] ↔ _
  rw [List.drop_zero, beq_iff_eq]
theorem canL_eq (w : Str) : canL (tl w) = ((Txt.isascii w && Txt.isdigit w) && !(Txt.startswith w "0" && !decide (w = "0"))) := by
  rw [asc_dig, starts_zero]
  have z : tl ("0" : Str) = [48] := by decide +kernel
  have e : decide (tl w = [48]) = decide (w = "0") := by
    by_cases h : w = "0"
    · rw [decide_eq_true h, h, decide_eq_true z]
    · rw [decide_eq_false h, decide_eq_false (fun q => h (ext_tl (by rw [q, z])))]
  unfold canL
  rw [e]
  cases (tl w).isEmpty <;> cases digL (tl w) <;> cases decide (w = "0") <;> cases decide ((tl w).take 1 = [48]) <;> rfl
/-! words at even and at odd places -/
theorem st_odd (n : Nat) : sliceRange (sliceBounds (some 1) none (some 2) n).1 (sliceBounds (some 1) none (some 2) n).2.1 (sliceBounds (some 1) none (some 2) n).2.2 = (List.range (n / 2)).map fun k => 2 * k + 1 := by
  have e : sliceBounds (some 1) none (some 2) n = (max 0 (min 1 (n : Int)), (n : Int), 2) := by
    simp [sliceBounds]
  rw [e]
  unfold sliceRange
  dsimp only
  rw [if_pos (by decide)]
  rcases n with _ | _ | n
  · rfl
  · rfl
  · have m : max 0 (min 1 (((n + 1 + 1 : Nat)) : Int)) = 1 := by omega
    rw [m, if_pos (by omega)]
    have c : ((((n + 1 + 1 : Nat) : Int) - 1 + 2 - 1) / 2).toNat = (n + 1 + 1) / 2 := by omega
    rw [c]
    refine List.map_congr_left fun k _ => ?_
    omega
theorem st_even (n : Nat) : sliceRange (sliceBounds none none (some 2) n).1 (sliceBounds none none (some 2) n).2.1 (sliceBounds none none (some 2) n).2.2 = (List.range ((n + 1) / 2)).map fun k => 2 * k := by
  have e : sliceBounds none none (some 2) n = (0, (n : Int), 2) := by
    simp [sliceBounds]
  rw [e]
  unfold sliceRange
  dsimp only
  rw [if_pos (by decide)]
  rcases n with _ | n
  · rfl
  · rw [if_pos (by omega)]
    have c : ((((n + 1 : Nat) : Int) - 0 + 2 - 1) / 2).toNat = (n + 1 + 1) / 2 := by omega
    rw [c]
    refine List.map_congr_left fun k _ => ?_
    omega
def oddW (ws : List Str) : List Str := ((List.range (ws.length / 2)).map fun k => 2 * k + 1).filterMap fun i => ws[i]?
def evenW (ws : List Str) : List Str := ((List.range ((ws.length + 1) / 2)).map fun k => 2 * k).filterMap fun i => ws[i]?
theorem fm_str (ws : List Str) (l : List Nat) : l.filterMap (fun i => (ws.map V.str)[i]?) = (l.filterMap fun i => ws[i]?).map V.str := by
  induction l with
  | nil => rfl
  | cons a r ih =>
    rw [List.filterMap_cons, List.filterMap_cons, ih, List.getElem?_map]
    cases ws[a]? <;> rfl
theorem step_odd (ws : List Str) : stepV (ws.map V.str) (some 1) none (some 2) = (oddW ws).map V.str := by
  rw [step_of (n := ws.length) (List.length_map ..) (st_odd _), fm_str]
  rfl
theorem step_even (ws : List Str) : stepV (ws.map V.str) none none (some 2) = (evenW ws).map V.str := by
  rw [step_of (n := ws.length) (List.length_map ..) (st_even _), fm_str]
  rfl
theorem odd_mem {ws : List Str} {w : Str} (h : w ∈ oddW ws) : w ∈ ws := by
  obtain ⟨i, _, e⟩ := List.mem_filterMap.mp h
  exact List.mem_of_getElem? e
theorem even_mem {ws : List Str} {w : Str} (h : w ∈ evenW ws) : w ∈ ws := by
  obtain ⟨i, _, e⟩ := List.mem_filterMap.mp h
  exact List.mem_of_getElem? e
theorem odd_len (ws : List Str) : (oddW ws).length ≤ ws.length := by
  have z := List.length_filterMap_le (fun i => ws[i]?) ((List.range (ws.length / 2)).map fun k => 2 * k + 1)
  rw [List.length_map, List.length_range] at z
  unfold oddW
  omega
theorem even_len (ws : List Str) : (evenW ws).length ≤ ws.length + 1 := by
  have z := List.length_filterMap_le (fun i => ws[i]?) ((List.range ((ws.length + 1) / 2)).map fun k => 2 * k)
  rw [List.length_map, List.length_range] at z
  unfold evenW
  omega
/-! a move of words and numbers -/
def mvW : List Str → List Int → Option Mv
  | [e], [a] => if e = "begin" then (if 1 ≤ a then some (.beg a) else none) else if e = "take" then some (.take a) else none
  | [e, f], [t, a] => if e = "take" ∧ f = "by" then (if 1 ≤ a then some (.takeBy t a) else none) else if e = "right" ∧ f = "to" then (if 1 ≤ a then some (.right t a) else none) else none
  | [e], [] => if e = "shut" then some .shut else none
  | _, _ => none
def mvP (ws : List Str) : Option Mv := if (oddW ws).all (fun w => (numOf w).isSome) = true then mvW (evenW ws) ((oddW ws).map fun w => (numOf w).getD 0) else none
def mvOf (x : Str) : Option Mv := mvP (Txt.split x sp1)
theorem ow1 (a : Str) : oddW [a] = [] ∧ evenW [a] = [a] := ⟨by simp [oddW], by simp [evenW]⟩
theorem ow2 (a b : Str) : oddW [a, b] = [b] ∧ evenW [a, b] = [a] := ⟨by simp [oddW], by simp [evenW]⟩
theorem ow3 (a b c : Str) : oddW [a, b, c] = [b] ∧ evenW [a, b, c] = [a, c] := ⟨by simp [oddW], by simp [evenW, List.range_succ]⟩
theorem ow4 (a b c d : Str) : oddW [a, b, c, d] = [b, d] ∧ evenW [a, b, c, d] = [a, c] := ⟨by simp [oddW, List.range_succ], by simp [evenW, List.range_succ]⟩
theorem mvP1 (a : Str) : mvP [a] = if a = "shut" then some .shut else none := by
  obtain ⟨o, e⟩ := ow1 a
  unfold mvP
  rw [o, e]
  rfl
theorem mvP2 (a b : Str) : mvP [a, b] = if (numOf b).isSome = true then (if a = "begin" then (if 1 ≤ (numOf b).getD 0 then some (.beg ((numOf b).getD 0)) else none) else if a = "take" then some (.take ((numOf b).getD 0)) else none) else none := by
  obtain ⟨o, e⟩ := ow2 a b
  unfold mvP
  rw [o, e]
  simp only [List.all_cons, List.all_nil, Bool.and_true]
  rfl
theorem mvP3 (a b c : Str) : mvP [a, b, c] = none := by
  obtain ⟨o, e⟩ := ow3 a b c
  unfold mvP
  rw [o, e]
  split <;> rfl
theorem mvP4 (a b c d : Str) : mvP [a, b, c, d] = if ((numOf b).isSome && (numOf d).isSome) = true then (if a = "take" ∧ c = "by" then (if 1 ≤ (numOf d).getD 0 then some (.takeBy ((numOf b).getD 0) ((numOf d).getD 0)) else none) else if a = "right" ∧ c = "to" then (if 1 ≤ (numOf d).getD 0 then some (.right ((numOf b).getD 0) ((numOf d).getD 0)) else none) else none) else none := by
  obtain ⟨o, e⟩ := ow4 a b c d
  unfold mvP
  rw [o, e]
  simp only [List.all_cons, List.all_nil, Bool.and_true]
  rfl
theorem mvP5 (a b c d e : Str) (r : List Str) : mvP (a :: b :: c :: d :: e :: r) = none := by
  have z : ∃ q, evenW (a :: b :: c :: d :: e :: r) = a :: c :: e :: q := by
    unfold evenW
    have n : ((a :: b :: c :: d :: e :: r).length + 1) / 2 = ((r.length + 6) / 2 - 3) + 1 + 1 + 1 := by
      simp only [List.length_cons]
      omega
    rw [n, List.range_succ_eq_map, List.range_succ_eq_map, List.range_succ_eq_map]
    simp only [List.map_cons, List.map_map, List.filterMap_cons]
    exact ⟨_, rfl⟩
  obtain ⟨q, z⟩ := z
  unfold mvP
  rw [z]
  split <;> rfl
theorem mvP_some {ws : List Str} {m : Mv} (sh : ∀ w ∈ ws, canL (tl w) = true → w.length ≤ 40) (h : mvP ws = some m) : m.ok ∧ m.words = ws := by
  have nn : ∀ {w : Str}, w ∈ ws → (numOf w).isSome = true → Idx ((numOf w).getD 0) ∧ num ((numOf w).getD 0) = w := fun {w} hw e => by
    obtain ⟨t, et⟩ := Option.isSome_iff_exists.mp e
    obtain ⟨a, b, c, d⟩ := numOf_some et
    rw [et]
    exact ⟨d (sh w hw c), a.symm⟩
  have am : ∀ {t : Int}, Idx t → 1 ≤ t → Amt t := fun i p => ⟨p, i.2⟩
  match ws, h with
  | [], h => cases h
  | [a], h =>
    rw [mvP1] at h
    split at h
    · rename_i e
      cases h
      subst e
      exact ⟨trivial, rfl⟩
    · cases h
  | [a, b], h =>
    rw [mvP2] at h
    split at h
    · rename_i e
      obtain ⟨n1, n2⟩ := nn (by simp) e
      split at h
      · rename_i e1
        split at h
        · rename_i e2
          cases h
          subst e1
          exact ⟨am n1 e2, by show [("begin" : Str), num _] = _; rw [n2]⟩
        · cases h
      · split at h
        · rename_i e1
          cases h
          subst e1
          exact ⟨n1, by show [("take" : Str), num _] = _; rw [n2]⟩
        · cases h
    · cases h
  | [a, b, c], h =>
    rw [mvP3] at h
    cases h
  | [a, b, c, d], h =>
    rw [mvP4] at h
    split at h
    · rename_i e
      obtain ⟨e1, e2⟩ := Bool.and_eq_true_iff.mp e
      obtain ⟨n1, n2⟩ := nn (by simp) e1
      obtain ⟨n3, n4⟩ := nn (by simp) e2
      split at h
      · rename_i q
        obtain ⟨rfl, rfl⟩ := q
        split at h
        · rename_i p
          cases h
          exact ⟨⟨n1, am n3 p⟩, by show [("take" : Str), num _, "by", num _] = _; rw [n2, n4]⟩
        · cases h
      · split at h
        · rename_i q
          obtain ⟨rfl, rfl⟩ := q
          split at h
          · rename_i p
            cases h
            exact ⟨⟨n1, am n3 p⟩, by show [("right" : Str), num _, "to", num _] = _; rw [n2, n4]⟩
          · cases h
        · cases h
    · cases h
  | a :: b :: c :: d :: e :: r, h =>
    rw [mvP5] at h
    cases h
theorem mvOf_some {x : Str} {m : Mv} (sh : ∀ w ∈ Txt.split x sp1, canL (tl w) = true → w.length ≤ 40) (h : mvOf x = some m) : m.ok ∧ m.text = x := by
  obtain ⟨a, e⟩ := mvP_some sh h
  refine ⟨a, ?_⟩
  unfold Mv.text
  rw [e]
  exact StrLaws.join_split x sp1
theorem mvOf_text {m : Mv} (ok : m.ok) : mvOf m.text = some m := by
  unfold mvOf
  rw [split_text ok]
  have n1 : ("begin" : Str) ≠ "take" := by decide +kernel
  have n2 : ¬ (("right" : Str) = "take" ∧ ("to" : Str) = "by") := by decide +kernel
  have n3 : ("take" : Str) ≠ "begin" := by decide +kernel
  cases m with
  | beg a =>
    have h : Amt a := ok
    show mvP ["begin", num a] = _
    rw [mvP2, numOf_num (by have := h.1; omega), if_pos (show (some a).isSome = true from rfl), if_pos (show ("begin" : Str) = "begin" from rfl)]
    exact if_pos h.1
  | take t =>
    have h : Idx t := ok
    show mvP ["take", num t] = _
    rw [mvP2, numOf_num h.1, if_pos (show (some t).isSome = true from rfl), if_neg n3, if_pos (show ("take" : Str) = "take" from rfl)]
    rfl
  | takeBy t a =>
    obtain ⟨h, h2⟩ := (show Idx t ∧ Amt a from ok)
    show mvP ["take", num t, "by", num a] = _
    rw [mvP4, numOf_num h.1, numOf_num (by have := h2.1; omega), if_pos (show ((some t).isSome && (some a).isSome) = true from rfl), if_pos ⟨rfl, rfl⟩]
    exact if_pos h2.1
  | right t a =>
    obtain ⟨h, h2⟩ := (show Idx t ∧ Amt a from ok)
    show mvP ["right", num t, "to", num a] = _
    rw [mvP4, numOf_num h.1, numOf_num (by have := h2.1; omega), if_pos (show ((some t).isSome && (some a).isSome) = true from rfl), if_neg n2, if_pos ⟨rfl, rfl⟩]
    exact if_pos h2.1
  | shut =>
    show mvP ["shut"] = _
    rw [mvP1]
    rfl
/-! parts of a text -/
def partsM (t : Str) : List Str := if t.length = 0 then [] else Txt.split t semi
def badM : Nat → List Str → Option Nat
  | _, [] => none
  | j, x :: r => if (mvOf x).isSome = true then badM (j + 1) r else some j
/-- words that are numbers are short -/
def Shrt (t : Str) : Prop := ∀ p ∈ Txt.split t semi, ∀ w ∈ Txt.split p sp1, canL (tl w) = true → w.length ≤ 40
end V3

set_option Elab.async false
set_option linter.all false
set_option maxRecDepth 100000
/-! a list comprehension of three clauses: each clause a loop of its own, what stands within it a reading -/
namespace V3
open PySem PySem.Spec PyProof.Rows L2
/-- the tests of a clause -/
abbrev allTrue (ifs : List Expr) (env : Env) : Sem Bool := forIn ifs true fun d q => if q = true then do let y ← isTrue d env (eval d env); pure (ForInStep.yield y) else pure (ForInStep.yield q)
/-- one turn: next, store, tests, what stands within, again -/
def turnW (cd : Code) (p : Pos) (tg : Expr) (ifs : List Expr) (Wn : Sem Fin → Sem Fin) (it : Value) (env : Env) : Sem Fin :=
  standAt p >>= fun _ => pyNext it >>= fun q => match q with
    | none => pure (.done .next)
    | some u => letOwnedTupleGo tg it u >>= fun _ => assign tg env u >>= fun _ => allTrue ifs env >>= fun b => if b = true then Wn (again cd) else again cd
/-- within: a further clause -/
def nextW (lc : Expr) (j : Nat) (src : Expr) (acc : Value) (env : Env) : Sem Fin → Sem Fin := fun k =>
  eval src env >>= fun x => standAt src.pos >>= fun _ => foldedSetIterable src env x >>= fun y => holding [y] (pyIter y) >>= fun it => runOwn (.compStart lc j it acc env) env >>= fun _ => k
/-- within: the item is put into the list -/
def lastW (elt : Expr) (acc : Value) (env : Env) : Sem Fin → Sem Fin := fun k =>
  (eval elt env >>= fun y => call (.builtin "list.append") [acc, y] >>= fun _ => pure ()) >>= fun _ => k
abbrev lc3 (elt t0 i0 t1 i1 t2 i2 : Expr) (f0 f1 f2 : List Expr) (sc : Scope) (p : Pos) : Expr := .ListComp elt [⟨t0, i0, f0, 0⟩, ⟨t1, i1, f1, 0⟩, ⟨t2, i2, f2, 0⟩] sc p
section
variable {elt t0 i0 t1 i1 t2 i2 : Expr} {f0 f1 f2 : List Expr} {sc : Scope} {p : Pos} {it acc : Value} {env : Env}
theorem turn3_0 : compTurn (lc3 elt t0 i0 t1 i1 t2 i2 f0 f1 f2 sc p) 0 it acc env = turnW (.compLoop (lc3 elt t0 i0 t1 i1 t2 i2 f0 f1 f2 sc p) 0 it acc env) i0.pos t0 f0 (nextW (lc3 elt t0 i0 t1 i1 t2 i2 f0 f1 f2 sc p) 1 i1 acc env) it env := by rfl
theorem turn3_1 : compTurn (lc3 elt t0 i0 t1 i1 t2 i2 f0 f1 f2 sc p) 1 it acc env = turnW (.compLoop (lc3 elt t0 i0 t1 i1 t2 i2 f0 f1 f2 sc p) 1 it acc env) i1.pos t1 f1 (nextW (lc3 elt t0 i0 t1 i1 t2 i2 f0 f1 f2 sc p) 2 i2 acc env) it env := by rfl
theorem turn3_2 : compTurn (lc3 elt t0 i0 t1 i1 t2 i2 f0 f1 f2 sc p) 2 it acc env = turnW (.compLoop (lc3 elt t0 i0 t1 i1 t2 i2 f0 f1 f2 sc p) 2 it acc env) i2.pos t2 f2 (lastW elt acc env) it env := by rfl
end
section
variable {prog : Program} {w : World} {A : Around} {R : Result → Shared → Prop} {s : Shared} {elt tg : Expr} {gens : List Comprehension} {ifs : List Expr} {sc : Scope} {p p1 : Pos} {j : Nat} {it acc : Value} {env : Env} {Wn : Sem Fin → Sem Fin}
theorem loopW (ht : compTurn (.ListComp elt gens sc p) j it acc env = turnW (.compLoop (.ListComp elt gens sc p) j it acc env) p1 tg ifs Wn it env) (I : Nat → Shared → Prop)
    (turn : ∀ n s, I n s → wpAny (model prog w) A (pyNext it) (fun q s1 => match q with
      | none => R (.ok .next) s1
      | some u => wpAny (model prog w) A (letOwnedTupleGo tg it u) (fun _ s2 => wpAny (model prog w) A (assign tg env u) (fun _ s3 => wpAny (model prog w) A (allTrue ifs env) (fun b s4 =>
          if b = true then wpAny (model prog w) A (Wn (again (.compLoop (.ListComp elt gens sc p) j it acc env))) (fun fin s5 => fin = .again (.compLoop (.ListComp elt gens sc p) j it acc env) ∧ ∃ m, m < n ∧ I m s5) (fun _ _ => False) s4
          else ∃ m, m < n ∧ I m s4) (fun _ _ => False) s3) (fun _ _ => False) s2) (fun _ _ => False) s1) (fun _ _ => False) s)
    (n : Nat) (h : I n s) : codeAny (model prog w) A (.compLoop (.ListComp elt gens sc p) j it acc env) R s := by
  refine codeAny_loop rfl I (fun n s hI => ?_) n h
  show wpAny (model prog w) A ((compTurn (.ListComp elt gens sc p) j it acc env).onRaise fun x => do noteFrame x env; theTreesLotGoes x) _ _ s
  refine wpAny_noted ?_
  rw [ht]
  refine wpAny_bind (wpAny_standAt (wpAny_bind (thnF (turn n s hI) fun q s1 h1 => ?_)))
  cases q with
  | none => exact wpAny_pure h1
  | some u => exact wpAny_bind (thnF h1 fun _ s2 h2 => wpAny_bind (thnF h2 fun _ s3 h3 => wpAny_bind (thnF h3 fun b s4 h4 => by
      cases b with
      | false => exact wpAny_pure ⟨rfl, h4⟩
      | true =>
        refine thnF h4 fun fin s5 h5 => ?_
        obtain ⟨rfl, h5⟩ := h5
        exact ⟨rfl, h5⟩)))
end
/-- the slots known ahead but those of vs are known behind -/
def Keeps (vs : List Nat) (σ σ' : L2.St) : Prop := σ'.length = σ.length ∧ ∀ (j : Nat) v, (wipe σ vs)[j]? = some (some v) → σ'[j]? = some (some v)
theorem Keeps.refl (σ : L2.St) : Keeps [] σ σ := ⟨rfl, fun _ _ e => e⟩
/-- what stands within a clause runs so and goes on with the loop -/
def InB (X : Cx) (vs : List Nat) (Wn : Sem Fin → Sem Fin) (tb : L2.St → Hp → (Hp → Prop) → Prop) : Prop := ∀ (cd : Code) (pins : List (Addr × Obj)) (s : Shared) (σ : L2.St) (H : Hp) (Nx : Hp → Prop), Inv X pins σ H s → tb σ H Nx →
  wpAny (model X.prog X.w) X.A (Wn (again cd)) (fun fin s' => fin = .again cd ∧ ∃ σ' H', Inv X pins σ' H' s' ∧ Keeps vs σ σ' ∧ Nx H') (fun _ _ => False) s
/-- a clause's loop as a reading -/
def LoopT (J : It) (g : TG) (tt : TT) (vs : List Nat) (tb : L2.St → Hp → (Hp → Prop) → Prop) (σ : L2.St) (H : Hp) (Nx : Hp → Prop) : Prop := ∃ Wt : Nat → Nat → Hp → Prop, (∃ m, Wt 0 m H) ∧ ∀ i m H, Wt i m H →
  (J.stop i H ∧ Nx H) ∨ (J.go i H ∧ ∃ N : Hp → Prop, (∀ H', N H' → ∃ m', m' < m ∧ Wt (i + 1) m' H') ∧ ∀ x H', J.yld i H x H' → g x (wipe σ vs) H' fun σ2 H2 => wipe σ2 vs = wipe σ vs ∧ tt σ2 H2 fun b H3 => if b = true then tb σ2 H3 N else N H3)
section
variable {X : Cx} {pins : List (Addr × Obj)} {s : Shared} {σ : L2.St} {H : Hp} {elt tg iter : Expr} {gens : List Comprehension} {ifs : List Expr} {sc : Scope} {p p1 : Pos} {j : Nat} {it : Addr} {acc : Value} {Wn : Sem Fin → Sem Fin} {J : It} {fp : List Addr} {tn : Nat → Heap → Prop} {g : TG} {tt : TT} {vs vs' : List Nat} {tb : L2.St → Hp → (Hp → Prop) → Prop} {Nx : Hp → Prop} {R : Result → Shared → Prop} {wi : TI}
theorem loop_run (hc : X.calm = true) (hx : X.xe = fun _ _ => False) (T : Turn X.prog X.w X.K tg J fp it tn) (pg : PG X tg g) (pt : PTs X ifs tt) (hb : InB X vs' Wn tb) (sub : ∀ i ∈ vs', i ∈ vs)
    (ht : compTurn (.ListComp elt gens sc p) j (.ref it) acc X.env = turnW (.compLoop (.ListComp elt gens sc p) j (.ref it) acc X.env) p1 tg ifs Wn (.ref it) X.env)
    (I : Inv X pins (wipe σ vs) H s) (st : tn 0 s.heap) (f : ∀ b ∈ fp, FpOk X pins H b) (h : LoopT J g tt vs tb σ H Nx) (hR : ∀ H' s', Inv X pins (wipe σ vs) H' s' → Nx H' → R (.ok .next) s') :
    codeAny (model X.prog X.w) X.A (.compLoop (.ListComp elt gens sc p) j (.ref it) acc X.env) R s := by
  obtain ⟨Wt, ⟨m0, w0⟩, turn⟩ := h
  have fo : ∀ {H'}, (∀ b ∈ fp, H' b = none) → ∀ b ∈ fp, FpOk X pins H' b := fun n b hb => ⟨n b hb, (f b hb).2⟩
  refine loopW ht (fun n s' => ∃ i H', Inv X pins (wipe σ vs) H' s' ∧ tn i s'.heap ∧ (∀ b ∈ fp, H' b = none) ∧ Wt i n H') ?_ m0 ⟨0, H, I, st, fun b hb => (f b hb).1, w0⟩
  rintro n s1 ⟨i, H1, I1, st1, n1, w1⟩
  rcases turn i n H1 w1 with ⟨stop, q⟩ | ⟨go, N, hN, step⟩
  · refine thnF (T.done X rfl rfl rfl hc i pins s1 _ H1 (fun _ _ => False) I1 (fo n1) st1 stop) fun q2 s2 ⟨e, I2⟩ => ?_
    subst e
    exact hR H1 s2 I2 q
  · refine thnF (T.item X rfl rfl rfl hc i pins s1 _ H1 (fun _ _ => False) I1 (fo n1) st1 go) fun q2 s2 ⟨u, e, h2⟩ => ?_
    subst e
    refine thnF h2 fun _ s3 ⟨x, H3, I3, r3, y3, st3, n3⟩ => ?_
    have I3' := I3.pinned (fo n3) (T.obj _ _ st3)
    have z4 := pg.run _ s3 _ H3 x u _ I3' r3 (step x H3 y3)
    rw [hx] at z4
    refine thnF z4 fun _ s4 ⟨σ4, H4, I4, ew, q4⟩ => ?_
    have z5 := pt.run _ s4 σ4 H4 _ I4 q4
    rw [hx] at z5
    refine thnF z5 fun b s5 ⟨H5, I5, q5⟩ => ?_
    have fin : ∀ {σ' H' s'}, Inv X (pins ++ pinsAt fp s3.heap) σ' H' s' → Keeps vs' σ4 σ' → N H' → ∃ m, m < n ∧ ∃ i H', Inv X pins (wipe σ vs) H' s' ∧ tn i s'.heap ∧ (∀ b ∈ fp, H' b = none) ∧ Wt i m H' := fun {σ' H' s'} I' kp nx => by
      obtain ⟨m', hm, w'⟩ := hN H' nx
      have pn : ∀ b ∈ fp, ∀ o, s3.heap.get? b = some o → s'.heap.get? b = some o ∧ H' b = none := fun b hb o e =>
        let z := I'.pin (b, o) (List.mem_append_right _ (List.mem_append_right _ (mem_pinsAt hb e)))
        ⟨z.1, z.2.1⟩
      have el : (wipe σ vs).length = σ'.length := by rw [← ew, wipe_length, kp.1]
      refine ⟨m', hm, i + 1, H', (I'.unpinned (pins := pins)).weak el fun k v e => ?_, T.keep _ _ _ st3 fun b hb o e => (pn b hb o e).1, fun b hb => ?_, w'⟩
      · rw [← ew] at e
        obtain ⟨e1, e2⟩ := wipe_some e
        refine kp.2 k v ?_
        rw [wipe_out fun z => e2 (sub k z)]
        exact e1
      · obtain ⟨o, e, _⟩ := T.obj _ _ st3 b hb
        exact (pn b hb o e).2
    cases b with
    | false =>
      have q5 : N H5 := q5
      exact fin I5 ⟨rfl, fun k v e => (wipe_some e).1⟩ q5
    | true =>
      have q5 : tb σ4 H5 N := q5
      refine thnF (hb _ _ s5 σ4 H5 N I5 q5) fun fn s6 ⟨e, σ6, H6, I6, kp, nx⟩ => ?_
      exact ⟨e, fin I6 kp nx⟩
end
/-- a further clause as what stands within one; the item put into the list at D -/
def tCl (wi : TI) (g : TG) (tt : TT) (vs : List Nat) (tb : L2.St → Hp → (Hp → Prop) → Prop) : L2.St → Hp → (Hp → Prop) → Prop := fun σ H N => wi σ H fun J H1 => LoopT J g tt vs tb σ H1 N
def tPut (te : TE) (D : Addr) : L2.St → Hp → (Hp → Prop) → Prop := fun σ H N => te σ H fun y H1 => ∃ ys, H1 D = some (.lst ys) ∧ ys.length < sizeLine ∧ N (upd H1 D (.lst (ys ++ [y])))
/-- [elt for t0 in i0 if .. for t1 in i1 if .. for t2 in i2 if ..] -/
def tLc3 (wi : TI) (g : TG) (tt : TT) (wi1 : TI) (g1 : TG) (tt1 : TT) (wi2 : TI) (g2 : TG) (tt2 : TT) (te : TE) (vs vs1 vs2 : List Nat) : TE := fun σ H Q =>
  wi σ H fun J H1 => ∀ D, H1 D = none → LoopT J g tt vs (tCl wi1 g1 tt1 vs1 (tCl wi2 g2 tt2 vs2 (tPut te D))) σ (upd H1 D (.lst [])) (Q (.ref D))
section
variable {prog : Program} {w : World} {A : Around} {R : Result → Shared → Prop} {s : Shared} {elt t0 i0 t1 i1 t2 i2 : Expr} {f0 f1 f2 : List Expr} {sc : Scope} {p : Pos} {it acc : Value} {env : Env} {j : Nat}
theorem start3 (hj : j = 1 ∨ j = 2) (h0 : codeAny (model prog w) A (.compLoop (lc3 elt t0 i0 t1 i1 t2 i2 f0 f1 f2 sc p) j it acc env) R s)
    (h : wpAny (model prog w) A (pyIter it) (fun it2 s2 => codeAny (model prog w) A (.compLoop (lc3 elt t0 i0 t1 i1 t2 i2 f0 f1 f2 sc p) j it2 acc env) R s2) (fun _ _ => False) s) :
    codeAny (model prog w) A (.compStart (lc3 elt t0 i0 t1 i1 t2 i2 f0 f1 f2 sc p) j it acc env) R s := by
  have hn : wpAny (model prog w) A (pyIter it) (fun it2 s2 => codeAny (model prog w) A (.compLoop (lc3 elt t0 i0 t1 i1 t2 i2 f0 f1 f2 sc p) j it2 acc env) R s2) (notedBy (model prog w) A env fun x s' => R (.error x) s') s := thnF h fun _ _ z => z
  refine codeAny_of_tree ?_
  show wpAny _ _ ((compStart (lc3 elt t0 i0 t1 i1 t2 i2 f0 f1 f2 sc p) j it acc env).onRaise fun x => do noteFrame x env; standAt theWindowsPlace) _ _ s
  refine wpAny_notedAt ?_
  rcases hj with rfl | rfl <;> unfold compStart <;> (show wpAny _ _ (ask >>= _) _ _ s) <;> refine wpAny_bind (wpAny_askSetting (wpAny_ite ?_)) <;> split <;>
    first
    | exact wpAny_pure ⟨rfl, h0⟩
    | exact wpAny_bind (wpAny_pure (wpAny_pure ⟨rfl, h0⟩))
    | exact wpAny_bind (wpAny_rule (wpAny_bind (wpAny_standAt (wpAny_bind (wpAny_mono hn (fun it2 s2 z => wpAny_pure ⟨rfl, z⟩) fun _ _ z => z)))))
    | (refine wpAny_bind (wpAny_rule ?_)
       show wpAny _ _ (standAt _ >>= _) _ _ s
       exact wpAny_bind (wpAny_standAt (wpAny_bind (wpAny_mono hn (fun it2 s2 z => wpAny_pure ⟨rfl, z⟩) fun _ _ z => z))))
end
section
variable {X : Cx} {elt t0 i0 t1 i1 t2 i2 : Expr} {f0 f1 f2 : List Expr} {sc : Scope} {p p1 : Pos} {acc : Value} {j : Nat} {tg src : Expr} {ifs : List Expr} {Wn : Sem Fin → Sem Fin} {g : TG} {tt : TT} {vs vs' : List Nat} {tb : L2.St → Hp → (Hp → Prop) → Prop} {wi : TI} {te : TE} {D : Addr}
theorem in_last (hx : X.xe = fun _ _ => False) (he : PE X elt te) : InB X [] (lastW elt (.ref D) X.env) (tPut te D) := fun cd pins s σ H Nx I h => by
  have z := he.run pins s σ H _ I h
  rw [hx] at z
  refine wpAny_bind (wpAny_bind (thnF z fun yv s1 ⟨y, H1, I1, r1, ys, hD, hz, q⟩ => ?_))
  exact wpAny_bind (app_ok I1 hD hz r1 fun s2 I2 => wpAny_pure (wpAny_pure ⟨rfl, σ, _, I2, Keeps.refl σ, q⟩))
theorem in_clause (hj : j = 1 ∨ j = 2) (hc : X.calm = true) (hx : X.xe = fun _ _ => False) (hi : PI X tg src wi) (pg : PG X tg g) (pt : PTs X ifs tt) (hs : ∀ x, foldedSetIterable src X.env x = pure x) (hb : InB X vs' Wn tb) (sub : ∀ i ∈ vs', i ∈ vs)
    (ht : ∀ it, compTurn (lc3 elt t0 i0 t1 i1 t2 i2 f0 f1 f2 sc p) j (.ref it) acc X.env = turnW (.compLoop (lc3 elt t0 i0 t1 i1 t2 i2 f0 f1 f2 sc p) j (.ref it) acc X.env) p1 tg ifs Wn (.ref it) X.env) :
    InB X vs (nextW (lc3 elt t0 i0 t1 i1 t2 i2 f0 f1 f2 sc p) j src acc X.env) (tCl wi g tt vs tb) := fun cd pins s σ H Nx I h => by
  have z := hi.run pins s σ H _ I h
  rw [hx] at z
  refine wpAny_bind (thnF z fun xv s1 h1 => wpAny_bind (wpAny_standAt (wpAny_bind (wpAny_of_eq (hs xv) (wpAny_bind (wpAny_holding (thnF h1 fun itv s2 h2 => ?_)))))))
  obtain ⟨it, fp, tn, J, H2, rfl, I2, T, st, f, q⟩ := h2
  refine wpAny_bind (wpAny_runOwn ?_)
  rw [Around.mark_none]
  have lp : codeAny (model X.prog X.w) X.A (.compLoop (lc3 elt t0 i0 t1 i1 t2 i2 f0 f1 f2 sc p) j (.ref it) acc X.env) (fun r s' => match r with
      | .ok _ => ∃ σ' H', Inv X pins σ' H' s' ∧ Keeps vs σ σ' ∧ Nx H'
      | .error _ => False) s2 := loop_run hc hx T pg pt hb sub (ht it) (I2.weak (wipe_length _ _) fun k v e => (wipe_some e).1) st f q fun H' s' I' nx => ⟨_, H', I', ⟨wipe_length _ _, fun _ _ e => e⟩, nx⟩
  refine codeAny_mono (start3 hj lp (T.self X.A 0 _ _ _ st lp)) fun r s3 h3 => ?_
  cases r with
  | ok fl => exact wpAny_pure ⟨rfl, h3⟩
  | error e => exact h3.elim
end
section
variable {X : Cx} {elt t0 i0 t1 i1 t2 i2 : Expr} {f0 f1 f2 : List Expr} {sc : Scope} {own : List (Str × Nat)} {vs1 vs2 : List Nat} {ps : Pos} {wi wi1 wi2 : TI} {g g1 g2 : TG} {tt tt1 tt2 : TT} {te : TE}
theorem pe_lc3 (hc : X.calm = true) (hN : X.N.Nodup) (hi : PI X t0 i0 wi) (ok : BlkOk X.N X.env.scope sc own) (v1 : ∀ i ∈ vs1, i ∈ own.map (·.2)) (v2 : ∀ i ∈ vs2, i ∈ vs1)
    (hg : ∀ (u : Shared) (G : Hp) (C : Addr) (cl : List (Str × Addr)) (fp : List Addr), PG (X.blk u G sc (compEnvC sc cl C X.env) fp) t0 g) (ht : ∀ (u : Shared) (G : Hp) (C : Addr) (cl : List (Str × Addr)) (fp : List Addr), PTs (X.blk u G sc (compEnvC sc cl C X.env) fp) f0 tt) (hi1 : ∀ (u : Shared) (G : Hp) (C : Addr) (cl : List (Str × Addr)) (fp : List Addr), PI (X.blk u G sc (compEnvC sc cl C X.env) fp) t1 i1 wi1) (hg1 : ∀ (u : Shared) (G : Hp) (C : Addr) (cl : List (Str × Addr)) (fp : List Addr), PG (X.blk u G sc (compEnvC sc cl C X.env) fp) t1 g1) (ht1 : ∀ (u : Shared) (G : Hp) (C : Addr) (cl : List (Str × Addr)) (fp : List Addr), PTs (X.blk u G sc (compEnvC sc cl C X.env) fp) f1 tt1)
    (hi2 : ∀ (u : Shared) (G : Hp) (C : Addr) (cl : List (Str × Addr)) (fp : List Addr), PI (X.blk u G sc (compEnvC sc cl C X.env) fp) t2 i2 wi2) (hg2 : ∀ (u : Shared) (G : Hp) (C : Addr) (cl : List (Str × Addr)) (fp : List Addr), PG (X.blk u G sc (compEnvC sc cl C X.env) fp) t2 g2) (ht2 : ∀ (u : Shared) (G : Hp) (C : Addr) (cl : List (Str × Addr)) (fp : List Addr), PTs (X.blk u G sc (compEnvC sc cl C X.env) fp) f2 tt2) (he : ∀ (u : Shared) (G : Hp) (C : Addr) (cl : List (Str × Addr)) (fp : List Addr), PE (X.blk u G sc (compEnvC sc cl C X.env) fp) elt te)
    (hs : ∀ x, foldedSetIterable i0 X.env x = pure x := by intro _; rfl) (hs1 : ∀ e x, foldedSetIterable i1 e x = pure x := by intro _ _; rfl) (hs2 : ∀ e x, foldedSetIterable i2 e x = pure x := by intro _ _; rfl) :
    PE X (lc3 elt t0 i0 t1 i1 t2 i2 f0 f1 f2 sc ps) (tLc3 wi g tt wi1 g1 tt1 wi2 g2 tt2 te (own.map (·.2)) vs1 vs2) := by
  refine ⟨fun pins s σ H Q I h => ?_⟩
  rw [eval_ListComp]
  have clos : ∀ y ∈ sc.names, y.2 = .free → ∃ c, X.env.cells.lookup y.1 = some c := fun y hy e => (ok.free y hy e).elim (fun k => I.ok.has _ (.inl k)) fun k => I.ok.has _ (.inr k)
  refine wpAny_comprehension_free (use := none) rfl hs (closure_ok clos) ok.kind (fun y hy e => by rw [ok.uniq y hy, e]) (thn (hi.run pins s σ H _ I h) fun xv a1 hx => thn hx fun itv a2 z2 => ?_)
  obtain ⟨it, fp, tn, J, H2, rfl, I2, T, st2, fr2, q⟩ := z2
  refine wpAny_newObj_type (newEnv_comp ?_) (by show 0 ≤ sizeLine; decide)
  obtain ⟨D, eD⟩ : ∃ D, D = a2.heap.objs.size := ⟨_, rfl⟩
  have nD : H2 D = none := I2.hok.fresh (Nat.le_of_eq eD.symm)
  have q := q D nD
  rw [← eD]
  have I3 : Inv X pins σ (upd H2 D (.lst [])) { a2 with heap := a2.heap.push { cls := .type "list", data := .seq ([] : List Value).toArray } } := by
    refine I2.laid (t' := a2.toks) (fun b o e => Heap.get?_push_of_some _ e) (Nat.le_of_eq eD.symm) ⟨Nat.zero_le _, [], 0, .nil, ?_⟩
    rw [eD]
    exact Heap.get?_push_size _ rfl
  have st3 : tn 0 (a2.heap.push { cls := .type "list", data := .seq ([] : List Value).toArray }) := T.keep _ _ _ st2 fun b _ o e => Heap.get?_push_of_some _ e
  have fr3 : ∀ b ∈ fp, FpOk X pins (upd H2 D (.lst [])) b ∧ b < (a2.heap.push { cls := .type "list", data := .seq ([] : List Value).toArray }).objs.size := fun b hb => by
    obtain ⟨o, e, _⟩ := T.obj _ _ st2 b hb
    have lt := Heap.lt_size e
    refine ⟨⟨?_, (fr2 b hb).2⟩, by rw [Heap.size_push]; exact Nat.lt_succ_of_lt lt⟩
    rw [upd_ne (by rw [eD]; exact Nat.ne_of_lt lt)]
    exact (fr2 b hb).1
  generalize ha3 : ({ a2 with heap := a2.heap.push { cls := .type "list", data := .seq ([] : List Value).toArray } } : Shared) = a3 at I3 ⊢
  have eh : a3.heap = a2.heap.push { cls := .type "list", data := .seq ([] : List Value).toArray } := by rw [← ha3]
  rw [← eh] at st3 fr3
  generalize upd H2 D (.lst []) = H3 at I3 fr3 q
  have I4 := block_start I3 ok hN fr3
  have st4 : tn 0 (pushCells (a3.heap.push { cls := .type "dict", data := .dict #[] }) sc.names) := T.keep _ _ _ st3 fun b _ o e => pushCells_keeps _ _ _ _ (Heap.get?_push_of_some _ e)
  generalize hcl : cellsFrom (a3.heap.objs.size + 1) sc.names (cloFrom X.env.cells sc.names []) = cl at I4 ⊢
  show codeAny _ _ (.compStart (lc3 elt t0 i0 t1 i1 t2 i2 f0 f1 f2 sc ps) 0 (.ref it) (.ref D) (compEnvC sc cl a3.heap.objs.size X.env)) (compPost (model X.prog X.w) X.A X.xe none _ (.ref D) a3.heap.objs.size) { a3 with heap := pushCells (a3.heap.push { cls := .type "dict", data := .dict #[] }) sc.names }
  generalize ha4 : ({ a3 with heap := pushCells (a3.heap.push { cls := .type "dict", data := .dict #[] }) sc.names } : Shared) = a4 at I4 ⊢
  have st4 : tn 0 a4.heap := by rw [← ha4]; exact st4
  have b2 := in_clause (X := X.blk a3 H3 sc (compEnvC sc cl a3.heap.objs.size X.env) fp) (acc := .ref D) (elt := elt) (t0 := t0) (i0 := i0) (t1 := t1) (i1 := i1) (t2 := t2) (i2 := i2) (f0 := f0) (f1 := f1) (f2 := f2) (sc := sc) (p := ps) (p1 := i2.pos) (vs := vs2) (.inr rfl) hc rfl (hi2 a3 H3 a3.heap.objs.size cl fp) (hg2 a3 H3 a3.heap.objs.size cl fp) (ht2 a3 H3 a3.heap.objs.size cl fp) (hs2 _) (in_last (X := X.blk a3 H3 sc (compEnvC sc cl a3.heap.objs.size X.env) fp) (D := D) rfl (he a3 H3 a3.heap.objs.size cl fp)) (fun i hi => by cases hi) fun it => turn3_2
  have b1 := in_clause (X := X.blk a3 H3 sc (compEnvC sc cl a3.heap.objs.size X.env) fp) (acc := .ref D) (vs := vs1) (.inl rfl) hc rfl (hi1 a3 H3 a3.heap.objs.size cl fp) (hg1 a3 H3 a3.heap.objs.size cl fp) (ht1 a3 H3 a3.heap.objs.size cl fp) (hs1 _) b2 v2 fun it => turn3_1
  have lp : codeAny (model X.prog X.w) X.A (.compLoop (lc3 elt t0 i0 t1 i1 t2 i2 f0 f1 f2 sc ps) 0 (.ref it) (.ref D) (compEnvC sc cl a3.heap.objs.size X.env)) (compPost (model X.prog X.w) X.A X.xe none (EP X pins σ Q) (.ref D) a3.heap.objs.size) a4 := by
    refine loop_run (X := X.blk a3 H3 sc (compEnvC sc cl a3.heap.objs.size X.env) fp) (pins := []) hc rfl T (hg a3 H3 a3.heap.objs.size cl fp) (ht a3 H3 a3.heap.objs.size cl fp) b1 v1 turn3_0 I4 st4 (fun b hb => ?_) q fun H5 a5 I5 qq => ?_
    · exact ⟨(fr3 b hb).1.1, (I4.ok.exf b hb).1, I4.ok.exfs b hb, .inl hb, fun x c e => (I4.ok.exf b hb).2 x c e, fun pn hp => absurd (show pn ∈ ([] : List (Addr × Obj)) ++ [] from hp) (by simp)⟩
    · have I7 : Inv X pins σ H5 a5 := I3.call' (ch := fp) I5.os I5.base I5.hok I5.bare fun b hb => ⟨(fr3 b hb).1.2.2.2.1, (fr3 b hb).1.2.1, (fr3 b hb).1.2.2.2.2.1, (fr3 b hb).1.2.2.2.2.2⟩
      have nC : H5 a3.heap.objs.size = none := I5.free
      obtain ⟨m, hm, _⟩ := I5.loc
      obtain ⟨c0, c1, c2, c3, c4, c5⟩ := I3.fpOk (Nat.le_refl _) nC
      exact ⟨m, hm, fun h2 sb => ⟨.ref D, H5, I7.turned (t' := a5.toks) (fun b o hb e => (sb.2 b hb).trans e) c0 c1 c3 c4 c5, rfl, qq⟩⟩
  exact codeAny_compStart_list lp (T.self X.A 0 _ _ _ st4 lp)
end
end V3

set_option Elab.async false
set_option linter.all false
set_option maxRecDepth 100000
/-! x.replace(written, written) within a list comprehension, behind a statement that puts a token out -/
namespace V3
open PySem PySem.Spec PyProof.Rows L2
theorem turn1 {elt t0 i0 : Expr} {f0 : List Expr} {sc : Scope} {p : Pos} {it acc : Value} {env : Env} : compTurn (.ListComp elt [⟨t0, i0, f0, 0⟩] sc p) 0 it acc env = turnW (.compLoop (.ListComp elt [⟨t0, i0, f0, 0⟩] sc p) 0 it acc env) i0.pos t0 f0 (lastW elt acc env) it env := by rfl
section
variable {X : Cx} {elt t0 i0 : Expr} {f0 : List Expr} {sc : Scope} {own : List (Str × Nat)} {ps : Pos} {wi : TI} {g : TG} {tt : TT} {te : TE}
/-- a list comprehension, a token out: its iterable may want one -/
theorem pet_lc (hc : X.calm = true) (hN : X.N.Nodup) (hi : PIT X t0 i0 wi) (ok : BlkOk X.N X.env.scope sc own)
    (hg : ∀ (u : Shared) (G : Hp) (C : Addr) (cl : List (Str × Addr)) (fp : List Addr), PG (X.blk u G sc (compEnvC sc cl C X.env) fp) t0 g) (ht : ∀ (u : Shared) (G : Hp) (C : Addr) (cl : List (Str × Addr)) (fp : List Addr), PTs (X.blk u G sc (compEnvC sc cl C X.env) fp) f0 tt)
    (he : ∀ (u : Shared) (G : Hp) (C : Addr) (cl : List (Str × Addr)) (fp : List Addr), PE (X.blk u G sc (compEnvC sc cl C X.env) fp) elt te) (hs : ∀ x, foldedSetIterable i0 X.env x = pure x := by intro _; rfl) :
    PET X (.ListComp elt [⟨t0, i0, f0, 0⟩] sc ps) (tLc wi g tt te (own.map (·.2))) := by
  intro pins s σ H Q tk I h
  rw [eval_ListComp]
  have clos : ∀ y ∈ sc.names, y.2 = .free → ∃ c, X.env.cells.lookup y.1 = some c := fun y hy e => (ok.free y hy e).elim (fun k => I.ok.has _ (.inl k)) fun k => I.ok.has _ (.inr k)
  refine wpAny_comprehension_free (use := none) rfl hs (closure_ok clos) ok.kind (fun y hy e => by rw [ok.uniq y hy, e]) (thn (hi pins s σ H _ tk I h) fun xv a1 hx => thn hx fun itv a2 z2 => ?_)
  obtain ⟨it, fp, tn, J, H2, rfl, I2, T, st2, fr2, q⟩ := z2
  refine wpAny_newObj_type (newEnv_comp ?_) (by show 0 ≤ sizeLine; decide)
  obtain ⟨D, eD⟩ : ∃ D, D = a2.heap.objs.size := ⟨_, rfl⟩
  have nD : H2 D = none := I2.hok.fresh (Nat.le_of_eq eD.symm)
  have q : LoopT J g tt (own.map (·.2)) (tPut te D) σ (upd H2 D (.lst [])) (Q (.ref D)) := q D nD
  rw [← eD]
  have I3 : Inv X pins σ (upd H2 D (.lst [])) { a2 with heap := a2.heap.push { cls := .type "list", data := .seq ([] : List Value).toArray } } := by
    refine I2.laid (t' := a2.toks) (fun b o e => Heap.get?_push_of_some _ e) (Nat.le_of_eq eD.symm) ⟨Nat.zero_le _, [], 0, .nil, ?_⟩
    rw [eD]
    exact Heap.get?_push_size _ rfl
  have st3 : tn 0 (a2.heap.push { cls := .type "list", data := .seq ([] : List Value).toArray }) := T.keep _ _ _ st2 fun b _ o e => Heap.get?_push_of_some _ e
  have fr3 : ∀ b ∈ fp, FpOk X pins (upd H2 D (.lst [])) b ∧ b < (a2.heap.push { cls := .type "list", data := .seq ([] : List Value).toArray }).objs.size := fun b hb => by
    obtain ⟨o, e, _⟩ := T.obj _ _ st2 b hb
    have lt := Heap.lt_size e
    refine ⟨⟨?_, (fr2 b hb).2⟩, by rw [Heap.size_push]; exact Nat.lt_succ_of_lt lt⟩
    rw [upd_ne (by rw [eD]; exact Nat.ne_of_lt lt)]
    exact (fr2 b hb).1
  generalize ha3 : ({ a2 with heap := a2.heap.push { cls := .type "list", data := .seq ([] : List Value).toArray } } : Shared) = a3 at I3 ⊢
  have eh : a3.heap = a2.heap.push { cls := .type "list", data := .seq ([] : List Value).toArray } := by rw [← ha3]
  rw [← eh] at st3 fr3
  generalize upd H2 D (.lst []) = H3 at I3 fr3 q
  have I4 := block_start I3 ok hN fr3
  have st4 : tn 0 (pushCells (a3.heap.push { cls := .type "dict", data := .dict #[] }) sc.names) := T.keep _ _ _ st3 fun b _ o e => pushCells_keeps _ _ _ _ (Heap.get?_push_of_some _ e)
  generalize hcl : cellsFrom (a3.heap.objs.size + 1) sc.names (cloFrom X.env.cells sc.names []) = cl at I4 ⊢
  show codeAny _ _ (.compStart (.ListComp elt [⟨t0, i0, f0, 0⟩] sc ps) 0 (.ref it) (.ref D) (compEnvC sc cl a3.heap.objs.size X.env)) (compPost (model X.prog X.w) X.A X.xe none _ (.ref D) a3.heap.objs.size) { a3 with heap := pushCells (a3.heap.push { cls := .type "dict", data := .dict #[] }) sc.names }
  generalize ha4 : ({ a3 with heap := pushCells (a3.heap.push { cls := .type "dict", data := .dict #[] }) sc.names } : Shared) = a4 at I4 ⊢
  have st4 : tn 0 a4.heap := by rw [← ha4]; exact st4
  have lp : codeAny (model X.prog X.w) X.A (.compLoop (.ListComp elt [⟨t0, i0, f0, 0⟩] sc ps) 0 (.ref it) (.ref D) (compEnvC sc cl a3.heap.objs.size X.env)) (compPost (model X.prog X.w) X.A X.xe none (EP X pins σ Q) (.ref D) a3.heap.objs.size) a4 := by
    refine loop_run (X := X.blk a3 H3 sc (compEnvC sc cl a3.heap.objs.size X.env) fp) (pins := []) (vs' := []) hc rfl T (hg a3 H3 a3.heap.objs.size cl fp) (ht a3 H3 a3.heap.objs.size cl fp) (in_last (X := X.blk a3 H3 sc (compEnvC sc cl a3.heap.objs.size X.env) fp) rfl (he a3 H3 a3.heap.objs.size cl fp)) (fun _ hi => by cases hi) turn1 I4 st4 (fun b hb => ?_) q fun H5 a5 I5 qq => ?_
    · exact ⟨(fr3 b hb).1.1, (I4.ok.exf b hb).1, I4.ok.exfs b hb, .inl hb, fun x c e => (I4.ok.exf b hb).2 x c e, fun pn hp => absurd (show pn ∈ ([] : List (Addr × Obj)) ++ [] from hp) (by simp)⟩
    · have I7 : Inv X pins σ H5 a5 := I3.call' (ch := fp) I5.os I5.base I5.hok I5.bare fun b hb => ⟨(fr3 b hb).1.2.2.2.1, (fr3 b hb).1.2.1, (fr3 b hb).1.2.2.2.2.1, (fr3 b hb).1.2.2.2.2.2⟩
      have nC : H5 a3.heap.objs.size = none := I5.free
      obtain ⟨m, hm, _⟩ := I5.loc
      obtain ⟨c0, c1, c2, c3, c4, c5⟩ := I3.fpOk (Nat.le_refl _) nC
      exact ⟨m, hm, fun h2 sb => ⟨.ref D, H5, I7.turned (t' := a5.toks) (fun b o hb e => (sb.2 b hb).trans e) c0 c1 c3 c4 c5, rfl, qq⟩⟩
  exact codeAny_compStart_list lp (T.self X.A 0 _ _ _ st4 lp)
end
section
variable {X : Cx} {o e a b c : Expr} {to te ta tb tc : TE} {st : Stmt} {rest : List Stmt} {t u : TS}
/-- o.m(e), a token out: o may want one -/
theorem pet_m1 {id : String} {name : Str} {apos pos : Pos} {r : V → List V → Hp → VK → Prop} (slot : Slot "str" name id) (ty : typeOf (.builtin id) = pure (.type "method_descriptor")) (rule : MtR X id r) (ho : PET X o to) (he : PE X e te)
    (hs : starEach [e] X.env = [(false, eval e X.env)] := by rfl) (hbase : attributeBase o name X.env (eval o X.env) = eval o X.env := by rfl) (hline : (apos.endLine == pos.line) = true := by rfl) :
    PET X (.Call (.Attribute o name apos) [e] [] pos) (tM1 r to te) := by
  intro pins s σ H Q tk I h
  refine PySem.Call_method1 hbase hs hline (thn (ho pins s σ H _ tk I h) fun v s1 ⟨x, H1, I1, r1, q1⟩ => ?_)
  obtain ⟨⟨z, rfl⟩, q1⟩ := q1
  obtain ⟨t, rfl⟩ := _root_.id r1
  refine ⟨"str", _, F.plainAttrs_str, slot, ty, typeIs_str _ _ _, (fun _ e => nomatch e), Calls.callWith_builtin rfl (Calls.evalArgs_plain (Calls.spliced_cons ?_))⟩
  exact thn (he.run pins s1 σ H1 _ I1 q1) fun u s2 ⟨y, H2, I2, r2, q2⟩ => Calls.spliced_nil (rule pins s2 σ H2 _ [y] _ [u] Q I2 r1 (.cons r2 .nil) q2)
theorem pet_split {apos pos : Pos} (ho : PET X o to) (he : PE X e te) (hs : starEach [e] X.env = [(false, eval e X.env)] := by rfl) (hbase : attributeBase o "split" X.env (eval o X.env) = eval o X.env := by rfl) (hline : (apos.endLine == pos.line) = true := by rfl) :
    PET X (.Call (.Attribute o "split" apos) [e] [] pos) (tM1 (fun x xs H Q => ∃ a b, x = .str a ∧ xs = [.str b] ∧ (b.length == 0) = false ∧ a.length + 2 ≤ sizeLine ∧ rNewStrs (Txt.split a b) H Q) to te) :=
  pet_m1 F.slot_str_split F.type_str_split mt_split ho he hs hbase hline
/-- a test, a token out -/
def PTT (X : Cx) (c : Expr) (tc : TT) : Prop := ∀ (pins : List (Addr × Obj)) (s : Shared) (σ : L2.St) (H : Hp) (Q : Bool → Hp → Prop), 1 ≤ s.toks → Inv X pins σ H s → tc σ H Q → wpAny (model X.prog X.w) X.A (isTrue c X.env (eval c X.env)) (TP X pins σ Q) X.xe s
theorem ptt_cmpR {op : CmpOp} {r : R2} {pos : Pos} (ho : OpR X (compareOp op) r) (ha : PET X a ta) (hb : PE X b tb) (hm : behindInMarks op b = false) : PTT X (.Compare a [op] [b] pos) (tTest (tOp r ta tb)) := by
  intro pins s σ H Q tk I h
  refine wpAny_isTrue_Compare1 (thn (ha pins s σ H _ tk I h) fun v s1 ⟨x, H1, I1, r1, q1⟩ => thn (hb.run pins s1 σ H1 _ I1 q1) fun u s2 ⟨y, H2, I2, r2, q2⟩ =>
    thn (ho pins s2 σ H2 x y v u _ I2 r1 r2 q2) fun c s3 ⟨z, H3, I3, r3, k, e, q3⟩ => ?_) hm
  subst e
  cases r3
  exact wpAny_truthy_bool ⟨H3, I3, q3⟩
theorem pst_ifT {x y : List Stmt} {tc : TT} {pos : Pos} (hc : PTT X c tc) (ha : PSsT X x t) (hb : PSsT X y u) : PST X (.If c x y pos) (tIfS tc t u) := by
  intro pins s σ H D h0 I h
  refine wpAny_If (wpAny_mono (PySem.wpAny_toks (hc pins s σ H _ h0 I h)) (fun d s1 q => ?_) fun _ _ z => z.2)
  obtain ⟨hk, H1, I1, q1⟩ := q
  cases d with
  | true => exact ha pins s1 σ H1 D (Nat.le_trans h0 hk) I1 q1
  | false => exact hb pins s1 σ H1 D (Nat.le_trans h0 hk) I1 q1
/-- name = (a if l op k else b), k a written number: behind it a token is out -/
theorem pss_ifTok {i j : Nat} {x : Str} {l : Expr} {tl : TE} {k : Int} {op : CmpOp} {r : R2} {p1 p2 p3 pos' pos : Pos} (hN : X.N.Nodup) (hi : X.N[i]? = some x) (hx : Loc X.env.scope x) (ho : OpR X (compareOp op) r) (hl : PE X l tl) (hm : behindInMarks op (.Constant (.int k) j p1) = false) (ha : PE X a ta) (hb : PE X b tb) (h2 : PSsT X rest u)
    (hs : swapsWith (.IfExp (.Compare l [op] [.Constant (.int k) j p1] p2) a b p3) (some (.Name x pos')) pos.line X.env = pure false := by rfl) (hf : X.fn x = true ∨ X.env.scope.names.lookup x = some .local := by first | exact .inl rfl | exact .inr rfl | assumption) :
    PSs X (.Assign [.Name x pos'] (.IfExp (.Compare l [op] [.Constant (.int k) j p1] p2) a b p3) pos :: rest) (tSeq (tAsg (tIf (tTest (tOp r tl (tC (.int k)))) ta tb) (gName i)) u) := by
  refine ⟨fun pins s σ H D I h => ?_⟩
  refine wpAny_execs_cons (wpAny_Assign_Name (wpAny_IfExp (wpAny_isTrue_Compare1 (thn (hl.run pins s σ H _ I h) fun v s1 ⟨w, H1, I1, r1, q1⟩ => wpAny_Constant_int ?_) hm)) hs)
  have n0 : 1 ≤ ({ s1 with toks := s1.toks + 1 } : Shared).toks := by show 1 ≤ s1.toks + 1; omega
  refine wpAny_mono (wpAny_toks_of n0 (ho pins _ σ H1 w (.int k) v _ _ (I1.tok (s1.toks + 1)) r1 ⟨s1.toks, rfl⟩ q1)) (fun cv s3 q3 => ?_) fun _ _ z => z.2
  obtain ⟨n3, z, H3, I3, r3, kk, e, q3⟩ := q3
  subst e
  cases r3
  refine wpAny_truthy_bool ?_
  have store : ∀ {y : V} {v4 : Value} {s4 : Shared} {H4 : Hp}, 1 ≤ s4.toks → Inv X pins σ H4 s4 → RelV y v4 → u D (σ.set i (some y)) H4 → wpAny (model X.prog X.w) X.A (storeName X.env x v4) (fun _ s5 => wpAny (model X.prog X.w) X.A (execs rest X.env) (SP X pins D) X.xe s5) X.xe s4 := fun {y v4 s4 H4} n4 I4 r4 q4 => by
    refine wpAny_mono (wpAny_toks_of n4 (store_ok (v := y) (Q := fun _ s2 => Inv X pins (σ.set i (some y)) H4 s2) I4 hN hi hx r4 (fun _ I2 => I2) hf)) (fun _ s5 q => ?_) fun _ _ z => z.2
    exact h2 pins s5 _ H4 D q.1 q.2 q4
  cases kk with
  | true =>
    refine wpAny_mono (wpAny_toks_of n3 (ha.run pins s3 σ H3 _ I3 q3)) (fun v4 s4 q4 => ?_) fun _ _ z => z.2
    obtain ⟨n4, y, H4, I4, r4, q4⟩ := q4
    exact store n4 I4 r4 q4
  | false =>
    refine wpAny_mono (wpAny_toks_of n3 (hb.run pins s3 σ H3 _ I3 q3)) (fun v4 s4 q4 => ?_) fun _ _ z => z.2
    obtain ⟨n4, y, H4, I4, r4, q4⟩ := q4
    exact store n4 I4 r4 q4
end
end V3

set_option Elab.async false
set_option linter.all false
set_option maxRecDepth 100000
/-! the program's reading of any text of moves: numbers and the forms -/
namespace V3
open PySem L2 TL
def numV : Option Int → V
  | some t => .int t
  | none => .non
def spRNA : Sp := fun vs H Q _ => ∃ x : Str, vs = [.str x] ∧ (canL (tl x) = true → x.length ≤ 40) ∧ Q (numV (numOf x)) H
/-- texts, then a number -/
def formD (ws : List Str) (n : Int) : PyData := .tuple (ws.map PyData.str ++ [.int n])
def formV (ws : List Str) (n : Int) : List V := ws.map V.str ++ [.int n]
theorem form_dp {K : PySem.W.Frag} {H : Hp} (ws : List Str) (n : Int) : DpAll K H (formV ws n) (ws.map PyData.str ++ [.int n]) := by
  unfold formV
  induction ws with
  | nil => exact .cons (.int _) .nil
  | cons a r ih => exact .cons (.str _) ih
theorem form_lay (ws : List Str) (n : Int) (h : ∀ x ∈ ws, PyData.strOk x = true) : PyData.canLayAll0 (ws.map PyData.str ++ [.int n]) = true := by
  induction ws with
  | nil => rfl
  | cons a r ih =>
    show (PyData.canLay0 (.str a) && PyData.canLayAll0 (r.map PyData.str ++ [.int n])) = true
    rw [ih fun x hx => h x (List.mem_cons_of_mem _ hx), Bool.and_true]
    exact h a (List.mem_cons_self ..)
theorem form_depth (ws : List Str) (n : Int) : PyData.depth (formD ws n) ≤ 64 := by
  have z : PyData.depthAll (ws.map PyData.str ++ [.int n]) = 0 := by
    induction ws with
    | nil => rfl
    | cons a r ih =>
      show max 0 (PyData.depthAll (r.map PyData.str ++ [.int n])) = 0
      rw [ih]
      rfl
  show PyData.depthAll (ws.map PyData.str ++ [.int n]) + 1 ≤ 64
  rw [z]
  decide
theorem form_shaped {ws : List Str} {n : Int} (h : ∀ x ∈ ws, PyData.strOk x = true) : SeqAt.shaped (formD ws n) = true := by
  unfold SeqAt.shaped
  rw [decide_eq_true (form_depth ws n), Bool.and_true]
  exact form_lay ws n h
theorem form_eqv : ∀ (ws us : List Str) (n k : Int), PyData.eqvAll (ws.map PyData.str ++ [.int n]) (us.map PyData.str ++ [.int k]) = decide (ws = us ∧ n = k)
  | [], [], n, k => by
    show (n == k && true) = _
    rw [Bool.and_true, Bool.eq_iff_iff, beq_iff_eq, decide_eq_true_eq]
    simp
  | a :: r, b :: s, n, k => by
    show (a == b && PyData.eqvAll (r.map PyData.str ++ [.int n]) (s.map PyData.str ++ [.int k])) = _
    rw [form_eqv r s n k, Bool.eq_iff_iff]
    simp [and_assoc]
  | [], b :: s, n, k => by
    show (false && _) = _
    simp
  | a :: r, [], n, k => by
    show (false && _) = _
    simp
section
variable {P : Program} {w : World} {K : PySem.W.Frag} {mg : Str → Option Value} {base : Heap}
theorem ok_readNumberA {f : Addr} {fd : FuncData} (F : Fun K "read_number" "read_number" sReadNumber f fd) (zi : mg "int" = none) : FnOk P w K mg base CX0 1 f fd ["text"] spRNA := by
  refine F.ok scReadNumber (fun vs H Q E h => ?_) (fun cdv A outer s H vs Q E hr h => ?_)
  · obtain ⟨t, rfl, _⟩ := h
    rfl
  · obtain ⟨x, rfl, sh, q⟩ := h
    refine ⟨_, pss_cons (ps_if (pt_not (PW.pt (pw_and (pt_val (pe_m0 PySem.F.slot_str_isascii PySem.F.type_str_isascii mt_isascii (pv 0))) (pw_and1 (pt_val (pe_m0 PySem.F.slot_str_isdigit PySem.F.type_str_isdigit mt_isdigit (pv 0))))))) (pss_one (ps_ret pe_non)) pss_nil)
      (pss_cons (ps_if (PW.pt (pw_and (pt_val (pe_m1 PySem.F.slot_str_startswith PySem.F.type_str_startswith mt_startswith (pv 0) pe_str)) (pw_and1 (pt_cmpR op_ne (pv 0) pe_str (nomark _))))) (pss_one (ps_ret pe_non)) pss_nil)
      (pss_one (ps_ret (pe_callTy call_int_str (by rfl) zi (by decide +kernel) (pa_cons (pv 0) pa_nil))))), ?_⟩
    have ce := canL_eq x
    refine ⟨_, rfl, ⟨_, rfl⟩, _, rfl, rfl, trivial, _, rfl, ?_⟩
    have nn : canL (tl x) = false → numOf x = none := fun e => by
      unfold numOf
      rw [e]
      rfl
    cases a1 : Txt.isascii x with
    | false =>
      rw [a1] at ce
      rw [nn ce] at q
      exact iteF (iteT q)
    | true =>
      refine iteT ⟨_, rfl, ⟨_, rfl⟩, _, rfl, rfl, trivial, _, rfl, ?_⟩
      cases a2 : Txt.isdigit x with
      | false =>
        rw [a1, a2] at ce
        rw [nn ce] at q
        exact iteT q
      | true =>
        rw [a1, a2] at ce
        refine iteF ⟨_, rfl, ⟨_, rfl⟩, _, _, rfl, rfl, _, rfl, ?_⟩
        have fin : canL (tl x) = true → tRet (tCB (fun xs H Q => ∃ a n, xs = [.str a] ∧ PySem.intText? a = some n ∧ a.length ≤ 640 ∧ Q (.int n) H) (tCons (tVar 0) tNil)) { nx := fun _ H' => Q .non H', rt := Q } (start ["text"] [V.str x]) H := fun c => by
          have eN : numOf x = some ((valL (tl x) : Nat) : Int) := by
            unfold numOf
            rw [if_pos c]
          obtain ⟨e1, t0, _, _⟩ := numOf_some eN
          rw [eN] at q
          refine ⟨_, rfl, _, ((valL (tl x) : Nat) : Int), rfl, ?_, ?_, q⟩
          · have z := int_num (n := valL (tl x)) (by
              rw [(can_num _ (tl x) (Nat.le_refl _) c).1, ← len_tl]
              have := sh c
              omega)
            exact (congrArg PySem.intText? e1).trans z
          · have := sh c
            omega
        cases es : Txt.startswith x "0" with
        | false =>
          rw [es] at ce
          exact iteF (iteF (fin ce))
        | true =>
          rw [es] at ce
          refine iteT ⟨_, rfl, rfl, _, rfl, ?_⟩
          have ev : decide (V.str x = V.str "0") = decide (x = "0") := by simp
          rw [ev]
          by_cases e0 : x = "0"
          · rw [decide_eq_true e0] at ce ⊢
            exact iteF (fin ce)
          · rw [decide_eq_false e0] at ce ⊢
            rw [nn ce] at q
            exact iteT q
/-- move_of's tests of the form -/
theorem form_is {D : Ends} {σ : L2.St} {H : Hp} {q : Addr} {ws us : List Str} {n k : Int} {t : TA} {A B : TS}
    (hσ : σ[2]? = some (some (.ref q))) (hq : H q = some (.tup (formV ws n))) (hs : ∀ x ∈ ws, PyData.strOk x = true) (hu : ∀ x ∈ us, PyData.strOk x = true) (ht : ∀ Q', Q' (formV us k) H → t σ H Q') (hz : (formV us k).length ≤ sizeLine)
    (yes : ws = us → n = k → ∀ H', Same H H' → A D σ H') (no : ¬ (ws = us ∧ n = k) → ∀ H', Same H H' → H' q = some (.tup (formV ws n)) → B D σ H') :
    tIfS (tTest (tOp (rEqD K) (tVar 2) (tTup t))) A B D σ H := by
  refine form_eq (b := decide (ws = us ∧ n = k)) hσ hq (fun H' => form_dp ws n) ht (fun H' => form_dp us k) hz (form_shaped hs) (form_shaped hu) (form_eqv ws us n k) (fun H' s => ?_)
  by_cases e : ws = us ∧ n = k
  · rw [decide_eq_true e]
    exact iteT (yes e.1 e.2 H' s)
  · rw [decide_eq_false e]
    exact iteF (no e H' s (s _ _ hq))
def spMOA (c : Cl) (CM : Addr) : Sp := fun vs H Q E => ∃ (w n : Addr) (ws : List Str) (ls : List Int), vs = [.ref w, .ref n] ∧ H w = some (.lst (ws.map V.str)) ∧ H n = some (.lst (ls.map V.int)) ∧ ws.length ≤ 100000 ∧
  (∀ x ∈ ws, PyData.strOk x = true) ∧ (∀ t ∈ ls, V3.Idx t) ∧
  (∀ m, mvW ws ls = some m → ∀ (x dx : Addr) (H' : Hp), Same H H' → H' x = some (m.obj c dx) → Q (.ref x) H') ∧
  (mvW ws ls = none → (∀ H', Same H H' → Q .non H') ∧ Er CM H E "amount")
theorem Er.le {C : Addr} {H H1 : Hp} {E : XK} {word : Str} (s : Same H H1) (h : Er C H E word) : Er C H1 E word := fun d H' s1 hd => h d H' (s.trans s1) hd
theorem ok_moveOfA {f CM : Addr} {c : Cl} {fd : FuncData} (F : Fun K "move_of" "move_of" sMoveOf f fd) (zl : mg "len" = none) (T : MvTxt P w K mg base c CM) : FnOk P w K mg base (L2.CX P w) 6 f fd ["words", "numbers"] (spMOA c CM) := by
  obtain ⟨f1, fd1, G1, M1, b1, _⟩ := T.B.ini
  obtain ⟨f3, fd3, G3, M3, b3, ds3, vd3, c3⟩ := T.T.ini
  obtain ⟨f5, fd5, G5, M5, b5, _⟩ := T.R.ini
  refine F.okX scMoveOf (fun vs H Q E h => ?_) (fun cdv A outer s H vs Q E hr h => ?_)
  · obtain ⟨w, n, ws, ls, rfl, _⟩ := h
    rfl
  · obtain ⟨wa, na, ws, ls, rfl, hw, hn, lw, sw, il, k, kn⟩ := h
    have pe : Passes (L2.CX P w) (cxOf (L2.CX P w) P w K mg base ["words", "numbers", "form"] "move_of" (defScope sMoveOf) f cdv A outer s H E) E := passes_call (takes_of rfl rfl rfl rfl) fun _ _ _ _ z => z
    refine ⟨_, pss_cons (ps_set (i := 2) scMoveOf.nd rfl (Or.inl rfl) (pe_tup (StX.pa_star (pv 0) (pa_cons (pe_callB call_len_seq (by rfl) zl PySem.boot_len (pa_cons (pv 1) pa_nil)) pa_nil))))
      (pss_cons (ps_if (pt_cmpR (op_eqD hr.units) (pv 2) (pe_tup (pa_cons pe_str (pa_cons pe_int pa_nil))) (nomark _)) (pss_one (ps_ret (pe_make (E := E) M1 G1 hr rfl T.B.g b1 .nil pe (pa_cons (pe_ix ix_list (pv 1) pe_int (fun _ _ => rfl)) pa_nil)))) pss_nil)
      (pss_cons (ps_if (pt_cmpR (op_eqD hr.units) (pv 2) (pe_tup (pa_cons pe_str (pa_cons pe_int pa_nil))) (nomark _)) (pss_one (ps_ret (pe_make (E := E) M3 G3 hr rfl T.T.g c3 vd3 pe (pa_cons (pe_ix ix_list (pv 1) pe_int (fun _ _ => rfl)) pa_nil)))) pss_nil)
      (pss_cons (ps_if (pt_cmpR (op_eqD hr.units) (pv 2) (pe_tup (pa_cons pe_str (pa_cons pe_str (pa_cons pe_int pa_nil)))) (nomark _)) (pss_one (ps_ret (pe_make (E := E) M3 G3 hr rfl T.T.g b3 .nil pe (pa_cons (pe_ix ix_list (pv 1) pe_int (fun _ _ => rfl)) (pa_cons (pe_ix ix_list (pv 1) pe_int (fun _ _ => rfl)) pa_nil))))) pss_nil)
      (pss_cons (ps_if (pt_cmpR (op_eqD hr.units) (pv 2) (pe_tup (pa_cons pe_str (pa_cons pe_str (pa_cons pe_int pa_nil)))) (nomark _)) (pss_one (ps_ret (pe_make (E := E) M5 G5 hr rfl T.R.g b5 .nil pe (pa_cons (pe_ix ix_list (pv 1) pe_int (fun _ _ => rfl)) (pa_cons (pe_ix ix_list (pv 1) pe_int (fun _ _ => rfl)) pa_nil))))) pss_nil)
      (pss_cons (ps_if (pt_cmpR (op_eqD hr.units) (pv 2) (pe_tup (pa_cons pe_str (pa_cons pe_int pa_nil))) (nomark _)) (pss_one (ps_ret (pe_new0 T.S rfl T.gS))) pss_nil)
      (pss_one (ps_ret pe_non))))))), ?_⟩
    have st : ∀ {us : List Str}, (us.all fun x => PyData.strOk x) = true → ∀ x ∈ us, PyData.strOk x = true := fun h => List.all_eq_true.mp h
    have two_ : ∀ {k : Int}, (ls.length : Int) = 2 → ∃ a b, ls = [a, b] := fun e => by
      match ls, e with
      | [a, b], _ => exact ⟨a, b, rfl⟩
      | [], e => simp at e
      | [a], e => simp at e
      | a :: b :: d :: r, e => simp at e; omega
    have one_ : (ls.length : Int) = 1 → ∃ a, ls = [a] := fun e => by
      match ls, e with
      | [a], _ => exact ⟨a, rfl⟩
      | [], e => simp at e
      | a :: b :: r, e => simp at e; omega
    have nr : ∀ {t : Int}, V3.Idx t → t.natAbs ≤ 10000000000000000000000000000000000000000 := fun {t} h => by
      have h1 := h.1
      have h2 := h.2
      omega
    have lz : (formV ws (ls.length : Int)).length ≤ sizeLine := by
      unfold formV
      rw [List.length_append, List.length_map, List.length_singleton]
      exact Nat.le_trans (Nat.add_le_add_right lw 1) (by decide)
    refine ⟨_, rfl, wa, _, rfl, .inr (SqL.of hw), _, rfl, na, _, rfl, .inl (SqL.of hn), ?_⟩
    rw [List.length_map]
    refine ⟨lz, fun q nq => ?_⟩
    have hq : upd H q (.tup (formV ws (ls.length : Int))) q = some (.tup (formV ws (ls.length : Int))) := upd_same
    have S0 : Same H (upd H q (.tup (formV ws (ls.length : Int)))) := Same.new nq
    show tSeq _ _ _ _ (upd H q (.tup (formV ws (ls.length : Int))))
    generalize upd H q (.tup (formV ws (ls.length : Int))) = H1 at hq S0 ⊢
    refine form_is (us := ["begin"]) (k := 1) rfl hq sw (st (by decide +kernel)) (fun _ h => h) (by show 2 ≤ sizeLine; decide) (fun e1 e2 H2 s2 => ?_) fun n1 H2 s2 hq2 => ?_
    · obtain ⟨a, rfl⟩ := one_ e2
      subst e1
      have ia := il a (by simp)
      have S2 := S0.trans s2
      refine ⟨_, rfl, na, _, 0, _, rfl, rfl, SqL.of (S2 _ _ hn), rfl, fun y dy ny ndy ne => ⟨y, dy, .int a, rfl, upd_same, .int _ (nr ia), fun p => ⟨rfl, ?_⟩, fun p => ?_⟩⟩
      · refine k (.beg a) ?_ y dy _ (S2.trans (made_same2 ny ndy)) upd_same
        exact if_pos (of_decide_eq_true p)
      · have z := kn (if_neg (of_decide_eq_false p))
        exact z.2.le (S2.trans (made_same ny ndy))
    refine form_is (us := ["take"]) (k := 1) rfl hq2 sw (st (by decide +kernel)) (fun _ h => h) (by show 2 ≤ sizeLine; decide) (fun e1 e2 H3 s3 => ?_) fun n2 H3 s3 hq3 => ?_
    · obtain ⟨a, rfl⟩ := one_ e2
      subst e1
      have ia := il a (by simp)
      have S2 := (S0.trans s2).trans s3
      refine ⟨_, rfl, na, _, 0, _, rfl, rfl, SqL.of (S2 _ _ hn), rfl, fun y dy ny ndy ne => ⟨y, dy, .int a, .non, rfl, upd_same, .int _ (nr ia), .non, fun _ _ => ⟨rfl, ?_⟩, fun e => absurd (num_yes ia.1) (by rw [e]; decide), fun _ c => absurd rfl c⟩⟩
      exact k (.take a) rfl y dy _ (S2.trans (made_same2 ny ndy)) upd_same
    refine form_is (us := ["take", "by"]) (k := 2) rfl hq3 sw (st (by decide +kernel)) (fun _ h => h) (by show 3 ≤ sizeLine; decide) (fun e1 e2 H4 s4 => ?_) fun n3 H4 s4 hq4 => ?_
    · obtain ⟨a, b, rfl⟩ := two_ (k := 0) e2
      subst e1
      have ia := il a (by simp)
      have ib := il b (by simp)
      have S2 := ((S0.trans s2).trans s3).trans s4
      refine ⟨_, rfl, na, _, 0, _, rfl, rfl, SqL.of (S2 _ _ hn), rfl, _, rfl, na, _, 1, _, rfl, rfl, SqL.of (S2 _ _ hn), rfl, fun y dy ny ndy ne => ⟨y, dy, .int a, .int b, rfl, upd_same, .int _ (nr ia), .int _ (nr ib), fun _ p => ⟨rfl, ?_⟩, fun e => absurd (num_yes ia.1) (by rw [e]; decide), fun _ _ p => ?_⟩⟩
      · refine k (.takeBy a b) ?_ y dy _ (S2.trans (made_same2 ny ndy)) upd_same
        rcases p with p | p
        · cases p
        · exact if_pos (of_decide_eq_true p)
      · have z := kn (if_neg (of_decide_eq_false p))
        exact z.2.le (S2.trans (made_same ny ndy))
    refine form_is (us := ["right", "to"]) (k := 2) rfl hq4 sw (st (by decide +kernel)) (fun _ h => h) (by show 3 ≤ sizeLine; decide) (fun e1 e2 H5 s5 => ?_) fun n4 H5 s5 hq5 => ?_
    · obtain ⟨a, b, rfl⟩ := two_ (k := 0) e2
      subst e1
      have ia := il a (by simp)
      have ib := il b (by simp)
      have S2 := (((S0.trans s2).trans s3).trans s4).trans s5
      refine ⟨_, rfl, na, _, 0, _, rfl, rfl, SqL.of (S2 _ _ hn), rfl, _, rfl, na, _, 1, _, rfl, rfl, SqL.of (S2 _ _ hn), rfl, fun y dy ny ndy ne => ⟨y, dy, .int a, .int b, rfl, upd_same, .int _ (nr ia), .int _ (nr ib), fun _ p => ⟨rfl, ?_⟩, fun e => absurd (num_yes ia.1) (by rw [e]; decide), fun _ p => ?_⟩⟩
      · refine k (.right a b) ?_ y dy _ (S2.trans (made_same2 ny ndy)) upd_same
        exact if_pos (of_decide_eq_true p)
      · have z := kn (if_neg (of_decide_eq_false p))
        exact z.2.le (S2.trans (made_same ny ndy))
    refine form_is (us := ["shut"]) (k := 0) rfl hq5 sw (st (by decide +kernel)) (fun _ h => h) (by show 2 ≤ sizeLine; decide) (fun e1 e2 H6 s6 => ?_) fun n5 H6 s6 hq6 => ?_
    · obtain rfl : ls = [] := List.length_eq_zero_iff.mp (by omega)
      subst e1
      have S2 := ((((S0.trans s2).trans s3).trans s4).trans s5).trans s6
      exact fun y dy ny ndy ne => k .shut rfl y dy _ (S2.trans (made_same ny ndy)) upd_same
    have S2 := ((((S0.trans s2).trans s3).trans s4).trans s5).trans s6
    have en : mvW ws ls = none := by
      match ws, ls, n1, n2, n3, n4, n5 with
      | [], _, _, _, _, _, _ => rfl
      | [e], [], _, _, _, _, n5 => exact if_neg fun z => n5 ⟨by rw [z], rfl⟩
      | [e], [a], n1, n2, _, _, _ =>
        show (if e = "begin" then _ else if e = "take" then _ else _) = _
        rw [if_neg fun z => n1 ⟨by rw [z], rfl⟩, if_neg fun z => n2 ⟨by rw [z], rfl⟩]
      | [e], a :: b :: r, _, _, _, _, _ => rfl
      | [e, g], [], _, _, _, _, _ => rfl
      | [e, g], [a], _, _, _, _, _ => rfl
      | [e, g], [a, b], _, _, n3, n4, _ =>
        show (if e = "take" ∧ g = "by" then _ else if e = "right" ∧ g = "to" then _ else _) = _
        rw [if_neg fun z => n3 ⟨by rw [z.1, z.2], rfl⟩, if_neg fun z => n4 ⟨by rw [z.1, z.2], rfl⟩]
      | [e, g], a :: b :: d :: r, _, _, _, _, _ => rfl
      | e :: g :: i :: r, _, _, _, _, _, _ => rfl
    exact (kn en).1 _ S2
end
end V3

set_option Elab.async false
set_option linter.all false
set_option maxRecDepth 100000
/-! InvalidText -/
namespace V3
open PySem L2 TL
abbrev sItInit : Stmt := inClass (top 8) 0
structure ItTxt (P : Program) (w : World) (K : PySem.W.Frag) (mg : Str → Option Value) (base : Heap) (C : Addr) : Prop where
  g : mg "InvalidText" = some (.ref C)
  o : OexC K C
  no : PySem.W.findIn K (.ref C) "at" = some none
  ini : ∃ (f : Addr) (fd : FuncData), FnOk P w K mg base CX0 1 f fd ["self", "at"] (spIX C) ∧ PySem.W.findIn K (.ref C) "__init__" = some (some (.ref f)) ∧ PySem.W.typeIn K (.ref f) = some (.type "function") ∧ Binds K fd ["self", "at"] []
section
variable {P : Program} {w : World} {K : PySem.W.Frag} {mg : Str → Option Value} {base : Heap}
theorem scItInit : FnScope ["self", "at"] ["self", "at"] (defScope sItInit) := ⟨rfl, rfl, rfl, by decide +kernel, rfl, by decide +kernel, by decide +kernel⟩
theorem ok_itInit {f C : Addr} {fd : FuncData} (F : Fun K "__init__" "InvalidText.__init__" sItInit f fd) (o : OexC K C) (no : PySem.W.findIn K (.ref C) "at" = some none) : FnOk P w K mg base CX0 1 f fd ["self", "at"] (spIX C) := by
  refine F.ok scItInit (fun vs H Q E h => ?_) (fun cdv A outer s H vs Q E hr h => ?_)
  · obtain ⟨a, y, rfl, _⟩ := h
    rfl
  · obtain ⟨a, y, rfl, ha, q⟩ := h
    exact ⟨_, pss_one (ps_ost (pv 0) (pv 1)), _, rfl, _, rfl, a, C, rfl, o, no, .inl ⟨ha, fun dx h1 h2 => q dx h1 h2⟩⟩
end
end V3

set_option Elab.async false
set_option linter.all false
set_option maxRecDepth 100000
/-! the program's reading of any text: a move, moves, a history, or the number of the part that is none -/
namespace V3
open PySem L2 TL
theorem ok_lt {x : Str} (h : PyData.strOk x = true) : ∀ c ∈ tl x, c < 1114112 := fun c hc => by
  unfold PyData.strOk at h
  rw [all_list] at h
  exact of_decide_eq_true (List.all_eq_true.mp h c hc)
theorem lt_ok {x : Str} (h : ∀ c ∈ tl x, c < 1114112) : PyData.strOk x = true := by
  unfold PyData.strOk
  rw [all_list]
  exact List.all_eq_true.mpr fun c hc => decide_eq_true (h c hc)
theorem split_in {x y p : Str} (h : p ∈ Txt.split x y) : ∀ c ∈ tl p, c ∈ tl x := fun c hc => by
  have z := congrArg tl (StrLaws.join_split x y)
  rw [tl_join] at z
  rw [← z]
  exact mem_joinL (List.mem_map.mpr ⟨p, h, rfl⟩) hc
theorem split_ok {x y p : Str} (h : PyData.strOk x = true) (m : p ∈ Txt.split x y) : PyData.strOk p = true := lt_ok fun c hc => ok_lt h c (split_in m c hc)
/-- a part of a text that the program can read, whatever it holds -/
def PtOk (x : Str) : Prop := x.length ≤ 99000 ∧ PyData.strOk x = true ∧ ∀ w ∈ Txt.split x sp1, canL (tl w) = true → w.length ≤ 40
def spRMA (c : Cl) : Sp := fun vs H Q _ => ∃ x : Str, vs = [.str x] ∧ PtOk x ∧ (∀ m, mvOf x = some m → ∀ (y dy : Addr) (H' : Hp), Same H H' → H' y = some (m.obj c dy) → Q (.ref y) H') ∧ (mvOf x = none → ∀ H', Same H H' → Q .non H')
theorem none_inO (l : List (Option Int)) : inV .non (l.map numV) = !l.all (·.isSome) := by
  induction l with
  | nil => rfl
  | cons a r ih =>
    cases a with
    | none => rfl
    | some t =>
      show inV .non (r.map numV) = _
      rw [ih]
      rfl
theorem flat_nums (l : List (Option Int)) : (l.map numV).all flatV = true := by
  induction l with
  | nil => rfl
  | cons a r ih =>
    show (flatV (numV a) && (r.map numV).all flatV) = true
    rw [ih]
    cases a <;> rfl
def tryB0 (s : Stmt) : List Stmt := match s with
  | .Try b _ _ _ _ => b
  | _ => []
def tryS0 (s : Stmt) : List Stmt := match s with
  | .Try _ (.ExceptHandler _ _ b _ :: _) _ _ _ => b
  | _ => []
abbrev sTryR : Stmt := (defBody sReadMove).getD 3 (.Pass ⟨0, 0, 0, 0⟩)
def tBR (K : PySem.W.Frag) (c : Cl) (CM : Addr) (W : WX) : TS := tRet (tCallS (spMOA c CM) (WE W) (tCons (tStep K (tVar 1) tNoPart tNoPart (tPart (tC (.int 2)))) (tCons (tVar 2) tNil)))
def tSR : Addr → Value → Option Addr → TS := fun _ _ _ => tRet (tC .non)
theorem len_odd (ws : List Str) : stepV (ws.map V.str) (some 1) none (some 2) = (oddW ws).map V.str := step_odd ws
theorem split_count (x : Str) : (Txt.split x sp1).length ≤ x.length + 1 := by
  have z := wgt_split x sp1 (by decide +kernel)
  unfold wgt at z
  omega
section
variable {P : Program} {w : World} {K : PySem.W.Frag} {mg : Str → Option Value} {base : Heap}
theorem ok_readMoveA {f CM : Addr} {c : Cl} {fd : FuncData} (F : Fun K "read_move" "read_move" sReadMove f fd) (cN : Cal P w K mg base CX0 "read_number" 1 ["text"] spRNA) (cM : Cal P w K mg base (L2.CX P w) "move_of" 6 ["words", "numbers"] (spMOA c CM)) (gM : mg "InvalidMove" = some (.ref CM)) (te : PySem.W.exmOne K (.ref CM) (.ref CM) = some true) : FnOk P w K mg base CX0 7 f fd ["text"] (spRMA c) := by
  obtain ⟨fN, fdN, GN, mN, kN, bN⟩ := cN
  obtain ⟨fM, fdM, GM, mM, kM, bM⟩ := cM
  refine F.ok scReadMove (fun vs H Q E h => ?_) (fun cdv A outer s H vs Q E hr h => ?_)
  · obtain ⟨x, rfl, _⟩ := h
    rfl
  · obtain ⟨x, rfl, ok, k, kn⟩ := h
    have body1 : ∀ (W : WX) (pn : List (Addr × Obj)) (xe : Value → Shared → Prop), Takes ((cxOf CX0 P w K mg base ["text", "words", "numbers", "word"] "read_move" (defScope sReadMove) f cdv A outer s H E).nox.tr pn xe) W →
        PSs ((cxOf CX0 P w K mg base ["text", "words", "numbers", "word"] "read_move" (defScope sReadMove) f cdv A outer s H E).nox.tr pn xe) (tryB0 sTryR) (tBR K c CM W) := by
      intro W pn xe tk
      exact pss_one (ps_ret (by exact (pe_callS GM hr rfl mM kM bM (fun σ => passAt tk σ) (by exact (pa_cons (pe_step (pv 1) po_none po_none (po_some pe_int)) (pa_cons (pv 2) pa_nil))))))
    have suite1 : ∀ (ax : Addr) (oe : Obj) (cls : Value) (d : Option Addr) (pn : List (Addr × Obj)), Zc cls d oe → (∃ vs, oe.data = .fields vs) →
        PSs ((cxOf CX0 P w K mg base ["text", "words", "numbers", "word"] "read_move" (defScope sReadMove) f cdv A outer s H E).nox.suite ax ((ax, oe) :: pn)) (tryS0 sTryR) (tSR ax cls d) := by
      intro ax oe cls d pn hz hfl
      exact pss_one (ps_ret pe_non)
    have try1 : PS (cxOf CX0 P w K mg base ["text", "words", "numbers", "word"] "read_move" (defScope sReadMove) f cdv A outer s H E).nox sTryR (fun D σ H => tBR K c CM (wOnly K (.ref CM) tSR (fun _ _ _ _ => False) D) D σ H) :=
      ps_try_only (tb := fun W => tBR K c CM W) (ts := tSR) (Wout := fun _ _ _ _ => False) rfl rfl ⟨rfl, by decide, Or.inl gM⟩ (fun _ _ x => by
        obtain ⟨_, _, _, _, _, _, _, _, _, _, _, _, _, _, _, _, z⟩ := x
        exact z.elim)
        (fun W pn xe tk _ => body1 W pn xe tk) (fun ax oe cls d pn hz hfl => suite1 ax oe cls d pn hz hfl)
    refine ⟨_, pss_cons (ps_set (i := 1) scReadMove.nd rfl (Or.inl rfl) (pe_split (pv 0) pe_str))
      (pss_cons (ps_setLc (i := 2) (own := [("word", 3)]) (g := gName 3) (tt := tYes) (te := tCall spRNA [] (fun _ _ _ => False) (tCons (tVar 3) tNil)) (by rfl) scReadMove.nd rfl rfl (sw_true rfl rfl rfl (by decide +kernel)) (pi_list (pe_step (pv 1) (po_some pe_int) po_none (po_some pe_int)))
          (blkOk_by (own := [("word", 3)]) (N := ["text", "words", "numbers", "word"]) (sc := defScope sReadMove) (by decide +kernel)) (fun _ _ _ _ _ => pg_name (i := 3) scReadMove.nd rfl (Or.inl rfl)) (fun _ _ _ _ _ => pts_nil)
          (fun _ _ _ _ _ => pe_call GN (hr.mono (by decide)) rfl mN kN bN .nil pass0 (pa_cons (pv 3) pa_nil)))
      (pss_cons (ps_if (pt_cmpR op_in_seq pe_non (pv 2) rfl) (pss_one (ps_ret pe_non)) pss_nil)
      (pss_one try1))), ?_⟩
    obtain ⟨xl, xo, xs⟩ := ok
    have lc := split_count x
    refine ⟨_, rfl, ⟨_, rfl⟩, _, sp1, rfl, rfl, by decide +kernel, Nat.le_trans (Nat.add_le_add_right xl 2) (by decide), fun wa nw => ?_⟩
    have wok : ∀ p ∈ Txt.split x sp1, PyData.strOk p = true := fun p hp => split_ok xo hp
    have em : mvOf x = mvP (Txt.split x sp1) := rfl
    rw [em] at k kn
    generalize Txt.split x sp1 = ws at xs lc wok k kn ⊢
    have S1 : Same H (upd H wa (.lst (ws.map V.str))) := Same.new nw
    have hw : upd H wa (.lst (ws.map V.str)) wa = some (.lst (ws.map V.str)) := upd_same
    generalize upd H wa (.lst (ws.map V.str)) = H1 at S1 hw ⊢
    have lo := odd_len ws
    have le := even_len ws
    refine ⟨_, rfl, _, rfl, 2, rfl, wa, _, rfl, SqL.of hw, by decide, ?_, fun pa np => ?_⟩
    · rw [step_odd, List.length_map]
      exact Nat.le_trans (Nat.le_trans lo (Nat.le_trans lc (Nat.add_le_add_right xl 1))) (by decide)
    rw [step_odd]
    have S2 : Same H1 (upd H1 pa (.lst ((oddW ws).map V.str))) := Same.new np
    have hp : upd H1 pa (.lst ((oddW ws).map V.str)) pa = some (.lst ((oddW ws).map V.str)) := upd_same
    generalize upd H1 pa (.lst ((oddW ws).map V.str)) = H2 at S2 hp ⊢
    refine ⟨pa, rfl, ⟨_, SqL.of hp⟩, fun D nD => ?_⟩
    refine lc_list (K := K) (a := pa) (xs := (oddW ws).map V.str) (fun i Hh => Same H2 Hh ∧ H2 D = none ∧ Hh D = some (.lst ((((oddW ws).take i).map numOf).map numV))) ⟨Same.new nD, nD, upd_same⟩ (fun i Hh _ p => SqL.of (p.1 _ _ hp)) ?_ ?_
    · intro i z Hh hi p
      rw [List.getElem?_map] at hi
      obtain ⟨t, ht, rfl⟩ := Option.map_eq_some_iff.mp hi
      refine ⟨rfl, ?_⟩
      unfold tYes
      dsimp only
      refine iteT ⟨_, rfl, t, rfl, xs t (odd_mem (List.mem_of_getElem? ht)), _, p.2.2, ?_, fun c o h => ?_, p.2.1, ?_⟩
      · rw [List.length_map, List.length_map, List.length_take]
        refine Nat.lt_of_le_of_lt (m := 99001) (Nat.le_trans (Nat.min_le_right _ _) (by omega)) (by decide)
      · rw [upd_ne (ne_of_none h p.2.1)]
        exact p.1 c o h
      · rw [upd_same, take_next' ht, List.map_append, List.map_append]
        rfl
    · intro H3 p
      obtain ⟨S3, nD, hD⟩ := p
      rw [List.length_map, List.take_length] at hD
      refine ⟨_, rfl, D, _, rfl, .inl (SqL.of hD), rfl, flat_nums _, _, rfl, ?_⟩
      rw [none_inO]
      cases al : ((oddW ws).map numOf).all (·.isSome) with
      | false =>
        refine iteT (kn ?_ _ ((S1.trans S2).trans S3))
        unfold mvP
        rw [List.all_map] at al
        exact if_neg (by rw [show (oddW ws).all (fun w => (numOf w).isSome) = false from al]; decide)
      | true =>
        rw [List.all_map] at al
        have al2 : (oddW ws).all (fun w => (numOf w).isSome) = true := al
        have e2 : mvP ws = mvW (evenW ws) ((oddW ws).map fun w => (numOf w).getD 0) := if_pos al2
        have e3 : ((oddW ws).map numOf).map numV = ((oddW ws).map fun w => (numOf w).getD 0).map V.int := by
          rw [List.map_map, List.map_map]
          refine List.map_congr_left fun q hq => ?_
          have z := List.all_eq_true.mp al2 q hq
          obtain ⟨t, et⟩ := Option.isSome_iff_exists.mp z
          show numV (numOf q) = V.int ((numOf q).getD 0)
          rw [et]
          rfl
        have ids : ∀ t ∈ (oddW ws).map (fun w => (numOf w).getD 0), V3.Idx t := fun t ht => by
          obtain ⟨q, hq, rfl⟩ := List.mem_map.mp ht
          obtain ⟨t, et⟩ := Option.isSome_iff_exists.mp (List.all_eq_true.mp al2 q hq)
          obtain ⟨_, _, cc, d⟩ := numOf_some et
          rw [et]
          exact d (xs q (odd_mem hq) cc)
        rw [e3] at hD
        rw [e2] at k kn
        have hw3 := S3 _ _ (S2 _ _ hw)
        refine iteF ⟨_, rfl, 2, rfl, wa, _, rfl, SqL.of hw3, by decide, ?_, fun qa nq => ?_⟩
        · rw [step_even, List.length_map]
          exact Nat.le_trans (Nat.le_trans le (Nat.add_le_add_right (Nat.le_trans lc (Nat.add_le_add_right xl 1)) 1)) (by decide)
        rw [step_even]
        have S4 : Same H3 (upd H3 qa (.lst ((evenW ws).map V.str))) := Same.new nq
        have hq : upd H3 qa (.lst ((evenW ws).map V.str)) qa = some (.lst ((evenW ws).map V.str)) := upd_same
        generalize upd H3 qa (.lst ((evenW ws).map V.str)) = H4 at S4 hq ⊢
        have S := ((S1.trans S2).trans S3).trans S4
        refine ⟨_, rfl, qa, D, evenW ws, _, rfl, hq, S4 _ _ hD, by omega, fun q hq => wok q (even_mem hq), ids, fun m hm y dy H' s5 hy => k m hm y dy H' (S.trans s5) hy, fun en => ⟨fun H' s5 => kn en H' (S.trans s5), fun d H' s5 hd => ?_⟩⟩
        refine ⟨true, te, fun _ ax nax => ?_, fun z => Bool.noConfusion z⟩
        exact kn en H' (S.trans s5)
end
end V3

set_option Elab.async false
set_option linter.all false
set_option maxRecDepth 100000
/-! readings that leave all as it was, from a heap on: what they answer, by classes of stable things -/
namespace V3
open PySem L2 TL
class St (R : V → Hp → Prop) : Prop where
  st : ∀ v H H', Same H H' → R v H → R v H'
/-- all but the lists may go on -/
class StL (R : V → Hp → Prop) : Prop where
  st : ∀ v H H', Keep H H' → R v H → R v H'
instance {R : V → Hp → Prop} [i : StL R] : St R := ⟨fun v H H' s h => i.st v H H' (Keep.of s) h⟩
theorem upL {R : V → Hp → Prop} [i : StL R] {v : V} {H H' : Hp} (s : Keep H H') (h : R v H) : R v H' := i.st _ _ _ s h
class StA (R : List V → Hp → Prop) : Prop where
  st : ∀ v H H', Same H H' → R v H → R v H'
theorem up {R : V → Hp → Prop} [i : St R] {v : V} {H H' : Hp} (s : Same H H') (h : R v H) : R v H' := i.st _ _ _ s h
theorem stv {R : V → Hp → Prop} [i : St R] : StV R := i.st
instance {i : Int} : StL (isIv i) := ⟨fun _ _ _ _ h => h⟩
instance {i : Str} : StL (isSv i) := ⟨fun _ _ _ _ h => h⟩
instance {i : Bool} : StL (isBv i) := ⟨fun _ _ _ _ h => h⟩
instance {u : V} : StL (isVv u) := ⟨fun _ _ _ _ h => h⟩
/-- a tracked list, a tracked tuple of such things -/
def isL {α : Type} (S : α → V → Hp → Prop) (as : List α) : V → Hp → Prop := fun v H => ∃ D us, v = .ref D ∧ H D = some (.lst us) ∧ Ls (fun u a => S a u H) us as
def isU {α : Type} (S : α → V → Hp → Prop) (as : List α) : V → Hp → Prop := fun v H => ∃ D us, v = .ref D ∧ H D = some (.tup us) ∧ Ls (fun u a => S a u H) us as
instance {α : Type} {S : α → V → Hp → Prop} {as : List α} [∀ a, St (S a)] : St (isL S as) := ⟨fun _ _ _ s ⟨D, us, e, h, l⟩ => ⟨D, us, e, s _ _ h, l.imp fun _ _ r => up s r⟩⟩
instance {α : Type} {S : α → V → Hp → Prop} {as : List α} [∀ a, St (S a)] : St (isU S as) := ⟨fun _ _ _ s ⟨D, us, e, h, l⟩ => ⟨D, us, e, s _ _ h, l.imp fun _ _ r => up s r⟩⟩
instance {α : Type} {S : α → V → Hp → Prop} {as : List α} [∀ a, StL (S a)] : StL (isU S as) := ⟨fun _ _ _ s ⟨D, us, e, h, l⟩ => ⟨D, us, e, s _ _ (fun _ z => by cases z) h, l.imp fun _ _ r => upL s r⟩⟩
theorem Ls.upL {α : Type} {S : α → V → Hp → Prop} [∀ a, StL (S a)] {us : List V} {as : List α} {H H' : Hp} (l : Ls (fun u a => S a u H) us as) (s : Keep H H') : Ls (fun u a => S a u H') us as := l.imp fun _ _ r => V3.upL s r
theorem Ls.up {α : Type} {S : α → V → Hp → Prop} [∀ a, St (S a)] {us : List V} {as : List α} {H H' : Hp} (l : Ls (fun u a => S a u H) us as) (s : Same H H') : Ls (fun u a => S a u H') us as := l.imp fun _ _ r => V3.up s r
abbrev isIs : List Int → V → Hp → Prop := isL isIv
abbrev isSs : List Str → V → Hp → Prop := isL isSv
abbrev isBs : List Bool → V → Hp → Prop := isL isBv
/-- arguments -/
def A0 : List V → Hp → Prop := fun vs _ => vs = []
def AC (R : V → Hp → Prop) (Rs : List V → Hp → Prop) : List V → Hp → Prop := fun vs H => ∃ v r, vs = v :: r ∧ R v H ∧ Rs r H
instance : StA A0 := ⟨fun _ _ _ _ h => h⟩
instance {R : V → Hp → Prop} {Rs : List V → Hp → Prop} [St R] [i : StA Rs] : StA (AC R Rs) := ⟨fun _ _ _ s ⟨v, r, e, h, t⟩ => ⟨v, r, e, up s h, i.st _ _ _ s t⟩⟩
def EvA (W : Hp → Prop) (σ : L2.St) (ta : TA) (Rs : List V → Hp → Prop) : Prop := ∀ H Q, W H → (∀ vs H', Same H H' → W H' → Rs vs H' → Q vs H') → ta σ H Q
section
variable {σ : L2.St} {ta tb te : TE} {ts : TA} {t u : TT} {H0 : Hp} {R Ra Rb : V → Hp → Prop} {Rs : List V → Hp → Prop}
theorem ev_v [St R] {i : Nat} {v : V} (e : σ[i]? = some (some v)) (h : R v H0) : EvV (Same H0) σ (tVar i) R := ev_var e fun _ s => up s h
theorem eva_nil : EvA (Same H0) σ tNil A0 := fun H Q w k => k [] H (Same.refl H) w rfl
theorem eva_cons [St Ra] (ha : EvV (Same H0) σ ta Ra) (hs : EvA (Same H0) σ ts Rs) : EvA (Same H0) σ (tCons ta ts) (AC Ra Rs) := fun H Q w k =>
  ha H _ w fun x H1 s1 w1 r => hs H1 _ w1 fun xs H2 s2 w2 rs => k (x :: xs) H2 (s1.trans s2) w2 ⟨x, xs, rfl, up s2 r, rs⟩
theorem ev_call {sp : Sp} {dvs : List V} {E : XK} (ha : EvA (Same H0) σ ts Rs) (h : ∀ vs H Q, Same H0 H → Rs vs H → (∀ v H', Same H H' → R v H' → Q v H') → sp (vs ++ dvs) H Q E) : EvV (Same H0) σ (tCall sp dvs E ts) R := fun H Q w k =>
  ha H _ w fun vs H1 s1 w1 r => h vs H1 Q w1 r fun v H' s r' => k v H' (s1.trans s) (w1.trans s) r'
theorem ev_cb {r : List V → Hp → VK → Prop} (ha : EvA (Same H0) σ ts Rs) (h : ∀ vs H Q, Same H0 H → Rs vs H → (∀ v H', Same H H' → R v H' → Q v H') → r vs H Q) : EvV (Same H0) σ (tCB r ts) R := fun H Q w k =>
  ha H _ w fun vs H1 s1 w1 r => h vs H1 Q w1 r fun v H' s r' => k v H' (s1.trans s) (w1.trans s) r'
theorem ev_o {r : R2} [St Ra] (ha : EvV (Same H0) σ ta Ra) (hb : EvV (Same H0) σ tb Rb) (h : ∀ x y H Q, Same H0 H → Ra x H → Rb y H → (∀ v H', Same H H' → R v H' → Q v H') → r x y H Q) : EvV (Same H0) σ (tOp r ta tb) R :=
  ev_op stv ha hb fun x y H Q w a b k => h x y H Q w a b fun v H' s r => k v H' s (w.trans s) r
theorem ev_make {C : Addr} {sp : Sp} {dvs : List V} {E : XK} (ha : EvA (Same H0) σ ts Rs) (h : ∀ vs H x dx (Q : VK), Same H0 H → Rs vs H → H x = none → H dx = none → dx ≠ x → (∀ H', Same H H' → R (.ref x) H' → Q .non H') →
    sp (.ref x :: (vs ++ dvs)) (upd (upd H dx (.own x)) x (.ins C dx [])) Q E) : EvV (Same H0) σ (tMake C sp dvs E ts) R := fun H Q w k =>
  ha H _ w fun vs H1 s1 w1 r x dx nx ndx ne => h vs H1 x dx _ w1 r nx ndx ne fun H' s r' => ⟨rfl, k _ H' (s1.trans s) (w1.trans s) r'⟩
theorem ev_meth {C : Addr} {m : Str} {sp : Sp} {dvs : List V} {E : XK} [St Ra] (hx : EvV (Same H0) σ ta Ra) (ho : ∀ x H, Ra x H → ∃ a dx fs, x = .ref a ∧ H a = some (.ins C dx fs) ∧ fs.lookup m = none) (ha : EvA (Same H0) σ ts Rs)
    (h : ∀ x vs H Q, Same H0 H → Ra x H → Rs vs H → (∀ v H', Same H H' → R v H' → Q v H') → sp (x :: (vs ++ dvs)) H Q E) : EvV (Same H0) σ (tMeth C m sp dvs E ta ts) R := fun H Q w k =>
  hx H _ w fun x H1 s1 w1 rx => by
    obtain ⟨a, dx, fs, e, hh, l⟩ := ho x H1 rx
    exact ⟨a, dx, fs, e, hh, l, ha H1 _ w1 fun vs H2 s2 w2 r => h x vs H2 Q w2 (up s2 rx) r fun v H' s r' => k v H' ((s1.trans s2).trans s) (w2.trans s) r'⟩
theorem ev_fld {K : PySem.W.Frag} {f : Str} (ha : EvV (Same H0) σ ta Ra) (h : ∀ x H, Same H0 H → Ra x H → ∃ a C dx fs v, x = .ref a ∧ H a = some (.ins C dx fs) ∧ Cls K C ∧ NoAttr K C f ∧ fs.lookup f = some v ∧ R v H) : EvV (Same H0) σ (tFld K ta f) R := fun H Q w k =>
  ha H _ w fun x H1 s1 w1 rx => by
    obtain ⟨a, C, dx, fs, v, e, hh, c, n, l, r⟩ := h x H1 w1 rx
    exact ⟨a, C, dx, fs, v, e, hh, c, n, l, k v H1 s1 w1 r⟩
theorem ev_tup [i : StA Rs] (ha : EvA (Same H0) σ ts Rs) (n : ∀ vs H, Rs vs H → vs.length ≤ 1000) : EvV (Same H0) σ (tTup ts) (fun v H => ∃ p xs, v = .ref p ∧ H p = some (.tup xs) ∧ Rs xs H) := fun H Q w k =>
  ha H _ w fun vs H1 s1 w1 r => ⟨Nat.le_trans (n _ _ r) (by decide), fun p np => by
    have s2 : Same H1 (upd H1 p (.tup vs)) := Same.new np
    exact k _ _ (s1.trans s2) (w1.trans s2) ⟨p, vs, rfl, upd_same, i.st _ _ _ s2 r⟩⟩
/-- the arguments of a display, all of a sort -/
def EvL {α : Type} (H0 : Hp) (σ : L2.St) (ts : TA) (S : α → V → Hp → Prop) (as : List α) : Prop := EvA (Same H0) σ ts (fun vs H => Ls (fun u a => S a u H) vs as)
theorem Ls.cons {α : Type} {R : V → α → Prop} {vs : List V} {ms : List α} {v : V} {m : α} (t : R v m) (d : Ls R vs ms) : Ls R (v :: vs) (m :: ms) := by
  refine ⟨by simp [d.1], fun i n hn => ?_⟩
  cases i with
  | zero =>
    have e : m = n := by simpa using hn
    subst e
    exact ⟨v, rfl, t⟩
  | succ i =>
    obtain ⟨w, e, r⟩ := d.2 i n (by simpa using hn)
    exact ⟨w, by simpa using e, r⟩
theorem evl_nil {α : Type} {S : α → V → Hp → Prop} : EvL H0 σ tNil S [] := fun H Q w k => k [] H (Same.refl H) w Ls.nil
theorem evl_cons {α : Type} {S : α → V → Hp → Prop} [∀ a, St (S a)] {a : α} {as : List α} (ha : EvV (Same H0) σ ta (S a)) (hs : EvL H0 σ ts S as) : EvL H0 σ (tCons ta ts) S (a :: as) := fun H Q w k =>
  ha H _ w fun x H1 s1 w1 r => hs H1 _ w1 fun xs H2 s2 w2 rs => k (x :: xs) H2 (s1.trans s2) w2 (Ls.cons (up s2 r) rs)
theorem ev_lst {α : Type} {S : α → V → Hp → Prop} [∀ a, St (S a)] {as : List α} (h : EvL H0 σ ts S as) (n : as.length ≤ 1000) : EvV (Same H0) σ (tLst ts) (isL S as) := fun H Q w k =>
  h H _ w fun vs H1 s1 w1 r => ⟨Nat.le_trans (by rw [r.1]; exact n) (by decide), fun p np => by
    have s2 : Same H1 (upd H1 p (.lst vs)) := Same.new np
    exact k _ _ (s1.trans s2) (w1.trans s2) ⟨p, vs, rfl, upd_same, Ls.up r s2⟩⟩
theorem ev_tupU {α : Type} {S : α → V → Hp → Prop} [∀ a, St (S a)] {as : List α} (h : EvL H0 σ ts S as) (n : as.length ≤ 1000) : EvV (Same H0) σ (tTup ts) (isU S as) := fun H Q w k =>
  h H _ w fun vs H1 s1 w1 r => ⟨Nat.le_trans (by rw [r.1]; exact n) (by decide), fun p np => by
    have s2 : Same H1 (upd H1 p (.tup vs)) := Same.new np
    exact k _ _ (s1.trans s2) (w1.trans s2) ⟨p, vs, rfl, upd_same, Ls.up r s2⟩⟩
/-- tests -/
theorem ev_orB {p q : Bool} (h : EvB (Same H0) σ t p) (h2 : p = false → EvB (Same H0) σ u q) : EvB (Same H0) σ (tOr t u) (p || q) := fun H Q w k =>
  h H _ w fun H1 s1 w1 => by
    cases p with
    | true => exact iteT (k H1 s1 w1)
    | false => exact iteF (h2 rfl H1 _ w1 fun H2 s2 w2 => k H2 (s1.trans s2) w2)
theorem ev_andB {p q : Bool} (h : EvB (Same H0) σ t p) (h2 : p = true → EvB (Same H0) σ u q) : EvB (Same H0) σ (tAnd t u) (p && q) := fun H Q w k =>
  h H _ w fun H1 s1 w1 => by
    cases p with
    | false => exact iteF (k H1 s1 w1)
    | true => exact iteT (h2 rfl H1 _ w1 fun H2 s2 w2 => k H2 (s1.trans s2) w2)
theorem ev_notB {p : Bool} (h : EvB (Same H0) σ t p) : EvB (Same H0) σ (tNot t) (!p) := fun H Q w k => h H _ w k
theorem ev_valB {p : Bool} (h : EvV (Same H0) σ te (isBv p)) : EvB (Same H0) σ (tB te) p := fun H Q w k => h H _ w fun v H' s w' e => ⟨p, e, k H' s w'⟩
theorem ev_if {b : Bool} (c : EvB (Same H0) σ t b) (h1 : b = true → EvV (Same H0) σ ta R) (h2 : b = false → EvV (Same H0) σ tb R) : EvV (Same H0) σ (tIf t ta tb) R := fun H Q w k =>
  c H _ w fun H1 s1 w1 => by
    cases b with
    | true => exact iteT (h1 rfl H1 _ w1 fun v H2 s2 w2 r => k v H2 (s1.trans s2) w2 r)
    | false => exact iteF (h2 rfl H1 _ w1 fun v H2 s2 w2 r => k v H2 (s1.trans s2) w2 r)
/-- an if whose test is known -/
theorem if_f {c : TT} {t u : TS} {D : Ends} {H : Hp} (w : Same H0 H) (h : EvB (Same H0) σ c false) (k : ∀ H', Same H H' → u D σ H') : tIfS c t u D σ H := h H _ w fun H' s _ => iteF (k H' s)
theorem if_t {c : TT} {t u : TS} {D : Ends} {H : Hp} (w : Same H0 H) (h : EvB (Same H0) σ c true) (k : ∀ H', Same H H' → t D σ H') : tIfS c t u D σ H := h H _ w fun H' s _ => iteT (k H' s)
/-- what is walked: item by item something that stands for those of a list -/
def EvI {α : Type} (H0 : Hp) (σ : L2.St) (wi : TI) (as : List α) (S : α → V → Hp → Prop) : Prop := ∀ H (Rk : It → Hp → Prop), Same H0 H → (∀ J H1, Same H H1 → (∃ (G : Hp → Prop) (Y : Nat → Hp → V → Hp → Prop), Walk J as.length G Y ∧ (∀ H2, Same H1 H2 → G H2) ∧
  ∀ i H2 x H3, i < as.length → Same H1 H2 → Y i H2 x H3 → Same H2 H3 ∧ ∃ a, as[i]? = some a ∧ S a x H3) → Rk J H1) → wi σ H Rk
theorem evi_list {K : PySem.W.Frag} {α : Type} {S : α → V → Hp → Prop} [∀ a, St (S a)] {as : List α} (h : EvV (Same H0) σ te (isL S as)) : EvI H0 σ (iList K te) as S := fun H Rk w k =>
  h H _ w fun v H1 s1 w1 ⟨D, us, e, hD, l⟩ => ⟨D, e, ⟨us, SqL.of hD⟩, k (Itl K D) H1 s1 ⟨_, _, l.1 ▸ walk_list (K := K) (a := D) (xs := us), fun H2 s => SqL.of (s _ _ hD), fun i H2 x H3 hi s y => by
    obtain ⟨rfl, hx⟩ := y
    obtain ⟨a, ea, r⟩ := Ls.get l hx
    exact ⟨Same.refl _, a, ea, up s r⟩⟩⟩
theorem evi_tup {K : PySem.W.Frag} {α : Type} {S : α → V → Hp → Prop} [∀ a, St (S a)] {as : List α} (h : EvV (Same H0) σ te (fun v H => ∃ D us, v = .ref D ∧ (∀ H', Same H H' → SqT K H' D us) ∧ Ls (fun u a => S a u H) us as)) : EvI H0 σ (iTup K te) as S := fun H Rk w k =>
  h H _ w fun v H1 s1 w1 ⟨D, us, e, hD, l⟩ => ⟨D, e, ⟨us, hD _ (Same.refl _)⟩, k (Itt K D) H1 s1 ⟨_, _, l.1 ▸ walk_tup (K := K) (a := D) (xs := us), fun H2 s => hD _ s, fun i H2 x H3 hi s y => by
    obtain ⟨rfl, hx⟩ := y
    obtain ⟨a, ea, r⟩ := Ls.get l hx
    exact ⟨Same.refl _, a, ea, up s r⟩⟩⟩
/-- the whole numbers from lo on, so many -/
def rgI (lo : Int) (n : Nat) : List Int := (List.range n).map fun i => lo + (i : Nat)
theorem rgI_len {lo : Int} {n : Nat} : (rgI lo n).length = n := by simp [rgI]
theorem rgI_at {lo : Int} {n i : Nat} (h : i < n) : (rgI lo n)[i]? = some (lo + (i : Nat)) := by simp [rgI, h]
theorem evi_rng1 {n : Int} (n0 : 0 ≤ n) (h : EvV (Same H0) σ te (isIv n)) (n1 : n < 2 ^ 62) : EvI H0 σ (iRng1 (tCons te tNil)) (rgI 0 n.toNat) isIv := fun H Rk w k =>
  h H _ w fun v H1 s1 w1 e => by
    cases e
    refine ⟨n, rfl, by omega, n1, k _ H1 s1 ⟨_, _, by rw [rgI_len]; exact walk_range (lo := 0) (n := n.toNat), fun _ _ => trivial, fun i H2 x H3 hi s y => ?_⟩⟩
    obtain ⟨rfl, rfl⟩ := y
    rw [rgI_len] at hi
    exact ⟨Same.refl _, _, rgI_at hi, rfl⟩
/-- a new list of such things -/
def EvNL {α : Type} (H0 : Hp) (σ : L2.St) (te : TE) (S : α → V → Hp → Prop) (as : List α) : Prop := ∀ H Q, Same H0 H → (∀ D us H', H D = none → Same H H' → H' D = some (.lst us) → Ls (fun u a => S a u H') us as → Q (.ref D) H') → te σ H Q
theorem EvNL.ev {α : Type} {S : α → V → Hp → Prop} {as : List α} (h : EvNL H0 σ te S as) : EvV (Same H0) σ te (isL S as) := fun H Q w k => h H Q w fun D us H' _ s hD l => k _ H' s (w.trans s) ⟨D, us, rfl, hD, l⟩
theorem evn_lst {α : Type} {S : α → V → Hp → Prop} [∀ a, St (S a)] {as : List α} (h : EvL H0 σ ts S as) (n : as.length ≤ 1000) : EvNL H0 σ (tLst ts) S as := fun H Q w k =>
  h H _ w fun vs H1 s1 w1 r => ⟨Nat.le_trans (by rw [r.1]; exact n) (by decide), fun p np => by
    have s2 : Same H1 (upd H1 p (.lst vs)) := Same.new np
    exact k p vs _ (s1.free np) (s1.trans s2) upd_same (Ls.up r s2)⟩
/-- a list comprehension -/
theorem evn_lc {α β : Type} {wi : TI} {g : TG} {tt : TT} {vs : List Nat} {as : List α} {S : α → V → Hp → Prop} {S' : β → V → Hp → Prop} [∀ b, StL (S' b)] (p : α → Bool) (f : α → β) (hi : EvI H0 σ wi as S) (hn : as.length ≤ 1000)
    (hb : ∀ a ∈ as, ∀ x H, Same H0 H → S a x H → ∀ K2 : L2.St → Hp → Prop, (∀ σ2 H2, Same H H2 → wipe σ2 vs = wipe σ vs → EvB (Same H2) σ2 tt (p a) → (p a = true → EvV (Same H2) σ2 te (S' (f a))) → K2 σ2 H2) → g x (wipe σ vs) H K2) :
    EvNL H0 σ (tLc wi g tt te vs) S' ((as.filter p).map f) := fun H Q w k => by
  refine hi H _ w fun J H1 s1 ⟨G, Y, wk, hG, hY⟩ D nD => ?_
  refine lc_it wk (fun i Hh => Same H1 Hh ∧ ∃ acc, Hh D = some (.lst acc) ∧ Ls (fun u b => S' b u Hh) acc (((as.take i).filter p).map f)) ⟨Same.new nD, [], upd_same, Ls.nil⟩ (fun i Hh _ z => hG _ z.1) ?_ ?_
  · rintro i x Hh H' hi ⟨s2, acc, hD, ra⟩ y
    obtain ⟨s3, a, ea, rx⟩ := hY i Hh x H' hi s2 y
    have tk : as.take (i + 1) = as.take i ++ [a] := by
      rw [List.take_succ, ea]
      rfl
    have la : acc.length ≤ 1000 := by
      rw [ra.1, List.length_map]
      have z := List.length_filter_le p (as.take i)
      rw [List.length_take] at z
      omega
    refine hb a (List.mem_of_getElem? ea) x H' (w.trans (s1.trans (s2.trans s3))) rx _ fun σ2 H2 s4 ew et ee => ⟨ew, et H2 _ (Same.refl _) fun H3 s5 _ => ?_⟩
    have S5 := (s3.trans s4).trans s5
    cases e : p a with
    | false =>
      refine iteF ⟨s2.trans S5, acc, S5 _ _ hD, ?_⟩
      rw [tk, List.filter_append, List.map_append, List.filter_cons_of_neg (by rw [e]; exact Bool.false_ne_true), List.filter_nil, List.map_nil, List.append_nil]
      exact ra.up S5
    | true =>
      refine iteT (ee e H3 _ s5 fun v H4 s6 _ r => ?_)
      have S6 := S5.trans s6
      have hD4 := S6 _ _ hD
      have nD1 : H1 D = none := nD
      refine ⟨acc, hD4, Nat.lt_of_le_of_lt la (by decide), fun c o h => ?_, acc ++ [v], upd_same, ?_⟩
      · rw [upd_ne (ne_of_none h nD1)]
        exact (s2.trans S6) _ _ h
      · rw [tk, List.filter_append, List.map_append, List.filter_cons_of_pos e, List.filter_nil, List.map_cons, List.map_nil]
        exact Ls.push ((ra.up S6).upL (Keep.lst hD4)) (upL (Keep.lst hD4) r)
  · rintro Hh ⟨s2, acc, hD, ra⟩
    rw [List.take_length] at ra
    exact k D acc Hh (s1.free nD) (s1.trans s2) hD ra
theorem ev_lc {α β : Type} {wi : TI} {g : TG} {tt : TT} {vs : List Nat} {as : List α} {S : α → V → Hp → Prop} {S' : β → V → Hp → Prop} [∀ b, StL (S' b)] (p : α → Bool) (f : α → β) (hi : EvI H0 σ wi as S) (hn : as.length ≤ 1000)
    (hb : ∀ a ∈ as, ∀ x H, Same H0 H → S a x H → ∀ K2 : L2.St → Hp → Prop, (∀ σ2 H2, Same H H2 → wipe σ2 vs = wipe σ vs → EvB (Same H2) σ2 tt (p a) → (p a = true → EvV (Same H2) σ2 te (S' (f a))) → K2 σ2 H2) → g x (wipe σ vs) H K2) :
    EvV (Same H0) σ (tLc wi g tt te vs) (isL S' ((as.filter p).map f)) := (evn_lc p f hi hn hb).ev
end
end V3

set_option Elab.async false
set_option linter.all false
set_option maxRecDepth 100000
/-! == and != of plain data, by classes -/
namespace V3
open PySem L2 TL
/-- what a thing is as plain data -/
class Dt (K : PySem.W.Frag) {α : Type} (S : α → V → Hp → Prop) where
  d : α → PyData
  ok : α → Prop
  n : Nat
  dp : ∀ a v H, S a v H → Dp K H v (d a)
  lay : ∀ a, ok a → (d a).canLay0 = true
  dep : ∀ a, (d a).depth ≤ n
  inj : ∀ a b, ok a → ok b → (PyData.eqv (d a) (d b) = true ↔ a = b)
variable {K : PySem.W.Frag}
instance : Dt K isIv where
  d := .int
  ok := fun _ => True
  n := 0
  dp := fun a v H h => by cases h; exact .int a
  lay := fun a _ => by simp [PyData.canLay0]
  dep := fun a => by simp [PyData.depth]
  inj := fun a b _ _ => by simp [PyData.eqv]
instance : Dt K isBv where
  d := .bool
  ok := fun _ => True
  n := 0
  dp := fun a v H h => by cases h; exact .bl a
  lay := fun a _ => by simp [PyData.canLay0]
  dep := fun a => by simp [PyData.depth]
  inj := fun a b _ _ => by simp [PyData.eqv]
instance : Dt K isSv where
  d := .str
  ok := fun s => PyData.strOk s = true
  n := 0
  dp := fun a v H h => by cases h; exact .str a
  lay := fun a h => by simp [PyData.canLay0, h]
  dep := fun a => by simp [PyData.depth]
  inj := fun a b _ _ => by simp [PyData.eqv]
theorem eqvAll_map {α : Type} {d : α → PyData} : ∀ {as bs : List α}, (∀ a ∈ as, ∀ b ∈ bs, (PyData.eqv (d a) (d b) = true ↔ a = b)) → (PyData.eqvAll (as.map d) (bs.map d) = true ↔ as = bs)
  | [], [], _ => by simp [PyData.eqvAll]
  | [], _ :: _, _ => by simp [PyData.eqvAll]
  | _ :: _, [], _ => by simp [PyData.eqvAll]
  | a :: as, b :: bs, h => by
    have h1 := h a (by simp) b (by simp)
    have h2 := eqvAll_map (as := as) (bs := bs) fun x hx y hy => h x (by simp [hx]) y (by simp [hy])
    simp only [List.map_cons, PyData.eqvAll, Bool.and_eq_true, h1, h2, List.cons.injEq]
theorem lay_map {α : Type} {d : α → PyData} : ∀ {as : List α}, (∀ a ∈ as, (d a).canLay0 = true) → PyData.canLayAll0 (as.map d) = true
  | [], _ => by simp [PyData.canLayAll0]
  | a :: as, h => by
    have z := lay_map (as := as) fun x hx => h x (by simp [hx])
    simp [PyData.canLayAll0, h a (by simp), z]
theorem dep_map {α : Type} {d : α → PyData} {n : Nat} (h : ∀ a, (d a).depth ≤ n) : ∀ as : List α, PyData.depthAll (as.map d) ≤ n
  | [] => by simp [PyData.depthAll]
  | a :: as => by
    have z := dep_map h as
    have y := h a
    simp only [List.map_cons, PyData.depthAll]
    omega
theorem Ls.nil' {α : Type} {R : V → α → Prop} {us : List V} (h : Ls R us []) : us = [] := List.length_eq_zero_iff.mp h.1
theorem Ls.uncons {α : Type} {R : V → α → Prop} {us : List V} {a : α} {as : List α} (h : Ls R us (a :: as)) : ∃ u r, us = u :: r ∧ R u a ∧ Ls R r as := by
  cases us with
  | nil => cases h.1
  | cons u r =>
    obtain ⟨w, e, t⟩ := h.2 0 a rfl
    have e : u = w := by simpa using e
    subst e
    exact ⟨u, r, rfl, t, by simpa using h.1, fun i m hm => by simpa using h.2 (i + 1) m (by simpa using hm)⟩
theorem dpAll_map {α : Type} {S : α → V → Hp → Prop} {d : α → PyData} {H : Hp} (h : ∀ a v, S a v H → Dp K H v (d a)) : ∀ {as : List α} {us : List V}, Ls (fun u a => S a u H) us as → DpAll K H us (as.map d)
  | [], us, l => by
    rw [l.nil']
    exact .nil
  | a :: as, us, l => by
    obtain ⟨u, r, rfl, t, l2⟩ := l.uncons
    exact .cons (h a u t) (dpAll_map h l2)
instance {α : Type} {S : α → V → Hp → Prop} [i : Dt K S] : Dt K (isL S) where
  d := fun as => .list (as.map i.d)
  ok := fun as => ∀ a ∈ as, i.ok a
  n := i.n + 1
  dp := fun as v H ⟨D, us, e, hD, l⟩ => by
    subst e
    exact .lst (SqL.of hD) (dpAll_map (fun a v h => i.dp a v H h) l)
  lay := fun as h => by
    simp only [PyData.canLay0]
    exact lay_map fun a ha => i.lay a (h a ha)
  dep := fun as => by
    have z := dep_map i.dep as
    simp only [PyData.depth]
    omega
  inj := fun as bs ha hb => by
    simp only [PyData.eqv]
    rw [eqvAll_map fun a h1 b h2 => i.inj a b (ha a h1) (hb b h2)]
instance {α : Type} {S : α → V → Hp → Prop} [i : Dt K S] : Dt K (isU S) where
  d := fun as => .tuple (as.map i.d)
  ok := fun as => ∀ a ∈ as, i.ok a
  n := i.n + 1
  dp := fun as v H ⟨D, us, e, hD, l⟩ => by
    subst e
    exact .tup (SqT.of hD) (dpAll_map (fun a v h => i.dp a v H h) l)
  lay := fun as h => by
    simp only [PyData.canLay0]
    exact lay_map fun a ha => i.lay a (h a ha)
  dep := fun as => by
    have z := dep_map i.dep as
    simp only [PyData.depth]
    omega
  inj := fun as bs ha hb => by
    simp only [PyData.eqv]
    rw [eqvAll_map fun a h1 b h2 => i.inj a b (ha a h1) (hb b h2)]
/-- tuples of two, of three, of four -/
def isP2 {α β : Type} (S : α → V → Hp → Prop) (T : β → V → Hp → Prop) (p : α × β) : V → Hp → Prop := fun v H => ∃ D u w, v = .ref D ∧ H D = some (.tup [u, w]) ∧ S p.1 u H ∧ T p.2 w H
instance {α β : Type} {S : α → V → Hp → Prop} {T : β → V → Hp → Prop} [∀ a, St (S a)] [∀ a, St (T a)] {p : α × β} : St (isP2 S T p) := ⟨fun _ _ _ s ⟨D, u, w, e, h, a, b⟩ => ⟨D, u, w, e, s _ _ h, up s a, up s b⟩⟩
instance {α β : Type} {S : α → V → Hp → Prop} {T : β → V → Hp → Prop} [∀ a, StL (S a)] [∀ a, StL (T a)] {p : α × β} : StL (isP2 S T p) := ⟨fun _ _ _ s ⟨D, u, w, e, h, a, b⟩ => ⟨D, u, w, e, s _ _ (fun _ z => by cases z) h, upL s a, upL s b⟩⟩
instance {α β : Type} {S : α → V → Hp → Prop} {T : β → V → Hp → Prop} [i : Dt K S] [j : Dt K T] : Dt K (isP2 S T) where
  d := fun p => .tuple [i.d p.1, j.d p.2]
  ok := fun p => i.ok p.1 ∧ j.ok p.2
  n := max i.n j.n + 1
  dp := fun p v H ⟨D, u, w, e, h, a, b⟩ => by
    subst e
    exact .tup (SqT.of h) (.cons (i.dp _ _ _ a) (.cons (j.dp _ _ _ b) .nil))
  lay := fun p h => by simp [PyData.canLay0, PyData.canLayAll0, i.lay _ h.1, j.lay _ h.2]
  dep := fun p => by
    have a := i.dep p.1
    have b := j.dep p.2
    simp only [PyData.depth, PyData.depthAll]
    omega
  inj := fun p q hp hq => by
    obtain ⟨a, b⟩ := p
    obtain ⟨c, e⟩ := q
    simp only [PyData.eqv, PyData.eqvAll, Bool.and_eq_true, i.inj _ _ hp.1 hq.1, j.inj _ _ hp.2 hq.2, Prod.mk.injEq, and_true]
def isP3 {α β γ : Type} (S : α → V → Hp → Prop) (T : β → V → Hp → Prop) (U : γ → V → Hp → Prop) (p : α × β × γ) : V → Hp → Prop := fun v H => ∃ D u w x, v = .ref D ∧ H D = some (.tup [u, w, x]) ∧ S p.1 u H ∧ T p.2.1 w H ∧ U p.2.2 x H
instance {α β γ : Type} {S : α → V → Hp → Prop} {T : β → V → Hp → Prop} {U : γ → V → Hp → Prop} [∀ a, St (S a)] [∀ a, St (T a)] [∀ a, St (U a)] {p : α × β × γ} : St (isP3 S T U p) := ⟨fun _ _ _ s ⟨D, u, w, x, e, h, a, b, c⟩ => ⟨D, u, w, x, e, s _ _ h, up s a, up s b, up s c⟩⟩
instance {α β γ : Type} {S : α → V → Hp → Prop} {T : β → V → Hp → Prop} {U : γ → V → Hp → Prop} [∀ a, StL (S a)] [∀ a, StL (T a)] [∀ a, StL (U a)] {p : α × β × γ} : StL (isP3 S T U p) := ⟨fun _ _ _ s ⟨D, u, w, x, e, h, a, b, c⟩ => ⟨D, u, w, x, e, s _ _ (fun _ z => by cases z) h, upL s a, upL s b, upL s c⟩⟩
instance {α β γ : Type} {S : α → V → Hp → Prop} {T : β → V → Hp → Prop} {U : γ → V → Hp → Prop} [i : Dt K S] [j : Dt K T] [l : Dt K U] : Dt K (isP3 S T U) where
  d := fun p => .tuple [i.d p.1, j.d p.2.1, l.d p.2.2]
  ok := fun p => i.ok p.1 ∧ j.ok p.2.1 ∧ l.ok p.2.2
  n := max (max i.n j.n) l.n + 1
  dp := fun p v H ⟨D, u, w, x, e, h, a, b, c⟩ => by
    subst e
    exact .tup (SqT.of h) (.cons (i.dp _ _ _ a) (.cons (j.dp _ _ _ b) (.cons (l.dp _ _ _ c) .nil)))
  lay := fun p h => by simp [PyData.canLay0, PyData.canLayAll0, i.lay _ h.1, j.lay _ h.2.1, l.lay _ h.2.2]
  dep := fun p => by
    have a := i.dep p.1
    have b := j.dep p.2.1
    have c := l.dep p.2.2
    simp only [PyData.depth, PyData.depthAll]
    omega
  inj := fun p q hp hq => by
    obtain ⟨a, b, f⟩ := p
    obtain ⟨c, e, g⟩ := q
    simp only [PyData.eqv, PyData.eqvAll, Bool.and_eq_true, i.inj _ _ hp.1 hq.1, j.inj _ _ hp.2.1 hq.2.1, l.inj _ _ hp.2.2 hq.2.2, Prod.mk.injEq, and_true]
section
variable {σ : L2.St} {ta tb te : TE} {ts : TA} {H0 : Hp} {α β γ : Type} {S : α → V → Hp → Prop} {T : β → V → Hp → Prop} {U : γ → V → Hp → Prop} [∀ a, St (S a)] [∀ a, St (T a)] [∀ a, St (U a)] {a b : α} {c : β} {e : γ}
theorem shaped_dt [i : Dt K S] (n : i.n ≤ 64) (h : i.ok a) : SeqAt.shaped (i.d a) = true := by
  have z := i.dep a
  unfold SeqAt.shaped
  rw [i.lay a h, decide_eq_true (by omega)]
  rfl
theorem ev_neD [i : Dt K S] [Decidable (a = b)] (ha : EvV (Same H0) σ ta (S a)) (hb : EvV (Same H0) σ tb (S b)) (oa : i.ok a) (ob : i.ok b) (n : i.n ≤ 64 := by exact Nat.le_of_ble_eq_true rfl) : EvV (Same H0) σ (tOp (rNeD K) ta tb) (isBv (!decide (a = b))) :=
  ev_o ha hb fun x y H Q w hx hy k => ⟨_, _, i.dp _ _ _ hx, i.dp _ _ _ hy, shaped_dt n oa, shaped_dt n ob, k _ H (Same.refl H) (by
    have z := i.inj a b oa ob
    by_cases h : a = b
    · rw [z.mpr h, decide_eq_true h]
      rfl
    · rw [Bool.eq_false_iff.mpr fun q => h (z.mp q), decide_eq_false h]
      rfl)⟩
theorem ev_eqD [i : Dt K S] [Decidable (a = b)] (ha : EvV (Same H0) σ ta (S a)) (hb : EvV (Same H0) σ tb (S b)) (oa : i.ok a) (ob : i.ok b) (n : i.n ≤ 64 := by exact Nat.le_of_ble_eq_true rfl) : EvV (Same H0) σ (tOp (rEqD K) ta tb) (isBv (decide (a = b))) :=
  ev_o ha hb fun x y H Q w hx hy k => ⟨_, _, i.dp _ _ _ hx, i.dp _ _ _ hy, shaped_dt n oa, shaped_dt n ob, k _ H (Same.refl H) (by
    have z := i.inj a b oa ob
    by_cases h : a = b
    · rw [z.mpr h, decide_eq_true h]
      rfl
    · rw [Bool.eq_false_iff.mpr fun q => h (z.mp q), decide_eq_false h]
      rfl)⟩
theorem ev_p2 (ha : EvV (Same H0) σ ta (S a)) (hb : EvV (Same H0) σ tb (T c)) : EvV (Same H0) σ (tTup (tCons ta (tCons tb tNil))) (isP2 S T (a, c)) := fun H Q w k =>
  ha H _ w fun x H1 s1 w1 hx => hb H1 _ w1 fun y H2 s2 w2 hy => ⟨(by show 2 ≤ sizeLine; decide), fun p np => by
    have s3 : Same H2 (upd H2 p (.tup [x, y])) := Same.new np
    exact k _ _ ((s1.trans s2).trans s3) (w2.trans s3) ⟨p, x, y, rfl, upd_same, up (s2.trans s3) hx, up s3 hy⟩⟩
theorem ev_p3 (ha : EvV (Same H0) σ ta (S a)) (hb : EvV (Same H0) σ tb (T c)) (hc : EvV (Same H0) σ te (U e)) : EvV (Same H0) σ (tTup (tCons ta (tCons tb (tCons te tNil)))) (isP3 S T U (a, c, e)) := fun H Q w k =>
  ha H _ w fun x H1 s1 w1 hx => hb H1 _ w1 fun y H2 s2 w2 hy => hc H2 _ w2 fun z H3 s3 w3 hz => ⟨(by show 3 ≤ sizeLine; decide), fun p np => by
    have s4 : Same H3 (upd H3 p (.tup [x, y, z])) := Same.new np
    exact k _ _ (((s1.trans s2).trans s3).trans s4) (w3.trans s4) ⟨p, x, y, z, rfl, upd_same, up ((s2.trans s3).trans s4) hx, up (s3.trans s4) hy, up s4 hz⟩⟩
end
end V3

set_option Elab.async false
set_option linter.all false
set_option maxRecDepth 100000
/-! operators, answered -/
namespace V3
open PySem L2 TL
section
variable {K : PySem.W.Frag} {σ : L2.St} {ta tb te : TE} {t u : TT} {H0 : Hp} {R : V → Hp → Prop} {i j : Int} {b : Bool}
theorem ev_i0 {g : Int → Int → V} (ha : EvV (Same H0) σ ta (isIv i)) (hb : EvV (Same H0) σ tb (isIv j)) : EvV (Same H0) σ (tOp (rI0 g) ta tb) (isVv (g i j)) :=
  ev_o ha hb fun x y H Q w ex ey k => ⟨i, j, ex, ey, k _ H (Same.refl H) rfl⟩
theorem ev_i1 {C : Int → Int → Prop} {g : Int → Int → V} (c : C i j) (ha : EvV (Same H0) σ ta (isIv i)) (hb : EvV (Same H0) σ tb (isIv j)) : EvV (Same H0) σ (tOp (rI C g) ta tb) (isVv (g i j)) :=
  ev_o ha hb fun x y H Q w ex ey k => ⟨i, j, ex, ey, c, k _ H (Same.refl H) rfl⟩
theorem ev_ad (ha : EvV (Same H0) σ ta (isIv i)) (hb : EvV (Same H0) σ tb (isIv j)) : EvV (Same H0) σ (tOp (rI0 fun i j => .int (i + j)) ta tb) (isIv (i + j)) := ev_i0 (g := fun i j => .int (i + j)) ha hb
theorem ev_sb (ha : EvV (Same H0) σ ta (isIv i)) (hb : EvV (Same H0) σ tb (isIv j)) : EvV (Same H0) σ (tOp (rI0 fun i j => .int (i - j)) ta tb) (isIv (i - j)) := ev_i0 (g := fun i j => .int (i - j)) ha hb
theorem ev_lt (ha : EvV (Same H0) σ ta (isIv i)) (hb : EvV (Same H0) σ tb (isIv j)) : EvV (Same H0) σ (tOp (rI0 fun i j => .bl (decide (i < j))) ta tb) (isBv (decide (i < j))) := ev_i0 (g := fun i j => .bl (decide (i < j))) ha hb
theorem ev_le (ha : EvV (Same H0) σ ta (isIv i)) (hb : EvV (Same H0) σ tb (isIv j)) : EvV (Same H0) σ (tOp (rI0 fun i j => .bl (decide (i ≤ j))) ta tb) (isBv (decide (i ≤ j))) := ev_i0 (g := fun i j => .bl (decide (i ≤ j))) ha hb
theorem ev_gt (ha : EvV (Same H0) σ ta (isIv i)) (hb : EvV (Same H0) σ tb (isIv j)) : EvV (Same H0) σ (tOp (rI0 fun i j => .bl (decide (j < i))) ta tb) (isBv (decide (j < i))) := ev_i0 (g := fun i j => .bl (decide (j < i))) ha hb
theorem ev_ge (ha : EvV (Same H0) σ ta (isIv i)) (hb : EvV (Same H0) σ tb (isIv j)) : EvV (Same H0) σ (tOp (rI0 fun i j => .bl (decide (j ≤ i))) ta tb) (isBv (decide (j ≤ i))) := ev_i0 (g := fun i j => .bl (decide (j ≤ i))) ha hb
theorem ev_mod (c : 0 < j) (ha : EvV (Same H0) σ ta (isIv i)) (hb : EvV (Same H0) σ tb (isIv j)) : EvV (Same H0) σ (tOp (rI (fun _ j => 0 < j) fun i j => .int (i % j)) ta tb) (isIv (i % j)) := ev_i1 (g := fun i j => .int (i % j)) c ha hb
theorem ev_mul (c : CMul i j) (ha : EvV (Same H0) σ ta (isIv i)) (hb : EvV (Same H0) σ tb (isIv j)) : EvV (Same H0) σ (tOp (rI CMul fun i j => .int (i * j)) ta tb) (isIv (i * j)) := ev_i1 (g := fun i j => .int (i * j)) c ha hb
theorem ev_pow (c : CPow i j) (ha : EvV (Same H0) σ ta (isIv i)) (hb : EvV (Same H0) σ tb (isIv j)) : EvV (Same H0) σ (tOp (rI CPow fun i j => .int (i ^ j.toNat)) ta tb) (isIv (i ^ j.toNat)) := ev_i1 (g := fun i j => .int (i ^ j.toNat)) c ha hb
theorem ev_ng (ha : EvV (Same H0) σ ta (isIv i)) : EvV (Same H0) σ (tUn (rU fun i => .int (-i)) ta) (isIv (-i)) := fun H Q w k => ha H _ w fun v H' s w' e => ⟨i, e, k _ H' s w' rfl⟩
theorem ev_int1 (ha : EvV (Same H0) σ ta (isIv i)) : EvV (Same H0) σ (tCB (fun xs H Q => (∃ i, xs = [.int i] ∧ Q (.int i) H) ∨ ∃ k, xs = [.bl k] ∧ Q (.int (if k then 1 else 0)) H) (tCons ta tNil)) (isIv i) := fun H Q w k =>
  ha H _ w fun v H' s w' e => by
    cases e
    exact .inl ⟨i, rfl, k _ H' s w' rfl⟩
theorem ev_cat {x y : Str} (n : x.length + y.length ≤ 100000) (ha : EvV (Same H0) σ ta (isSv x)) (hb : EvV (Same H0) σ tb (isSv y)) : EvV (Same H0) σ (tOp (fun x y H Q => ∃ i j, x = .str i ∧ y = .str j ∧ i.length + j.length ≤ sizeLine ∧ Q (.str (i ++ j)) H) ta tb) (isSv (x ++ y)) :=
  ev_o ha hb fun _ _ H Q w ex ey k => ⟨x, y, ex, ey, Nat.le_trans n (by decide), k _ H (Same.refl H) rfl⟩
theorem ev_eqi (ha : EvV (Same H0) σ ta (isIv i)) (hb : EvV (Same H0) σ tb (isIv j)) : EvV (Same H0) σ (tOp rEq ta tb) (isBv (decide (i = j))) :=
  ev_o ha hb fun x y H Q w ex ey k => by
    cases ex
    cases ey
    refine ⟨rfl, k _ H (Same.refl H) ?_⟩
    have e : (V.int i = V.int j) ↔ (i = j) := ⟨fun z => by injection z, fun z => by rw [z]⟩
    show V.bl (decide (V.int i = V.int j)) = V.bl (decide (i = j))
    by_cases h : i = j
    · rw [decide_eq_true h, decide_eq_true (e.mpr h)]
    · rw [decide_eq_false h, decide_eq_false (fun z => h (e.mp z))]
theorem ev_is {b' : Bool} (h : EvV (Same H0) σ ta (isBv b)) (e : b = b') : EvV (Same H0) σ ta (isBv b') := e ▸ h
theorem ev_at (ha : EvV (Same H0) σ ta (isBv true)) (hb : EvV (Same H0) σ tb R) : EvV (Same H0) σ (tAndV ta tb) R := fun H Q w k => ha H _ w fun v H1 s1 w1 e => ⟨true, e, iteT (hb H1 _ w1 fun v H2 s2 w2 r => k v H2 (s1.trans s2) w2 r)⟩
theorem ev_af (ha : EvV (Same H0) σ ta (isBv false)) : EvV (Same H0) σ (tAndV ta tb) (isBv false) := fun H Q w k => ha H _ w fun v H1 s1 w1 e => ⟨false, e, iteF (k _ H1 s1 w1 rfl)⟩
theorem ev_av {p q : Bool} (ha : EvV (Same H0) σ ta (isBv p)) (hb : p = true → EvV (Same H0) σ tb (isBv q)) : EvV (Same H0) σ (tAndV ta tb) (isBv (p && q)) := by
  cases p with
  | true => exact ev_at ha (hb rfl)
  | false => exact ev_af ha
theorem ev_ov {p q : Bool} (ha : EvV (Same H0) σ ta (isBv p)) (hb : p = false → EvV (Same H0) σ tb (isBv q)) : EvV (Same H0) σ (tOrV ta tb) (isBv (p || q)) := fun H Q w k => ha H _ w fun v H1 s1 w1 e => by
  cases p with
  | true => exact ⟨true, e, iteT (k _ H1 s1 w1 rfl)⟩
  | false => exact ⟨false, e, iteF (hb rfl H1 _ w1 fun v H2 s2 w2 r => k v H2 (s1.trans s2) w2 r)⟩
theorem ev_nv {p : Bool} (ha : EvV (Same H0) σ ta (isBv p)) : EvV (Same H0) σ (tNotV ta) (isBv (!p)) := fun H Q w k => ha H _ w fun v H1 s1 w1 e => ⟨p, e, k _ H1 s1 w1 rfl⟩
/-- len of a list, of a tuple -/
theorem ev_lenL {α : Type} {S : α → V → Hp → Prop} {as : List α} (ha : EvV (Same H0) σ ta (isL S as)) : EvV (Same H0) σ (tCB (fun xs H Q => ∃ p ys, xs = [.ref p] ∧ (SqL K H p ys ∨ SqT K H p ys) ∧ Q (.int (ys.length : Int)) H) (tCons ta tNil)) (isIv (as.length : Int)) := fun H Q w k =>
  ha H _ w fun x H1 s1 w1 hx => by
    obtain ⟨D, us, rfl, hD, l⟩ := hx
    exact ⟨D, us, rfl, .inl (SqL.of hD), k _ H1 s1 w1 (by rw [l.1]; rfl)⟩
theorem ev_lenU {α : Type} {S : α → V → Hp → Prop} {as : List α} (ha : EvV (Same H0) σ ta (isU S as)) : EvV (Same H0) σ (tCB (fun xs H Q => ∃ p ys, xs = [.ref p] ∧ (SqL K H p ys ∨ SqT K H p ys) ∧ Q (.int (ys.length : Int)) H) (tCons ta tNil)) (isIv (as.length : Int)) := fun H Q w k =>
  ha H _ w fun x H1 s1 w1 hx => by
    obtain ⟨D, us, rfl, hD, l⟩ := hx
    exact ⟨D, us, rfl, .inr (SqT.of hD), k _ H1 s1 w1 (by rw [l.1]; rfl)⟩
theorem Ls.eqs {us ws : List V} {H : Hp} (h : Ls (fun u a => isVv a u H) us ws) : us = ws := by
  refine List.ext_getElem? fun i => ?_
  cases e : ws[i]? with
  | none =>
    have z : ws.length ≤ i := List.getElem?_eq_none_iff.mp e
    rw [List.getElem?_eq_none_iff, h.1]
    exact z
  | some m =>
    obtain ⟨v, ev, q⟩ := h.2 i m e
    have q : v = m := q
    rw [ev, q]
end
end V3

set_option Elab.async false
set_option linter.all false
set_option maxRecDepth 100000
/-! lists cut, joined, turned round; texts split and joined, answered -/
namespace V3
open PySem L2 TL
def cutA {α : Type} (xs : List α) (lo hi : Option Int) : List α := (xs.drop (HT.sIx xs.length 0 lo)).take (HT.sIx xs.length xs.length hi - HT.sIx xs.length 0 lo)
theorem cutA_all {α : Type} (xs : List α) : cutA xs none none = xs := by
  unfold cutA
  rw [HT.sIx_none, HT.sIx_none]
  simp
theorem cutA_from {α : Type} (xs : List α) (n : Nat) : cutA xs (some (n : Int)) none = xs.drop n := by
  unfold cutA
  rw [HT.sIx_nat, HT.sIx_none]
  by_cases h : n ≤ xs.length
  · rw [Nat.min_eq_left h]
    exact List.take_of_length_le (Nat.le_of_eq (List.length_drop ..))
  · rw [Nat.min_eq_right (by omega), List.drop_length, List.drop_eq_nil_of_le (by omega)]
    simp
theorem cutA_to {α : Type} (xs : List α) (n : Nat) : cutA xs none (some (n : Int)) = xs.take n := by
  unfold cutA
  rw [HT.sIx_nat, HT.sIx_none, List.drop_zero, Nat.sub_zero]
  by_cases h : n ≤ xs.length
  · rw [Nat.min_eq_left h]
  · rw [Nat.min_eq_right (by omega), List.take_length, List.take_of_length_le (by omega)]
theorem cutA_mid {α : Type} (xs : List α) (n m : Nat) : cutA xs (some (n : Int)) (some (m : Int)) = (xs.take m).drop n := by
  unfold cutA
  rw [HT.sIx_nat, HT.sIx_nat]
  by_cases h : n ≤ xs.length
  · rw [Nat.min_eq_left h, List.drop_take]
    by_cases k : m ≤ xs.length
    · rw [Nat.min_eq_left k]
    · rw [Nat.min_eq_right (by omega), List.take_of_length_le (Nat.le_of_eq (List.length_drop ..)), List.take_of_length_le (by rw [List.length_drop]; omega)]
  · rw [Nat.min_eq_right (a := n) (by omega), List.drop_length, List.drop_eq_nil_of_le (by rw [List.length_take]; omega)]
    simp
theorem Ls.drop {α : Type} {R : V → α → Prop} {us : List V} {as : List α} (l : Ls R us as) (n : Nat) : Ls R (us.drop n) (as.drop n) := ⟨by rw [List.length_drop, List.length_drop, l.1], fun i m h => by
  rw [List.getElem?_drop] at h ⊢
  exact l.2 _ _ h⟩
theorem Ls.take {α : Type} {R : V → α → Prop} {us : List V} {as : List α} (l : Ls R us as) (n : Nat) : Ls R (us.take n) (as.take n) := ⟨by rw [List.length_take, List.length_take, l.1], fun i m h => by
  rw [List.getElem?_take] at h ⊢
  by_cases c : i < n
  · rw [if_pos c] at h ⊢
    exact l.2 _ _ h
  · rw [if_neg c] at h
    cases h⟩
theorem Ls.app {α : Type} {R : V → α → Prop} {us vs : List V} {as bs : List α} (l : Ls R us as) (k : Ls R vs bs) : Ls R (us ++ vs) (as ++ bs) := ⟨by rw [List.length_append, List.length_append, l.1, k.1], fun i m h => by
  by_cases c : i < as.length
  · rw [List.getElem?_append_left c] at h
    rw [List.getElem?_append_left (by rw [l.1]; exact c)]
    exact l.2 _ _ h
  · rw [List.getElem?_append_right (by omega)] at h
    rw [List.getElem?_append_right (by rw [l.1]; omega), l.1]
    exact k.2 _ _ h⟩
theorem Ls.rev {α : Type} {R : V → α → Prop} {us : List V} {as : List α} (l : Ls R us as) : Ls R us.reverse as.reverse := ⟨by rw [List.length_reverse, List.length_reverse, l.1], fun i m h => by
  have lt : i < as.length := by
    have z := (List.getElem?_eq_some_iff.mp h).1
    rw [List.length_reverse] at z
    exact z
  rw [List.getElem?_reverse lt] at h
  rw [List.getElem?_reverse (by rw [l.1]; exact lt), l.1]
  exact l.2 _ _ h⟩
theorem Ls.put {α : Type} {R : V → α → Prop} {us : List V} {as : List α} {v : V} {a : α} (l : Ls R us as) (r : R v a) (j : Nat) : Ls R (us.set j v) (as.set j a) := ⟨by rw [List.length_set, List.length_set, l.1], fun i m h => by
  rw [List.getElem?_set] at h ⊢
  by_cases c : j = i
  · rw [if_pos c] at h ⊢
    by_cases q : j < as.length
    · rw [if_pos q] at h
      rw [if_pos (by rw [l.1]; exact q)]
      cases h
      exact ⟨v, rfl, r⟩
    · rw [if_neg q] at h
      cases h
  · rw [if_neg c] at h ⊢
    exact l.2 _ _ h⟩
theorem Ls.cut {α : Type} {R : V → α → Prop} {us : List V} {as : List α} (l : Ls R us as) (lo hi : Option Int) : Ls R (cutV us lo hi) (cutA as lo hi) := by
  unfold cutV cutA
  rw [l.1]
  exact (l.drop _).take _
theorem Ls.strs : ∀ {H : Hp} (as : List Str), Ls (fun u a => isSv a u H) (as.map V.str) as := fun as => ⟨by rw [List.length_map], fun i m h => ⟨.str m, by rw [List.getElem?_map, h]; rfl, rfl⟩⟩
theorem Ls.toStrs {H : Hp} {us : List V} {as : List Str} (l : Ls (fun u a => isSv a u H) us as) : us = as.map V.str := by
  refine List.ext_getElem? fun i => ?_
  cases e : as[i]? with
  | none =>
    have z : as.length ≤ i := List.getElem?_eq_none_iff.mp e
    rw [List.getElem?_map, e, List.getElem?_eq_none (by rw [l.1]; exact z)]
    rfl
  | some m =>
    obtain ⟨v, ev, q⟩ := l.2 i m e
    have q : v = .str m := q
    rw [ev, q, List.getElem?_map, e]
    rfl
section
variable {K : PySem.W.Frag} {σ : L2.St} {ta tb te : TE} {tl th : TO} {H0 : Hp} {α : Type} {S : α → V → Hp → Prop} {as bs : List α} {x y : Str}
theorem evn_cut [∀ a, St (S a)] {lo hi : Option Int} (ha : EvV (Same H0) σ ta (isL S as)) (hl : EvO (Same H0) σ tl lo) (hh : EvO (Same H0) σ th hi) : EvNL H0 σ (tSl (rSlL K) ta tl th) S (cutA as lo hi) := fun H Q w k =>
  ha H _ w fun v H1 s1 w1 hv => hl H1 _ w1 fun H2 s2 w2 => hh H2 _ w2 fun H3 s3 w3 => by
    obtain ⟨D, us, rfl, hD, l⟩ := up (s2.trans s3) hv
    refine ⟨D, us, rfl, SqL.of hD, fun p np => ?_⟩
    have s4 : Same H3 (upd H3 p (.lst (cutV us lo hi))) := Same.new np
    have S3 := (s1.trans s2).trans s3
    exact k p _ _ (S3.free np) (S3.trans s4) upd_same ((l.cut lo hi).up s4)
theorem evn_cat [∀ a, St (S a)] (ha : EvV (Same H0) σ ta (isL S as)) (hb : EvV (Same H0) σ tb (isL S bs)) (n : as.length + bs.length ≤ 1000) : EvNL H0 σ (tOp rCat ta tb) S (as ++ bs) := fun H Q w k =>
  ha H _ w fun v H1 s1 w1 hv => hb H1 _ w1 fun u H2 s2 w2 hu => by
    obtain ⟨D, us, rfl, hD, l⟩ := up s2 hv
    obtain ⟨B, vs, rfl, hB, m⟩ := hu
    refine ⟨D, B, us, vs, rfl, rfl, hD, hB, Nat.le_trans (by rw [l.1, m.1]; exact n) (by decide), fun p np => ?_⟩
    have s4 : Same H2 (upd H2 p (.lst (us ++ vs))) := Same.new np
    exact k p _ _ ((s1.trans s2).free np) ((s1.trans s2).trans s4) upd_same ((l.app m).up s4)
theorem evn_rev [∀ a, St (S a)] (ha : EvV (Same H0) σ ta (isL S as)) : EvNL H0 σ (tRevL K ta) S as.reverse := fun H Q w k =>
  ha H _ w fun v H1 s1 w1 hv => by
    obtain ⟨D, us, rfl, hD, l⟩ := hv
    refine ⟨D, us, rfl, SqL.of hD, fun p np => ?_⟩
    have s4 : Same H1 (upd H1 p (.lst us.reverse)) := Same.new np
    exact k p _ _ (s1.free np) (s1.trans s4) upd_same (l.rev.up s4)
/-- an item of a list, of a tuple, by its number -/
theorem ev_ixL [∀ a, St (S a)] {n : Nat} {a : α} (e : as[n]? = some a) (ha : EvV (Same H0) σ ta (isL S as)) (hb : EvV (Same H0) σ tb (isIv (n : Int))) : EvV (Same H0) σ (tOp (rIxL K) ta tb) (S a) :=
  ev_o ha hb fun v u H Q w hv hu k => by
    obtain ⟨D, us, rfl, hD, l⟩ := hv
    cases hu
    obtain ⟨z, ez, r⟩ := l.2 n a e
    have lt : n < us.length := (List.getElem?_eq_some_iff.mp ez).1
    refine ⟨D, us, (n : Int), z, rfl, rfl, SqL.of hD, ?_, k z H (Same.refl H) r⟩
    show (ixN us.length (n : Int)).bind (fun j => us[j]?) = _
    have ei : ixN us.length (n : Int) = some n := by
      unfold ixN
      rw [if_pos (by omega), if_pos (by omega)]
      rfl
    rw [ei]
    exact ez
theorem ev_ixU [∀ a, St (S a)] {n : Nat} {a : α} (e : as[n]? = some a) (ha : EvV (Same H0) σ ta (isU S as)) (hb : EvV (Same H0) σ tb (isIv (n : Int))) : EvV (Same H0) σ (tOp (rIxT K) ta tb) (S a) :=
  ev_o ha hb fun v u H Q w hv hu k => by
    obtain ⟨D, us, rfl, hD, l⟩ := hv
    cases hu
    obtain ⟨z, ez, r⟩ := l.2 n a e
    have lt : n < us.length := (List.getElem?_eq_some_iff.mp ez).1
    refine ⟨D, us, (n : Int), z, rfl, rfl, SqT.of hD, ?_, k z H (Same.refl H) r⟩
    show (ixN us.length (n : Int)).bind (fun j => us[j]?) = _
    have ei : ixN us.length (n : Int) = some n := by
      unfold ixN
      rw [if_pos (by omega), if_pos (by omega)]
      rfl
    rw [ei]
    exact ez
/-- text.split(sep) -/
theorem evn_split (n : x.length ≤ 100000) (hy : (y.length == 0) = false) (ha : EvV (Same H0) σ ta (isSv x)) (hb : EvV (Same H0) σ tb (isSv y)) :
    EvNL H0 σ (tM1 (fun x xs H Q => ∃ a b, x = .str a ∧ xs = [.str b] ∧ (b.length == 0) = false ∧ a.length + 2 ≤ sizeLine ∧ rNewStrs (Txt.split a b) H Q) ta tb) isSv (Txt.split x y) := fun H Q w k =>
  ha H _ w fun v H1 s1 w1 e => ⟨⟨x, e⟩, hb H1 _ w1 fun u H2 s2 w2 e2 => by
    cases e
    cases e2
    refine ⟨x, y, rfl, rfl, hy, Nat.le_trans (Nat.add_le_add_right n 2) (by decide), fun p np => ?_⟩
    have s4 : Same H2 (upd H2 p (.lst ((Txt.split x y).map V.str))) := Same.new np
    exact k p _ _ ((s1.trans s2).free np) ((s1.trans s2).trans s4) upd_same (Ls.strs _)⟩
/-- sep.join(texts) -/
theorem ev_joinLs {L : List Str} (hy : y.length ≤ 4) (n : (L.map (·.length)).sum + L.length ≤ 100000) (ha : EvV (Same H0) σ ta (isSv y)) (hb : EvV (Same H0) σ tb (isSs L)) : EvV (Same H0) σ (tM1 (rJoinK K) ta tb) (isSv (Str.join y L)) := fun H Q w k =>
  ha H _ w fun v H1 s1 w1 e => ⟨⟨y, e⟩, hb H1 _ w1 fun u H2 s2 w2 hu => by
    cases e
    obtain ⟨D, us, rfl, hD, l⟩ := hu
    have el := l.toStrs
    subst el
    refine ⟨y, D, L, rfl, rfl, .inl (SqL.of hD), ?_, k _ H2 (s1.trans s2) w2 (by rw [join_eq]; rfl)⟩
    have z : L.length * y.length ≤ L.length * 4 := Nat.mul_le_mul_left _ hy
    refine Nat.le_trans (m := 500000) ?_ (by decide)
    first | omega | (rw [Nat.mul_comm]; omega) | (simp only [List.length_map]; omega)⟩
theorem EvNL.isL {S : α → V → Hp → Prop} (h : EvNL H0 σ te S as) : EvV (Same H0) σ te (isL S as) := h.ev
end
end V3

set_option Elab.async false
set_option linter.all false
set_option maxRecDepth 100000
/-! in, str of a number, enumerate, != of scalars, answered; a class method within a try -/
namespace V3
open PySem L2 TL
theorem inV_strE {k : Str} {L : List Str} : inV (.str k) (L.map V.str) = decide (k ∈ L) := by
  induction L with
  | nil => rfl
  | cons a r ih =>
    have e : inV (.str k) ((a :: r).map V.str) = (a == k || inV (.str k) (r.map V.str)) := rfl
    rw [e, ih]
    by_cases q : k = a
    · subst q
      simp
    · have z : (a == k) = false := Bool.eq_false_iff.mpr fun w => q (eq_of_beq w).symm
      rw [z]
      simp [q]
theorem flat_strE (L : List Str) : (L.map V.str).all flatV = true := by
  induction L with
  | nil => rfl
  | cons a r ih => simpa [flatV] using ih
def negB (neg b : Bool) : Bool := if neg then !b else b
section
variable {K : PySem.W.Frag} {σ : L2.St} {ta tb te : TE} {ts : TA} {H0 : Hp} {R : V → Hp → Prop} {x : Str} {L : List Str} {i : Int} {neg : Bool} {u v : V}
theorem ev_inL (ha : EvV (Same H0) σ ta (isSv x)) (hb : EvV (Same H0) σ tb (isSs L)) : EvV (Same H0) σ (tOp (rIn K neg) ta tb) (isBv (negB neg (decide (x ∈ L)))) :=
  ev_o ha hb fun a b H Q w ea hb k => by
    cases ea
    obtain ⟨D, us, rfl, hD, l⟩ := hb
    have e := l.toStrs
    subst e
    exact ⟨D, _, rfl, .inl (SqL.of hD), rfl, flat_strE _, k _ H (Same.refl H) (by rw [inV_strE]; rfl)⟩
theorem ev_inT (ha : EvV (Same H0) σ ta (isSv x)) (hb : EvV (Same H0) σ tb (isU isSv L)) : EvV (Same H0) σ (tOp (rIn K neg) ta tb) (isBv (negB neg (decide (x ∈ L)))) :=
  ev_o ha hb fun a b H Q w ea hb k => by
    cases ea
    obtain ⟨D, us, rfl, hD, l⟩ := hb
    have e := l.toStrs
    subst e
    exact ⟨D, _, rfl, .inr (SqT.of hD), rfl, flat_strE _, k _ H (Same.refl H) (by rw [inV_strE]; rfl)⟩
theorem ev_num (am : i.natAbs.log2 < 1920) (ha : EvV (Same H0) σ ta (isIv i)) : EvV (Same H0) σ (tCB (fun xs H Q => ∃ i, xs = [.int i] ∧ i.natAbs.log2 < 1920 ∧ Q (.str (toString i)) H) (tCons ta tNil)) (isSv (toString i)) := fun H Q w k =>
  ha H _ w fun y H1 s1 w1 e => by
    cases e
    exact ⟨i, rfl, am, k _ H1 s1 w1 rfl⟩
theorem ev_neV (sc : scal u v = true) (ha : EvV (Same H0) σ ta (isVv u)) (hb : EvV (Same H0) σ tb (isVv v)) : EvV (Same H0) σ (tOp rNe ta tb) (isBv (!decide (u = v))) :=
  ev_o ha hb fun a b H Q w ea eb k => by
    cases ea
    cases eb
    exact ⟨sc, k _ H (Same.refl H) rfl⟩
theorem ev_eqV (sc : scal u v = true) (ha : EvV (Same H0) σ ta (isVv u)) (hb : EvV (Same H0) σ tb (isVv v)) : EvV (Same H0) σ (tOp rEq ta tb) (isBv (decide (u = v))) :=
  ev_o ha hb fun a b H Q w ea eb k => by
    cases ea
    cases eb
    exact ⟨sc, k _ H (Same.refl H) rfl⟩
theorem ev_isN (ha : EvV (Same H0) σ ta (isVv u)) : EvV (Same H0) σ (tOp (fun x y H Q => y = V.non ∧ Q (.bl (decide (x = .non))) H) ta (tC .non)) (isBv (decide (u = .non))) :=
  ev_o (Ra := isVv u) (Rb := isVv .non) ha ev_c fun a b H Q w ea eb k => by
    cases ea
    cases eb
    exact ⟨rfl, k _ H (Same.refl H) rfl⟩
/-- an if, either way -/
theorem if_b {c : TT} {t u : TS} {D : Ends} {H : Hp} {b : Bool} (w : Same H0 H) (h : EvB (Same H0) σ c b) (kt : b = true → ∀ H', Same H H' → t D σ H') (kf : b = false → ∀ H', Same H H' → u D σ H') : tIfS c t u D σ H := h H _ w fun H' s _ => by
  cases b with
  | true => exact iteT (kt rfl H' s)
  | false => exact iteF (kf rfl H' s)
theorem evi_tupU {α : Type} {S : α → V → Hp → Prop} [∀ a, St (S a)] {as : List α} (ha : EvV (Same H0) σ te (isU S as)) : EvI H0 σ (iTup K te) as S :=
  evi_tup (ev_to ha fun v H ⟨D, us, e, hD, l⟩ => ⟨D, us, e, fun H' s => SqT.of (s _ _ hD), l⟩)
theorem evn_lcY {α β : Type} {wi : TI} {i : Nat} {as : List α} {S : α → V → Hp → Prop} {S' : β → V → Hp → Prop} [∀ b, StL (S' b)] (f : α → β) (hi : EvI H0 σ wi as S) (hn : as.length ≤ 1000)
    (hb : ∀ a ∈ as, ∀ x H, Same H0 H → S a x H → EvV (Same H) ((wipe σ [i]).set i (some x)) te (S' (f a))) (hw : ∀ x : V, wipe ((wipe σ [i]).set i (some x)) [i] = wipe σ [i]) :
    EvNL H0 σ (tLc wi (gName i) tYes te [i]) S' (as.map f) := by
  have z := evn_lc (tt := tYes) (te := te) (vs := [i]) (g := gName i) (S' := S') (fun _ => true) f hi hn fun a ha x H w r K2 k => k _ _ (Same.refl H) (hw x) (fun H Q w k => k H (Same.refl H) w) fun _ => hb a ha x H w r
  rw [List.filter_eq_self.mpr fun _ _ => rfl] at z
  exact z
theorem ev_lcY {α β : Type} {wi : TI} {i : Nat} {as : List α} {S : α → V → Hp → Prop} {S' : β → V → Hp → Prop} [∀ b, StL (S' b)] (f : α → β) (hi : EvI H0 σ wi as S) (hn : as.length ≤ 1000)
    (hb : ∀ a ∈ as, ∀ x H, Same H0 H → S a x H → EvV (Same H) ((wipe σ [i]).set i (some x)) te (S' (f a))) (hw : ∀ x : V, wipe ((wipe σ [i]).set i (some x)) [i] = wipe σ [i]) :
    EvV (Same H0) σ (tLc wi (gName i) tYes te [i]) (isL S' (as.map f)) := (evn_lcY f hi hn hb hw).ev
/-- none of them passes the test -/
theorem ev_lcN {α β : Type} {wi : TI} {i : Nat} {as : List α} {S : α → V → Hp → Prop} {tt : TT} (S' : β → V → Hp → Prop) [∀ b, StL (S' b)] (f : α → β) (hi : EvI H0 σ wi as S) (hn : as.length ≤ 1000)
    (hb : ∀ a ∈ as, ∀ x H, Same H0 H → S a x H → EvB (Same H) ((wipe σ [i]).set i (some x)) tt false) (hw : ∀ x : V, wipe ((wipe σ [i]).set i (some x)) [i] = wipe σ [i]) :
    EvV (Same H0) σ (tLc wi (gName i) tt te [i]) (isL S' []) := by
  have z := ev_lc (tt := tt) (te := te) (vs := [i]) (g := gName i) (S' := S') (fun _ => false) f hi hn fun a ha x H w r K2 k => k _ _ (Same.refl H) (hw x) (hb a ha x H w r) fun e => by cases e
  rw [List.filter_eq_nil_iff.mpr fun _ _ => Bool.false_ne_true] at z
  exact z
/-- pairs of places and items -/
def enumF {α : Type} : Nat → List α → List (Nat × α)
  | _, [] => []
  | j, x :: r => (j, x) :: enumF (j + 1) r
theorem enumF_len {α : Type} : ∀ {L : List α} {j : Nat}, (enumF j L).length = L.length
  | [], _ => rfl
  | _ :: r, j => by
    show (enumF (j + 1) r).length + 1 = r.length + 1
    rw [enumF_len]
theorem enumF_get {α : Type} : ∀ {L : List α} {j i : Nat}, (enumF j L)[i]? = L[i]?.map fun x => (j + i, x)
  | [], _, _ => by simp [enumF]
  | x :: r, j, 0 => rfl
  | x :: r, j, i + 1 => by
    show (enumF (j + 1) r)[i]? = r[i]?.map fun x => (j + (i + 1), x)
    rw [enumF_get]
    congr 1
    funext x
    rw [show j + 1 + i = j + (i + 1) by omega]
def isEn {α : Type} (S : α → V → Hp → Prop) (p : Nat × α) : V → Hp → Prop := isP2 (fun n => isIv ((n : Nat) : Int)) S p
instance {α : Type} {S : α → V → Hp → Prop} [∀ a, StL (S a)] {p : Nat × α} : StL (isEn S p) := by unfold isEn; infer_instance
theorem evi_enum {α : Type} {S : α → V → Hp → Prop} [∀ a, St (S a)] {as : List α} (h : EvV (Same H0) σ te (isL S as)) : EvI H0 σ (iEnum K (tCons te tNil)) (enumF 0 as) (isEn S) := fun H Rk w k =>
  h H _ w fun v H1 s1 w1 hv => by
    obtain ⟨D, us, rfl, hD, l⟩ := hv
    refine ⟨D, us, rfl, SqL.of hD, k (Ite K D) H1 s1 ⟨_, _, by rw [enumF_len, ← l.1]; exact walk_enum (K := K) (a := D) (xs := us), fun H2 s => SqL.of (s _ _ hD), fun i H2 x H3 hi s y => ?_⟩⟩
    obtain ⟨T, a, b, rfl, nT, rfl, ea, eb⟩ := y
    obtain rfl := Option.some.inj ea
    obtain ⟨m, em, r⟩ := Ls.get l eb
    refine ⟨Same.new nT, (0 + i, m), by rw [enumF_get, em]; rfl, T, _, b, rfl, upd_same, ?_, up (s.trans (Same.new nT)) r⟩
    show V.int (i : Nat) = V.int ((0 + i : Nat) : Int)
    rw [Nat.zero_add]
end
section
variable {X : Cx} {CX : CXT} {k : Nat} {C p g : Addr} {fd : FuncData} {ps : List Str} {mc : Value} {sp : Sp} {E : L2.St → XK} {o e : Expr} {es : List Expr} {m : Str} {pos apos : Pos} {ta : TE} {t : TA} {pl : Sem Bool}
/-- C.m(..) of a classmethod, what it raises wished for at the slots -/
def tCMethA (C : Addr) (sp : Sp) (E : L2.St → XK) (ta : TE) (t : TA) : TE := fun σ H Q => ta σ H fun x H1 => x = .ref C ∧ t σ H1 fun vs H2 => sp (.ref C :: vs) H2 Q (E σ)
theorem pe_cmethA (he : PE X o ta) (r : ClX.CRead X.K C mc) (c : ClX.CMet X.K C mc m p g) (F : FnOk X.prog X.w X.K X.mg X.base CX k g fd ps sp) (bi : Binds X.K fd ps []) (hr : Room k X.A) (out : ∀ σ, PassesAt CX X σ (E σ)) (ha : PA X (e :: es) t)
    (hst : starEach (e :: es) X.env = (false, eval e X.env) :: starEach es X.env := by rfl) (hpl : (backTo pos (starEach es X.env)).any (·.1) = false := by rfl)
    (ht : eval (.Call (.Attribute o m apos) (e :: es) [] pos) X.env = (do
      let ov ← eval o X.env
      standAt apos.atName
      let (f, first) ← holding [ov] (getMethod ov m pl)
      callWith pos f first (backTo pos (starEach (e :: es) X.env)) (backToKw pos (keywordEach [] X.env))) := by rfl) :
    PE X (.Call (.Attribute o m apos) (e :: es) [] pos) (tCMethA C sp E ta t) := by
  refine ⟨fun pins s σ H Q I h => ?_⟩
  refine PySem.W.methodCall_KW (pl := pl) (thn (he.run pins s σ H _ I h) fun u s1 ⟨x, H1, I1, rx, ex, q⟩ => ?_) ht
  subst ex
  obtain rfl : u = Value.ref C := rx
  refine ClX.getmethcm_ok I1 r c fun s2 I2 => ?_
  refine ClX.callwith_cm I2 (ClX.base_none I1 (Nat.le_refl _)) c.fi (thn (ha.run pos _ s2 σ H1 _ I2 q) fun us s3 ⟨vs, H2, I3, rv, q2⟩ => ⟨⟨ClX.pin_at I3, I3.kIn⟩, ?_⟩) hst hpl
  have rr : Vals (V.ref C :: vs) (Value.ref C :: us) := .cons rfl rv
  have hl : (Value.ref C :: us).length = ps.length := by rw [← rr.length]; exact F.len _ _ _ _ q2
  have b := bi s3 (Value.ref C :: us) I3.kIn (by rw [List.append_nil]; exact hl)
  rw [List.append_nil] at b
  have ran := F.run X.A X.stack s3 H2 ⟨Value.ref C :: us, []⟩ (Value.ref C :: us) (V.ref C :: vs) Q (E σ) hr I3.env0 b rr q2
  refine thn (Q := EP X ((s1.heap.objs.size, PySem.W.methodObj (.ref g) (.ref C)) :: pins) σ Q) (wpAny_call (PySem.W.method_call (ClX.pin_at I3) (codeAny_mono ran fun r s' hq => ?_))) fun _ _ y => ClX.unpinE y
  cases r with
  | error err => exact out σ _ H2 s3 err s' I3 hq
  | ok fl =>
    cases fl with
    | ret w => exact I3.after hq
    | next => exact False.elim hq
    | brk => exact False.elim hq
    | cont => exact False.elim hq
end
end V3

set_option Elab.async false
set_option linter.all false
set_option maxRecDepth 100000
/-! texts: their signs, pieces, many times; data of any depth within a tuple -/
namespace V3
open PySem PySem.Spec PyProof.Rows L2 TL
theorem room65 {k : Nat} {A : Around} (r : Room k A) : A.units + 65 < cLine := by have := r.un; omega
section
variable {X : Cx}
def rInDT (K : PySem.W.Frag) (neg : Bool) : R2 := fun x y H Q => ∃ d ds, Dp K H x d ∧ Dp K H y (.tuple ds) ∧ SeqAt.shaped d = true ∧ SeqAt.shaped (.tuple ds) = true ∧ Q (.bl (negB neg (ds.any fun z => PyData.eqv z d))) H
theorem op_inDT (hu : X.A.units + 65 < cLine) : OpR X (compareOp .In) (rInDT X.K false) := by
  intro pins s σ H x y v u Q I rx ry h
  obtain ⟨d, ds, hd, he, sd, se, q⟩ := h
  obtain ⟨as, r1⟩ := Dp.reads I d x v hd rx
  obtain ⟨bs, r2⟩ := Dp.reads I (.tuple ds) y u he ry
  have h1 : d.depth ≤ 64 := SeqAt.depth_of_shaped sd
  have h2 : min (PyData.depthAll ds) d.depth ≤ d.depth := Nat.min_le_right _ _
  exact SeqAt.in_tuple_reads r2 r1 (SeqAt.canLay_of_shaped se) (SeqAt.canLay_of_shaped sd) (by omega) ⟨.bl _, H, I, rfl, q⟩
theorem op_notInDT (hu : X.A.units + 65 < cLine) : OpR X (compareOp .NotIn) (rInDT X.K true) := by
  intro pins s σ H x y v u Q I rx ry h
  obtain ⟨d, ds, hd, he, sd, se, q⟩ := h
  obtain ⟨as, r1⟩ := Dp.reads I d x v hd rx
  obtain ⟨bs, r2⟩ := Dp.reads I (.tuple ds) y u he ry
  have h1 : d.depth ≤ 64 := SeqAt.depth_of_shaped sd
  have h2 : min (PyData.depthAll ds) d.depth ≤ d.depth := Nat.min_le_right _ _
  exact SeqAt.notIn_tuple_reads r2 r1 (SeqAt.canLay_of_shaped se) (SeqAt.canLay_of_shaped sd) (by omega) ⟨.bl _, H, I, rfl, q⟩
/-- a text no times, or once -/
def rMulS : R2 := fun x y H Q => ∃ z n, x = .str z ∧ y = .int n ∧ (n = 0 ∨ n = 1) ∧ Q (.str (if n = 0 then Str.empty else z)) H
theorem op_mulS : OpR X (binaryOp .Mult) rMulS := by
  intro pins s σ H x y v u Q I rx ry h
  obtain ⟨z, n, rfl, rfl, hn, q⟩ := h
  obtain ⟨t, rfl⟩ := rx
  obtain ⟨t', rfl⟩ := ry
  rcases hn with rfl | rfl
  · exact PySem.P.mul_str_none (by decide) (by decide) ⟨.str Str.empty, H, I.tok (s.toks + 1), ⟨_, rfl⟩, q⟩
  · refine PySem.P.mul_str (by decide) (fun _ e => by simp at e) (fun _ e => by simp at e) ?_
    rw [if_neg (by decide), if_pos (by simp)]
    exact ⟨.str z, H, I, ⟨_, rfl⟩, q⟩
end
/-- a sign -/
def isCh (c : Nat) : V → Hp → Prop := fun v _ => v = .str ⟨#[c]⟩
instance {c : Nat} : StL (isCh c) := ⟨fun _ _ _ _ r => r⟩
section
variable {K : PySem.W.Frag} {σ : L2.St} {ta tb te : TE} {H0 : Hp} {x y : Str} {c : Nat} {n : Int}
theorem evi_str (ha : EvV (Same H0) σ te (isSv x)) : EvI H0 σ (iStr te) (tl x) isCh := fun H Rk w k =>
  ha H _ w fun v H1 s1 w1 e => by
    cases e
    refine ⟨x, rfl, k _ H1 s1 ⟨_, _, by rw [← len_tl]; exact walk_str (z := x), fun _ _ => trivial, fun i H2 z H3 hi s y => ?_⟩⟩
    obtain ⟨rfl, c, hc, rfl⟩ := y
    refine ⟨Same.refl _, c, ?_, rfl⟩
    rw [← hc]
    unfold tl
    rw [Array.getElem?_toList]
theorem ev_neNil {α : Type} {S : α → V → Hp → Prop} {as : List α} (ha : EvV (Same H0) σ ta (isL S as)) : EvV (Same H0) σ (tOp rNeE ta (tLst tNil)) (isBv (!as.isEmpty)) := fun H Q w k =>
  ha H _ w fun v H1 s1 w1 ⟨D, us, e, hD, l⟩ => by
    subst e
    refine ⟨(by show (0 : Nat) ≤ sizeLine; exact Nat.zero_le _), fun p np => ?_⟩
    have s2 : Same H1 (upd H1 p (.lst [])) := Same.new np
    refine ⟨D, p, us, rfl, rfl, s2 _ _ hD, upd_same, k _ _ (s1.trans s2) (w1.trans s2) ?_⟩
    have e : us.isEmpty = as.isEmpty := by
      have z := l.1
      cases us <;> cases as <;> first | rfl | (simp at z)
    rw [e]
    rfl
theorem ev_notCh (ha : EvV (Same H0) σ ta (isCh c)) : EvV (Same H0) σ (tOp (fun x y H Q => ∃ i j, x = .str i ∧ y = .str j ∧ Q (.bl (!(!(Builtin.Str.occurrences j i 0 j.length 1).isEmpty))) H) ta (tC (.str x))) (isBv (!decide (c ∈ tl x))) := fun H Q w k =>
  ha H _ w fun v H1 s1 w1 e => by
    cases e
    refine ⟨_, x, rfl, rfl, ?_⟩
    rw [StrLaws.found_one x c]
    exact k _ H1 s1 w1 rfl
theorem ev_ixC {i : Int} (n : x.length ≤ 100000) (h : atI (tl x) i = some c) (ha : EvV (Same H0) σ ta (isSv x)) (hb : EvV (Same H0) σ tb (isIv i)) : EvV (Same H0) σ (tOp rIxS ta tb) (isCh c) :=
  ev_o ha hb fun _ _ H Q w ex ey k => ⟨x, i, c, ex, ey, Nat.le_trans n (by decide), h, k _ H (Same.refl H) rfl⟩
theorem ev_neCh {d : Nat} (ha : EvV (Same H0) σ ta (isCh c)) (hb : EvV (Same H0) σ tb (isCh d)) : EvV (Same H0) σ (tOp rNe ta tb) (isBv (!decide (c = d))) := by
  have z := ev_neS (W := Same H0) (σ := σ) (ta := ta) (tb := tb) (i := ⟨#[c]⟩) (j := ⟨#[d]⟩) ha hb
  have e : decide ((⟨#[c]⟩ : Str) = ⟨#[d]⟩) = decide (c = d) := by simp
  rw [e] at z
  exact z
theorem ev_slS {lo hi : Option Int} {th tk : TO} (n : x.length ≤ 100000) (ha : EvV (Same H0) σ ta (isSv x)) (hl : EvO (Same H0) σ th lo) (hh : EvO (Same H0) σ tk hi) : EvV (Same H0) σ (tSl rSlS ta th tk) (isSv (cutS x lo hi)) := fun H Q w k =>
  ha H _ w fun v H1 s1 w1 e => by
    cases e
    exact hl H1 _ w1 fun H2 s2 w2 => hh H2 _ w2 fun H3 s3 w3 => ⟨x, rfl, Nat.le_trans n (by decide), k _ H3 ((s1.trans s2).trans s3) w3 rfl⟩
theorem ev_mulS (hn : n = 0 ∨ n = 1) (ha : EvV (Same H0) σ ta (isSv x)) (hb : EvV (Same H0) σ tb (isIv n)) : EvV (Same H0) σ (tOp rMulS ta tb) (isSv (if n = 0 then Str.empty else x)) :=
  ev_o ha hb fun _ _ H Q w ex ey k => ⟨x, n, ex, ey, hn, k _ H (Same.refl H) rfl⟩
theorem ev_intK {b : Bool} (ha : EvV (Same H0) σ ta (isBv b)) : EvV (Same H0) σ (tCB (fun xs H Q => (∃ i, xs = [.int i] ∧ Q (.int i) H) ∨ ∃ k, xs = [.bl k] ∧ Q (.int (if k then 1 else 0)) H) (tCons ta tNil)) (isIv (if b then 1 else 0)) := fun H Q w k =>
  ha H _ w fun v H' s w' e => by
    cases e
    exact .inr ⟨b, rfl, k _ H' s w' rfl⟩
theorem ev_lenStr (n : x.length ≤ 100000) (ha : EvV (Same H0) σ ta (isSv x)) : EvV (Same H0) σ (tCB (fun xs H Q => ∃ z, xs = [.str z] ∧ z.length ≤ sizeLine ∧ Q (.int z.length) H) (tCons ta tNil)) (isIv (x.length : Int)) := fun H Q w k =>
  ha H _ w fun v H' s w' e => by
    cases e
    exact ⟨x, rfl, Nat.le_trans n (by decide), k _ H' s w' rfl⟩
theorem ev_orVB {p q : Bool} (h : EvV (Same H0) σ ta (isBv p)) (h2 : p = false → EvV (Same H0) σ tb (isBv q)) : EvV (Same H0) σ (tOrV ta tb) (isBv (p || q)) := fun H Q w k =>
  h H _ w fun v H1 s1 w1 e => by
    cases e
    refine ⟨p, rfl, ?_⟩
    cases p with
    | true => exact iteT (k _ H1 s1 w1 rfl)
    | false => exact iteF (h2 rfl H1 _ w1 fun v H2 s2 w2 e => k v H2 (s1.trans s2) w2 e)
theorem ev_andVB {p q : Bool} (h : EvV (Same H0) σ ta (isBv p)) (h2 : p = true → EvV (Same H0) σ tb (isBv q)) : EvV (Same H0) σ (tAndV ta tb) (isBv (p && q)) := fun H Q w k =>
  h H _ w fun v H1 s1 w1 e => by
    cases e
    refine ⟨p, rfl, ?_⟩
    cases p with
    | true => exact iteT (h2 rfl H1 _ w1 fun v H2 s2 w2 e => k v H2 (s1.trans s2) w2 e)
    | false => exact iteF (k _ H1 s1 w1 rfl)
theorem ev_inDT {α : Type} {S : α → V → Hp → Prop} [∀ a, St (S a)] [i : Dt K S] {neg : Bool} {a : α} {as : List α} [DecidableEq α] (ha : EvV (Same H0) σ ta (S a)) (hb : EvV (Same H0) σ tb (isU S as)) (oa : i.ok a) (os : ∀ b ∈ as, i.ok b) (n : i.n ≤ 63 := by exact Nat.le_of_ble_eq_true rfl) :
    EvV (Same H0) σ (tOp (rInDT K neg) ta tb) (isBv (negB neg (decide (a ∈ as)))) :=
  ev_o ha hb fun x y H Q w hx hy k => ⟨i.d a, as.map i.d, i.dp _ _ _ hx, (inferInstance : Dt K (isU S)).dp _ _ _ hy, shaped_dt (by omega) oa, shaped_dt (i := (inferInstance : Dt K (isU S))) (a := as) (by show i.n + 1 ≤ 64; omega) os, k _ H (Same.refl H) (by
    have e : ((as.map i.d).any fun z => PyData.eqv z (i.d a)) = decide (a ∈ as) := by
      rw [List.any_map, Bool.eq_iff_iff, List.any_eq_true, decide_eq_true_eq]
      constructor
      · rintro ⟨b, hb, e⟩
        rw [(i.inj b a (os b hb) oa).mp e] at hb
        exact hb
      · intro h
        exact ⟨a, h, (i.inj a a oa oa).mpr rfl⟩
    rw [e]
    rfl)⟩
/-- a list of texts with a step -/
theorem evn_stepS {L M : List Str} {th tk ts : TO} {lo hi st : Option Int} (h0 : st ≠ some 0) (e : stepV (L.map V.str) lo hi st = M.map V.str) (n : M.length ≤ 1000) (ha : EvV (Same H0) σ ta (isSs L)) (hl : EvO (Same H0) σ th lo) (hh : EvO (Same H0) σ tk hi) (hs : EvO (Same H0) σ ts st) :
    EvNL H0 σ (tStep K ta th tk ts) isSv M := fun H Q w k =>
  ha H _ w fun v H1 s1 w1 ⟨D, us, ev, hD, l⟩ => by
    subst ev
    have eu := l.toStrs
    subst eu
    refine hl H1 _ w1 fun H2 s2 w2 => hh H2 _ w2 fun H3 s3 w3 => hs H3 _ w3 fun H4 s4 w4 => ?_
    have S4 := (s2.trans s3).trans s4
    refine ⟨D, _, rfl, SqL.of (S4 _ _ hD), h0, ?_, fun p np => ?_⟩
    · rw [e, List.length_map]
      exact Nat.le_trans n (by decide)
    · rw [e]
      have s5 : Same H4 (upd H4 p (.lst (M.map V.str))) := Same.new np
      exact k p _ _ ((s1.trans S4).free np) (((s1.trans S4).trans s5)) upd_same (Ls.strs M)
end
end V3

set_option Elab.async false
set_option linter.all false
set_option maxRecDepth 100000
/-! k06: digits; a part that is good -/
namespace V3
open PySem L2 TL
abbrev sIsDigits : Stmt := top 27
abbrev sIsGood : Stmt := top 28
def spIsDig : Sp := fun vs H Q _ => ∃ w : Str, vs = [.str w] ∧ w.length ≤ 1000 ∧ ∀ H', Same H H' → Q (.bl (canL (tl w))) H'
def spIsGood : Sp := fun vs H Q _ => ∃ x : Str, vs = [.str x] ∧ x.length ≤ 900 ∧ PyData.strOk x = true ∧ ∀ H', Same H H' → Q (.bl (mvOf x).isSome) H'
theorem dig_in (c : Nat) : decide (c ∈ tl ("0123456789" : Str)) = (decide (48 ≤ c) && decide (c ≤ 57)) := by
  have e : tl ("0123456789" : Str) = [48, 49, 50, 51, 52, 53, 54, 55, 56, 57] := by decide +kernel
  rw [e, Bool.eq_iff_iff, Bool.and_eq_true, decide_eq_true_eq, decide_eq_true_eq, decide_eq_true_eq]
  simp only [List.mem_cons, List.not_mem_nil, or_false]
  omega
theorem no_dig (l : List Nat) : (l.filter fun c => !decide (c ∈ tl ("0123456789" : Str))).isEmpty = digL l := by
  unfold digL
  induction l with
  | nil => rfl
  | cons a r ih =>
    rw [List.filter_cons, List.all_cons, dig_in]
    cases decide (48 ≤ a) && decide (a ≤ 57) with
    | true => exact ih
    | false => rfl
section
variable {P : Program} {w : World} {K : PySem.W.Frag} {mg : Str → Option Value} {base : Heap}
theorem scIsDig : FnScope ["_law_word", "_law_sign"] ["_law_word"] (defScope sIsDigits) := ⟨rfl, rfl, rfl, by decide +kernel, rfl, by decide +kernel, by decide +kernel⟩
theorem scIsGood : FnScope ["_law_part", "_law_words", "_law_word"] ["_law_part"] (defScope sIsGood) := ⟨rfl, rfl, rfl, by decide +kernel, rfl, by decide +kernel, by decide +kernel⟩
theorem ok_isDig {f : Addr} {fd : FuncData} (F : Fun K "_law_is_digits" "_law_is_digits" sIsDigits f fd) : FnOk P w K mg base CX0 1 f fd ["_law_word"] spIsDig := by
  refine F.ok scIsDig (fun vs H Q E h => ?_) (fun cdv A outer s H vs Q E hr h => ?_)
  · obtain ⟨x, rfl, _⟩ := h
    rfl
  · obtain ⟨x, rfl, n, k⟩ := h
    refine ⟨_, (pss_cons (ps_if (PW.pt (pw_or (pt_cmpR op_eq (pv 0) pe_str (nomark _)) (pw_or1 (pt_cmpR (op_neE hr.units0) (pe_lc (own := [("_law_sign", 1)]) (g := gName 1) (tt := tTest (tOp (fun x y H Q => ∃ i j, x = .str i ∧ y = .str j ∧ Q (.bl (!(!(Builtin.Str.occurrences j i 0 j.length 1).isEmpty))) H) (tVar 1) (tC (.str "0123456789")))) (te := tVar 1) (by rfl) scIsDig.nd (pi_str (pv 0)) (blkOk_by (own := [("_law_sign", 1)]) (N := ["_law_word", "_law_sign"]) (sc := defScope sIsDigits) (by decide +kernel)) (fun _ _ _ _ _ => (pg_name (i := 1) scIsDig.nd rfl (Or.inl rfl))) (fun _ _ _ _ _ => pts_one (pt_cmpR op_notin_str (pv 1) pe_str rfl)) (fun _ _ _ _ _ => (pv 1))) (pe_lst pa_nil) (nomark _))))) (pss_one (ps_ret pe_bl)) pss_nil)
  (pss_one (ps_ret (pe_or (pe_cmpR op_eq (pv 0) pe_str (nomark _)) (pe_one (pe_cmpR op_ne (pe_ix ix_str (pv 0) pe_int (fun _ _ => rfl)) pe_str (nomark _))))))), ?_⟩
    have z0 : tl ("0" : Str) = [48] := by decide +kernel
    have e0 : ("0" : Str) = ⟨#[48]⟩ := by decide +kernel
    have t0 : EvB (Same H) [some (.str x), none] _ (decide (x = "") || !digL (tl x)) := ev_orB (ev_test (ev_eqS (ev_v (i := 0) rfl rfl) ev_str)) fun _ => ev_test (by
      have z := ev_neNil (evn_lc (S' := isCh) (vs := [1]) (tt := tTest (tOp (fun x y H Q => ∃ i j, x = .str i ∧ y = .str j ∧ Q (.bl (!(!(Builtin.Str.occurrences j i 0 j.length 1).isEmpty))) H) (tVar 1) (tC (.str "0123456789")))) (te := tVar 1) (g := gName 1) (fun c => !decide (c ∈ tl ("0123456789" : Str))) (fun c => c) (evi_str (ev_v (H0 := H) (σ := [some (.str x), none]) (i := 0) rfl rfl)) (by rw [← len_tl]; exact n) fun a ha u G w r K2 kk => kk _ _ (Same.refl G) rfl (ev_test (ev_notCh (ev_v rfl r))) fun _ => ev_v rfl r).ev
      rw [List.map_id', no_dig] at z
      exact z)
    refine if_b (H0 := H) (Same.refl _) t0 (fun e H2 s2 => ?_) (fun e H2 s2 => ?_)
    · have ec : canL (tl x) = false := by
        unfold canL
        rcases Bool.or_eq_true_iff.mp e with h | h
        · rw [of_decide_eq_true h]
          rfl
        · have h2 : digL (tl x) = false := by simpa using h
          rw [h2]
          simp
      rw [ec] at k
      exact k _ s2
    · obtain ⟨h1, h2⟩ := Bool.or_eq_false_iff.mp e
      have xn : x ≠ "" := of_decide_eq_false h1
      have hd : digL (tl x) = true := by simpa using h2
      have ne : tl x ≠ [] := fun z => xn (ext_tl (by rw [z]; rfl))
      obtain ⟨c, r, el⟩ := List.exists_cons_of_ne_nil ne
      have at0 : atI (tl x) 0 = some c := by rw [el]; simp [atI, ixN]
      have ec : canL (tl x) = (decide (x = "0") || !decide (c = 48)) := by
        unfold canL
        rw [hd]
        have a1 : (tl x).isEmpty = false := by rw [el]; rfl
        have a2 : decide ((tl x).take 1 = [48]) = decide (c = 48) := by rw [el]; simp
        have a3 : decide (tl x = [48]) = decide (x = "0") := by
          rw [Bool.eq_iff_iff, decide_eq_true_eq, decide_eq_true_eq]
          exact ⟨fun h => ext_tl (by rw [h, z0]), fun h => by rw [h, z0]⟩
        rw [a1, a2, a3]
        rfl
      rw [ec] at k
      try dsimp only [gName, tSeq, tAsg, tNext]
      refine ev_eqS (W := Same H2) (i := x) (j := "0") (ev_v (i := 0) rfl rfl) ev_str H2 _ (Same.refl _) fun v H3 s3 w3 e3 => ?_
      cases e3
      refine ⟨_, rfl, ?_⟩
      cases q : decide (x = "0") with
      | true =>
        rw [q] at k
        exact iteT (k _ (s2.trans s3))
      | false =>
        rw [q] at k
        refine iteF ?_
        refine ev_neCh (H0 := H3) (c := c) (d := 48) (ev_ixC (by omega) at0 (ev_v (i := 0) rfl rfl) ev_int) (fun G Q w kk => kk _ G (Same.refl G) w (by show V.str "0" = _; rw [e0])) H3 _ (Same.refl _) fun v H4 s4 w4 e4 => ?_
        cases e4
        exact k _ ((s2.trans s3).trans s4)
end
end V3

set_option Elab.async false
set_option linter.all false
set_option maxRecDepth 100000
/-! k06: a part that is good -/
namespace V3
open PySem L2 TL
theorem num_zero {w : Str} {t : Int} (h : numOf w = some t) : decide (1 ≤ t) = !decide (w = "0") := by
  obtain ⟨e, p, _, _⟩ := numOf_some h
  have z : num 0 = "0" := by decide +kernel
  by_cases h0 : w = "0"
  · rw [decide_eq_true h0]
    have e2 : numOf w = some 0 := by
      rw [h0, ← z]
      exact numOf_num (by decide)
    rw [h] at e2
    cases e2
    rfl
  · rw [decide_eq_false h0]
    have e3 : t ≠ 0 := fun q => h0 (by rw [e, q, z])
    rw [decide_eq_true (by omega)]
    rfl
theorem num_some (w : Str) : (numOf w).isSome = canL (tl w) := by
  unfold numOf
  cases canL (tl w) <;> rfl
def goodF : List Str := ["take", "right"]
theorem mvP_len {ws : List Str} (h : (mvP ws).isSome = true) : ws = [("shut" : Str)] ∨ ((oddW ws).all (fun w => canL (tl w)) = true ∧ (ws.length = 2 ∨ ws.length = 4)) := by
  by_cases al : (oddW ws).all (fun w => (numOf w).isSome) = true
  · have al2 : (oddW ws).all (fun w => canL (tl w)) = true := by
      rw [← al]
      congr 1
      funext w
      exact (num_some w).symm
    match ws, h with
    | [], h => cases h
    | [a], h =>
      rw [mvP1] at h
      by_cases e : a = "shut"
      · exact .inl (by rw [e])
      · rw [if_neg e] at h
        cases h
    | [a, b], h => exact .inr ⟨al2, .inl rfl⟩
    | [a, b, c], h =>
      rw [mvP3] at h
      cases h
    | [a, b, c, d], h => exact .inr ⟨al2, .inr rfl⟩
    | a :: b :: c :: d :: e :: r, h =>
      rw [mvP5] at h
      cases h
  · unfold mvP at h
    rw [if_neg al] at h
    cases h
theorem good2 {a b : Str} (h : canL (tl b) = true) : (mvP [a, b]).isSome = (decide (a = "take") || (decide (a = "begin") && !decide (b = "0"))) := by
  rw [← num_some] at h
  obtain ⟨t, et⟩ := Option.isSome_iff_exists.mp h
  have z := num_zero et
  have n1 : ("begin" : Str) ≠ "take" := by decide +kernel
  rw [mvP2, et, if_pos (show (some t).isSome = true from rfl)]
  show (if a = "begin" then (if 1 ≤ t then some (Mv.beg t) else none) else if a = "take" then some (.take t) else none).isSome = _
  rw [← z]
  by_cases e1 : a = "begin"
  · rw [if_pos e1, decide_eq_true e1, decide_eq_false (fun q => n1 (e1.symm.trans q))]
    by_cases p : 1 ≤ t
    · rw [if_pos p, decide_eq_true p]
      rfl
    · rw [if_neg p, decide_eq_false p]
      rfl
  · rw [if_neg e1, decide_eq_false e1]
    by_cases e2 : a = "take"
    · rw [if_pos e2, decide_eq_true e2]
      rfl
    · rw [if_neg e2, decide_eq_false e2]
      rfl
theorem good4 {a b c d : Str} (h : canL (tl b) = true) (h2 : canL (tl d) = true) : (mvP [a, b, c, d]).isSome = (decide ((a, c) ∈ [(("take" : Str), ("by" : Str)), ("right", "to")]) && !decide (d = "0")) := by
  rw [← num_some] at h h2
  obtain ⟨t, et⟩ := Option.isSome_iff_exists.mp h
  obtain ⟨u, eu⟩ := Option.isSome_iff_exists.mp h2
  have z := num_zero eu
  rw [mvP4, et, eu, if_pos (show ((some t).isSome && (some u).isSome) = true from rfl)]
  show (if a = "take" ∧ c = "by" then (if 1 ≤ u then some (Mv.takeBy t u) else none) else if a = "right" ∧ c = "to" then (if 1 ≤ u then some (Mv.right t u) else none) else none).isSome = _
  rw [← z]
  have em : ((a, c) ∈ [(("take" : Str), ("by" : Str)), ("right", "to")]) ↔ ((a = "take" ∧ c = "by") ∨ (a = "right" ∧ c = "to")) := by
    simp only [List.mem_cons, List.not_mem_nil, or_false, Prod.mk.injEq]
  by_cases e1 : a = "take" ∧ c = "by"
  · rw [if_pos e1, decide_eq_true (em.mpr (.inl e1))]
    by_cases p : 1 ≤ u
    · rw [if_pos p, decide_eq_true p]
      rfl
    · rw [if_neg p, decide_eq_false p]
      rfl
  · rw [if_neg e1]
    by_cases e2 : a = "right" ∧ c = "to"
    · rw [if_pos e2, decide_eq_true (em.mpr (.inr e2))]
      by_cases p : 1 ≤ u
      · rw [if_pos p, decide_eq_true p]
        rfl
      · rw [if_neg p, decide_eq_false p]
        rfl
    · rw [if_neg e2, decide_eq_false (fun q => (em.mp q).elim e1 e2)]
      rfl
section
variable {P : Program} {w : World} {K : PySem.W.Frag} {mg : Str → Option Value} {base : Heap}
theorem ev_isDig {σ : L2.St} {H0 : Hp} {ta : TE} {x : Str} (n : x.length ≤ 1000) (ha : EvV (Same H0) σ ta (isSv x)) : EvV (Same H0) σ (tCall spIsDig [] E0 (tCons ta tNil)) (isBv (canL (tl x))) := fun H Q w k =>
  ha H _ w fun v H1 s1 w1 e => by
    cases e
    exact ⟨x, rfl, n, fun H2 s2 => k _ H2 (s1.trans s2) (w1.trans s2) rfl⟩
theorem dec_any6 {p : Prop} {i j : Decidable p} : @decide p i = @decide p j := by
  cases i <;> cases j <;> first | rfl | contradiction
theorem flat_int6 (L : List Int) : (L.map V.int).all flatV = true := by
  induction L with
  | nil => rfl
  | cons a r ih => simpa [flatV] using ih
theorem inV_int6 {k : Int} {L : List Int} : inV (.int k) (L.map V.int) = decide (k ∈ L) := by
  induction L with
  | nil => rfl
  | cons a r ih =>
    have e : inV (.int k) ((a :: r).map V.int) = (a == k || inV (.int k) (r.map V.int)) := rfl
    rw [e, ih]
    by_cases q : k = a
    · subst q
      simp
    · have z : (a == k) = false := Bool.eq_false_iff.mpr fun w => q (eq_of_beq w).symm
      rw [z]
      simp [q]
theorem Ls.toInt6 {H : Hp} {us : List V} {as : List Int} (l : Ls (fun u a => isIv a u H) us as) : us = as.map V.int := by
  refine List.ext_getElem? fun i => ?_
  cases e : as[i]? with
  | none =>
    have z : as.length ≤ i := List.getElem?_eq_none_iff.mp e
    rw [List.getElem?_map, e, List.getElem?_eq_none (by rw [l.1]; exact z)]
    rfl
  | some m =>
    obtain ⟨v, ev, q⟩ := l.2 i m e
    have q : v = .int m := q
    rw [ev, q, List.getElem?_map, e]
    rfl
theorem ev_inTI {σ : L2.St} {H0 : Hp} {ta tb : TE} {x : Int} {L : List Int} {neg : Bool} (ha : EvV (Same H0) σ ta (isIv x)) (hb : EvV (Same H0) σ tb (isU isIv L)) : EvV (Same H0) σ (tOp (rIn K neg) ta tb) (isBv (negB neg (decide (x ∈ L)))) :=
  ev_o ha hb fun a b H Q w ea hb k => by
    cases ea
    obtain ⟨D, us, rfl, hD, l⟩ := hb
    have e := l.toInt6
    subst e
    exact ⟨D, _, rfl, .inr (SqT.of hD), rfl, flat_int6 _, k _ H (Same.refl H) (by rw [inV_int6]; rfl)⟩
theorem ok_isGood {f : Addr} {fd : FuncData} (F : Fun K "_law_is_good" "_law_is_good" sIsGood f fd) (zl : mg "len" = none) (cD : Cal P w K mg base CX0 "_law_is_digits" 1 ["_law_word"] spIsDig) : FnOk P w K mg base CX0 2 f fd ["_law_part"] spIsGood := by
  obtain ⟨fD, fdD, GD, mD, kD, bD⟩ := cD
  refine F.ok scIsGood (fun vs H Q E h => ?_) (fun cdv A outer s H vs Q E hr h => ?_)
  · obtain ⟨x, rfl, _⟩ := h
    rfl
  · obtain ⟨x, rfl, n, so, k⟩ := h
    refine ⟨_, (pss_cons (ps_set (i := 1) scIsGood.nd rfl (Or.inl rfl) (pe_split (pv 0) pe_str))
  (pss_cons (ps_if (pt_cmpR (op_eqD hr.units) (pv 1) (pe_lst (pa_cons pe_str pa_nil)) (nomark _)) (pss_one (ps_ret pe_bl)) pss_nil)
  (pss_cons (ps_if (PW.pt (pw_or (pt_cmpR (op_neE hr.units0) (pe_lc (own := [("_law_word", 2)]) (g := gName 2) (tt := tNot (tB (tCall spIsDig [] E0 (tCons (tVar 2) tNil)))) (te := tVar 2) (by rfl) scIsGood.nd (pi_list (pe_step (pv 1) (po_some pe_int) po_none (po_some pe_int))) (blkOk_by (own := [("_law_word", 2)]) (N := ["_law_part", "_law_words", "_law_word"]) (sc := defScope sIsGood) (by decide +kernel)) (fun _ _ _ _ _ => (pg_name (i := 2) scIsGood.nd rfl (Or.inl rfl))) (fun _ _ _ _ _ => pts_one (pt_not (pt_val (pe_call GD (hr.mono (by decide)) rfl mD kD bD .nil pass0 (pa_cons (pv 2) pa_nil))))) (fun _ _ _ _ _ => (pv 2))) (pe_lst pa_nil) (nomark _)) (pw_or1 (pt_cmpR op_notIn_seq (pe_callB call_len_seq (by rfl) zl PySem.boot_len (pa_cons (pv 1) pa_nil)) (pe_tup (pa_cons pe_int (pa_cons pe_int pa_nil))) rfl)))) (pss_one (ps_ret pe_bl)) pss_nil)
  (pss_cons (ps_if (pt_cmpR op_eq (pe_callB call_len_seq (by rfl) zl PySem.boot_len (pa_cons (pv 1) pa_nil)) pe_int (nomark _)) (pss_one (ps_ret (pe_or (pe_cmpR op_eq (pe_ix ix_list (pv 1) pe_int (fun _ _ => rfl)) pe_str (nomark _)) (pe_one (pe_and (pe_cmpR op_eq (pe_ix ix_list (pv 1) pe_int (fun _ _ => rfl)) pe_str (nomark _)) (pe_one (pe_cmpR op_ne (pe_ix ix_list (pv 1) pe_int (fun _ _ => rfl)) pe_str (nomark _)))))))) pss_nil)
  (pss_one (ps_ret (pe_and (pe_cmpR (op_inDT (room65 hr)) (pe_tup (pa_cons (pe_ix ix_list (pv 1) pe_int (fun _ _ => rfl)) (pa_cons (pe_ix ix_list (pv 1) pe_int (fun _ _ => rfl)) pa_nil))) (pe_tup (pa_cons (pe_tup (pa_cons pe_str (pa_cons pe_str pa_nil))) (pa_cons (pe_tup (pa_cons pe_str (pa_cons pe_str pa_nil))) pa_nil))) rfl) (pe_one (pe_cmpR op_ne (pe_ix ix_list (pv 1) pe_int (fun _ _ => rfl)) pe_str (nomark _)))))))))), ?_⟩
    try dsimp only [gName, tSeq, tAsg, tNext]
    have sc := split_count x
    have ww := wgt_split x " " (by decide +kernel)
    refine (evn_split (H0 := H) (x := x) (y := " ") (by omega) (by decide +kernel) (ev_v (i := 0) rfl rfl) ev_str).ev H _ (Same.refl _) fun v1 H1 s1 w1 h1 => ?_
    have em : mvOf x = mvP (Txt.split x " ") := rfl
    rw [em] at k
    have wok : ∀ p ∈ Txt.split x " ", PyData.strOk p = true := fun p hp => split_ok so hp
    have sc2 : (Txt.split x " ").length ≤ x.length + 1 := sc
    generalize Txt.split x " " = ws at ww wok sc2 k h1
    have wl : ∀ p ∈ ws, p.length ≤ 1000 := fun p hp => by
      have z := wgt_mem hp
      omega
    have T1 : EvB (Same H1) [some (.str x), some v1, none] _ (decide (ws = [("shut" : Str)])) := ev_test (ev_eqD (K := K) (S := isL isSv) (a := ws) (b := [("shut" : Str)]) (ev_v (i := 1) rfl h1) (ev_lst (S := isSv) (as := [("shut" : Str)]) (evl_cons ev_str evl_nil) (by decide)) wok (fun b hb => by
      simp only [List.mem_cons, List.not_mem_nil, or_false] at hb
      subst hb
      show PyData.strOk "shut" = true
      decide +kernel))
    try dsimp only [gName, tSeq, tAsg, tNext]
    refine if_b (H0 := H1) (Same.refl _) T1 (fun e H2 s2 => ?_) (fun e H2 s2 => ?_)
    · rw [of_decide_eq_true e, mvP1, if_pos rfl] at k
      exact k _ (s1.trans s2)
    have e1 := of_decide_eq_false e
    have h2 := up s2 h1
    have T2 : EvB (Same H2) [some (.str x), some v1, none] _ ((!((oddW ws).filter fun w => !canL (tl w)).isEmpty) || (negB true (decide ((ws.length : Int) ∈ [(2 : Int), 4])))) :=
      ev_orB (ev_test (by
        have z := ev_neNil (evn_lc (S' := isSv) (vs := [2]) (tt := tNot (tB (tCall spIsDig [] E0 (tCons (tVar 2) tNil)))) (te := tVar 2) (g := gName 2) (fun w => !canL (tl w)) (fun w => w) (evi_list (K := K) (evn_stepS (K := K) (L := ws) (M := oddW ws) (by decide) (step_odd ws) (Nat.le_trans (odd_len ws) (by omega)) (ev_v (H0 := H2) (σ := [some (.str x), some v1, none]) (i := 1) rfl h2) (evo_some ev_int) evo_none (evo_some ev_int)).ev) (Nat.le_trans (odd_len ws) (by omega)) fun a ha u G w r K2 kk => kk _ _ (Same.refl G) rfl (ev_notB (ev_valB (ev_isDig (wl a (odd_mem ha)) (ev_v rfl r)))) fun _ => ev_v rfl r).ev
        rw [List.map_id'] at z
        exact z)) fun _ => ev_test (ev_inTI (K := K) (neg := true) (ev_lenL (K := K) (S := isSv) (as := ws) (ev_v (i := 1) rfl h2)) (ev_tupU (S := isIv) (as := [(2 : Int), 4]) (evl_cons ev_int (evl_cons ev_int evl_nil)) (by decide)))
    have al : (((oddW ws).filter fun w => !canL (tl w)).isEmpty) = (oddW ws).all fun w => canL (tl w) := by
      induction (oddW ws) with
      | nil => rfl
      | cons a r ih =>
        rw [List.filter_cons, List.all_cons]
        cases canL (tl a) with
        | true => exact ih
        | false => rfl
    have inn : decide ((ws.length : Int) ∈ [(2 : Int), 4]) = (decide (ws.length = 2) || decide (ws.length = 4)) := by
      rw [Bool.eq_iff_iff, Bool.or_eq_true, decide_eq_true_eq, decide_eq_true_eq, decide_eq_true_eq]
      simp only [List.mem_cons, List.not_mem_nil, or_false]
      omega
    rw [al, inn] at T2
    try dsimp only [gName, tSeq, tAsg, tNext]
    refine if_b (H0 := H2) (Same.refl _) T2 (fun e H3 s3 => ?_) (fun e H3 s3 => ?_)
    · have f : (mvP ws).isSome = false := by
        cases q : (mvP ws).isSome with
        | false => rfl
        | true =>
          rcases mvP_len q with h | ⟨h, h'⟩
          · exact absurd h e1
          · rw [h] at e
            rcases h' with h' | h' <;> rw [h'] at e <;> cases e
      rw [f] at k
      exact k _ ((s1.trans s2).trans s3)
    obtain ⟨ea, eb⟩ := Bool.or_eq_false_iff.mp e
    have ea2 : ((oddW ws).all fun w => canL (tl w)) = true := by
      cases q : (oddW ws).all fun w => canL (tl w) with
      | true => rfl
      | false =>
        rw [q] at ea
        cases ea
    have eb2 : (decide (ws.length = 2) || decide (ws.length = 4)) = true := by
      cases q : (decide (ws.length = 2) || decide (ws.length = 4)) with
      | true => rfl
      | false =>
        rw [q] at eb
        cases eb
    have h3 := up s3 h2
    have S3 := (s1.trans s2).trans s3
    have T3 : EvB (Same H3) [some (.str x), some v1, none] _ (decide ((ws.length : Int) = 2)) := ev_test (ev_eqi (ev_lenL (K := K) (S := isSv) (as := ws) (ev_v (i := 1) rfl h3)) ev_int)
    try dsimp only [gName, tSeq, tAsg, tNext]
    refine if_b (H0 := H3) (Same.refl _) T3 (fun e H4 s4 => ?_) (fun e H4 s4 => ?_)
    · have l2 : ws.length = 2 := by have := of_decide_eq_true e; omega
      obtain ⟨a, b, rfl⟩ : ∃ a b, ws = [a, b] := by
        match ws, l2 with
        | [a, b], _ => exact ⟨a, b, rfl⟩
      rw [(ow2 a b).1] at ea2
      have cb : canL (tl b) = true := by simpa using ea2
      rw [good2 cb] at k
      have h4 := up s4 h3
      refine ev_orVB (H0 := H4) (ev_eqS (ev_ixL (K := K) (n := 0) (a := a) rfl (ev_v (i := 1) rfl h4) ev_int) ev_str) (fun _ => ev_andVB (ev_eqS (ev_ixL (K := K) (n := 0) (a := a) rfl (ev_v (i := 1) rfl h4) ev_int) ev_str) fun _ => ev_neS (ev_ixL (K := K) (n := 1) (a := b) rfl (ev_v (i := 1) rfl h4) ev_int) ev_str) H4 _ (Same.refl _) fun v H5 s5 w5 e5 => ?_
      cases e5
      exact k _ ((S3.trans s4).trans s5)
    · have l4 : ws.length = 4 := by
        have z := of_decide_eq_false e
        rcases Bool.or_eq_true_iff.mp eb2 with q | q
        · exact absurd (of_decide_eq_true q) (by omega)
        · exact of_decide_eq_true q
      obtain ⟨a, b, c, d, rfl⟩ : ∃ a b c d, ws = [a, b, c, d] := by
        match ws, l4 with
        | [a, b, c, d], _ => exact ⟨a, b, c, d, rfl⟩
      rw [(ow4 a b c d).1] at ea2
      obtain ⟨cb, cd⟩ : canL (tl b) = true ∧ canL (tl d) = true := by simpa using ea2
      rw [good4 cb cd] at k
      have h4 := up s4 h3
      have oka : PyData.strOk a = true := wok a (by simp)
      have okc : PyData.strOk c = true := wok c (by simp)
      have okk : ∀ p ∈ [(("take" : Str), ("by" : Str)), ("right", "to")], PyData.strOk p.1 = true ∧ PyData.strOk p.2 = true := by decide +kernel
      refine ev_andVB (H0 := H4) (ev_inDT (K := K) (neg := false) (S := isP2 isSv isSv) (a := (a, c)) (as := [(("take" : Str), ("by" : Str)), ("right", "to")]) (ev_p2 (S := isSv) (T := isSv) (ev_ixL (K := K) (n := 0) (a := a) rfl (ev_v (i := 1) rfl h4) ev_int) (ev_ixL (K := K) (n := 2) (a := c) rfl (ev_v (i := 1) rfl h4) ev_int)) (ev_tupU (S := isP2 isSv isSv) (evl_cons (ev_p2 (S := isSv) (T := isSv) ev_str ev_str) (evl_cons (ev_p2 (S := isSv) (T := isSv) ev_str ev_str) evl_nil)) (by decide)) ⟨oka, okc⟩ okk) (fun _ => ev_neS (ev_ixL (K := K) (n := 3) (a := d) rfl (ev_v (i := 1) rfl h4) ev_int) ev_str) H4 _ (Same.refl _) fun v H5 s5 w5 e5 => ?_
      cases e5
      exact Eq.mp (congrArg (fun b => Q (V.bl (b && !decide (d = "0"))) H5) dec_any6) (k _ ((S3.trans s4).trans s5))
end
end V3

set_option Elab.async false
set_option linter.all false
set_option maxRecDepth 100000
/-! read_moves and History.read of any text -/
namespace V3
open PySem L2 TL
def spRMsA (c : Cl) (CT : Addr) : Sp := fun vs H Q E => ∃ t : Str, vs = [.str t] ∧ t.length ≤ 99000 ∧ (partsM t).length ≤ 1000 ∧ (∀ x ∈ partsM t, PtOk x) ∧
  (badM 0 (partsM t) = none → ∀ ms, (∀ m ∈ ms, m.ok) → ms.map Mv.text = partsM t → ∀ (D : Addr) (xs : List V) (H' : Hp), Same H H' → H' D = some (.lst xs) → MvsAt c H' xs ms → Q (.ref D) H') ∧ ∀ i : Nat, badM 0 (partsM t) = some i → ErI CT H E (i : Int)
def spReadA (c : Cl) (CT : Addr) : Sp := fun vs H Q E => ∃ t : Str, vs = [.ref c.Hi, .str t] ∧ t.length ≤ 99000 ∧ (partsM t).length ≤ 1000 ∧ (∀ x ∈ partsM t, PtOk x) ∧
  (badM 0 (partsM t) = none → ∀ ms, (∀ m ∈ ms, m.ok) → ms.map Mv.text = partsM t → ∀ v H', Same H H' → HiAt c H' v ms → Q v H') ∧ ∀ i : Nat, badM 0 (partsM t) = some i → ErI CT H E (i : Int)
theorem badM_none {j : Nat} {x : Str} {r : List Str} (h : mvOf x = none) : badM j (x :: r) = some j := by
  show (if (mvOf x).isSome = true then badM (j + 1) r else some j) = _
  rw [h]
  rfl
theorem badM_some {j : Nat} {x : Str} {r : List Str} {m : Mv} (h : mvOf x = some m) : badM j (x :: r) = badM (j + 1) r := by
  show (if (mvOf x).isSome = true then badM (j + 1) r else some j) = _
  rw [h]
  rfl
section
variable {K : PySem.W.Frag} {σ : L2.St} {ta tb : TE} {t : TT} {H0 : Hp} {α : Type} {S : α → V → Hp → Prop} {as : List α}
theorem evn_ifR {b : Bool} (c : EvB (Same H0) σ t b) (h1 : b = true → EvNL H0 σ ta S as) (h2 : b = false → EvNL H0 σ tb S as) : EvNL H0 σ (tIf t ta tb) S as := fun H Q w k => c H _ w fun H1 s1 w1 => by
  cases b with
  | true => exact iteT (h1 rfl H1 Q w1 fun D us H' nD s hD l => k D us H' (s1.free nD) (s1.trans s) hD l)
  | false => exact iteF (h2 rfl H1 Q w1 fun D us H' nD s hD l => k D us H' (s1.free nD) (s1.trans s) hD l)
theorem ev_truR {x : Str} (n : x.length ≤ 100000) (ha : EvV (Same H0) σ ta (isSv x)) : EvB (Same H0) σ (fun σ H Q => ta σ H fun x H' => ∃ k, TruV K x H' k ∧ Q k H') (decide (x.length ≠ 0)) := fun H Q w k =>
  ha H _ w fun v H1 s1 w1 e => by
    cases e
    refine ⟨_, ⟨Nat.le_trans n (by decide), ?_⟩, k H1 s1 w1⟩
    by_cases z : x.length = 0
    · rw [z]
      rfl
    · rw [decide_eq_true z]
      exact (bne_iff_ne.mpr (by omega)).symm
end
section
variable {P : Program} {w : World} {K : PySem.W.Frag} {mg : Str → Option Value} {base : Heap}
theorem ok_readMovesA {f CT : Addr} {c : Cl} {fd : FuncData} (F : Fun K "read_moves" "read_moves" sReadMoves f fd) (ze : mg "enumerate" = none) (N : ItTxt P w K mg base CT) (cR : Cal P w K mg base CX0 "read_move" 7 ["text"] (spRMA c)) : FnOk P w K mg base (L2.CX P w) 8 f fd ["text"] (spRMsA c CT) := by
  obtain ⟨fR, fdR, GR, mR, kR, bR⟩ := cR
  obtain ⟨fI, fdI, GI, iI, tI, bI⟩ := N.ini
  refine F.okX scReadMoves (fun vs H Q E h => ?_) (fun cdv A outer s H vs Q E hr h => ?_)
  · obtain ⟨t, rfl, _⟩ := h
    rfl
  · obtain ⟨t, rfl, n, ln, pk, q0, q1⟩ := h
    refine ⟨_, pss_cons (ps_set (i := 1) scReadMoves.nd rfl (Or.inl rfl) (pe_lst pa_nil))
      (pss_cons (ps_set (i := 2) scReadMoves.nd rfl (Or.inl rfl) (pe_ifExp (pt_truth (pv 0) (by intro _; rfl)) (pe_split (pv 0) pe_str) (pe_lst pa_nil)))
      (pss_cons (ps_for (passes_of rfl) rfl (pi_enum (by rfl) ze (pa_cons (pv 2) pa_nil)) (pg_tup rfl (pgs_cons (pg_name (i := 3) scReadMoves.nd rfl (Or.inl rfl)) (pgs_cons (pg_name (i := 4) scReadMoves.nd rfl (Or.inl rfl)) pgs_nil)))
        (pss_cons (ps_set (i := 5) scReadMoves.nd rfl (Or.inl rfl) (pe_call (E := fun _ _ _ => False) GR (hr.mono (by decide)) rfl mR kR bR .nil pass0 (pa_cons (pv 4) pa_nil)))
        (pss_cons (ps_if (pt_cmpR op_isN (pv 5) pe_non (nomark _)) (pss_one (ps_raise rfl (takes_of rfl rfl rfl rfl) (pmk_oex N.o iI tI GI (hr.mono (by decide)) bI .nil pass0 rfl N.g (by exact (pa_cons (pv 3) pa_nil))))) pss_nil)
        (pss_one (ps_expr (pe_bm PySem.F.plainAttrs_list PySem.F.slot_list_append PySem.F.type_list_append mt_append (pv 1) (pa_cons (pv 5) pa_nil)))))))
      (pss_one (ps_ret (pv 1))))), ?_⟩
    refine ⟨(by show (0 : Nat) ≤ sizeLine; exact Nat.zero_le _), fun D nD => ?_⟩
    have hD : upd H D (.lst []) D = some (.lst []) := upd_same
    have S1 : Same H (upd H D (.lst [])) := Same.new nD
    generalize upd H D (.lst []) = H1 at S1 hD ⊢
    try dsimp only [gName, tSeq, tAsg, tNext]
    have eL : ∀ {σ : L2.St}, σ[0]? = some (some (.str t)) → EvNL H1 σ (tIf (fun σ H Q => tVar 0 σ H fun x H' => ∃ k, TruV K x H' k ∧ Q k H') (tM1 (fun x xs H Q => ∃ a b, x = .str a ∧ xs = [.str b] ∧ (b.length == 0) = false ∧ a.length + 2 ≤ sizeLine ∧ rNewStrs (Txt.split a b) H Q) (tVar 0) (tC (.str semi))) (tLst tNil)) isSv (partsM t) := fun h0 =>
      evn_ifR (b := decide (t.length ≠ 0)) (ev_truR (by omega) (ev_v h0 rfl)) (fun e => by
        unfold partsM
        rw [if_neg (of_decide_eq_true e)]
        exact evn_split (by omega) (by decide +kernel) (ev_v h0 rfl) ev_str) (fun e => by
        unfold partsM
        rw [if_pos (Decidable.byContradiction (of_decide_eq_false e))]
        exact evn_lst evl_nil (by decide))
    refine eL rfl H1 _ (Same.refl _) fun p us H2 np s2 hp l => ?_
    have e := l.toStrs
    subst e
    have S2 := S1.trans s2
    have hD2 := s2 _ _ hD
    have pD : p ≠ D := fun e => by rw [e, hD] at np; cases np
    generalize partsM t = LL at ln pk q0 q1 hp l
    have lm : (LL.map V.str).length = LL.length := List.length_map ..
    try dsimp only [gName, tSeq, tAsg, tNext]
    refine ⟨_, rfl, p, _, rfl, SqL.of hp, ?_⟩
    refine for_it (walk_enum (K := K) (a := p) (xs := LL.map V.str)) (fun i σ Hh => (∃ o3 o4 o5, σ = [some (.str t), some (.ref D), some (.ref p), o3, o4, o5]) ∧ Same H Hh ∧ Hh p = some (.lst (LL.map V.str)) ∧ ∃ us ms, Hh D = some (.lst us) ∧ MvsAt c Hh us ms ∧ (∀ m ∈ ms, m.ok) ∧ ms.map Mv.text = LL.take i ∧ badM 0 LL = badM i (LL.drop i)) ⟨⟨_, _, _, rfl⟩, S2, hp, [], [], hD2, trivial, (fun _ h => nomatch h), rfl, rfl⟩ (fun i σ Hh _ q => SqL.of q.2.2.1) ?_ ?_
    · rintro i v σ1 Hh Hh' hi ⟨⟨o3, o4, o5, rfl⟩, s3, hp3, us, ms, hD3, mv, okm, em, bf⟩ ⟨T, x, y, rfl, nT, rfl, ex, ey⟩
      obtain rfl := (Option.some.inj ex)
      rw [lm] at hi
      have hx : LL[i]? = some LL[i] := List.getElem?_eq_getElem hi
      have ey2 : y = .str LL[i] := by
        dsimp only at ey
        rw [List.getElem?_map, hx] at ey
        exact (Option.some.inj ey).symm
      subst ey2
      have dr : LL.drop i = LL[i] :: LL.drop (i + 1) := List.drop_eq_getElem_cons hi
      have xm : LL[i] ∈ LL := List.getElem_mem hi
      generalize LL[i] = x at hx dr xm ⊢
      refine ⟨T, _, rfl, SqT.of upd_same, rfl, _, _, rfl, ⟨_, _, rfl, rfl, ?_⟩⟩
      have sT : Same Hh (upd Hh T (.tup [.int (i : Nat), .str x])) := Same.new nT
      generalize upd Hh T (.tup [.int (i : Nat), .str x]) = H3 at sT ⊢
      rw [dr] at bf
      have lms : ms.length = i := by
        have z := congrArg List.length em
        rw [List.length_map, List.length_take, Nat.min_eq_left (by omega)] at z
        exact z
      try dsimp only [gName, tSeq, tAsg, tNext]
      refine ⟨_, rfl, x, rfl, pk _ xm, fun m e y dy H4 s4 hy => ?_, fun e H4 s4 => ?_⟩
      · have sD := sT.trans s4
        have S4 := s3.trans sD
        have hD4 := sD _ _ hD3
        obtain ⟨mo, mt⟩ := mvOf_some (pk _ xm).2.2 e
        refine ⟨_, rfl, rfl, _, rfl, ?_⟩
        rw [decide_eq_false (fun e => nomatch e)]
        refine iteF ⟨_, rfl, .inl ⟨rfl, _, SqL.of hD4⟩, _, rfl, D, us, _, rfl, rfl, hD4, Nat.lt_of_le_of_lt (m := 1000) (by rw [mv.len]; omega) (by decide), ?_⟩
        have mz : MvAt c H4 (.ref y) m := ⟨y, dy, rfl, hy⟩
        refine ⟨⟨_, _, _, rfl⟩, fun b o e => ?_, ?_, us ++ [.ref y], ms ++ [m], upd_same, MvsAt.snoc (mz.upd_lst hD4) ((mv.same sD).upd_lst hD4), fun q hq => ?_, ?_, ?_⟩
        · rw [upd_ne (ne_of_none e nD)]
          exact S4 b o e
        · rw [upd_ne pD]
          exact sD _ _ hp3
        · rcases List.mem_append.mp hq with hq | hq
          · exact okm q hq
          · rw [List.mem_singleton.mp hq]
            exact mo
        · rw [take_next' hx, List.map_append, em]
          show LL.take i ++ [m.text] = _
          rw [mt]
        · rw [bf, badM_some e]
      · have S4 := s3.trans (sT.trans s4)
        have bb : badM 0 LL = some i := by rw [bf, badM_none e]
        refine ⟨_, rfl, rfl, _, rfl, ?_⟩
        rw [decide_eq_true rfl]
        refine iteT ⟨_, rfl, (by show 1 ≤ 1000; decide), er_readI (fun d H6 s6 hd => q1 i bb d H6 (S4.trans s6) hd)⟩
    · rintro σ1 H3 ⟨⟨o3, o4, o5, rfl⟩, s3, hp3, us, ms, hD3, mv, okm, em, bf⟩
      rw [lm, List.drop_length] at bf
      rw [lm, List.take_length] at em
      exact ⟨_, rfl, q0 bf ms okm em D us H3 s3 hD3 mv⟩
theorem ok_hReadA {f CT : Addr} {c : Cl} {fd : FuncData} (F : Fun K "read" "History.read" sHRead f fd) (cR : Cal P w K mg base (L2.CX P w) "read_moves" 8 ["text"] (spRMsA c CT)) (T : HiTxt P w K mg base c) : FnOk P w K mg base (L2.CX P w) 9 f fd ["cls", "text"] (spReadA c CT) := by
  obtain ⟨fR, fdR, GR, mR, kR, bR⟩ := cR
  obtain ⟨fI, fdI, GI, MI, bI⟩ := T.ini
  refine F.okX scHRead (fun vs H Q E h => ?_) (fun cdv A outer s H vs Q E hr h => ?_)
  · obtain ⟨t, rfl, _⟩ := h
    rfl
  · obtain ⟨t, rfl, n, ln, pk, q0, q1⟩ := h
    refine ⟨_, pss_one (ps_ret (pe_makeL (i := 0) (E := fun _ _ _ => False) MI GI (hr.mono (by decide)) rfl (Or.inl rfl) bI .nil pass0 (pa_cons (pe_call (E := E) GR hr rfl mR kR bR .nil (passes_call (takes_of rfl rfl rfl rfl) fun _ _ _ _ z => z) (pa_cons (pv 1) pa_nil)) pa_nil))), ?_⟩
    refine ⟨rfl, _, rfl, t, rfl, n, ln, pk, fun bad ms ok e D xs H1 s1 hD mv x dx nx ndx ne => ⟨x, dx, D, xs, ms, rfl, upd_same, made_same nx ndx _ _ hD, mv.same (made_same nx ndx), ?_, fun q H' s hx hq => ⟨rfl, ?_⟩⟩, q1⟩
    · have z := congrArg List.length e
      rw [List.length_map] at z
      omega
    · obtain ⟨S, hi⟩ := hi_made nx ndx mv s hx hq
      exact q0 bad ms ok e _ H' (s1.trans S) hi
end
end V3

set_option Elab.async false
set_option linter.all false
set_option maxRecDepth 100000
/-! x + y of two classes, x += y -/
namespace V3
open PySem PySem.Spec PyProof.Rows L2
/-- no class up the line of D has one of these names -/
def Silent (K : PySem.W.Frag) (D : Addr) (ns : List Str) : Prop := ∃ (oc : Value) (od : Option Addr) (cd : ClassData) (sl : Array (Option Value)), K.lookup D = some ⟨oc, od, .cls cd, sl⟩ ∧ ∀ c ∈ cd.mro, ∀ n ∈ ns, PySem.W.findIn K c n = some none
section
variable {M : Model} {h : Heap} {K : PySem.W.Frag} {D : Addr}
theorem anyM_off {f : Value → Sem Bool} : ∀ {l : List Value}, (∀ c ∈ l, PySem.W.Looks M h (f c) false) → PySem.W.Looks M h (l.anyM f) false
  | [], _ => .now
  | c :: r, e => (e c (List.mem_cons_self ..)).andThen (anyM_off (l := r) fun d hd => e d (List.mem_cons_of_mem _ hd))
theorem cls_mro {oc : Value} {od : Option Addr} {cd : ClassData} {sl : Array (Option Value)} (X : K.In h) (e : K.lookup D = some ⟨oc, od, .cls cd, sl⟩) : PySem.W.Looks M h (mroOf (.ref D)) cd.mro := by
  have z : PySem.W.clsIn K D = some cd := by
    unfold PySem.W.clsIn
    rw [e]
  exact (PySem.W.looks_clsIn X z).andThen (f := fun cd => pure cd.mro) .now
theorem silent_fills {nm : String} (X : K.In h) (s : Silent K D [dunder nm, dunderR nm]) : PySem.W.Looks M h (fillsNumberSlot (.ref D) nm) false := by
  obtain ⟨oc, od, cd, sl, e, al⟩ := s
  unfold fillsNumberSlot
  refine (cls_mro X e).andThen (anyM_off fun c hc => ?_)
  have h1 := PySem.W.looks_findIn (M := M) X (al c hc (dunder nm) (by simp))
  have h2 := PySem.W.looks_findIn (M := M) X (al c hc (dunderR nm) (by simp))
  cases c with
  | type n => exact h1.andThen (h2.andThen .now)
  | ref a => exact (h1.andThen (b := false) .now).andThen ((h2.andThen (b := false) .now).andThen .now)
  | _ => exact absurd (al _ hc (dunder nm) (by simp)) (by simp [PySem.W.findIn])
theorem silent_inp {nm : String} {add : Bool} (X : K.In h) (s : Silent K D [dunderI nm]) : PySem.W.Looks M h (fillsInplaceSlot (.ref D) nm add) false := by
  obtain ⟨oc, od, cd, sl, e, al⟩ := s
  unfold fillsInplaceSlot
  refine (cls_mro X e).andThen (anyM_off fun c hc => ?_)
  have h1 := PySem.W.looks_findIn (M := M) X (al c hc (dunderI nm) (by simp))
  exact h1.andThen .now
end
section
variable {prog : Program} {w : World} {A : Around} {E : Value → Shared → Prop} {s : Shared} {K : PySem.W.Frag} {x C D f : Addr} {ox : Obj} {od : Option Obj}
theorem bin1_same {nm : String} {b : Value} {Q : Value → Shared → Prop} (X : K.In s.heap) (I : PySem.W.InstAt s.heap x ox C od) (hb : PySem.W.Looks (model prog w) s.heap (typeOf b) (.ref C)) (hc : PySem.W.selfFirst K C = true)
    (hs : PySem.W.findIn K (.ref C) (dunder nm) = some (some (.ref f))) (hf : PySem.W.isFn K (.ref f) = true)
    (h : wpAny (model prog w) A (call (.ref f) [.ref x, b]) (PySem.W.CmpBack Q) E s) : wpAny (model prog w) A (binaryOp1 nm (.ref x) b) (fun r s' => ∃ v, r = some v ∧ Q v s') E s := by
  obtain ⟨cd, rest, hcd, hm⟩ := PySem.W.ksp_first hc
  have one := PySem.W.ksp_try X I hs hf h
  unfold binaryOp1
  refine wpAny_bind (I.type.here (wpAny_bind (hb.here (wpAny_bind ((PySem.W.fills_K X hcd hm hs).here ?_)))))
  simp only [beq_self_eq_true, if_true]
  refine wpAny_bind (wpAny_pure ?_)
  simp only [Bool.and_false, Bool.false_eq_true, if_false, Bool.false_and]
  refine wpAny_bind (wpAny_pure ?_)
  simp only [Bool.false_eq_true, if_false]
  refine wpAny_bind (wpAny_mono one (fun r s' z => ?_) fun _ _ e => e)
  obtain ⟨v, rfl, q⟩ := z
  exact wpAny_pure ⟨v, rfl, q⟩
theorem bin1_mix {nm : String} {b : Value} {Q : Value → Shared → Prop} (X : K.In s.heap) (I : PySem.W.InstAt s.heap x ox C od) (hb : PySem.W.Looks (model prog w) s.heap (typeOf b) (.ref D)) (hne : C ≠ D) (hc : PySem.W.selfFirst K C = true)
    (hs : PySem.W.findIn K (.ref C) (dunder nm) = some (some (.ref f))) (hf : PySem.W.isFn K (.ref f) = true) (sil : Silent K D [dunder nm, dunderR nm])
    (h : wpAny (model prog w) A (call (.ref f) [.ref x, b]) (PySem.W.CmpBack Q) E s) : wpAny (model prog w) A (binaryOp1 nm (.ref x) b) (fun r s' => ∃ v, r = some v ∧ Q v s') E s := by
  obtain ⟨cd, rest, hcd, hm⟩ := PySem.W.ksp_first hc
  have one := PySem.W.ksp_try X I hs hf h
  have ne : (Value.ref C == Value.ref D) = false := Bool.eq_false_iff.mpr fun q => hne (by
    have z := beq_iff_eq.mp q
    injection z)
  unfold binaryOp1
  refine wpAny_bind (I.type.here (wpAny_bind (hb.here (wpAny_bind ((PySem.W.fills_K X hcd hm hs).here ?_)))))
  simp only [ne, Bool.false_eq_true, if_false]
  refine wpAny_bind ((silent_fills X sil).here ?_)
  simp only [Bool.and_false, Bool.false_eq_true, if_false, Bool.false_and]
  refine wpAny_bind (wpAny_pure ?_)
  simp only [Bool.false_eq_true, if_false]
  refine wpAny_bind (wpAny_mono one (fun r s' z => ?_) fun _ _ e => e)
  obtain ⟨v, rfl, q⟩ := z
  exact wpAny_pure ⟨v, rfl, q⟩
end
section
variable {X : Cx} {n : Nat}
/-- the classes of x and y, at x op y -/
def BinTwo (K : PySem.W.Frag) (C D : Addr) (op : Operator) : Prop := C = D ∨ (C ≠ D ∧ Silent K D [dunder op.info.2, dunderR op.info.2])
def rBinD (K : PySem.W.Frag) (op : Operator) (inp : Bool) (FF : Addr → Sp → XK → Prop) : R2 := fun x y H Q => ∃ (a C dx : Addr) (fs : List (Str × V)) (b D dy : Addr) (gs : List (Str × V)) (sp : Sp) (E : XK), x = .ref a ∧ y = .ref b ∧ H a = some (.ins C dx fs) ∧ H b = some (.ins D dy gs) ∧
  BinTwo K C D op ∧ (inp = true → Silent K C [dunderI op.info.2]) ∧ FF C sp E ∧ sp [x, y] H Q E
abbrev OpF (X : Cx) (n : Nat) (op : Operator) (FF : Addr → Sp → XK → Prop) : Prop := ∀ C sp E, FF C sp E → ∃ (CX : CXT) (f : Addr) (fd : FuncData) (ps : List Str), FnOk X.prog X.w X.K X.mg X.base CX n f fd ps sp ∧ BinCls X.K C f op ∧ Binds X.K fd ps [] ∧ Passes CX X E
theorem bin_run {op : Operator} {inp : Bool} {FF : Addr → Sp → XK → Prop} (hF : OpF X n op FF) (hr : Room n X.A) {pins : List (Addr × Obj)} {s : Shared} {σ : L2.St} {H : Hp} {x y : V} {v u : Value} {Q : VK} (I : Inv X pins σ H s) (rx : RelV x v) (ry : RelV y u)
    (hq : rBinD X.K op inp FF x y H Q) : ∃ (a C : Addr) (ox : Obj) (od : Option Obj), v = .ref a ∧ PySem.W.InstAt s.heap a ox C od ∧ (inp = true → Silent X.K C [dunderI op.info.2]) ∧ wpAny (model X.prog X.w) X.A (binaryOp1 op.info.2 v u) (fun r s' => ∃ z, r = some z ∧ EP X pins σ Q z s') X.xe s := by
  obtain ⟨a, C, dx, fs, b, D, dy, gs, sp, E, rfl, rfl, ha, hb, two, no, ff, hsp⟩ := hq
  obtain ⟨CX, f, fd, ps, F, ec, bi, hx⟩ := hF C sp E ff
  cases rx
  cases ry
  obtain ⟨mA, J, _⟩ := ins_get I.hok ha
  obtain ⟨mB, J', _⟩ := ins_get I.hok hb
  obtain ⟨od, J, _⟩ := J.look
  obtain ⟨od', J', _⟩ := J'.look
  have go : wpAny (model X.prog X.w) X.A (call (.ref f) [.ref a, .ref b]) (PySem.W.CmpBack (EP X pins σ Q)) X.xe s := by
    refine wpAny_mono (run_own (x := .ref a) (y := .ref b) ⟨hr, rfl⟩ F bi hx I rfl rfl hsp) (fun w s' q => ?_) fun _ _ e => e
    obtain ⟨z, H', I', rz, q⟩ := q
    exact vals_back rz ⟨z, H', I', rz, q⟩
  refine ⟨a, C, _, _, rfl, J, no, ?_⟩
  rcases two with rfl | ⟨ne, sil⟩
  · exact bin1_same I.kIn J J'.type ec.sf ec.at_ ec.fn go
  · exact bin1_mix I.kIn J J'.type ne ec.sf ec.at_ ec.fn sil go
theorem op_binD {op : Operator} {FF : Addr → Sp → XK → Prop} (hF : OpF X n op FF) (hr : Room n X.A) : OpR X (binaryOp op) (rBinD X.K op false FF) := by
  intro pins s σ H x y v u Q I rx ry hq
  obtain ⟨a, C, ox, od, rfl, J, no, go⟩ := bin_run hF hr I rx ry hq
  unfold binaryOp
  refine wpAny_holding (wpAny_bind (wpAny_mono go (fun r s' z => ?_) fun _ _ e => e))
  obtain ⟨v, rfl, q⟩ := z
  exact wpAny_pure q
theorem ip_own {op : Operator} {FF : Addr → Sp → XK → Prop} (hF : OpF X n op FF) (hr : Room n X.A) : PIp X op (rBinD X.K op true FF) := by
  intro pins s σ H x y v u Q I rx ry hq
  obtain ⟨a, C, ox, od, rfl, J, no, go⟩ := bin_run hF hr I rx ry hq
  unfold inplaceOp
  refine wpAny_holding (wpAny_bind (J.type.here (wpAny_bind ((silent_inp I.kIn (no rfl)).here ?_))))
  simp only [Bool.false_eq_true, if_false]
  refine wpAny_bind (wpAny_mono go (fun r s' z => ?_) fun _ _ e => e)
  obtain ⟨v, rfl, q⟩ := z
  exact wpAny_pure q
end
end V3

set_option Elab.async false
set_option linter.all false
set_option maxRecDepth 100000
namespace V3
open PySem L2 TL
/-! histories whose tuple may be a written one -/
/-- a tuple, tracked or written -/
def TupH (K : PySem.W.Frag) (H : Hp) (a : Addr) (xs : List V) : Prop := H a = some (.tup xs) ∨ ((∃ o, K.lookup a = some o ∧ o.cls = .type "tuple") ∧ ∀ H, SqT K H a xs)
theorem TupH.sq {K : PySem.W.Frag} {H : Hp} {a : Addr} {xs : List V} (h : TupH K H a xs) : SqT K H a xs := h.elim SqT.of fun z => z.2 H
theorem TupH.ty {K : PySem.W.Frag} {H : Hp} {a : Addr} {xs : List V} (h : TupH K H a xs) : TyX K H (.ref a) (.type "tuple") := by
  rcases h with h | ⟨⟨o, e, c⟩, _⟩
  · exact .base (.tup h)
  · exact .kTuple e c
theorem TupH.same {K : PySem.W.Frag} {H H' : Hp} {a : Addr} {xs : List V} (h : TupH K H a xs) (s : Same H H') : TupH K H' a xs := h.elim (fun z => .inl (s _ _ z)) .inr
def HiK (K : PySem.W.Frag) (c : Cl) (H : Hp) (v : V) (ms : List Mv) : Prop := ∃ x dx q xs, v = .ref x ∧ H x = some (hist c.Hi dx q) ∧ TupH K H q xs ∧ MvsAt c H xs ms
theorem HiK.same {K : PySem.W.Frag} {c : Cl} {H H' : Hp} {v : V} {ms : List Mv} (h : HiK K c H v ms) (s : Same H H') : HiK K c H' v ms := by
  obtain ⟨x, dx, q, xs, e, hx, hq, mv⟩ := h
  exact ⟨x, dx, q, xs, e, s _ _ hx, hq.same s, mv.same s⟩
theorem HiK.of {K : PySem.W.Frag} {c : Cl} {H : Hp} {v : V} {ms : List Mv} (h : HiAt c H v ms) : HiK K c H v ms := by
  obtain ⟨x, dx, q, xs, e, hx, hq, mv⟩ := h
  exact ⟨x, dx, q, xs, e, hx, .inl hq, mv⟩
end V3

set_option Elab.async false
set_option linter.all false
set_option maxRecDepth 100000
/-! == of tuples whose items have an == of their own, whatever comes out -/
namespace V3
open PySem PySem.SeqAt
open AutoSeq1 (wpAny_loadPart')
open MeetsSeq MeetsSeq2 MeetsSeq3 SeqRoads2
section
variable {prog : Program} {w : World} {A : Around} {R : Result → Shared → Prop}
theorem tuple_eqAny (l b : Addr) (xs ys : Array Value) (n n2 : Nat) (dd dd2 : Option Addr) (sl sl2 : Array (Option Value)) (e : Nat → Bool) (res : Bool) (I : Nat → Shared → Prop)
    (turn : ∀ i (h1 : i < xs.size) (h2 : i < ys.size) s, I i s → wpAny (model prog w) A.in1 (eqBool xs[i] ys[i]) (fun r s' => r = e i ∧ I (i + 1) s') (fun x s' => R (.error x) s') s)
    (stop : ∀ i, i < xs.size → i < ys.size → e i = false → res = false) (whole : (∀ i, i < xs.size → i < ys.size → e i = true) → res = (xs.size == ys.size))
    (fin : ∀ i s, I i s → R (.ok (.ret (.bool res))) s) {s : Shared} (hl1 : s.heap.get? l = some { cls := .type "tuple", dict := dd, data := .seq xs n, slots := sl }) (hb1 : s.heap.get? b = some { cls := .type "tuple", dict := dd2, data := .seq ys n2, slots := sl2 }) (h : I 0 s) :
    wpAny (model prog w) A.in1 (Builtin.«tuple.__eq__» ⟨[.ref l, .ref b], []⟩) (GQ.FinOf prog w A R) (fun x s' => R (.error x) s') s := by
  have g2 := AutoSeq1.sub_tuple_tuple
  have lz : (xs.toList.zip ys.toList).length = min xs.size ys.size := by simp
  have h0 := h
  obtain ⟨hp, g, d, tk, os⟩ := s
  wp_walk using wpAny_loadPart' hl1, wpAny_loadPart' hb1, wpAny_forIn_list _ (fun rest b s' => b.1 = none ∧ ∃ i, rest = (xs.toList.zip ys.toList).drop i ∧ i ≤ (xs.toList.zip ys.toList).length ∧ I i s' ∧ ∀ j, j < i → e j = true) _
  case turn =>
    rintro ⟨y, x⟩ rest b s' ⟨hb', i, hz, hi, hI, ht⟩
    have lt : i < (xs.toList.zip ys.toList).length := by
      rcases Nat.lt_or_ge i (xs.toList.zip ys.toList).length with q | q
      · exact q
      · rw [List.drop_of_length_le q] at hz
        cases hz
    have h1 : i < xs.size := by omega
    have h2 : i < ys.size := by omega
    rw [List.drop_eq_getElem_cons lt] at hz
    injection hz with hyx hr
    have ey : y = xs[i] := by simpa using congrArg Prod.fst hyx
    have ex : x = ys[i] := by simpa using congrArg Prod.snd hyx
    subst ey ex
    refine wpAny_bind (wpAny_mono (turn i h1 h2 s' hI) (fun r s2 q2 => ?_) fun _ _ z => z)
    obtain ⟨hr2, q2⟩ := q2
    cases hc : e i with
    | true =>
      rw [hc] at hr2
      subst hr2
      wp_walk
      refine ⟨rfl, i + 1, hr, lt, q2, fun j hj => ?_⟩
      rcases Nat.lt_or_ge j i with k | k
      · exact ht j k
      · have : j = i := by omega
        rw [this]
        exact hc
    | false =>
      rw [hc] at hr2
      subst hr2
      have er := stop i h1 h2 hc
      have z := fin (i + 1) s2 q2
      rw [er] at z
      wp_walk
      all_goals first | exact z | exact ⟨_, rfl, z⟩ | simpa using z
  case fin =>
    rintro ⟨b1, b2⟩ s' ⟨hb', i, hz, hi, hI, ht⟩
    simp only at hb'
    subst hb'
    have ge : (xs.toList.zip ys.toList).length ≤ i := by
      rcases Nat.lt_or_ge i (xs.toList.zip ys.toList).length with q | q
      · rw [List.drop_eq_getElem_cons q] at hz
        cases hz
      · exact q
    have er := whole fun j a c => ht j (by omega)
    have z := fin i s' hI
    rw [er] at z
    wp_walk
    first | exact z | (simpa [Builtin.Tuple.tupleCompareSizes] using z)
  case h =>
    exact ⟨rfl, 0, rfl, Nat.zero_le _, h0, fun j hj => absurd hj (Nat.not_lt_zero j)⟩
end
section
variable {prog : Program} {w : World} {A : Around} {E : Value → Shared → Prop} {s : Shared}
theorem rc_tupAny {l b : Addr} {xs ys : Array Value} {Q : Value → Shared → Prop} (hu : A.units < cLine) (e : Nat → Bool) (res : Bool) (I : Nat → Shared → Prop)
    (hl : s.heap.IsTuple l xs) (hb : s.heap.IsTuple b ys)
    (turn : ∀ i (h1 : i < xs.size) (h2 : i < ys.size) s, I i s → wpAny (model prog w) A.in1 (eqBool xs[i] ys[i]) (fun r s' => r = e i ∧ I (i + 1) s') E s)
    (stop : ∀ i, i < xs.size → i < ys.size → e i = false → res = false) (whole : (∀ i, i < xs.size → i < ys.size → e i = true) → res = (xs.size == ys.size))
    (fin : ∀ i s, I i s → Q (.bool res) s) (h : I 0 s) : wpAny (model prog w) A (richCompare .Eq (.ref l) (.ref b)) Q E s := by
  obtain ⟨⟨c1, d1, da1, sl1⟩, o1, k1, n1, e1⟩ := id hl
  obtain ⟨⟨c2, d2, da2, sl2⟩, o2, k2, n2, e2⟩ := id hb
  simp only at k1 e1 k2 e2
  subst k1 e1 k2 e2
  refine wpAny_richCompare_same_room (op := .Eq) ⟨_, o1, rfl⟩ ⟨_, o2, rfl⟩ F.slot_tuple_eq (GQ.call_here F.slot_tuple_eq ⟨_, o1, rfl⟩ F.entry_tuple_eq (F.args_tuple_eq_2 _ _) ?_) hu
  exact tuple_eqAny (R := wants (fun v s' => v ≠ .notImplemented ∧ Q v s') E) l b xs ys n1 n2 d1 d2 sl1 sl2 e res I turn stop whole (fun i s' q => ⟨(fun x => nomatch x), fin i s' q⟩) o1 o2 h
end
end V3

set_option Elab.async false
set_option linter.all false
set_option maxRecDepth 100000
/-! == of tuples of objects, at the level of values -/
namespace V3
open PySem PySem.Spec PyProof.Rows L2
def EqB (X : Cx) (n : Nat) (D : V → V → Bool → Hp → Prop) : Prop :=
  ∀ (A : Around) (pins : List (Addr × Obj)) (s : Shared) (σ : L2.St) (H : Hp) (x y : V) (u v : Value) (r : Bool), Sub X n A → Inv X pins σ H s → RelV x u → RelV y v → D x y r H →
    wpAny (model X.prog X.w) A (eqBool u v) (fun q s' => q = r ∧ ∃ H', Inv X pins σ H' s' ∧ Ext H H') X.xe s
def MonB (D : V → V → Bool → Hp → Prop) : Prop := ∀ x y r H H', Ext H H' → D x y r H → D x y r H'
def rTupB (K : PySem.W.Frag) (D : V → V → Bool → Hp → Prop) (neg : Bool) : R2 := fun x y H Q => ∃ (a b : Addr) (xs ys : List V) (e : Nat → Bool) (res : Bool), x = .ref a ∧ y = .ref b ∧ SqT K H a xs ∧ SqT K H b ys ∧
  (∀ (i : Nat) x y, xs[i]? = some x → ys[i]? = some y → D x y (e i) H) ∧ (∀ i, i < xs.length → i < ys.length → e i = false → res = false) ∧ ((∀ i, i < xs.length → i < ys.length → e i = true) → res = (xs.length == ys.length)) ∧
  ∀ H', Ext H H' → Q (.bl (res != neg)) H'
theorem at_vals {xs : List V} {its : List Value} (r : Vals xs its) {i : Nat} (h : i < its.toArray.size) : ∃ x, xs[i]? = some x ∧ RelV x its.toArray[i] := by
  have k : i < its.length := by simpa using h
  have k1 : i < xs.length := by rw [r.length]; exact k
  obtain ⟨u, hu, ru⟩ := r.get (List.getElem?_eq_getElem k1)
  rw [List.getElem?_eq_getElem k] at hu
  refine ⟨_, List.getElem?_eq_getElem k1, ?_⟩
  have e : its.toArray[i] = u := by simpa using Option.some.inj hu
  rw [e]
  exact ru
theorem op_eqB {X : Cx} {n : Nat} {D : V → V → Bool → Hp → Prop} (hD : MonB D) (h : EqB X n D) (hr : Room (n + 1) X.A) : OpR X (compareOp .Eq) (rTupB X.K D false) := by
  intro pins s σ H x y v u Q I rx ry hq
  obtain ⟨a, b, xs, ys, e, res, rfl, rfl, ha, hb, pr, st, wh, q⟩ := hq
  cases rx
  cases ry
  obtain ⟨its, r1, t1, z1⟩ := I.tuple ha
  obtain ⟨its2, r2, t2, z2⟩ := I.tuple hb
  have l1 := r1.length
  have l2 := r2.length
  show wpAny (model X.prog X.w) X.A (richCompare .Eq (.ref a) (.ref b)) (EP X pins σ Q) X.xe s
  refine rc_tupAny hr.units0 e res (fun _ s' => ∃ H', Inv X pins σ H' s' ∧ Ext H H') t1 t2 (fun i h1 h2 s' l => ?_) (fun i h1 h2 => st i (by simpa [l1] using h1) (by simpa [l2] using h2)) (fun k => ?_) (fun i s' l => ?_) ⟨H, I, Ext.rfl'⟩
  · obtain ⟨H1, I1, e1⟩ := l
    obtain ⟨x, ex, rx⟩ := at_vals r1 h1
    obtain ⟨y, ey, ry⟩ := at_vals r2 h2
    refine wpAny_mono (h X.A.in1 pins s' σ H1 x y _ _ (e i) ⟨hr.in1, rfl⟩ I1 rx ry (hD _ _ _ _ _ e1 (pr i x y ex ey))) (fun q s2 z => ?_) fun _ _ x => x
    obtain ⟨eq, H2, I2, e2⟩ := z
    exact ⟨eq, H2, I2, e1.trans e2⟩
  · have w := wh fun i a c => k i (by simpa [← l1] using a) (by simpa [← l2] using c)
    rw [w, List.size_toArray, List.size_toArray, l1, l2]
  · obtain ⟨H1, I1, e1⟩ := l
    refine ⟨.bl res, H1, I1, rfl, ?_⟩
    have z := q H1 e1
    rw [show (res != false) = res from by cases res <;> rfl] at z
    exact z
end V3

set_option Elab.async false
set_option linter.all false
set_option maxRecDepth 100000
namespace V3
open PySem L2 TL
theorem num_inj {a b : Int} (ha : 0 ≤ a) (hb : 0 ≤ b) (h : num a = num b) : a = b := by
  have e := congrArg tl h
  rw [tl_num' ha, tl_num' hb] at e
  have z := numL_inj e
  omega
theorem words_inj {m n : Mv} (hm : m.ok) (hn : n.ok) (h : m.words = n.words) : m = n := by
  have neq : ∀ {a b : Str}, decide (a = b) = false → a ≠ b := fun h e => by rw [decide_eq_true e] at h; cases h
  cases m with
  | beg a =>
    cases n with
    | beg b =>
      injection h with _ h
      injection h with h _
      rw [num_inj (by have := hm.1; omega) (by have := hn.1; omega) h]
    | take t =>
      injection h with h _
      exact absurd h (by decide +kernel)
    | takeBy t b => injection h with h _; exact absurd h (by decide +kernel)
    | right t b => injection h with h _; exact absurd h (by decide +kernel)
    | shut => injection h with h _; exact absurd h (by decide +kernel)
  | take t =>
    cases n with
    | take u =>
      injection h with _ h
      injection h with h _
      rw [num_inj hm.1 hn.1 h]
    | beg a => injection h with h _; exact absurd h (by decide +kernel)
    | takeBy u b =>
      injection h with _ h
      injection h with _ h
      cases h
    | right u b => injection h with h _; exact absurd h (by decide +kernel)
    | shut => injection h with h _; exact absurd h (by decide +kernel)
  | takeBy t a =>
    cases n with
    | takeBy u b =>
      injection h with _ h
      injection h with h1 h
      injection h with _ h
      injection h with h2 _
      rw [num_inj hm.1.1 hn.1.1 h1, num_inj (by have := hm.2.1; omega) (by have := hn.2.1; omega) h2]
    | beg b => injection h with h _; exact absurd h (by decide +kernel)
    | take u =>
      injection h with _ h
      injection h with _ h
      cases h
    | right u b => injection h with h _; exact absurd h (by decide +kernel)
    | shut => injection h with h _; exact absurd h (by decide +kernel)
  | right t a =>
    cases n with
    | right u b =>
      injection h with _ h
      injection h with h1 h
      injection h with _ h
      injection h with h2 _
      rw [num_inj hm.1.1 hn.1.1 h1, num_inj (by have := hm.2.1; omega) (by have := hn.2.1; omega) h2]
    | beg b => injection h with h _; exact absurd h (by decide +kernel)
    | take u => injection h with h _; exact absurd h (by decide +kernel)
    | takeBy u b => injection h with h _; exact absurd h (by decide +kernel)
    | shut => injection h with h _; exact absurd h (by decide +kernel)
  | shut =>
    cases n with
    | shut => rfl
    | beg b => injection h with h _; exact absurd h (by decide +kernel)
    | take u => injection h with h _; exact absurd h (by decide +kernel)
    | takeBy u b => injection h with h _; exact absurd h (by decide +kernel)
    | right u b => injection h with h _; exact absurd h (by decide +kernel)
theorem text_inj {m n : Mv} (hm : m.ok) (hn : n.ok) (h : m.text = n.text) : m = n := by
  refine words_inj hm hn ?_
  rw [← split_text hm, ← split_text hn, h]
theorem text_dec {m n : Mv} (hm : m.ok) (hn : n.ok) : decide (m.text = n.text) = decide (m = n) := by
  by_cases h : m = n
  · rw [decide_eq_true h, decide_eq_true (by rw [h])]
  · rw [decide_eq_false h, decide_eq_false fun z => h (text_inj hm hn z)]
end V3

set_option Elab.async false
set_option linter.all false
set_option maxRecDepth 100000
namespace V3
open PySem L2 TL PySem.Spec PyProof.Rows
abbrev sLaw : Stmt := top 31
/-! calls with keywords -/
theorem fun_kb {K : PySem.W.Frag} {x qual : Str} {st : Stmt} {f : Addr} {fd : FuncData} {ps : List Str} (F : Fun K x qual st f fd) (n : Nat) (ks : List Str) (g : {α : Type} → List α → List α → List α)
    (hrel : ∀ {vs zs : List V} {us ws : List Value}, Vals vs us → Vals zs ws → Vals (g vs zs) (g us ws))
    (h : ∀ (kV doc pm : Value) (an : Option Addr) (cdv ct : Value) (us ws : List Value), us.length = n → ws.length = ks.length → bindArgs (PySem.W.fnOf x qual (defArgs st) (defBody st) (defScope st) .none kV doc pm an cdv ct) ⟨us, ks.zip ws⟩ = pure (ps.zip (g us ws))) :
    KBn K fd ps n ks (fun us ws => g us ws) (fun vs zs => g vs zs) := by
  obtain ⟨oc, od, kV, doc, pm, an, cdv, ct, osl, rfl, lk, hcd⟩ := F.ex
  exact ⟨fun s us ws X l1 l2 => BindsTo.of_looks fun M => PySem.W.Looks.of_pure (h kV doc pm an cdv ct us ws l1 l2), fun r1 r2 => hrel r1 r2⟩
/-- C.m(k = v, ..), m a class method of the class at C -/
def tCMethK (C : Addr) (n : Nat) (sp : Sp) (gV : List V → List V → List V) (E : XK) (ta : TE) (tk : TA) : TE := fun σ H Q => ta σ H fun x H1 => x = .ref C ∧ tk σ H1 fun zs H2 => zs.length = n ∧ sp (gV [.ref C] zs) H2 Q E
section
variable {X : Cx} {CX : CXT} {k : Nat} {C p g : Addr} {mc : Value} {sp : Sp} {E : XK} {o : Expr} {m : Str} {pos apos : Pos} {ta tk : TA} {to : TE} {pl : Sem Bool} {fd : FuncData} {ps ks : List Str} {G : List Value → List Value → List Value} {gV : List V → List V → List V} {kws : List Keyword}
theorem run_cmK {pins : List (Addr × Obj)} {σ : L2.St} {H : Hp} {s : Shared} {Q : VK} {q : Addr} {ws : List Value} {zs : List V} (F : FnOk X.prog X.w X.K X.mg X.base CX k g fd ps sp) (hr : Room k X.A) (hb : KBn X.K fd ps 1 ks G gV) (hx : Passes CX X E)
    (I : Inv X ((q, PySem.W.methodObj (.ref g) (.ref C)) :: pins) σ H s) (r : Vals zs ws) (l : zs.length = ks.length) (h : sp (gV [.ref C] zs) H Q E) : wpAny (model X.prog X.w) X.A (call (.ref q) [] (ks.zip ws)) (EP X pins σ Q) X.xe s := by
  have z : wpAny (model X.prog X.w) X.A (call (.ref q) [] (ks.zip ws)) (EP X ((q, PySem.W.methodObj (.ref g) (.ref C)) :: pins) σ Q) X.xe s := by
    refine wpAny_call (PySem.W.method_call (ClX.pin_at I) (codeAny_mono (F.run X.A X.stack s H ⟨[.ref C], ks.zip ws⟩ (G [.ref C] ws) (gV [.ref C] zs) Q E hr I.env0 (hb.to s [.ref C] ws I.kIn rfl (r.length.symm.trans l)) (hb.rel (.cons rfl .nil) r) h) fun res s' hq => ?_))
    cases res with
    | error e => exact hx _ σ H s e s' I hq
    | ok fl =>
      cases fl with
      | ret u => exact I.after hq
      | next => exact False.elim hq
      | brk => exact False.elim hq
      | cont => exact False.elim hq
  exact thn z fun _ _ y => ClX.unpinE y
theorem pe_cmethK (he : PE X o to) (r : ClX.CRead X.K C mc) (c : ClX.CMet X.K C mc m p g) (F : FnOk X.prog X.w X.K X.mg X.base CX k g fd ps sp) (hb : KBn X.K fd ps 1 ks G gV) (hr : Room k X.A) (hx : Passes CX X E) (hkw : PK X kws tk)
    (hall : (backToKw pos (keywordEach kws X.env)).all (·.1.isSome) = true := by rfl) (hks : (backToKw pos (keywordEach kws X.env)).filterMap (·.1) = ks := by rfl)
    (hpl : ((backTo pos (starEach [] X.env)).any (·.1) || (backToKw pos (keywordEach kws X.env)).any (·.1.isNone)) = false := by rfl)
    (ht : eval (.Call (.Attribute o m apos) [] kws pos) X.env = (do
      let ov ← eval o X.env
      standAt apos.atName
      let (f, first) ← holding [ov] (getMethod ov m pl)
      callWith pos f first (backTo pos (starEach [] X.env)) (backToKw pos (keywordEach kws X.env))) := by rfl) :
    PE X (.Call (.Attribute o m apos) [] kws pos) (tCMethK C ks.length sp gV E to tk) := by
  refine ⟨fun pins s σ H Q I h => ?_⟩
  refine PySem.W.methodCall_KW (pl := pl) (thn (he.run pins s σ H _ I h) fun u s1 ⟨x, H1, I1, rx, ex, q⟩ => ?_) ht
  subst ex
  obtain rfl : u = Value.ref C := rx
  refine ClX.getmethcm_ok I1 r c fun s2 I2 => ?_
  refine PySem.W.callWith_of hpl (PySem.W.keeps_M c.fi) (evalArgs_kw2_nil hall (thn (hkw.run pos _ s2 σ H1 _ I2 q) fun ws s3 ⟨zs, H2, I3, rz, l, q2⟩ => ⟨⟨ClX.pin_at I3, I3.kIn⟩, ?_⟩))
  rw [hks]
  exact run_cmK F hr hb hx I3 rz l q2
end
end V3

set_option Elab.async false
set_option linter.all false
set_option maxRecDepth 100000
namespace V3
open PySem L2 TL
/-! the law -/
/-- what is made: a move -/
theorem mk_beg {c : Cl} {CM y dy : Addr} {H : Hp} {a : Int} {R : VK} {E : XK} (ok : Amt a) (ny : H y = none) (ndy : H dy = none) (k : ∀ H', Same H H' → MvAt c H' (.ref y) (.beg a) → R .non H') :
    spBegin c.B CM [.ref y, .int a] (upd (upd H dy (.own y)) y (.ins c.B dy [])) R E := by
  obtain ⟨a1, a2⟩ := ok
  exact ⟨y, dy, .int a, rfl, upd_same, .int _ (by omega), fun _ => k _ (made_same2 ny ndy) ⟨y, dy, rfl, upd_same⟩, fun e => absurd (num_yes a1) (by rw [e]; decide)⟩
theorem mk_take {c : Cl} {CM y dy : Addr} {H : Hp} {t : Int} {R : VK} {E : XK} (ok : V3.Idx t) (ny : H y = none) (ndy : H dy = none) (k : ∀ H', Same H H' → MvAt c H' (.ref y) (.take t) → R .non H') :
    spTake c.T CM [.ref y, .int t, .non] (upd (upd H dy (.own y)) y (.ins c.T dy [])) R E := by
  obtain ⟨t1, t2⟩ := ok
  exact ⟨y, dy, .int t, .non, rfl, upd_same, .int _ (by omega), .non, fun _ _ => k _ (made_same2 ny ndy) ⟨y, dy, rfl, upd_same⟩, fun e => absurd (num_yes t1) (by rw [e]; decide), fun _ c => absurd rfl c⟩
theorem mk_takeBy {c : Cl} {CM y dy : Addr} {H : Hp} {t a : Int} {R : VK} {E : XK} (ot : V3.Idx t) (oa : Amt a) (ny : H y = none) (ndy : H dy = none) (k : ∀ H', Same H H' → MvAt c H' (.ref y) (.takeBy t a) → R .non H') :
    spTake c.T CM [.ref y, .int t, .int a] (upd (upd H dy (.own y)) y (.ins c.T dy [])) R E := by
  obtain ⟨t1, t2⟩ := ot
  obtain ⟨a1, a2⟩ := oa
  exact ⟨y, dy, .int t, .int a, rfl, upd_same, .int _ (by omega), .int _ (by omega), fun _ _ => k _ (made_same2 ny ndy) ⟨y, dy, rfl, upd_same⟩, fun e => absurd (num_yes t1) (by rw [e]; decide), fun _ _ e => absurd (num_yes a1) (by rw [e]; decide)⟩
theorem mk_right {c : Cl} {CM y dy : Addr} {H : Hp} {t a : Int} {R : VK} {E : XK} (ot : V3.Idx t) (oa : Amt a) (ny : H y = none) (ndy : H dy = none) (k : ∀ H', Same H H' → MvAt c H' (.ref y) (.right t a) → R .non H') :
    spRight c.R CM [.ref y, .int t, .int a] (upd (upd H dy (.own y)) y (.ins c.R dy [])) R E := by
  obtain ⟨t1, t2⟩ := ot
  obtain ⟨a1, a2⟩ := oa
  exact ⟨y, dy, .int t, .int a, rfl, upd_same, .int _ (by omega), .int _ (by omega), fun _ _ => k _ (made_same2 ny ndy) ⟨y, dy, rfl, upd_same⟩, fun e => absurd (num_yes t1) (by rw [e]; decide), fun _ e => absurd (num_yes a1) (by rw [e]; decide)⟩
theorem mk_shut {c : Cl} {y dy : Addr} {H : Hp} {Q : VK} (k : ∀ v H', Same H H' → MvAt c H' v .shut → Q v H') (ny : H y = none) (ndy : H dy = none) : Q (.ref y) (upd (upd H dy (.own y)) y (.ins c.S dy [])) :=
  k _ _ (made_same ny ndy) ⟨y, dy, rfl, upd_same⟩
theorem mk_hist {c : Cl} {y dy a : Addr} {H : Hp} {xs : List V} {ms : List Mv} {R : VK} {E : XK} (ha : H a = some (.lst xs)) (mv : MvsAt c H xs ms) (n : ms.length ≤ 1000) (ny : H y = none) (ndy : H dy = none) (k : ∀ H', Same H H' → HiAt c H' (.ref y) ms → R .non H') :
    spHIM c [.ref y, .ref a] (upd (upd H dy (.own y)) y (.ins c.Hi dy [])) R E :=
  ⟨y, dy, a, xs, ms, rfl, upd_same, made_same ny ndy _ _ ha, mv.same (made_same ny ndy), n, fun q H' s hx hq => by
    obtain ⟨S, hi⟩ := hi_made ny ndy mv s hx hq
    exact k _ S hi⟩
/-- a pair of the same moves -/
def Prd (c : Cl) (H : Hp) (v : V) (m : Mv) : Prop := ∃ t x y, v = .ref t ∧ H t = some (.tup [x, y]) ∧ MvAt c H x m ∧ MvAt c H y m
theorem Prd.same {c : Cl} {H H' : Hp} {v : V} {m : Mv} (h : Prd c H v m) (s : Same H H') : Prd c H' v m := by
  obtain ⟨t, x, y, e, ht, hx, hy⟩ := h
  exact ⟨t, x, y, e, s _ _ ht, hx.same s, hy.same s⟩
theorem Prd.upd_lst {c : Cl} {H : Hp} {D : Addr} {o : HO} {ys : List V} {v : V} {m : Mv} (hD : H D = some (.lst ys)) (h : Prd c H v m) : Prd c (upd H D o) v m := by
  obtain ⟨t, x, y, e, ht, hx, hy⟩ := h
  have ne : t ≠ D := by
    intro z
    subst z
    rw [ht] at hD
    cases hD
  exact ⟨t, x, y, e, by rw [upd_ne ne]; exact ht, hx.upd_lst hD, hy.upd_lst hD⟩
def PrsAt (c : Cl) (H : Hp) : List V → List Mv → Prop
  | [], [] => True
  | x :: xs, m :: ms => Prd c H x m ∧ PrsAt c H xs ms
  | _, _ => False
theorem PrsAt.same {c : Cl} {H H' : Hp} (s : Same H H') : ∀ {xs : List V} {ms : List Mv}, PrsAt c H xs ms → PrsAt c H' xs ms
  | [], [], _ => trivial
  | _ :: _, _ :: _, h => ⟨h.1.same s, PrsAt.same s h.2⟩
  | [], _ :: _, h => h.elim
  | _ :: _, [], h => h.elim
theorem PrsAt.len {c : Cl} {H : Hp} : ∀ {xs : List V} {ms : List Mv}, PrsAt c H xs ms → xs.length = ms.length
  | [], [], _ => rfl
  | _ :: xs, _ :: ms, h => by rw [List.length_cons, List.length_cons, PrsAt.len h.2]
  | [], _ :: _, h => h.elim
  | _ :: _, [], h => h.elim
theorem PrsAt.at {c : Cl} {H : Hp} : ∀ {xs : List V} {ms : List Mv} {i : Nat} {x : V}, PrsAt c H xs ms → xs[i]? = some x → ∃ m, ms[i]? = some m ∧ Prd c H x m
  | [], _, i, x, _, e => by simp at e
  | _ :: _, [], _, _, h, _ => h.elim
  | y :: ys, m :: ms, 0, x, h, e => ⟨m, rfl, by
    have e2 : y = x := Option.some.inj e
    subst e2
    exact h.1⟩
  | y :: ys, m :: ms, i + 1, x, h, e => PrsAt.at (xs := ys) (ms := ms) (i := i) h.2 e
/-- how a class is made by a call with keywords -/
structure MkKw (P : Program) (w : World) (K : PySem.W.Frag) (mg : Str → Option Value) (base : Heap) (CX : CXT) (ps : List Str) (C : Addr) (sp : Sp) (ks : List Str) (gV : List V → List V → List V) : Prop where
  ex : ∃ (f : Addr) (fd : FuncData) (g : List Value → List Value → List Value), FnOk P w K mg base CX 4 f fd ps sp ∧ Mk K C f ∧ KBn K fd ps 1 ks g gV
/-- the classes whose == is told -/
def FFm (c : Cl) : Addr → Sp → XK → Prop := fun C sp _ => ∃ k, k < 4 ∧ C = c.at k ∧ sp = spMEq c
def FFh (c : Cl) : Addr → Sp → XK → Prop := fun C sp _ => C = c.Hi ∧ sp = spHEq c
structure HiEq (P : Program) (w : World) (K : PySem.W.Frag) (mg : Str → Option Value) (base : Heap) (c : Cl) : Prop where
  e : ∃ (f : Addr) (fd : FuncData), FnOk P w K mg base CX0 6 f fd ["self", "other"] (spHEq c) ∧ EqCls K c.Hi f ∧ Binds K fd ["self", "other"] []
structure HiStr (P : Program) (w : World) (K : PySem.W.Frag) (mg : Str → Option Value) (base : Heap) (c : Cl) : Prop where
  s : ∃ (f : Addr) (fd : FuncData), FnOk P w K mg base CX0 4 f fd ["self"] (spHStr c) ∧ PySem.W.findIn K (.ref c.Hi) "__str__" = some (some (.ref f)) ∧ PySem.W.isFn K (.ref f) = true ∧ Binds K fd ["self"] []
structure HiRead (P : Program) (w : World) (K : PySem.W.Frag) (mg : Str → Option Value) (base : Heap) (c : Cl) : Prop where
  r : ∃ (mc : Value) (p f : Addr) (fd : FuncData) (g : List Value → List Value → List Value), ClX.CRead K c.Hi mc ∧ ClX.CMet K c.Hi mc "read" p f ∧ FnOk P w K mg base CX0 9 f fd ["cls", "text"] (spRead c) ∧ KBn K fd ["cls", "text"] 1 ["text"] g (fun vs zs => vs ++ zs)
theorem op_neM {X : Cx} {c : Cl} (T : EqTxt X.prog X.w X.K X.mg X.base c) (hr : Room 5 X.A) : OpR X (compareOp .NotEq) (rEqO X.K 4 (FFm c) true) := op_neO (fun C sp E h => by
  obtain ⟨k, hk, rfl, rfl⟩ := h
  obtain ⟨f, fd, F, ec, bi⟩ := T.e k hk
  exact ⟨CX0, f, fd, _, F, ec, bi, fun _ _ _ _ _ _ _ h => h.elim⟩) hr
theorem op_neHX {X : Cx} {c : Cl} (T : HiEq X.prog X.w X.K X.mg X.base c) (hr : Room 7 X.A) : OpR X (compareOp .NotEq) (rEqO X.K 6 (FFh c) true) := op_neO (fun C sp E h => by
  obtain ⟨rfl, rfl⟩ := h
  obtain ⟨f, fd, F, ec, bi⟩ := T.e
  exact ⟨CX0, f, fd, _, F, ec, bi, fun _ _ _ _ _ _ _ h => h.elim⟩) hr
/-- str(h), h a history -/
def rStrHX (c : Cl) : List V → Hp → VK → Prop := fun xs H Q => ∃ v ms, xs = [v] ∧ HiAt c H v ms ∧ (∀ m ∈ ms, m.ok) ∧ ms.length ≤ 1000 ∧ ∀ H', Same H H' → Q (.str (hText ms)) H'
theorem call_strHX {X : Cx} {c : Cl} (T : HiStr X.prog X.w X.K X.mg X.base c) (room : Room 6 X.A) : CallR X (.type "str") (rStrHX c) := by
  intro pins s σ H xs us Q I r h
  obtain ⟨v, ms, rfl, hi, ok, n, q⟩ := h
  obtain ⟨f, fd, G, at_, isf, bi⟩ := T.s
  obtain ⟨x, dx, t, ys, rfl, hx, ht, mv⟩ := id hi
  exact call_strO (E := fun _ _ _ => False) G at_ isf bi pass0 room pins s σ H _ us Q I r ⟨x, dx, _, rfl, hx, _, ms, rfl, hi, ok, n, fun H' s => ⟨_, rfl, q H' s⟩⟩
end V3

set_option Elab.async false
set_option linter.all false
set_option maxRecDepth 100000
namespace V3
open PySem L2 TL
abbrev tgP (K : PySem.W.Frag) : TG := gTup K 2 (gCons (gName 6) (gCons (gName 7) gNil))
def rdA (K : PySem.W.Frag) (c : Cl) : TE := tLc (iList K (tVar 5)) (tgP K) (tOr (tTest (tOp (rEqO K 4 (FFm c) true) (tVar 6) (tVar 7))) (tTest (tOp rNe (tCB (rStrM c) (tCons (tVar 6) tNil)) (tCB (rStrM c) (tCons (tVar 7) tNil))))) (tC (.int 1)) [6, 7]
def rdB (K : PySem.W.Frag) (c : Cl) (j : Nat) : TE := tOp rCat (tLc (iList K (tVar 5)) (tgP K) tYes (tVar j) [6, 7]) (tLst (tCons (tNew c.S) tNil))
section
variable {K : PySem.W.Frag} {c : Cl} {s0 s1 s2 s3 s4 s6 s7 s8 : Option V} {H : Hp} {D : Addr} {vs : List V} {ms : List Mv} {MV : Addr}
/-- the pairs that differ: none -/
theorem lcA (C : MvCls K c MV) (hD : H D = some (.lst vs)) (pr : PrsAt c H vs ms) (ok : ∀ m ∈ ms, m.ok) {Q : VK} (k : ∀ R H', Same H H' → H' R = some (.lst []) → Q (.ref R) H') :
    rdA K c
      [s0, s1, s2, s3, s4, some (.ref D), s6, s7, s8] H Q := by
  refine ⟨_, rfl, D, rfl, ⟨vs, SqL.of hD⟩, fun R nR => ?_⟩
  refine lc_list (K := K) (a := D) (xs := vs) (fun i Hh => Same H Hh ∧ H R = none ∧ Hh R = some (.lst [])) ⟨Same.new nR, nR, upd_same⟩ (fun i Hh _ p => SqL.of (p.1 _ _ hD)) ?_ ?_
  · intro i v Hh hi p
    obtain ⟨m, hm, t, x, y, rfl, ht, hx, hy⟩ := pr.at hi
    have okm := ok m (List.mem_of_getElem? hm)
    have hx' := hx.same p.1
    have hy' := hy.same p.1
    obtain ⟨xa, dx, rfl, ex⟩ := id hx'
    obtain ⟨ya, dy, rfl, ey⟩ := id hy'
    obtain ⟨fs, eo⟩ := mv_at c m dx
    obtain ⟨gs, eo2⟩ := mv_at c m dy
    refine ⟨t, _, rfl, SqT.of (p.1 _ _ ht), rfl, _, _, rfl, _, _, rfl, rfl, rfl, ?_⟩
    refine ⟨_, rfl, _, rfl, xa, c.at m.kind, dx, fs, ya, c.at m.kind, dy, gs, spMEq c, E0, rfl, rfl, by rw [ex, eo], by rw [ey, eo2], ⟨m.kind, kind_lt m, rfl, rfl⟩, C.nf _ (kind_lt m) _ (kind_lt m), _, _, m, m, rfl, hx', hy', okm, okm, ?_⟩
    rw [decide_eq_true rfl]
    refine ⟨true, rfl, false, rfl, iteF ?_⟩
    refine ⟨_, rfl, _, m, rfl, hx', okm, _, rfl, _, m, rfl, hy', okm, rfl, _, rfl, ?_⟩
    rw [decide_eq_true rfl]
    exact iteF p
  · intro Hh p
    exact k R Hh p.1 p.2.2
/-- .. of one side, with a Shut behind -/
theorem catA (hD : H D = some (.lst vs)) (pr : PrsAt c H vs ms) (n : ms.length ≤ 900) {Q : VK} (k : ∀ p xs H', Same H H' → H' p = some (.lst xs) → MvsAt c H' xs (ms ++ [.shut]) → Q (.ref p) H') :
    rdB K c 6 [s0, s1, s2, s3, s4, some (.ref D), s6, s7, s8] H Q := by
  refine ⟨_, rfl, D, rfl, ⟨vs, SqL.of hD⟩, fun R nR => ?_⟩
  have lv := pr.len
  refine lc_list (K := K) (a := D) (xs := vs) (fun i Hh => Same H Hh ∧ H R = none ∧ ∃ xs, Hh R = some (.lst xs) ∧ MvsAt c Hh xs (ms.take i)) ⟨Same.new nR, nR, [], upd_same, trivial⟩ (fun i Hh _ p => SqL.of (p.1 _ _ hD)) ?_ ?_
  · intro i v Hh hi p
    obtain ⟨m, hm, t, x, y, rfl, ht, hx, hy⟩ := pr.at hi
    obtain ⟨sH, nR, xs, hR, mv⟩ := p
    have le := mv.len
    rw [List.length_take] at le
    refine ⟨t, _, rfl, SqT.of (sH _ _ ht), rfl, _, _, rfl, _, _, rfl, rfl, rfl, ?_⟩
    unfold tYes
    dsimp only
    refine iteT ⟨_, rfl, xs, hR, Nat.lt_of_le_of_lt (m := 1000) (by omega) (by decide), Same.upn sH nR, nR, xs ++ [_], upd_same, ?_⟩
    rw [take_next' hm]
    exact MvsAt.snoc ((hx.same sH).upd_lst hR) (mv.upd_lst hR)
  · intro Hh p
    obtain ⟨sH, nR, xs, hR, mv⟩ := p
    rw [lv, List.take_length] at mv
    have le := mv.len
    refine fun y dy ny ndy _ => ?_
    have sM : Same Hh (upd (upd Hh dy (.own y)) y (.ins c.S dy [])) := made_same ny ndy
    have sh : MvAt c (upd (upd Hh dy (.own y)) y (.ins c.S dy [])) (.ref y) .shut := ⟨y, dy, rfl, upd_same⟩
    refine ⟨(by show 1 ≤ sizeLine; decide), fun l nl => ?_⟩
    have sL := sM.trans (Same.new (o := .lst [.ref y]) nl)
    have sh2 := sh.same (Same.new (o := .lst [.ref y]) nl)
    refine ⟨R, l, xs, [.ref y], rfl, rfl, sL _ _ hR, upd_same, ?_, fun p np => ?_⟩
    · exact Nat.le_trans (m := 1000) (by rw [List.length_singleton]; omega) (by decide)
    · have sP := Same.new (o := .lst (xs ++ [.ref y])) np
      exact k p _ _ ((sH.trans sL).trans sP) upd_same (MvsAt.snoc (sh2.same sP) (mv.same (sL.trans sP)))
/-- .. of one side, with a Shut behind -/
theorem catB (hD : H D = some (.lst vs)) (pr : PrsAt c H vs ms) (n : ms.length ≤ 900) {Q : VK} (k : ∀ p xs H', Same H H' → H' p = some (.lst xs) → MvsAt c H' xs (ms ++ [.shut]) → Q (.ref p) H') :
    rdB K c 7 [s0, s1, s2, s3, s4, some (.ref D), s6, s7, s8] H Q := by
  refine ⟨_, rfl, D, rfl, ⟨vs, SqL.of hD⟩, fun R nR => ?_⟩
  have lv := pr.len
  refine lc_list (K := K) (a := D) (xs := vs) (fun i Hh => Same H Hh ∧ H R = none ∧ ∃ xs, Hh R = some (.lst xs) ∧ MvsAt c Hh xs (ms.take i)) ⟨Same.new nR, nR, [], upd_same, trivial⟩ (fun i Hh _ p => SqL.of (p.1 _ _ hD)) ?_ ?_
  · intro i v Hh hi p
    obtain ⟨m, hm, t, x, y, rfl, ht, hx, hy⟩ := pr.at hi
    obtain ⟨sH, nR, xs, hR, mv⟩ := p
    have le := mv.len
    rw [List.length_take] at le
    refine ⟨t, _, rfl, SqT.of (sH _ _ ht), rfl, _, _, rfl, _, _, rfl, rfl, rfl, ?_⟩
    unfold tYes
    dsimp only
    refine iteT ⟨_, rfl, xs, hR, Nat.lt_of_le_of_lt (m := 1000) (by omega) (by decide), Same.upn sH nR, nR, xs ++ [_], upd_same, ?_⟩
    rw [take_next' hm]
    exact MvsAt.snoc ((hy.same sH).upd_lst hR) (mv.upd_lst hR)
  · intro Hh p
    obtain ⟨sH, nR, xs, hR, mv⟩ := p
    rw [lv, List.take_length] at mv
    have le := mv.len
    refine fun y dy ny ndy _ => ?_
    have sM : Same Hh (upd (upd Hh dy (.own y)) y (.ins c.S dy [])) := made_same ny ndy
    have sh : MvAt c (upd (upd Hh dy (.own y)) y (.ins c.S dy [])) (.ref y) .shut := ⟨y, dy, rfl, upd_same⟩
    refine ⟨(by show 1 ≤ sizeLine; decide), fun l nl => ?_⟩
    have sL := sM.trans (Same.new (o := .lst [.ref y]) nl)
    have sh2 := sh.same (Same.new (o := .lst [.ref y]) nl)
    refine ⟨R, l, xs, [.ref y], rfl, rfl, sL _ _ hR, upd_same, ?_, fun p np => ?_⟩
    · exact Nat.le_trans (m := 1000) (by rw [List.length_singleton]; omega) (by decide)
    · have sP := Same.new (o := .lst (xs ++ [.ref y])) np
      exact k p _ _ ((sH.trans sL).trans sP) upd_same (MvsAt.snoc (sh2.same sP) (mv.same (sL.trans sP)))
theorem seqA (C : MvCls K c MV) (hD : H D = some (.lst vs)) (pr : PrsAt c H vs ms) (ok : ∀ m ∈ ms, m.ok) {A rest : TS} {D' : L2.Ends} (k : ∀ H', Same H H' → rest D' [s0, s1, s2, s3, s4, some (.ref D), s6, s7, s8] H') :
    tSeq (tIfS (tTest (tOp rNeE (rdA K c) (tLst tNil))) A tNext) rest D' [s0, s1, s2, s3, s4, some (.ref D), s6, s7, s8] H := by
  dsimp only [tSeq, tIfS, tTest, tOp]
  refine lcA C hD pr ok fun R H1 s1 hR => ⟨Nat.zero_le _, fun e ne => ?_⟩
  have sE := Same.new (o := .lst []) ne
  exact ⟨R, e, [], rfl, rfl, sE _ _ hR, upd_same, _, rfl, iteF (k _ (s1.trans sE))⟩
theorem seqB {h0 : ms.length ≤ 900} (hD : H D = some (.lst vs)) (pr : PrsAt c H vs ms) {rest : TS} {D' : L2.Ends} {E : XK} {gV : List V → List V → List V} (hg : ∀ x y, gV [x] [y] = [x, y])
    (k : ∀ h H', Same H H' → HiAt c H' (.ref h) (ms ++ [.shut]) → rest D' [s0, s1, s2, s3, s4, some (.ref D), s6, s7, some (.ref h)] H') :
    tSeq (tAsg (tMakeK c.Hi 0 1 (spHIM c) gV E tNil (tCons (rdB K c 6) tNil)) (gName 8)) rest D' [s0, s1, s2, s3, s4, some (.ref D), s6, s7, s8] H := by
  dsimp only [tSeq, tAsg, tMakeK, tNil, tCons]
  refine catA (c := c) hD pr h0 fun p xs H1 s1 hp mv => ⟨rfl, rfl, fun h1 d1 n1 m1 _ => ?_⟩
  rw [hg]
  refine mk_hist hp mv (by rw [List.length_append, List.length_singleton]; omega) n1 m1 fun H2 s2 hi => ⟨rfl, ?_⟩
  exact k h1 H2 (s1.trans s2) hi
theorem ifC {h : Addr} {h0 : ms.length ≤ 900} (nf : PySem.W.notFirst K c.Hi (.ref c.Hi) = true) (hD : H D = some (.lst vs)) (pr : PrsAt c H vs ms) (ok : ∀ m ∈ ms ++ [.shut], m.ok) (hi : HiAt c H (.ref h) (ms ++ [.shut])) {A : TS} {D' : L2.Ends} {E1 E2 : XK}
    (k : ∀ H', Same H H' → D'.nx [s0, s1, s2, s3, s4, some (.ref D), s6, s7, some (.ref h)] H') :
    tIfS (tOr (tTest (tOp (rEqO K 6 (FFh c) true) (tVar 8) (tMake c.Hi (spHIM c) [] E1 (tCons (rdB K c 7) tNil))))
      (tTest (tOp (rEqO K 6 (FFh c) true) (tCMethK c.Hi 1 (spRead c) (fun vs zs => vs ++ zs) E2 (tC (.ref c.Hi)) (tCons (tCB (rStrHX c) (tCons (tVar 8) tNil)) tNil)) (tVar 8)))) A tNext D'
      [s0, s1, s2, s3, s4, some (.ref D), s6, s7, some (.ref h)] H := by
  have le : (ms ++ [Mv.shut]).length ≤ 1000 := by
    rw [List.length_append, List.length_singleton]
    omega
  have cmp : ∀ {u v : V} {H1 : Hp} {R : VK}, HiAt c H1 u (ms ++ [.shut]) → HiAt c H1 v (ms ++ [.shut]) → (∀ H2, Same H1 H2 → R (.bl false) H2) → rEqO K 6 (FFh c) true u v H1 R := by
    intro u v H1 R hu hv kk
    obtain ⟨x, dx, q, xs, rfl, hx, hq, mx⟩ := id hu
    obtain ⟨y, dy, q2, ys, rfl, hy, hq2, my⟩ := id hv
    exact ⟨x, c.Hi, dx, _, y, c.Hi, dy, _, spHEq c, E0, rfl, rfl, hx, hy, ⟨rfl, rfl⟩, nf, _, _, _, rfl, hu, hv, ok, fun H2 s => ⟨true, rfl, kk H2 s⟩⟩
  dsimp only [tIfS, tOr, tTest, tOp, tMake, tCons, tNil]
  refine ⟨_, rfl, ?_⟩
  refine catB (c := c) hD pr h0 fun p xs H1 s1 hp mv => fun h1 d1 n1 m1 _ => mk_hist hp mv le n1 m1 fun H2 s2 hi2 => ⟨rfl, ?_⟩
  have s3 := s1.trans s2
  refine cmp (hi.same s3) hi2 fun H3 s4 => ⟨false, rfl, iteF ?_⟩
  have s5 := s3.trans s4
  refine ⟨rfl, _, rfl, _, _, rfl, hi.same s5, ok, le, fun H4 s6 => ⟨rfl, _, rfl, ok, le, fun v H5 s7 hv => ⟨_, rfl, ?_⟩⟩⟩
  have s8 := (s5.trans s6).trans s7
  exact cmp hv (hi.same s8) fun H6 s9 => ⟨false, rfl, iteF (k _ (s8.trans s9))⟩
end
end V3

set_option Elab.async false
set_option linter.all false
set_option maxRecDepth 100000
namespace V3
open PySem L2 TL
abbrev sHLen : Stmt := inClass (top 15) 2
abbrev sHGet : Stmt := inClass (top 15) 3
abbrev sHAdd : Stmt := inClass (top 15) 5
theorem MvsAt.app {c : Cl} {H : Hp} : ∀ {xs ys : List V} {ms ns : List Mv}, MvsAt c H xs ms → MvsAt c H ys ns → MvsAt c H (xs ++ ys) (ms ++ ns)
  | [], _, [], _, _, h => h
  | [], _, _ :: _, _, h, _ => h.elim
  | _ :: _, _, [], _, h, _ => h.elim
  | x :: xs, ys, m :: ms, ns, h, k => ⟨h.1, MvsAt.app (xs := xs) (ms := ms) h.2 k⟩
theorem MvsAt.pick {c : Cl} {H : Hp} {xs : List V} {ms : List Mv} (h : MvsAt c H xs ms) : ∀ idx : List Nat, MvsAt c H (idx.filterMap fun i => xs[i]?) (idx.filterMap fun i => ms[i]?)
  | [] => True.intro
  | i :: idx => by
    have ih := MvsAt.pick h idx
    rw [List.filterMap_cons, List.filterMap_cons]
    cases e : xs[i]? with
    | none =>
      have l := List.getElem?_eq_none_iff.mp e
      have e2 : ms[i]? = none := List.getElem?_eq_none (by rw [← h.len]; exact l)
      rw [e2]
      exact ih
    | some x =>
      obtain ⟨m, em, a⟩ := h.at e
      rw [em]
      exact ⟨a, ih⟩
theorem MvsAt.step {c : Cl} {H : Hp} {xs : List V} {ms : List Mv} (h : MvsAt c H xs ms) (lo hi st : Option Int) : MvsAt c H (stepL xs lo hi st) (stepL ms lo hi st) := by
  unfold stepL
  rw [h.len]
  exact h.pick _
def spIsMT (K : PySem.W.Frag) (c : Cl) : Sp := fun vs H Q _ => ∃ (a : Addr) (xs : List V) (ms : List Mv), vs = [.ref a] ∧ TupH K H a xs ∧ MvsAt c H xs ms ∧ ms.length ≤ 1000 ∧ ∀ H', Same H H' → Q (.bl true) H'
def spHIT (K : PySem.W.Frag) (c : Cl) : Sp := fun vs H Q _ => ∃ (x dx a : Addr) (xs : List V) (ms : List Mv), vs = [.ref x, .ref a] ∧ H x = some (.ins c.Hi dx []) ∧ TupH K H a xs ∧ MvsAt c H xs ms ∧ ms.length ≤ 1000 ∧
  ∀ (H' : Hp), (∀ d o, d ≠ x → H d = some o → H' d = some o) → H' x = some (hist c.Hi dx a) → Q .non H'
def spHLenK (K : PySem.W.Frag) (c : Cl) : Sp := fun vs H Q _ => ∃ v ms, vs = [v] ∧ HiK K c H v ms ∧ Q (.int (ms.length : Int)) H
def spHGetK (K : PySem.W.Frag) (c : Cl) : Sp := fun vs H Q _ => ∃ (u : V) (p : Addr) (ms : List Mv) (lo hi st : Option Int), vs = [u, .ref p] ∧ HiK K c H u ms ∧ H p = some (SlH p lo hi st) ∧ st ≠ some 0 ∧ (stepL ms lo hi st).length ≤ 1000 ∧
  ∀ w H', Same H H' → HiK K c H' w (stepL ms lo hi st) → Q w H'
def spHAddH (K : PySem.W.Frag) (c : Cl) : Sp := fun vs H Q _ => ∃ u v ms ns, vs = [u, v] ∧ HiK K c H u ms ∧ HiK K c H v ns ∧ ms.length + ns.length ≤ 1000 ∧ ∀ w H', Same H H' → HiK K c H' w (ms ++ ns) → Q w H'
def spHAddM (K : PySem.W.Frag) (c : Cl) : Sp := fun vs H Q _ => ∃ u v ms m, vs = [u, v] ∧ HiK K c H u ms ∧ MvAt c H v m ∧ ms.length + 1 ≤ 1000 ∧ ∀ w H', Same H H' → HiK K c H' w (ms ++ [m]) → Q w H'
def spHStrK (K : PySem.W.Frag) (c : Cl) : Sp := fun vs H Q _ => ∃ v ms, vs = [v] ∧ HiK K c H v ms ∧ (∀ m ∈ ms, m.ok) ∧ ms.length ≤ 1000 ∧ ∀ H', Same H H' → Q (.str (hText ms)) H'
def spHEqK (K : PySem.W.Frag) (c : Cl) : Sp := fun vs H Q _ => ∃ u v ms ns, vs = [u, v] ∧ HiK K c H u ms ∧ HiK K c H v ns ∧ (∀ m ∈ ms, m.ok) ∧ (∀ m ∈ ns, m.ok) ∧ ∀ H', Same H H' → Q (.bl (decide (ms = ns))) H'
section
variable {P : Program} {w : World} {K : PySem.W.Frag} {mg : Str → Option Value} {base : Heap}
theorem kitAny_tt {K : PySem.W.Frag} : PySem.W.kitAny K (.type "tuple") [.type "list", .type "tuple"] = some true := by
  refine kitAny_cons (b := false) (show PySem.W.kitOne K (.type "tuple") (.type "list") = some false from kit_ty (by decide +kernel)) (fun _ => ?_) (fun z => by cases z)
  exact kitAny_cons (show PySem.W.kitOne K (.type "tuple") (.type "tuple") = some true from kit_ty (by decide +kernel)) (fun z => by cases z) fun z => rfl
theorem ok_isMovesT {f MV : Addr} {c : Cl} {fd : FuncData} (F : Fun K "is_moves" "is_moves" sIsMoves f fd) (T : BltH mg) (C : MvCls K c MV) (gM : mg "Move" = some (.ref MV)) : FnOk P w K mg base CX0 1 f fd ["value"] (spIsMT K c) := by
  refine F.ok scIsMoves (fun vs H Q E h => ?_) (fun cdv A outer s H vs Q E hr h => ?_)
  · obtain ⟨a, xs, ms, rfl, _⟩ := h
    rfl
  · obtain ⟨a, xs, ms, rfl, ha, mv, n, k⟩ := h
    refine ⟨_, pss_one (ps_ret (pe_and (pe_callB call_isiT (by rfl) T.isi (by decide +kernel) (pa_cons (pv 0) (pa_cons (pe_tup (pa_cons (pe_bltn (v := .ty "list") (by rfl) T.list (by decide +kernel) rfl) (pa_cons (pe_bltn (v := .ty "tuple") (by rfl) T.tuple (by decide +kernel) rfl) pa_nil))) pa_nil)))
        (pe_one (pe_callB (cr_all rfl) (by rfl) T.all (by decide +kernel) (pa_cons (pe_lc (own := [("item", 1)]) (g := gName 1) (tt := tYes) (te := tCB (rIsi K) (tCons (tVar 1) (tCons (tC (.ref MV)) tNil))) (by rfl) scIsMoves.nd (pi_tup (pv 0)) (blkOk_by (own := [("item", 1)]) (N := ["value", "item"]) (sc := defScope sIsMoves) (by decide +kernel)) (fun _ _ _ _ _ => pg_name (i := 1) scIsMoves.nd rfl (Or.inl rfl)) (fun _ _ _ _ _ => pts_nil)
          (fun _ _ _ _ _ => pe_callB call_isi (by rfl) T.isi (by decide +kernel) (pa_cons (pv 1) (pa_cons (pe_glob (v := .ref MV) rfl gM rfl) pa_nil)))) pa_nil))))), ?_⟩
    refine ⟨_, rfl, (by show 2 ≤ sizeLine; decide), fun tp ntp => ?_⟩
    have s1 : Same H (upd H tp (.tup [.ty "list", .ty "tuple"])) := Same.new ntp
    have ht : upd H tp (.tup [.ty "list", .ty "tuple"]) tp = some (.tup [.ty "list", .ty "tuple"]) := upd_same
    generalize upd H tp (.tup [.ty "list", .ty "tuple"]) = H1 at s1 ht ⊢
    have ha1 := ha.same s1
    have mv1 := mv.same s1
    have lx := mv.len
    refine ⟨_, tp, _, _, _, _, rfl, ht, .cons (.ty "list") (.cons (.ty "tuple") .nil), ha1.ty, kitAny_tt, _, rfl, iteT ?_⟩
    refine ⟨_, rfl, a, rfl, ⟨xs, ha1.sq⟩, fun D nD => ?_⟩
    refine lc_tup (K := K) (a := a) (xs := xs) (fun i Hh => Same H1 Hh ∧ H1 D = none ∧ Hh D = some (.lst (List.replicate i (V.bl true)))) ⟨Same.new nD, nD, upd_same⟩ (fun i Hh _ p => (ha1.same p.1).sq) ?_ ?_
    · intro i z Hh hi p
      obtain ⟨m, hm, mz⟩ := mv1.at hi
      obtain ⟨y, dy, rfl, hy⟩ := mz.same p.1
      obtain ⟨fs, eo⟩ := mv_at c m dy
      obtain ⟨cl, ca, mr, ki⟩ := C.cl m.kind (kind_lt m)
      have il : i < xs.length := (List.getElem?_eq_some_iff.mp hi).1
      refine ⟨rfl, ?_⟩
      unfold tYes
      dsimp only
      refine iteT ⟨_, rfl, _, _, _, _, _, rfl, .own MV, .base (.ins (by rw [hy, eo]) cl ca C.gn C.tk mr), ki, _, p.2.2, ?_, fun c o h => ?_, p.2.1, ?_⟩
      · rw [List.length_replicate]
        exact Nat.lt_of_lt_of_le (m := 1001) (by omega) (by decide)
      · rw [upd_ne (ne_of_none h p.2.1)]
        exact p.1 c o h
      · rw [upd_same, List.replicate_succ']
    · intro Hh p
      obtain ⟨s2, _, e⟩ := p
      refine ⟨D, List.replicate xs.length true, rfl, SqL.of (by rw [e, rep_bl]), ?_⟩
      have z : (List.replicate xs.length true).all id = true := by
        rw [List.all_eq_true]
        intro x hx
        rw [List.eq_of_mem_replicate hx]
        rfl
      rw [z]
      exact k _ (s1.trans s2)
abbrev CalIsMT (P : Program) (w : World) (K : PySem.W.Frag) (mg : Str → Option Value) (base : Heap) (c : Cl) : Prop := Cal P w K mg base CX0 "is_moves" 1 ["value"] (spIsMT K c)
theorem ok_hInitT {f : Addr} {c : Cl} {fd : FuncData} {dvs : List V} (F : FunD K "__init__" "History.__init__" (defArgs sHInit) (defBody sHInit) (defScope sHInit) dvs [] f fd) (cl : Cls K c.Hi) (nM : NoAttr K c.Hi "moves") (cI : CalIsMT P w K mg base c) (zt : mg "tuple" = none) :
    FnOk P w K mg base CX0 3 f fd ["self", "moves"] (spHIT K c) := by
  obtain ⟨fA, fdA, GA, mA, kA, bA⟩ := cI
  refine F.ok scHInit (fun vs H Q E h => ?_) (fun cdv A outer s H vs Q E hr h => ?_)
  · obtain ⟨x, dx, a, xs, ms, rfl, _⟩ := h
    rfl
  · obtain ⟨x, dx, a, xs, ms, rfl, hx, ha, mv, n, q1⟩ := h
    refine ⟨_, pss_cons (ps_if (pt_not (pt_val (pe_call GA (hr.mono (by decide)) rfl mA kA bA .nil pass0 (pa_cons (pv 1) pa_nil)))) (pss_one ps_never) pss_nil)
      (pss_one (ps_fld (pv 0) (pe_callTy call_tuple_of (by rfl) zt (by decide +kernel) (pa_cons (pv 1) pa_nil)) rfl)), ?_⟩
    refine ⟨_, rfl, a, xs, ms, rfl, ha, mv, n, fun H1 s1 => ⟨_, rfl, ?_⟩⟩
    have hx1 := s1 _ _ hx
    refine iteF ⟨_, rfl, a, xs, rfl, .inr ⟨(ha.same s1).sq, _, rfl, x, c.Hi, dx, _, rfl, hx1, cl, nM, (by show 0 < 1000; decide), ?_⟩⟩
    refine q1 _ (fun c o nc h => ?_) upd_same
    rw [upd_ne nc]
    exact s1 _ _ h
theorem mk_histT {c : Cl} {y dy a : Addr} {H : Hp} {xs : List V} {ms : List Mv} {R : VK} {E : XK} (ha : TupH K H a xs) (mv : MvsAt c H xs ms) (n : ms.length ≤ 1000) (ny : H y = none) (ndy : H dy = none) (k : ∀ H', Same H H' → HiK K c H' (.ref y) ms → R .non H') :
    spHIT K c [.ref y, .ref a] (upd (upd H dy (.own y)) y (.ins c.Hi dy [])) R E :=
  ⟨y, dy, a, xs, ms, rfl, upd_same, ha.same (made_same ny ndy), mv.same (made_same ny ndy), n, fun H' s hx => by
    have S : Same H H' := fun d o e => s d o (ne_of_none e ny) (made_same ny ndy d o e)
    exact k H' S ⟨y, dy, a, xs, rfl, hx, ha.same S, mv.same S⟩⟩
/-- History's making of a tuple -/
structure HiTxtT (P : Program) (w : World) (K : PySem.W.Frag) (mg : Str → Option Value) (base : Heap) (c : Cl) : Prop where
  g : mg "History" = some (.ref c.Hi)
  ini : ∃ (f : Addr) (fd : FuncData), FnOk P w K mg base CX0 3 f fd ["self", "moves"] (spHIT K c) ∧ Mk K c.Hi f ∧ Binds K fd ["self", "moves"] []
theorem scHLen : FnScope ["self"] ["self"] (defScope sHLen) := ⟨rfl, rfl, rfl, by decide +kernel, rfl, by decide +kernel, by decide +kernel⟩
theorem scHGet : FnScope ["self", "at", "found"] ["self", "at"] (defScope sHGet) := ⟨rfl, rfl, rfl, by decide +kernel, rfl, by decide +kernel, by decide +kernel⟩
theorem scHAdd : FnScope ["self", "other"] ["self", "other"] (defScope sHAdd) := ⟨rfl, rfl, rfl, by decide +kernel, rfl, by decide +kernel, by decide +kernel⟩
theorem ok_hLenK {f : Addr} {c : Cl} {fd : FuncData} (F : Fun K "__len__" "History.__len__" sHLen f fd) (C : HiCls K c) (zl : mg "len" = none) : FnOk P w K mg base CX0 1 f fd ["self"] (spHLenK K c) := by
  refine F.ok scHLen (fun vs H Q E h => ?_) (fun cdv A outer s H vs Q E hr h => ?_)
  · obtain ⟨v, ms, rfl, _⟩ := h
    rfl
  · obtain ⟨v, ms, rfl, ⟨x, dx, q, xs, rfl, hx, hq, mv⟩, k⟩ := h
    refine ⟨_, pss_one (ps_ret (pe_callB call_len_seq (by rfl) zl PySem.boot_len (pa_cons (pe_fld (pv 0) rfl) pa_nil))), ?_⟩
    rw [← mv.len] at k
    exact ⟨_, rfl, x, c.Hi, dx, _, _, rfl, hx, C.cl, C.nM, rfl, q, xs, rfl, .inr hq.sq, k⟩
theorem ok_hGetK {f : Addr} {c : Cl} {fd : FuncData} (F : Fun K "__getitem__" "History.__getitem__" sHGet f fd) (T : BltH mg) (C : HiCls K c) (M : HiTxtT P w K mg base c) : FnOk P w K mg base CX0 5 f fd ["self", "at"] (spHGetK K c) := by
  obtain ⟨fI, fdI, GI, MI, bI⟩ := M.ini
  refine F.ok scHGet (fun vs H Q E h => ?_) (fun cdv A outer s H vs Q E hr h => ?_)
  · obtain ⟨u, p, ms, lo, hi, st, rfl, _⟩ := h
    rfl
  · obtain ⟨u, p, ms, lo, hi, st, rfl, ⟨x, dx, q, xs, rfl, hx, hq, mv⟩, hp, h0, n, k⟩ := h
    refine ⟨_, pss_cons (ps_set (i := 2) scHGet.nd rfl (Or.inl rfl) (pe_ix ix_slice (pe_fld (pv 0) rfl) (pv 1) (fun _ _ => rfl)))
      (pss_one (ps_ret (pe_ifExp (pt_val (pe_callB call_isi (by rfl) T.isi (by decide +kernel) (pa_cons (pv 2) (pa_cons (pe_bltn (v := .ty "tuple") (by rfl) T.tuple (by decide +kernel) rfl) pa_nil)))) (pe_make (E := fun _ _ _ => False) MI GI hr rfl M.g bI .nil pass0 (pa_cons (pv 2) pa_nil)) (pv 2)))), ?_⟩
    have ms' := mv.step lo hi st
    have ln : (stepL xs lo hi st).length ≤ 1000 := by rw [ms'.len]; exact n
    have kit : PySem.W.kitOne K (.type "tuple") (.type "tuple") = some true := kit_ty (by decide +kernel)
    refine ⟨_, rfl, x, c.Hi, dx, _, _, rfl, hx, C.cl, C.nM, rfl, _, rfl, q, p, xs, lo, hi, st, rfl, rfl, hp, hq.sq, h0, Nat.le_trans ln (by decide), fun wh => ?_, fun r nr => ?_⟩
    · have e : stepL xs lo hi st = xs := by
        unfold stepL
        rw [wh]
        exact pick_self xs
      have hq' : TupH K H q (stepL xs lo hi st) := by rw [e]; exact hq
      refine ⟨_, rfl, _, _, _, _, _, rfl, .ty "tuple", hq'.ty, kit, _, rfl, iteT ⟨_, rfl, fun y dy ny ndy _ => mk_histT hq' ms' n ny ndy fun H' s' a => ⟨rfl, k _ _ s' a⟩⟩⟩
    · have s1 : Same H (upd H r (.tup (stepL xs lo hi st))) := Same.new nr
      have hr' : TupH K (upd H r (.tup (stepL xs lo hi st))) r (stepL xs lo hi st) := .inl upd_same
      refine ⟨_, rfl, _, _, _, _, _, rfl, .ty "tuple", hr'.ty, kit, _, rfl, iteT ⟨_, rfl, fun y dy ny ndy _ => mk_histT hr' (ms'.same s1) n ny ndy fun H' s' a => ⟨rfl, k _ _ (s1.trans s') a⟩⟩⟩
theorem ok_hAddH {f MV : Addr} {c : Cl} {fd : FuncData} (F : Fun K "__add__" "History.__add__" sHAdd f fd) (T : BltH mg) (C : HiCls K c) (M : HiTxtT P w K mg base c) (gM : mg "Move" = some (.ref MV)) : FnOk P w K mg base CX0 5 f fd ["self", "other"] (spHAddH K c) := by
  obtain ⟨fI, fdI, GI, MI, bI⟩ := M.ini
  refine F.ok scHAdd (fun vs H Q E h => ?_) (fun cdv A outer s H vs Q E hr h => ?_)
  · obtain ⟨u, v, ms, ns, rfl, _⟩ := h
    rfl
  · obtain ⟨u, v, ms, ns, rfl, ⟨x, dx, q, xs, rfl, hx, hq, mv⟩, ⟨x2, dx2, q2, xs2, rfl, hx2, hq2, mv2⟩, n, k⟩ := h
    refine ⟨_, pss_cons (ps_if (pt_val (pe_callB call_isi (by rfl) T.isi (by decide +kernel) (pa_cons (pv 1) (pa_cons (pe_glob (v := .ref c.Hi) rfl M.g rfl) pa_nil)))) (pss_one (ps_ret (pe_make (E := fun _ _ _ => False) MI GI hr rfl M.g bI .nil pass0 (pa_cons (pe_op op_catA (pe_fld (pv 0) rfl) (pe_fld (pv 1) rfl)) pa_nil)))) pss_nil)
      (pss_cons ps_never (pss_one ps_never)), ?_⟩
    have l1 := mv.len
    have l2 := mv2.len
    have mm := mv.app mv2
    have n' : (ms ++ ns).length ≤ 1000 := by rw [List.length_append]; exact n
    refine ⟨_, rfl, _, _, _, _, _, rfl, .own c.Hi, .base (.ins hx2 C.cl C.ca C.gn C.tk C.mr), C.ki, _, rfl, iteT ?_⟩
    refine ⟨_, rfl, x, c.Hi, dx, _, _, rfl, hx, C.cl, C.nM, rfl, _, rfl, x2, c.Hi, dx2, _, _, rfl, hx2, C.cl, C.nM, rfl, q, q2, xs, xs2, rfl, rfl, hq.sq, hq2.sq, Nat.le_trans (show xs.length + xs2.length ≤ 1000 by omega) (by decide), fun e => ?_, fun e1 e2 => ?_, fun e1 e2 p np => ?_⟩
    · subst e
      exact fun y dy ny ndy _ => mk_histT hq2 mm n' ny ndy fun H' s' a => ⟨rfl, k _ _ s' a⟩
    · subst e2
      have hq' : TupH K H q (xs ++ []) := by rw [List.append_nil]; exact hq
      exact fun y dy ny ndy _ => mk_histT hq' mm n' ny ndy fun H' s' a => ⟨rfl, k _ _ s' a⟩
    · have s1 : Same H (upd H p (.tup (xs ++ xs2))) := Same.new np
      exact fun y dy ny ndy _ => mk_histT (.inl upd_same) (mm.same s1) n' ny ndy fun H' s' a => ⟨rfl, k _ _ (s1.trans s') a⟩
theorem ok_hAddM {f MV : Addr} {c : Cl} {fd : FuncData} (F : Fun K "__add__" "History.__add__" sHAdd f fd) (T : BltH mg) (C : HiCls K c) (CM : MvCls K c MV) (nk : ∀ k, k < 4 → PySem.W.kitOne K (.ref (c.at k)) (.ref c.Hi) = some false) (M : HiTxtT P w K mg base c) (gM : mg "Move" = some (.ref MV)) : FnOk P w K mg base CX0 5 f fd ["self", "other"] (spHAddM K c) := by
  obtain ⟨fI, fdI, GI, MI, bI⟩ := M.ini
  refine F.ok scHAdd (fun vs H Q E h => ?_) (fun cdv A outer s H vs Q E hr h => ?_)
  · obtain ⟨u, v, ms, m, rfl, _⟩ := h
    rfl
  · obtain ⟨u, v, ms, m, rfl, ⟨x, dx, q, xs, rfl, hx, hq, mv⟩, ⟨y, dy, rfl, hy⟩, n, k⟩ := h
    refine ⟨_, pss_cons (ps_if (pt_val (pe_callB call_isi (by rfl) T.isi (by decide +kernel) (pa_cons (pv 1) (pa_cons (pe_glob (v := .ref c.Hi) rfl M.g rfl) pa_nil)))) (pss_one (ps_ret (pe_make (E := fun _ _ _ => False) MI GI hr rfl M.g bI .nil pass0 (pa_cons (pe_op op_catA (pe_fld (pv 0) rfl) (pe_fld (pv 1) rfl)) pa_nil)))) pss_nil)
      (pss_cons (ps_if (pt_val (pe_callB call_isi (by rfl) T.isi (by decide +kernel) (pa_cons (pv 1) (pa_cons (pe_glob (v := .ref MV) rfl gM rfl) pa_nil)))) (pss_one (ps_ret (pe_make (E := fun _ _ _ => False) MI GI hr rfl M.g bI .nil pass0 (pa_cons (pe_tup (StX.pa_star (pe_fld (pv 0) rfl) (pa_cons (pv 1) pa_nil))) pa_nil)))) pss_nil)
      (pss_one ps_never)), ?_⟩
    obtain ⟨fs, eo⟩ := mv_at c m dy
    obtain ⟨cl, ca, mr, ki⟩ := CM.cl m.kind (kind_lt m)
    have l1 := mv.len
    refine ⟨_, rfl, _, _, _, _, _, rfl, .own c.Hi, .base (.ins (by rw [hy, eo]) cl ca CM.gn CM.tk mr), nk _ (kind_lt m), _, rfl, iteF ?_⟩
    refine ⟨_, rfl, _, _, _, _, _, rfl, .own MV, .base (.ins (by rw [hy, eo]) cl ca CM.gn CM.tk mr), ki, _, rfl, iteT ?_⟩
    refine ⟨_, rfl, x, c.Hi, dx, _, _, rfl, hx, C.cl, C.nM, rfl, q, xs, rfl, .inl hq.sq, _, rfl, ?_, fun p np => ?_⟩
    · show (xs ++ [V.ref y]).length ≤ sizeLine
      rw [List.length_append]
      exact Nat.le_trans (show xs.length + 1 ≤ 1001 by omega) (by decide)
    · have s1 : Same H (upd H p (.tup (xs ++ [V.ref y]))) := Same.new np
      have mm := mv.snoc (x := .ref y) (m := m) ⟨y, dy, rfl, hy⟩
      have n' : (ms ++ [m]).length ≤ 1000 := by rw [List.length_append]; exact n
      exact fun z dz nz ndz _ => mk_histT (.inl upd_same) (mm.same s1) n' nz ndz fun H' s' a => ⟨rfl, k _ _ (s1.trans s') a⟩
end
end V3

set_option Elab.async false
set_option linter.all false
set_option maxRecDepth 100000
namespace V3
open PySem PySem.Spec PyProof.Rows L2 TL
/-! == of two moves within tuples, whatever it answers; what is left of histories -/
theorem obj_inj {c : Cl} (tr : c.T ≠ c.R) {m n : Mv} {dx dy : Addr} (h : m.obj c dx = n.obj c dy) : m = n := by
  cases m <;> cases n <;> simp only [Mv.obj, two] at h <;> injection h with h1 h2 h3 <;> first | rfl | (simp at h3; done) | (exact absurd h1 tr) | (exact absurd h1.symm tr) | (simp at h3; simp [h3]) | (cases h3)
/-- the answer of == -/
def DB (c : Cl) : V → V → Bool → Hp → Prop := fun x y r H => ∃ m n : Mv, MvAt c H x m ∧ MvAt c H y n ∧ m.ok ∧ n.ok ∧ r = decide (m = n)
theorem mon_db {c : Cl} : MonB (DB c) := fun x y r H H' e d => by
  obtain ⟨m, n, hx, hy, mo, no, q⟩ := d
  exact ⟨m, n, hx.same e, hy.same e, mo, no, q⟩
section
variable {X : Cx} {c : Cl}
theorem eqB_mv {MV : Addr} (T : EqTxt X.prog X.w X.K X.mg X.base c) (C : MvCls X.K c MV) (tr : c.T ≠ c.R) : EqB X 4 (DB c) := by
  intro A pins s σ H x y u v r sb I rx ry d
  obtain ⟨m, n, ⟨a, dx, rfl, ha⟩, ⟨b, dy, rfl, hb⟩, mo, no, rfl⟩ := d
  obtain ⟨f, fd, F, ec, bi⟩ := T.e m.kind (kind_lt m)
  obtain ⟨fs, eo⟩ := mv_at c m dx
  obtain ⟨gs, eo2⟩ := mv_at c n dy
  cases rx
  cases ry
  by_cases e : a = b
  · subst e
    rw [ha] at hb
    injection hb with hb
    have mn := obj_inj tr hb
    subst mn
    unfold eqBool
    refine wpAny_holding ?_
    refine wpAny_ite_split (fun _ => ?_) (fun h => absurd (beq_self_eq_true _) h)
    refine wpAny_bind (wpAny_rule (wpAny_pure ⟨?_, H, I, Ext.rfl'⟩))
    rw [decide_eq_true rfl]
  · refine GQ.eqBool_refG e ?_
    obtain ⟨mA, J, _⟩ := ins_get I.hok (ha.trans (congrArg some eo))
    obtain ⟨mB, J', _⟩ := ins_get I.hok (hb.trans (congrArg some eo2))
    obtain ⟨od, J, _⟩ := J.look
    obtain ⟨od', J', _⟩ := J'.look
    obtain ⟨mm, hF⟩ := I.fr
    refine PySem.W.cmp_K (op := .Eq) (tb := .ref (c.at n.kind)) sb.room.units0 hF I.ok.mod.kin J J'.type (C.nf _ (kind_lt m) _ (kind_lt n)) ec.eq ec.fn ?_
    refine wpAny_mono (run_own (x := .ref a) (y := .ref b) (E := fun _ _ _ => False) (Q := fun v H' => v = .bl (decide (m = n)) ∧ H' = H) sb F bi pass0 I rfl rfl ⟨_, _, m, n, rfl, ⟨a, dx, rfl, ha⟩, ⟨b, dy, rfl, hb⟩, mo, no, by rw [text_dec mo no], rfl⟩) (fun w s' q => ?_) fun _ _ e => e
    obtain ⟨z, H', I', rz, ez, eH⟩ := q
    subst ez
    subst eH
    cases rz
    exact ⟨_, rfl, rfl, H', I', Ext.rfl'⟩
end
/-- which items are equal -/
def eqsB (ms ns : List Mv) (i : Nat) : Bool := match ms[i]?, ns[i]? with
  | some m, some n => decide (m = n)
  | _, _ => true
theorem eqs_at {ms ns : List Mv} {i : Nat} {m n : Mv} (h : ms[i]? = some m) (k : ns[i]? = some n) : eqsB ms ns i = decide (m = n) := by
  unfold eqsB
  rw [h, k]
theorem eqs_stop {ms ns : List Mv} {i : Nat} (h1 : i < ms.length) (h2 : i < ns.length) (h : eqsB ms ns i = false) : ms ≠ ns := by
  intro e
  subst e
  have k := List.getElem?_eq_getElem h1
  rw [eqs_at k k, decide_eq_true rfl] at h
  cases h
theorem eqs_all {ms ns : List Mv} (h : ∀ i, i < ms.length → i < ns.length → eqsB ms ns i = true) : decide (ms = ns) = (ms.length == ns.length) := by
  by_cases l : ms.length = ns.length
  · have e : ms = ns := by
      refine List.ext_getElem l fun i h1 h2 => ?_
      have z := h i h1 h2
      rw [eqs_at (List.getElem?_eq_getElem h1) (List.getElem?_eq_getElem h2)] at z
      exact of_decide_eq_true z
    rw [decide_eq_true e, l]
    simp
  · rw [decide_eq_false fun e => l (by rw [e])]
    exact (Bool.eq_false_iff.mpr fun q => l (eq_of_beq q)).symm
section
variable {P : Program} {w : World} {K : PySem.W.Frag} {mg : Str → Option Value} {base : Heap}
theorem ok_hEqK {f MV : Addr} {c : Cl} {fd : FuncData} (F : Fun K "__eq__" "History.__eq__" sHEq f fd) (T : EqTxt P w K mg base c) (C : HiCls K c) (CM : MvCls K c MV) (tr : c.T ≠ c.R) (zi : mg "isinstance" = none) (gH : mg "History" = some (.ref c.Hi)) : FnOk P w K mg base CX0 6 f fd ["self", "other"] (spHEqK K c) := by
  refine F.ok scHEq (fun vs H Q E h => ?_) (fun cdv A outer s H vs Q E hr h => ?_)
  · obtain ⟨u, v, ms, ns, rfl, _⟩ := h
    rfl
  · obtain ⟨u, v, ms, ns, rfl, ⟨x, dx, q, xs, rfl, hx, hq, mv⟩, ⟨x2, dx2, q2, xs2, rfl, hx2, hq2, mv2⟩, ok, ok2, k⟩ := h
    refine ⟨_, pss_one (ps_ret (pe_and (pe_callB call_isi (by rfl) zi (by decide +kernel) (pa_cons (pv 1) (pa_cons (pe_glob (v := .ref c.Hi) rfl gH rfl) pa_nil))) (pe_one (pe_cmpR (op_eqB (n := 4) mon_db (eqB_mv T CM tr) (hr.mono (by decide))) (pe_fld (pv 0) rfl) (pe_fld (pv 1) rfl) (nomark _))))), ?_⟩
    have l1 := mv.len
    have l2 := mv2.len
    refine ⟨_, rfl, _, _, _, _, _, rfl, .own c.Hi, .base (.ins hx2 C.cl C.ca C.gn C.tk C.mr), C.ki, _, rfl, iteT ⟨_, rfl, x, c.Hi, dx, _, _, rfl, hx, C.cl, C.nM, rfl, _, rfl, x2, c.Hi, dx2, _, _, rfl, hx2, C.cl, C.nM, rfl,
      q, q2, xs, xs2, eqsB ms ns, decide (ms = ns), rfl, rfl, hq.sq, hq2.sq, fun i a b ha hb => ?_, fun i h1 h2 h => ?_, fun h => ?_, fun H' e => ?_⟩⟩
    · obtain ⟨m, hm, am⟩ := mv.at ha
      obtain ⟨n, hn, an⟩ := mv2.at hb
      exact ⟨m, n, am, an, ok m (List.mem_of_getElem? hm), ok2 n (List.mem_of_getElem? hn), eqs_at hm hn⟩
    · exact decide_eq_false (eqs_stop (by omega) (by omega) h)
    · rw [l1, l2] at h ⊢
      exact eqs_all h
    · rw [show (decide (ms = ns) != false) = decide (ms = ns) from by cases decide (ms = ns) <;> rfl]
      exact k H' e
theorem ok_hStrK {f : Addr} {c : Cl} {fd : FuncData} (F : Fun K "__str__" "History.__str__" sHStr f fd) (S : StrTxt P w K mg base c) (C : HiCls K c) (zs : mg "str" = none) : FnOk P w K mg base CX0 4 f fd ["self"] (spHStrK K c) := by
  refine F.ok scHStr (fun vs H Q E h => ?_) (fun cdv A outer s H vs Q E hr h => ?_)
  · obtain ⟨v, ms, rfl, _⟩ := h
    rfl
  · obtain ⟨v, ms, rfl, ⟨x, dx, q, xs, rfl, hx, hq, mv⟩, ok, n, k⟩ := h
    refine ⟨_, pss_one (ps_ret (pe_join pe_str (pe_lc (own := [("move", 1)]) (g := gName 1) (tt := tYes) (te := tCB (rStrM c) (tCons (tVar 1) tNil)) (by rfl) scHStr.nd (pi_tup (pe_fld (pv 0) rfl)) (blkOk_by (own := [("move", 1)]) (N := ["self", "move"]) (sc := defScope sHStr) (by decide +kernel)) (fun _ _ _ _ _ => pg_name (i := 1) scHStr.nd rfl (Or.inl rfl)) (fun _ _ _ _ _ => pts_nil)
          (fun _ _ _ _ _ => pe_callTy (call_strM S hr) (by rfl) zs (by decide +kernel) (pa_cons (pv 1) pa_nil))))), ?_⟩
    refine ⟨⟨_, rfl⟩, _, rfl, x, c.Hi, dx, _, _, rfl, hx, C.cl, C.nM, rfl, q, rfl, ⟨xs, hq.sq⟩, fun D nD => ?_⟩
    have lx := mv.len
    refine lc_tup (K := K) (a := q) (xs := xs) (fun i Hh => Same H Hh ∧ H D = none ∧ Hh D = some (.lst (((ms.take i).map Mv.text).map V.str))) ⟨Same.new nD, nD, upd_same⟩ (fun i Hh _ p => (hq.same p.1).sq) ?_ ?_
    · intro i z Hh hi p
      obtain ⟨m, hm, mz⟩ := mv.at hi
      refine ⟨rfl, ?_⟩
      unfold tYes
      dsimp only
      refine iteT ⟨_, rfl, _, m, rfl, mz.same p.1, ok m (List.mem_of_getElem? hm), _, p.2.2, ?_, fun c o h => ?_, p.2.1, ?_⟩
      · rw [List.length_map, List.length_map, List.length_take]
        exact Nat.lt_of_lt_of_le (m := 1001) (by omega) (by decide)
      · rw [upd_ne (ne_of_none h p.2.1)]
        exact p.1 c o h
      · rw [upd_same, take_next' hm, List.map_append, List.map_append]
        rfl
    · intro Hh p
      obtain ⟨s2, _, e⟩ := p
      rw [lx, List.take_length] at e
      refine ⟨semi, D, ms.map Mv.text, rfl, rfl, .inl (SqL.of e), ?_, ?_⟩
      · have z := sum_texts ok
        have e2 : (semi).length = 2 := by decide +kernel
        rw [e2, List.length_map]
        exact Nat.le_trans (Nat.add_le_add_right z _) (by omega)
      · rw [join_eq]
        exact k _ s2
end
end V3

set_option Elab.async false
set_option linter.all false
set_option maxRecDepth 100000
namespace V3
open PySem L2 TL
/-- the tuple that a move is drawn as -/
def Mv.tupV : Mv → List V
  | .beg a => [.str "begin", .int a]
  | .take t => [.str "take", .int t, .int 0]
  | .takeBy t a => [.str "take", .int t, .int a]
  | .right t a => [.str "right", .int t, .int a]
  | .shut => [.str "shut"]
def TupAt (H : Hp) (v : V) (m : Mv) : Prop := ∃ p, v = .ref p ∧ H p = some (.tup m.tupV)
theorem TupAt.same {H H' : Hp} {v : V} {m : Mv} (h : TupAt H v m) (s : Same H H') : TupAt H' v m := by
  obtain ⟨p, e, hp⟩ := h
  exact ⟨p, e, s _ _ hp⟩
def spText : Sp := fun vs H Q _ => ∃ (v : V) (m : Mv), vs = [v] ∧ TupAt H v m ∧ m.ok ∧ Q (.str m.text) H
end V3

set_option Elab.async false
set_option linter.all false
set_option maxRecDepth 100000
namespace V3
open PySem L2 TL
abbrev sAnyMove : Stmt := top 24
/-- all but the box is as it was, and there is a box -/
abbrev CalChoose (P : Program) (w : World) (K : PySem.W.Frag) (mg : Str → Option Value) (base : Heap) : Prop := Cal P w K mg base CX0 "_law_choose" 1 ["_law_box", "_law_many"] spChoose
/-- a drawn move, as the law says it -/
def MvOk (xs : List V) : Prop := ∃ t a : Int, 0 ≤ t ∧ t ≤ 1000000000 ∧ 1 ≤ a ∧ a ≤ 1000000000000 ∧
  (xs = [.str "begin", .int a] ∨ xs = [.str "take", .int t, .int 0] ∨ xs = [.str "take", .int t, .int a] ∨ xs = [.str "right", .int t, .int a] ∨ xs = [.str "shut"])
def spMv : Sp := fun vs H Q _ => ∃ (b : Addr) (u v : Int), vs = [.ref b] ∧ H b = some (box u v) ∧ BoxOk u v ∧ ∀ (p : Addr) (xs : List V) (H' : Hp), Pre b H H' → H' p = some (.tup xs) → MvOk xs → Q (.ref p) H'
theorem pick3 (x y z d : Int) (h0 : 0 ≤ d) (h3 : d < 3) : ∃ m, atI [V.int x, V.int y, V.int z] d = some (V.int m) ∧ (m = x ∨ m = y ∨ m = z) := by
  have e : d = 0 ∨ d = 1 ∨ d = 2 := by omega
  rcases e with rfl | rfl | rfl
  · exact ⟨x, rfl, .inl rfl⟩
  · exact ⟨y, rfl, .inr (.inl rfl)⟩
  · exact ⟨z, rfl, .inr (.inr rfl)⟩
section
variable {P : Program} {w : World} {K : PySem.W.Frag} {mg : Str → Option Value} {base : Heap}
theorem scAnyMove : FnScope ["_law_box", "_law_form", "_law_at", "_law_amount"] ["_law_box"] (defScope sAnyMove) := ⟨rfl, rfl, rfl, by decide +kernel, rfl, by decide +kernel, by decide +kernel⟩
theorem ok_anyMove {f : Addr} {fd : FuncData} (F : Fun K "_law_any_move" "_law_any_move" sAnyMove f fd) (cC : CalChoose P w K mg base) : FnOk P w K mg base CX0 2 f fd ["_law_box"] spMv := by
  obtain ⟨fC, fdC, GC, mC, kC, bC⟩ := cC
  refine F.ok scAnyMove (fun vs H Q E h => ?_) (fun cdv A outer s H vs Q E hr h => ?_)
  · obtain ⟨b, u, v, rfl, _⟩ := h
    rfl
  · obtain ⟨b, u, v, rfl, hb, ok, k⟩ := h
    refine ⟨_, pss_cons (ps_par (i := 1) (j := 2) rfl scAnyMove.nd rfl rfl (by decide) rfl rfl (pa_cons (pe_call GC hr rfl mC kC bC .nil pass0 (pa_cons (pv 0) (pa_cons pe_int pa_nil)))
          (pa_cons (pe_call GC hr rfl mC kC bC .nil pass0 (pa_cons (pv 0) (pa_cons (pe_ix ix_list (pe_lst (pa_cons pe_int (pa_cons pe_int (pa_cons (pe_op op_pow pe_int pe_int) pa_nil)))) (pe_call GC hr rfl mC kC bC .nil pass0 (pa_cons (pv 0) (pa_cons pe_int pa_nil))) (fun _ _ => rfl)) pa_nil))) pa_nil)) (by rfl))
      (pss_cons (ps_set (i := 3) scAnyMove.nd rfl (Or.inl rfl) (pe_op op_add pe_int (pe_call GC hr rfl mC kC bC .nil pass0 (pa_cons (pv 0) (pa_cons (pe_ix ix_list (pe_lst (pa_cons pe_int (pa_cons pe_int (pa_cons (pe_op op_pow pe_int pe_int) pa_nil)))) (pe_call GC hr rfl mC kC bC .nil pass0 (pa_cons (pv 0) (pa_cons pe_int pa_nil))) (fun _ _ => rfl)) pa_nil)))))
      (pss_one (ps_ret (pe_ix ix_list (pe_lst (pa_cons (pe_tup (pa_cons pe_str (pa_cons (pv 3) pa_nil))) (pa_cons (pe_tup (pa_cons pe_str (pa_cons (pv 2) (pa_cons pe_int pa_nil)))) (pa_cons (pe_tup (pa_cons pe_str (pa_cons (pv 2) (pa_cons (pv 3) pa_nil)))) (pa_cons (pe_tup (pa_cons pe_str (pa_cons (pv 2) (pa_cons (pv 3) pa_nil)))) (pa_cons (pe_tup (pa_cons pe_str pa_nil)) pa_nil)))))) (pv 1) (fun _ _ => rfl))))), ?_⟩
    refine ⟨_, rfl, b, u, v, 5, rfl, hb, ok, (by decide), (by decide), fun d u1 v1 d0 d5 ok1 => ?_⟩
    have S1 : Pre b H (upd H b (box u1 v1)) := Pre.box ok1
    have hb1 : upd H b (box u1 v1) b = some (box u1 v1) := upd_same
    generalize upd H b (box u1 v1) = H1 at S1 hb1 ⊢
    refine ⟨_, rfl, _, _, rfl, rfl, ⟨by decide, by decide, by decide⟩, (by show 3 ≤ sizeLine; decide), fun l nl => ?_⟩
    have nbl : b ≠ l := ne_of_none hb1 nl
    refine ⟨_, rfl, b, u1, v1, 3, rfl, (by rw [upd_ne nbl]; exact hb1), ok1, (by decide), (by decide), fun d2 u2 v2 e0 e3 ok2 => ?_⟩
    obtain ⟨m, hm, cm⟩ := pick3 3 12 (10 ^ (9 : Int).toNat) d2 e0 e3
    have p9 : (10 : Int) ^ (9 : Int).toNat = 1000000000 := by decide
    rw [p9] at cm
    have ll : ∀ o o' : HO, upd (upd H1 l o) b o' l = some o := fun o o' => by rw [upd_ne (Ne.symm nbl)]; exact upd_same
    refine ⟨l, _, d2, .int m, rfl, rfl, SqL.of (ll _ _), hm, ?_⟩
    have S2 : ∀ o : HO, Pre b H (upd (upd H1 l o) b (box u2 v2)) := fun o => ((S1.then (Same.new nl)).trans (Pre.box ok2))
    refine ⟨b, u2, v2, m, rfl, upd_same, ok2, (by omega), (by omega), fun at_ u3 v3 a0 am ok3 => ?_⟩
    have S3 : ∀ o : HO, Pre b H (upd (upd (upd H1 l o) b (box u2 v2)) b (box u3 v3)) := fun o => (S2 o).trans (Pre.box ok3)
    refine ⟨_, _, rfl, ?_⟩
    have S3' := S3 (.lst [.int 3, .int 12, .int (10 ^ (9 : Int).toNat)])
    have hb3 : upd (upd (upd H1 l (.lst [.int 3, .int 12, .int (10 ^ (9 : Int).toNat)])) b (box u2 v2)) b (box u3 v3) b = some (box u3 v3) := upd_same
    generalize upd (upd (upd H1 l (.lst [.int 3, .int 12, .int (10 ^ (9 : Int).toNat)])) b (box u2 v2)) b (box u3 v3) = H3 at S3' hb3
    clear S3 S2 ll
    refine ⟨_, rfl, _, _, rfl, rfl, ⟨by decide, by decide, by decide⟩, (by show 3 ≤ sizeLine; decide), fun l4 nl4 => ?_⟩
    have nbl4 : b ≠ l4 := ne_of_none hb3 nl4
    refine ⟨_, rfl, b, u3, v3, 3, rfl, (by rw [upd_ne nbl4]; exact hb3), ok3, (by decide), (by decide), fun d4 u4 v4 g0 g3 ok4 => ?_⟩
    obtain ⟨m4, hm4, cm4⟩ := pick3 3 99 (10 ^ (12 : Int).toNat) d4 g0 g3
    have p12 : (10 : Int) ^ (12 : Int).toNat = 1000000000000 := by decide
    rw [p12] at cm4
    have ll4 : ∀ o o' : HO, upd (upd H3 l4 o) b o' l4 = some o := fun o o' => by rw [upd_ne (Ne.symm nbl4)]; exact upd_same
    refine ⟨l4, _, d4, .int m4, rfl, rfl, SqL.of (ll4 _ _), hm4, ?_⟩
    refine ⟨b, u4, v4, m4, rfl, upd_same, ok4, (by omega), (by omega), fun am u5 v5 am0 am1 ok5 => ?_⟩
    refine ⟨_, _, rfl, rfl, ?_⟩
    have S5 : Pre b H (upd (upd (upd H3 l4 (.lst [.int 3, .int 99, .int (10 ^ (12 : Int).toNat)])) b (box u4 v4)) b (box u5 v5)) := ((S3'.then (Same.new nl4)).trans (Pre.box ok4)).trans (Pre.box ok5)
    have hb5 : upd (upd (upd H3 l4 (.lst [.int 3, .int 99, .int (10 ^ (12 : Int).toNat)])) b (box u4 v4)) b (box u5 v5) b = some (box u5 v5) := upd_same
    generalize upd (upd (upd H3 l4 (.lst [.int 3, .int 99, .int (10 ^ (12 : Int).toNat)])) b (box u4 v4)) b (box u5 v5) = H5 at S5 hb5
    clear ll4
    -- the five forms
    refine ⟨_, rfl, (by show 2 ≤ sizeLine; decide), fun p1 n1 => ?_⟩
    have S6 := S5.then (Same.new (o := .tup [.str "begin", .int (1 + am)]) n1)
    have t1 : upd H5 p1 (.tup [.str "begin", .int (1 + am)]) p1 = some (.tup [.str "begin", .int (1 + am)]) := upd_same
    generalize upd H5 p1 (.tup [.str "begin", .int (1 + am)]) = H6 at S6 t1
    refine ⟨_, rfl, (by show 3 ≤ sizeLine; decide), fun p2 n2 => ?_⟩
    have S7 := S6.then (Same.new (o := .tup [.str "take", .int at_, .int 0]) n2)
    have s7 : Same H6 (upd H6 p2 (.tup [.str "take", .int at_, .int 0])) := Same.new n2
    have t2 : upd H6 p2 (.tup [.str "take", .int at_, .int 0]) p2 = some (.tup [.str "take", .int at_, .int 0]) := upd_same
    generalize upd H6 p2 (.tup [.str "take", .int at_, .int 0]) = H7 at S7 s7 t2
    refine ⟨_, rfl, _, rfl, (by show 3 ≤ sizeLine; decide), fun p3 n3 => ?_⟩
    have S8 := S7.then (Same.new (o := .tup [.str "take", .int at_, .int (1 + am)]) n3)
    have s8 : Same H7 (upd H7 p3 (.tup [.str "take", .int at_, .int (1 + am)])) := Same.new n3
    have t3 : upd H7 p3 (.tup [.str "take", .int at_, .int (1 + am)]) p3 = some (.tup [.str "take", .int at_, .int (1 + am)]) := upd_same
    generalize upd H7 p3 (.tup [.str "take", .int at_, .int (1 + am)]) = H8 at S8 s8 t3
    refine ⟨_, rfl, _, rfl, (by show 3 ≤ sizeLine; decide), fun p4 n4 => ?_⟩
    have S9 := S8.then (Same.new (o := .tup [.str "right", .int at_, .int (1 + am)]) n4)
    have s9 : Same H8 (upd H8 p4 (.tup [.str "right", .int at_, .int (1 + am)])) := Same.new n4
    have t4 : upd H8 p4 (.tup [.str "right", .int at_, .int (1 + am)]) p4 = some (.tup [.str "right", .int at_, .int (1 + am)]) := upd_same
    generalize upd H8 p4 (.tup [.str "right", .int at_, .int (1 + am)]) = H9 at S9 s9 t4
    refine ⟨(by show 1 ≤ sizeLine; decide), fun p5 n5 => ?_⟩
    have Sa := S9.then (Same.new (o := .tup [.str "shut"]) n5)
    have sa : Same H9 (upd H9 p5 (.tup [.str "shut"])) := Same.new n5
    have t5 : upd H9 p5 (.tup [.str "shut"]) p5 = some (.tup [.str "shut"]) := upd_same
    generalize upd H9 p5 (.tup [.str "shut"]) = Ha at Sa sa t5
    refine ⟨(by show 5 ≤ sizeLine; decide), fun l6 n6 => ?_⟩
    have sb : ∀ o : HO, Same Ha (upd Ha l6 o) := fun o => Same.new n6
    have fin : ∀ (p : Addr) (xs : List V) (o : HO), Ha p = some (.tup xs) → MvOk xs → Q (.ref p) (upd Ha l6 o) := fun p xs o e ok => k p xs _ (Sa.then (sb o)) (sb o _ _ e) ok
    have e5 : d = 0 ∨ d = 1 ∨ d = 2 ∨ d = 3 ∨ d = 4 := by omega
    have a1 : 1 ≤ 1 + am := by omega
    have a2 : 1 + am ≤ 1000000000000 := by omega
    have b2 : at_ ≤ 1000000000 := by omega
    rcases e5 with rfl | rfl | rfl | rfl | rfl
    · exact ⟨_, rfl, l6, _, 0, _, rfl, rfl, SqL.of upd_same, rfl, fin _ _ _ (sa _ _ (s9 _ _ (s8 _ _ (s7 _ _ t1)))) ⟨at_, 1 + am, a0, b2, a1, a2, .inl rfl⟩⟩
    · exact ⟨_, rfl, l6, _, 1, _, rfl, rfl, SqL.of upd_same, rfl, fin _ _ _ (sa _ _ (s9 _ _ (s8 _ _ t2))) ⟨at_, 1 + am, a0, b2, a1, a2, .inr (.inl rfl)⟩⟩
    · exact ⟨_, rfl, l6, _, 2, _, rfl, rfl, SqL.of upd_same, rfl, fin _ _ _ (sa _ _ (s9 _ _ t3)) ⟨at_, 1 + am, a0, b2, a1, a2, .inr (.inr (.inl rfl))⟩⟩
    · exact ⟨_, rfl, l6, _, 3, _, rfl, rfl, SqL.of upd_same, rfl, fin _ _ _ (sa _ _ t4) ⟨at_, 1 + am, a0, b2, a1, a2, .inr (.inr (.inr (.inl rfl)))⟩⟩
    · exact ⟨_, rfl, l6, _, 4, _, rfl, rfl, SqL.of upd_same, rfl, fin _ _ _ t5 ⟨at_, 1 + am, a0, b2, a1, a2, .inr (.inr (.inr (.inr rfl)))⟩⟩
end
theorem mv_of {xs : List V} (h : MvOk xs) : ∃ m : Mv, m.ok ∧ xs = m.tupV := by
  obtain ⟨t, a, t0, t1, a0, a1, h⟩ := h
  have ot : V3.Idx t := ⟨t0, by omega⟩
  have oa : Amt a := ⟨a0, by omega⟩
  rcases h with rfl | rfl | rfl | rfl | rfl
  · exact ⟨.beg a, oa, rfl⟩
  · exact ⟨.take t, ot, rfl⟩
  · exact ⟨.takeBy t a, ⟨ot, oa⟩, rfl⟩
  · exact ⟨.right t a, ⟨ot, oa⟩, rfl⟩
  · exact ⟨.shut, trivial, rfl⟩
def spAM : Sp := fun vs H Q _ => ∃ (b : Addr) (u v : Int), vs = [.ref b] ∧ H b = some (box u v) ∧ BoxOk u v ∧ ∀ (p : V) (m : Mv) (H' : Hp), Pre b H H' → TupAt H' p m → m.ok → Q p H'
def spMadeM (c : Cl) : Sp := fun vs H Q _ => ∃ (v : V) (m : Mv), vs = [v] ∧ TupAt H v m ∧ m.ok ∧ ∀ (x : V) (H' : Hp), Same H H' → MvAt c H' x m → Q x H'
-- no sMade
section
variable {P : Program} {w : World} {K : PySem.W.Frag} {mg : Str → Option Value} {base : Heap}
theorem am_any {f : Addr} {fd : FuncData} (F : FnOk P w K mg base CX0 2 f fd ["_law_box"] spMv) : FnOk P w K mg base CX0 2 f fd ["_law_box"] spAM := F.imp fun vs H Q E h => by
  obtain ⟨b, u, v, e, hb, ok, k⟩ := h
  refine ⟨b, u, v, e, hb, ok, fun p xs H' pr hp mk => ?_⟩
  obtain ⟨m, mo, rfl⟩ := mv_of mk
  exact k _ m H' pr ⟨p, rfl, hp⟩ mo
end
end V3

set_option Elab.async false
set_option linter.all false
set_option maxRecDepth 100000
namespace V3
open PySem L2 TL
def Mv.nm : Mv → Str
  | .beg _ => "begin"
  | .take _ => "take"
  | .takeBy _ _ => "take"
  | .right _ _ => "right"
  | .shut => "shut"
theorem tup_nm (m : Mv) : m.tupV[0]? = some (.str m.nm) := by cases m <;> rfl
section
variable {P : Program} {w : World} {K : PySem.W.Frag} {mg : Str → Option Value} {base : Heap}
end
end V3

set_option Elab.async false
set_option linter.all false
set_option maxRecDepth 100000
/-! x[a:b] by an own __getitem__ -/
namespace V3
open PySem PySem.Spec PyProof.Rows L2
section
variable {X : Cx} {n : Nat}
abbrev GetF (X : Cx) (n : Nat) (FF : Addr → Sp → XK → Prop) : Prop := ∀ C sp E, FF C sp E → ∃ (CX : CXT) (f : Addr) (fd : FuncData) (ps : List Str), FnOk X.prog X.w X.K X.mg X.base CX n f fd ps sp ∧ (GetCls X.K C f ∧ PySem.W.noSeq X.K C = true) ∧ Binds X.K fd ps [] ∧ Passes CX X E
theorem GetF.plain {FF : Addr → Sp → XK → Prop} (hF : GetF X n FF) : ∀ C sp E, FF C sp E → ∃ (CX : CXT) (f : Addr) (fd : FuncData) (ps : List Str), FnOk X.prog X.w X.K X.mg X.base CX n f fd ps sp ∧ GetCls X.K C f ∧ Binds X.K fd ps [] ∧ Passes CX X E := fun C sp E h => by
  obtain ⟨CX, f, fd, ps, F, ec, bi, hx⟩ := hF C sp E h
  exact ⟨CX, f, fd, ps, F, ec.1, bi, hx⟩
theorem sub_own2 {FF : Addr → Sp → XK → Prop} (hF : GetF X n FF) (hr : Room n X.A)
    {value slice : Expr} {pins : List (Addr × Obj)} {s : Shared} {σ : L2.St} {H : Hp} {x y : V} {v u : Value} {Q : VK} (I : Inv X pins σ H s) (rx : RelV x v) (ry : RelV y u) (hq : rIxO FF x y H Q)
    (hsl : ∀ a : Addr, subscripted slice true (.ref a) u = operate [u, .ref a] (getItem (.ref a) u)) : wpAny (model X.prog X.w) X.A (subscriptTail value slice v u) (EP X pins σ Q) X.xe s := by
  obtain ⟨a, C, dx, fs, sp, E, rfl, ha, ff, hsp⟩ := hq
  obtain ⟨CX, f, fd, ps, F, ⟨ec, ns⟩, bi, hx⟩ := hF C sp E ff
  cases rx
  obtain ⟨mA, J, _⟩ := ins_get I.hok ha
  obtain ⟨od, J, _⟩ := J.look
  obtain ⟨m, hFr⟩ := I.fr
  have fi := ec.fi
  unfold PySem.W.fnIn at fi
  split at fi
  · rename_i e
    unfold subscriptTail getitemInPython
    refine wpAny_bind (wpAny_bind (wpAny_bind (J.type.here ((PySem.W.looks_findIn I.kIn ec.at_).here ?_))))
    dsimp only
    refine wpAny_bind (wpAny_load (I.kIn _ _ e) (wpAny_pure ?_))
    dsimp only
    rw [hsl]
    refine wpAny_bind (PyProof.Rows.wpAny_operate' (PySem.W.getItem_K hFr I.ok.mod.kin J ns ec.at_ ec.fn (wpAny_mono (run_own (x := .ref a) (y := y) ⟨hr, rfl⟩ F bi hx I rfl ry hsp) (fun v s' z => ?_) fun _ _ z => z)))
    exact wpAny_bind (wpAny_letTemporaryGo (wpAny_pure z))
  · cases fi
theorem pe_slO2 {FF : Addr → Sp → XK → Prop} (hF : GetF X n FF) (hr : Room n X.A)
    {e : Expr} {te : TE} {lo hi : Option Expr} {tl th : TO} {p2 pos : Pos} (he : PE X e te) (hl : PO X lo tl) (hu : PO X hi th)
    (hsl : ∀ (o : Addr) (u : Value), subscripted (.Slice lo hi none p2) true (.ref o) u = operate [u, .ref o] (getItem (.ref o) u) := by intro _ _; with_unfolding_all rfl) :
    PE X (.Subscript e (.Slice lo hi none p2) pos) (tSlO FF te tl th tNoPart) := by
  refine ⟨fun pins s σ H Q I h => ?_⟩
  refine Subscript_ (thn (he.run pins s σ H _ I h) fun v s1 ⟨x, H1, I1, r1, q1⟩ => ?_)
  refine wpAny_Slice (thn (hl.run pins s1 σ H1 _ I1 q1) fun vl s2 ⟨l, H2, I2, pl, q2⟩ =>
    thn (hu.run pins s2 σ H2 _ I2 q2) fun vu s3 ⟨u, H3, I3, pu, q3⟩ =>
    thn (po_none.run pins s3 σ H3 _ I3 q3) fun vk s4 ⟨k, H4, I4, pk, q4⟩ => ?_)
  have J : Inv X pins σ (upd H4 s4.heap.objs.size (SlH s4.heap.objs.size l u k)) { s4 with heap := s4.heap.push { cls := .type "slice", data := .fields #[vl, vu, vk] } } :=
    I4.laid (t' := s4.toks) (o := SlH s4.heap.objs.size l u k) (fun b ob q => Heap.get?_push_of_some _ q) (Nat.le_refl _)
      ⟨⟨vl, vu, vk, Heap.IsSliceOf.new .., pl, pu, pk⟩, ⟨_, Heap.get?_push_size _ rfl⟩, fun h1 h2 ⟨a, b, c, ⟨o, ho, hc, hd⟩, p1, p2, p3⟩ kp => ⟨a, b, c, ⟨o, kp o ho, hc, hd⟩, p1, p2, p3⟩⟩
  exact sub_own2 (y := .ref s4.heap.objs.size) hF hr J r1 rfl (q4 _ (I4.hok.fresh (Nat.le_refl _))) fun o => hsl o _
end
end V3

set_option Elab.async false
set_option linter.all false
set_option maxRecDepth 100000
namespace V3
open PySem PySem.Spec PyProof.Rows L2 TL
/-- all that the law does with histories -/
structure HiOps (P : Program) (w : World) (K : PySem.W.Frag) (mg : Str → Option Value) (base : Heap) (c : Cl) : Prop where
  g : mg "History" = some (.ref c.Hi)
  cl : HiCls K c
  iniL : ∃ (f : Addr) (fd : FuncData), FnOk P w K mg base CX0 3 f fd ["self", "moves"] (spHIM c) ∧ Mk K c.Hi f ∧ Binds K fd ["self", "moves"] []
  iniT : ∃ (f : Addr) (fd : FuncData), FnOk P w K mg base CX0 3 f fd ["self", "moves"] (spHIT K c) ∧ Mk K c.Hi f ∧ Binds K fd ["self", "moves"] []
  ini0 : ∃ (f : Addr) (fd : FuncData) (e : Addr) (ds : List Value), FnOk P w K mg base CX0 3 f fd ["self", "moves"] (spHIT K c) ∧ Mk K c.Hi f ∧ Vals [.ref e] ds ∧ Binds K fd ["self", "moves"] ds ∧ (∃ o, K.lookup e = some o ∧ o.cls = .type "tuple") ∧ ∀ H, SqT K H e []
  add : ∃ (f : Addr) (fd : FuncData), FnOk P w K mg base CX0 5 f fd ["self", "other"] (spHAddH K c) ∧ FnOk P w K mg base CX0 5 f fd ["self", "other"] (spHAddM K c) ∧ BinCls K c.Hi f .Add ∧ Binds K fd ["self", "other"] []
  get : ∃ (f : Addr) (fd : FuncData), FnOk P w K mg base CX0 5 f fd ["self", "at"] (spHGetK K c) ∧ (GetCls K c.Hi f ∧ PySem.W.noSeq K c.Hi = true) ∧ Binds K fd ["self", "at"] []
  len : ∃ (f : Addr) (fd : FuncData), FnOk P w K mg base CX0 1 f fd ["self"] (spHLenK K c) ∧ PySem.W.findIn K (.ref c.Hi) "__len__" = some (some (.ref f)) ∧ PySem.W.isFn K (.ref f) = true ∧ Binds K fd ["self"] []
  eq : ∃ (f : Addr) (fd : FuncData), FnOk P w K mg base CX0 6 f fd ["self", "other"] (spHEqK K c) ∧ EqCls K c.Hi f ∧ Binds K fd ["self", "other"] []
  str : ∃ (f : Addr) (fd : FuncData), FnOk P w K mg base CX0 4 f fd ["self"] (spHStrK K c) ∧ PySem.W.findIn K (.ref c.Hi) "__str__" = some (some (.ref f)) ∧ PySem.W.isFn K (.ref f) = true ∧ Binds K fd ["self"] []
  nf : PySem.W.notFirst K c.Hi (.ref c.Hi) = true
  inp : Silent K c.Hi [dunderI Operator.Add.info.2]
  sil : ∀ k, k < 4 → c.Hi ≠ c.at k ∧ Silent K (c.at k) [dunder Operator.Add.info.2, dunderR Operator.Add.info.2]
def FFa (K : PySem.W.Frag) (c : Cl) : Addr → Sp → XK → Prop := fun C sp _ => C = c.Hi ∧ (sp = spHAddH K c ∨ sp = spHAddM K c)
def FFgJ (K : PySem.W.Frag) (c : Cl) : Addr → Sp → XK → Prop := fun C sp _ => C = c.Hi ∧ sp = spHGetK K c
def FFeJ (K : PySem.W.Frag) (c : Cl) : Addr → Sp → XK → Prop := fun C sp _ => C = c.Hi ∧ sp = spHEqK K c
section
variable {X : Cx} {c : Cl}
theorem op_addH (T : HiOps X.prog X.w X.K X.mg X.base c) : OpF X 5 .Add (FFa X.K c) := fun C sp E h => by
  obtain ⟨rfl, h⟩ := h
  obtain ⟨f, fd, F, F2, ec, bi⟩ := T.add
  rcases h with rfl | rfl
  · exact ⟨CX0, f, fd, _, F, ec, bi, fun _ _ _ _ _ _ _ h => h.elim⟩
  · exact ⟨CX0, f, fd, _, F2, ec, bi, fun _ _ _ _ _ _ _ h => h.elim⟩
theorem op_getH (T : HiOps X.prog X.w X.K X.mg X.base c) : GetF X 5 (FFgJ X.K c) := fun C sp E h => by
  obtain ⟨rfl, rfl⟩ := h
  obtain ⟨f, fd, F, ec, bi⟩ := T.get
  exact ⟨CX0, f, fd, _, F, ec, bi, fun _ _ _ _ _ _ _ h => h.elim⟩
theorem op_eqsH (T : HiOps X.prog X.w X.K X.mg X.base c) : ∀ C sp E, FFeJ X.K c C sp E → ∃ (CX : CXT) (f : Addr) (fd : FuncData) (ps : List Str), FnOk X.prog X.w X.K X.mg X.base CX 6 f fd ps sp ∧ EqCls X.K C f ∧ Binds X.K fd ps [] ∧ Passes CX X E := fun C sp E h => by
  obtain ⟨rfl, rfl⟩ := h
  obtain ⟨f, fd, F, ec, bi⟩ := T.eq
  exact ⟨CX0, f, fd, _, F, ec, bi, fun _ _ _ _ _ _ _ h => h.elim⟩
def rStrHK (K : PySem.W.Frag) (c : Cl) : List V → Hp → VK → Prop := fun xs H Q => ∃ v ms, xs = [v] ∧ HiK K c H v ms ∧ (∀ m ∈ ms, m.ok) ∧ ms.length ≤ 1000 ∧ ∀ H', Same H H' → Q (.str (hText ms)) H'
theorem call_strHK (T : HiOps X.prog X.w X.K X.mg X.base c) (room : Room 6 X.A) : CallR X (.type "str") (rStrHK X.K c) := by
  intro pins s σ H xs us Q I r h
  obtain ⟨v, ms, rfl, hi, ok, n, q⟩ := h
  obtain ⟨f, fd, G, at_, isf, bi⟩ := T.str
  obtain ⟨x, dx, t, ys, rfl, hx, ht, mv⟩ := id hi
  exact call_strO (E := fun _ _ _ => False) G at_ isf bi pass0 room pins s σ H _ us Q I r ⟨x, dx, _, rfl, hx, _, ms, rfl, hi, ok, n, fun H' s => ⟨_, rfl, q H' s⟩⟩
def rLenHK (K : PySem.W.Frag) (c : Cl) : List V → Hp → VK → Prop := fun xs H Q => ∃ v ms, xs = [v] ∧ HiK K c H v ms ∧ ms.length ≤ 1000 ∧ Q (.int (ms.length : Int)) H
theorem call_lenHK (T : HiOps X.prog X.w X.K X.mg X.base c) (room : Room 2 X.A) : CallR X (.builtin "len") (rLenHK X.K c) := by
  intro pins s σ H xs us Q I r h
  obtain ⟨v, ms, rfl, hi, n, q⟩ := h
  obtain ⟨f, fd, G, at_, isf, bi⟩ := T.len
  obtain ⟨x, dx, t, ys, rfl, hx, ht, mv⟩ := id hi
  refine call_lenO (E := fun _ _ _ => False) G at_ isf bi pass0 room pins s σ H _ us Q I r ⟨x, dx, _, rfl, hx, _, ms, rfl, hi, _, rfl, ⟨by omega, ?_⟩, q⟩
  exact Int.lt_of_le_of_lt (b := 1000) (by omega) (by decide)
end
section
variable {P : Program} {w : World} {K : PySem.W.Frag} {mg : Str → Option Value} {base : Heap} {c : Cl} {W : Hp → Prop} {σ : L2.St} {ta tb te : TE} {ms ns : List Mv}
/-- a history of these moves -/
abbrev isH (K : PySem.W.Frag) (c : Cl) (ms : List Mv) : V → Hp → Prop := fun v H => HiK K c H v ms
theorem st_h : StV (isH K c ms) := fun _ _ _ s h => h.same s
abbrev StW (W : Hp → Prop) : Prop := ∀ H H', Same H H' → W H → W H'
theorem ev_addH (T : HiOps P w K mg base c) (sw : StW W) (ha : EvV W σ ta (isH K c ms)) (hb : EvV W σ tb (isH K c ns)) (n : ms.length + ns.length ≤ 1000) : EvV W σ (tOp (rBinD K .Add false (FFa K c)) ta tb) (isH K c (ms ++ ns)) :=
  ev_op st_h ha hb fun x y H Q w hx hy k => by
    obtain ⟨a, dx, q, xs, rfl, ex, hq, mv⟩ := id hx
    obtain ⟨b, dy, q2, ys, rfl, ey, hq2, mv2⟩ := id hy
    exact ⟨a, c.Hi, dx, _, b, c.Hi, dy, _, spHAddH K c, E0, rfl, rfl, ex, ey, .inl rfl, (fun z => nomatch z), ⟨rfl, .inl rfl⟩, _, _, ms, ns, rfl, hx, hy, n, fun v H' s h => k v H' s (sw _ _ s w) h⟩
theorem ev_eqH (T : HiOps P w K mg base c) (sw : StW W) {neg : Bool} (ha : EvV W σ ta (isH K c ms)) (hb : EvV W σ tb (isH K c ns)) (mo : ∀ m ∈ ms, m.ok) (no : ∀ m ∈ ns, m.ok) : EvV W σ (tOp (rEqO K 6 (FFeJ K c) neg) ta tb) (isBv (decide (ms = ns) != neg)) :=
  ev_op st_h ha hb fun x y H Q w hx hy k => by
    obtain ⟨a, dx, q, xs, rfl, ex, hq, mv⟩ := id hx
    obtain ⟨b, dy, q2, ys, rfl, ey, hq2, mv2⟩ := id hy
    exact ⟨a, c.Hi, dx, _, b, c.Hi, dy, _, spHEqK K c, E0, rfl, rfl, ex, ey, ⟨rfl, rfl⟩, T.nf, _, _, ms, ns, rfl, hx, hy, mo, no, fun H' s => ⟨_, rfl, k _ H' s (sw _ _ s w) rfl⟩⟩
theorem ev_neH (T : HiOps P w K mg base c) (sw : StW W) (ha : EvV W σ ta (isH K c ms)) (hb : EvV W σ tb (isH K c ns)) (mo : ∀ m ∈ ns, m.ok) (e : ms = ns) : EvB W σ (tTest (tOp (rEqO K 6 (FFeJ K c) true) ta tb)) false := by
  subst e
  have z := ev_test (ev_eqH (neg := true) T sw ha hb mo mo)
  rw [decide_eq_true rfl] at z
  exact z
theorem ev_strH (T : HiOps P w K mg base c) (sw : StW W) (ha : EvV W σ ta (isH K c ms)) (mo : ∀ m ∈ ms, m.ok) (n : ms.length ≤ 1000) : EvV W σ (tCB (rStrHK K c) (tCons ta tNil)) (isSv (hText ms)) :=
  ev_cb1 ha fun x H Q w hx k => ⟨x, ms, rfl, hx, mo, n, fun H' s => k _ H' s (sw _ _ s w) rfl⟩
theorem ev_lenH (T : HiOps P w K mg base c) (ha : EvV W σ ta (isH K c ms)) (n : ms.length ≤ 1000) : EvV W σ (tCB (rLenHK K c) (tCons ta tNil)) (isIv (ms.length : Int)) :=
  ev_cb1 ha fun x H Q w hx k => ⟨x, ms, rfl, hx, n, k _ H (Same.refl H) w rfl⟩
theorem ev_slH (T : HiOps P w K mg base c) (sw : StW W) {lo hi st : Option Int} {tl th ts : TO} (ha : EvV W σ ta (isH K c ms)) (hl : EvO W σ tl lo) (hh : EvO W σ th hi) (hs : EvO W σ ts st) (h0 : st ≠ some 0) (n : (stepL ms lo hi st).length ≤ 1000) :
    EvV W σ (tSlO (FFgJ K c) ta tl th ts) (isH K c (stepL ms lo hi st)) := fun H Q w k =>
  ha H _ w fun x H1 s1 w1 hx => hl H1 _ w1 fun H2 s2 w2 => hh H2 _ w2 fun H3 s3 w3 => hs H3 _ w3 fun H4 s4 w4 => fun p np => by
    have s5 : Same H4 (upd H4 p (SlH p lo hi st)) := Same.new np
    have hx4 := ((hx.same s2).same s3).same s4
    obtain ⟨a, dx, q, xs, rfl, ex, hq, mv⟩ := id (hx4.same s5)
    exact ⟨a, c.Hi, dx, _, spHGetK K c, E0, rfl, ex, ⟨rfl, rfl⟩, _, p, ms, lo, hi, st, rfl, hx4.same s5, upd_same, h0, n, fun v H' s h => k v H' (((((s1.trans s2).trans s3).trans s4).trans s5).trans s) (sw _ _ (s5.trans s) w4) h⟩
/-- History(), by its default -/
theorem ev_newH {e : Addr} (sw : StW W) (he : (∃ o, K.lookup e = some o ∧ o.cls = .type "tuple") ∧ ∀ H, SqT K H e []) : EvV W σ (tMake c.Hi (spHIT K c) [.ref e] E0 tNil) (isH K c []) := fun H Q w k => fun y dy ny ndy _ =>
  mk_histT (a := e) (xs := []) (ms := []) (.inr he) trivial (by decide) ny ndy fun H' s a => ⟨rfl, k _ H' s (sw _ _ s w) a⟩
/-- the moves of a history -/
theorem ev_moves (C : HiCls K c) (ha : EvV W σ ta (isH K c ms)) : EvV W σ (tFld K ta "moves") (fun v H => ∃ q xs, v = .ref q ∧ TupH K H q xs ∧ MvsAt c H xs ms) := fun H Q w k =>
  ha H _ w fun x H1 s1 w1 hx => by
    obtain ⟨a, dx, q, xs, rfl, ex, hq, mv⟩ := hx
    exact ⟨a, c.Hi, dx, _, _, rfl, ex, C.cl, C.nM, rfl, k _ H1 s1 w1 ⟨q, xs, rfl, hq, mv⟩⟩
end
end V3

set_option Elab.async false
set_option linter.all false
set_option maxRecDepth 100000
namespace V3
open PySem L2 TL RZ
theorem text_inj_list : ∀ {ms ns : List Mv}, (∀ m ∈ ms, m.ok) → (∀ m ∈ ns, m.ok) → ms.map Mv.text = ns.map Mv.text → ms = ns
  | [], [], _, _, _ => rfl
  | [], _ :: _, _, _, h => by simp at h
  | _ :: _, [], _, _, h => by simp at h
  | m :: ms, n :: ns, a, b, h => by
    rw [List.map_cons, List.map_cons] at h
    injection h with h1 h2
    rw [text_inj (a m (List.mem_cons_self ..)) (b n (List.mem_cons_self ..)) h1, text_inj_list (fun x hx => a x (List.mem_cons_of_mem _ hx)) (fun x hx => b x (List.mem_cons_of_mem _ hx)) h2]
theorem hText_nil : (hText []).length = 0 := by decide +kernel
theorem hText_inj {ms ns : List Mv} (a : ∀ m ∈ ms, m.ok) (b : ∀ m ∈ ns, m.ok) (h : hText ms = hText ns) : ms = ns := by
  by_cases e : ms = []
  · by_cases e2 : ns = []
    · rw [e, e2]
    · rw [e] at h
      exact absurd (h ▸ hText_nil) (hText_pos e2)
  · by_cases e2 : ns = []
    · rw [e2] at h
      exact absurd (h ▸ hText_nil) (hText_pos e)
    · refine text_inj_list a b ?_
      rw [← split_texts e a, ← split_texts e2 b, h]
theorem hText_dec {ms ns : List Mv} (a : ∀ m ∈ ms, m.ok) (b : ∀ m ∈ ns, m.ok) : decide (hText ms = hText ns) = decide (ms = ns) := by
  by_cases e : ms = ns
  · rw [decide_eq_true e, decide_eq_true (by rw [e])]
  · rw [decide_eq_false e, decide_eq_false fun z => e (hText_inj a b z)]
theorem walk_zipT {K : PySem.W.Frag} {a b : Addr} {xs ys : List V} {n : Nat} (hn : n = min xs.length ys.length) : Walk (ItzT K a b) n (fun H => SqT K H a xs ∧ SqT K H b ys) (YPair (fun i => xs[i]?) (fun i => ys[i]?)) := by
  subst hn
  refine ⟨fun i _ hi q => ?_, fun _ q => ⟨xs, ys, q.1, q.2, by omega⟩, fun i H v H' _ q y => ?_⟩
  · have h1 : i < xs.length := by omega
    have h2 : i < ys.length := by omega
    exact ⟨xs, ys, xs[i], ys[i], q.1, q.2, by simp [h1], by simp [h2]⟩
  · obtain ⟨T, x, z, h1, h2, h3, h4, h5⟩ := y
    exact ⟨T, x, z, h1, h2, h3, h4 xs q.1, h5 ys q.2⟩
/-- all but lists is as it was -/
def KeepL (H H' : Hp) : Prop := ∀ c o, (∀ xs, o ≠ .lst xs) → H c = some o → H' c = some o
theorem KeepL.of {H H' : Hp} (s : Same H H') : KeepL H H' := fun c o _ h => s c o h
theorem KeepL.trans {H H1 H2 : Hp} (s : KeepL H H1) (t : KeepL H1 H2) : KeepL H H2 := fun c o n h => t c o n (s c o n h)
theorem KeepL.lst {H : Hp} {D : Addr} {xs : List V} {o : HO} (hD : H D = some (.lst xs)) : KeepL H (upd H D o) := fun c u n h => by
  have nc : c ≠ D := fun e => by
    subst e
    rw [hD] at h
    injection h with h
    exact n _ h.symm
  rw [upd_ne nc]
  exact h
theorem KeepL.pre {H H' : Hp} {b : Addr} {xs : List V} (hb : H b = some (.lst xs)) (s : SameX b H H') : KeepL H H' := fun c u n h => by
  have nc : c ≠ b := fun e => by
    subst e
    rw [hb] at h
    injection h with h
    exact n _ h.symm
  exact s c u nc h
theorem MvAt.keepL {c : Cl} {H H' : Hp} {v : V} {m : Mv} (h : MvAt c H v m) (s : KeepL H H') : MvAt c H' v m := by
  obtain ⟨x, dx, e, hx⟩ := h
  exact ⟨x, dx, e, s _ _ (fun _ z => by cases m <;> cases z) hx⟩
theorem MvsAt.keepL {c : Cl} {H H' : Hp} (s : KeepL H H') : ∀ {xs : List V} {ms : List Mv}, MvsAt c H xs ms → MvsAt c H' xs ms
  | [], [], _ => trivial
  | _ :: _, _ :: _, h => ⟨h.1.keepL s, MvsAt.keepL s h.2⟩
  | [], _ :: _, h => h.elim
  | _ :: _, [], h => h.elim
theorem HiK.keepL {K : PySem.W.Frag} {c : Cl} {H H' : Hp} {v : V} {ms : List Mv} (h : HiK K c H v ms) (s : KeepL H H') : HiK K c H' v ms := by
  obtain ⟨x, dx, q, xs, e, hx, hq, mv⟩ := h
  exact ⟨x, dx, q, xs, e, s _ _ (fun _ z => by cases z) hx, hq.elim (fun z => .inl (s _ _ (fun _ z => by cases z) z)) .inr, mv.keepL s⟩
/-- a list of moves at an address that is neither D nor the box -/
def LsAt (c : Cl) (D b : Addr) (H : Hp) (v : V) (ms : List Mv) : Prop := ∃ a xs, v = .ref a ∧ a ≠ D ∧ a ≠ b ∧ H a = some (.lst xs) ∧ MvsAt c H xs ms
/-- a row of things, one by one -/
def Row {α : Type} (R : V → α → Prop) (vs : List V) (as : List α) : Prop := vs.length = as.length ∧ ∀ (i : Nat) (a : α), as[i]? = some a → ∃ v, vs[i]? = some v ∧ R v a
theorem Row.nil {α : Type} {R : V → α → Prop} : Row R [] [] := ⟨rfl, fun i a h => by simp at h⟩
theorem Row.push {α : Type} {R : V → α → Prop} {vs : List V} {as : List α} {v : V} {a : α} (d : Row R vs as) (h : R v a) : Row R (vs ++ [v]) (as ++ [a]) := by
  refine ⟨by simp [d.1], fun i x hx => ?_⟩
  by_cases l : i < as.length
  · rw [List.getElem?_append_left l] at hx
    obtain ⟨w, e, r⟩ := d.2 i x hx
    exact ⟨w, by rw [List.getElem?_append_left (by rw [d.1]; exact l)]; exact e, r⟩
  · have k : i = as.length := by
      have z := (List.getElem?_eq_some_iff.mp hx).1
      rw [List.length_append, List.length_singleton] at z
      omega
    subst k
    rw [List.getElem?_append_right (Nat.le_refl _), Nat.sub_self] at hx
    have e : a = x := by simpa using hx
    subst e
    exact ⟨v, by rw [← d.1, List.getElem?_append_right (Nat.le_refl _), Nat.sub_self]; rfl, h⟩
theorem Row.imp {α : Type} {R S : V → α → Prop} {vs : List V} {as : List α} (d : Row R vs as) (h : ∀ v a, R v a → S v a) : Row S vs as := ⟨d.1, fun i a e => by
  obtain ⟨v, e2, r⟩ := d.2 i a e
  exact ⟨v, e2, h v a r⟩⟩
theorem Row.at {α : Type} {R : V → α → Prop} {vs : List V} {as : List α} (d : Row R vs as) {i : Nat} {v : V} (h : vs[i]? = some v) : ∃ a, as[i]? = some a ∧ R v a := by
  have l := (List.getElem?_eq_some_iff.mp h).1
  have e := List.getElem?_eq_getElem (l := as) (i := i) (by rw [← d.1]; exact l)
  obtain ⟨w, q, t⟩ := d.2 i _ e
  rw [h] at q
  injection q with q
  subst q
  exact ⟨_, e, t⟩
theorem Row.three {α : Type} {R : V → α → Prop} {vs : List V} {as : List α} (d : Row R vs as) (h : as.length = 3) : ∃ v1 v2 v3 a1 a2 a3, vs = [v1, v2, v3] ∧ as = [a1, a2, a3] ∧ R v1 a1 ∧ R v2 a2 ∧ R v3 a3 := by
  obtain ⟨l, r⟩ := d
  have three : ∀ {β : Type} {l : List β}, l.length = 3 → ∃ a b c, l = [a, b, c] := fun {β l} e => by
    match l, e with
    | [a, b, c], _ => exact ⟨a, b, c, rfl⟩
  obtain ⟨a1, a2, a3, rfl⟩ := three h
  obtain ⟨v1, v2, v3, rfl⟩ := three (l.trans h)
  obtain ⟨w1, e1, r1⟩ := r 0 a1 rfl
  obtain ⟨w2, e2, r2⟩ := r 1 a2 rfl
  obtain ⟨w3, e3, r3⟩ := r 2 a3 rfl
  cases e1
  cases e2
  cases e3
  exact ⟨_, _, _, _, _, _, rfl, rfl, r1, r2, r3⟩
theorem lt_size {n : Nat} (h : n ≤ 1000) : n < sizeLine := Nat.lt_of_le_of_lt h (by decide)
theorem eqM_at {K : PySem.W.Frag} {c : Cl} {MV : Addr} {H : Hp} {u v : V} {m n : Mv} {neg : Bool} {R : VK} (C : MvCls K c MV) (a6 : MvAt c H u m) (a8 : MvAt c H v n) (mo : m.ok) (no : n.ok) (k : R (.bl (decide (m.text = n.text) != neg)) H) : rEqO K 4 (FFm c) neg u v H R := by
  obtain ⟨x, dx, rfl, hx⟩ := id a6
  obtain ⟨y, dy, rfl, hy⟩ := id a8
  obtain ⟨fs, eo⟩ := mv_at c m dx
  obtain ⟨gs, eo2⟩ := mv_at c n dy
  exact ⟨x, c.at m.kind, dx, fs, y, c.at n.kind, dy, gs, spMEq c, E0, rfl, rfl, by rw [hx, eo], by rw [hy, eo2], ⟨m.kind, kind_lt m, rfl, rfl⟩, C.nf _ (kind_lt m) _ (kind_lt n), _, _, m, n, rfl, a6, a8, mo, no, _, rfl, k⟩
section
variable {P : Program} {w : World} {K : PySem.W.Frag} {mg : Str → Option Value} {base : Heap} {c : Cl} {W : Hp → Prop} {σ : L2.St} {ta tb te : TE} {ms ns : List Mv}
theorem addM_at {H : Hp} {u v : V} {m : Mv} {inp : Bool} {Q : VK} (T : HiOps P w K mg base c) (hu : HiK K c H u ms) (hm : MvAt c H v m) (n : ms.length + 1 ≤ 1000) (k : ∀ w H', Same H H' → HiK K c H' w (ms ++ [m]) → Q w H') : rBinD K .Add inp (FFa K c) u v H Q := by
  obtain ⟨a, dx, q, xs, rfl, ex, hq, mv⟩ := id hu
  obtain ⟨y, dy, rfl, hy⟩ := id hm
  obtain ⟨fs, eo⟩ := mv_at c m dy
  exact ⟨a, c.Hi, dx, _, y, c.at m.kind, dy, fs, spHAddM K c, E0, rfl, rfl, ex, by rw [hy, eo], .inr (T.sil _ (kind_lt m)), fun _ => T.inp, ⟨rfl, .inr rfl⟩, _, _, ms, m, rfl, hu, hm, n, k⟩
theorem ev_neg {i : Int} (ha : EvV W σ ta (isIv i)) : EvV W σ (tUn (rU fun i => .int (-i)) ta) (isIv (-i)) := fun H Q w k => ha H _ w fun v H' s w' e => ⟨i, e, k _ H' s w' rfl⟩
/-- the parts that the law draws -/
theorem stp_take {α : Type} {xs : List α} {z : Int} (h0 : 0 ≤ z) (h1 : z ≤ xs.length) : stepL xs none (some z) none = xs.take z.toNat := by
  have e : z = ((z.toNat : Nat) : Int) := by omega
  rw [e]
  exact step_to xs (by omega)
theorem stp_drop {α : Type} {xs : List α} {z : Int} (h0 : 0 ≤ z) (h1 : z ≤ xs.length) : stepL xs (some z) none none = xs.drop z.toNat := by
  have e : z = ((z.toNat : Nat) : Int) := by omega
  rw [e]
  exact step_from xs (by omega)
end
end V3

set_option Elab.async false
set_option linter.all false
set_option maxRecDepth 100000
namespace V3
open PySem L2 TL
theorem bounds_adj (lo hi : Option Int) {c : Int} (n : Nat) (h : c ≠ 0) : (sliceBounds lo hi (some c) n).1 = (Builtin.Slice.sliceAdjust lo hi c (n : Int)).1 ∧ (sliceBounds lo hi (some c) n).2.1 = (Builtin.Slice.sliceAdjust lo hi c (n : Int)).2 ∧ (sliceBounds lo hi (some c) n).2.2 = c := by
  refine ⟨?_, ?_, rfl⟩
  · cases lo with
    | none =>
      show (if (c : Int) > 0 then (0 : Int) else (n : Int) - 1) = (if c < 0 then (if c < 0 then (n : Int) - 1 else n) else (if c < 0 then -1 else 0))
      split <;> split <;> (try split) <;> omega
    | some v =>
      show (if c > 0 then max 0 (min (if v < 0 then v + (n : Int) else v) n) else max (-1) (min (if v < 0 then v + (n : Int) else v) ((n : Int) - 1))) = (if v < 0 then max (v + (n : Int)) (if c < 0 then -1 else 0) else min v (if c < 0 then (n : Int) - 1 else n))
      simp only [Int.max_def, Int.min_def]
      repeat' split
      all_goals omega
  · cases hi with
    | none =>
      show (if (c : Int) > 0 then (n : Int) else -1) = (if c < 0 then (if c < 0 then -1 else 0) else (if c < 0 then (n : Int) - 1 else n))
      split <;> split <;> (try split) <;> omega
    | some v =>
      show (if c > 0 then max 0 (min (if v < 0 then v + (n : Int) else v) n) else max (-1) (min (if v < 0 then v + (n : Int) else v) ((n : Int) - 1))) = (if v < 0 then max (v + (n : Int)) (if c < 0 then -1 else 0) else min v (if c < 0 then (n : Int) - 1 else n))
      simp only [Int.max_def, Int.min_def]
      repeat' split
      all_goals omega
theorem range_places (a b c : Int) (h : c ≠ 0) : sliceRange a b c = (List.range (Builtin.Slice.slicePlaces a b c)).map fun (k : Nat) => (a + (k : Int) * c).toNat := by
  unfold sliceRange Builtin.Slice.slicePlaces
  have e : (if c > 0 then (if a < b then (b - a + c - 1) / c else 0) else (if a > b then (a - b - c - 1) / (-c) else 0)) = (if c > 0 then (if a < b then (b - a - 1) / c + 1 else 0) else (if a > b then (a - b - 1) / (-c) + 1 else 0)) := by
    by_cases q : c > 0
    · rw [if_pos q, if_pos q]
      by_cases r : a < b
      · rw [if_pos r, if_pos r]
        have z : b - a + c - 1 = (b - a - 1) + 1 * c := by omega
        rw [z, Int.add_mul_ediv_right _ _ h]
      · rw [if_neg r, if_neg r]
    · rw [if_neg q, if_neg q]
      by_cases r : a > b
      · rw [if_pos r, if_pos r]
        have z : a - b - c - 1 = (a - b - 1) + 1 * (-c) := by omega
        rw [z, Int.add_mul_ediv_right _ _ (by omega)]
      · rw [if_neg r, if_neg r]
  dsimp only
  rw [e]
  refine List.map_congr_left fun k _ => ?_
  rw [Int.mul_comm]
theorem step_same (xs : List V) (lo hi : Option Int) {st : Option Int} (h : st ≠ some 0) : stepV xs lo hi st = stepL xs lo hi st := by
  unfold stepV stepL HT.idxT
  cases st with
  | none =>
    obtain ⟨e1, e2, e3⟩ := bounds_adj lo hi (c := 1) xs.length (by decide)
    have z : sliceBounds lo hi none xs.length = sliceBounds lo hi (some 1) xs.length := rfl
    rw [z, e1, e2, e3, range_places _ _ _ (by decide)]
    rfl
  | some c =>
    have hc : c ≠ 0 := fun e => h (by rw [e])
    obtain ⟨e1, e2, e3⟩ := bounds_adj lo hi (c := c) xs.length hc
    rw [e1, e2, e3, range_places _ _ _ hc]
    rfl
theorem cut_same (xs : List V) (lo hi : Option Int) : cutV xs lo hi = stepL xs lo hi none := by
  rw [step_one]
  rfl
/-- what a slice picks of drawn things -/
theorem Row.pick {α : Type} {R : V → α → Prop} {vs : List V} {as : List α} (d : Row R vs as) : ∀ idx : List Nat, Row R (idx.filterMap fun i => vs[i]?) (idx.filterMap fun i => as[i]?)
  | [] => Row.nil
  | i :: idx => by
    have ih := Row.pick d idx
    rw [List.filterMap_cons, List.filterMap_cons]
    cases e : as[i]? with
    | none =>
      have l := List.getElem?_eq_none_iff.mp e
      have e2 : vs[i]? = none := List.getElem?_eq_none (by rw [d.1]; exact l)
      rw [e2]
      exact ih
    | some a =>
      obtain ⟨v, ev, r⟩ := d.2 i a e
      rw [ev]
      refine ⟨by simp [ih.1], fun j b hb => ?_⟩
      cases j with
      | zero =>
        have z : a = b := by simpa using hb
        subst z
        exact ⟨v, rfl, r⟩
      | succ j =>
        obtain ⟨w, ew, rw_⟩ := ih.2 j b (by simpa using hb)
        exact ⟨w, by simpa using ew, rw_⟩
theorem Row.step {α : Type} {R : V → α → Prop} {vs : List V} {as : List α} (d : Row R vs as) (lo hi st : Option Int) : Row R (stepL vs lo hi st) (stepL as lo hi st) := by
  unfold stepL
  rw [d.1]
  exact d.pick _
theorem step_mem {α : Type} {xs : List α} {lo hi st : Option Int} {x : α} (h : x ∈ stepL xs lo hi st) : x ∈ xs := by
  obtain ⟨i, _, e⟩ := List.mem_filterMap.mp h
  exact List.mem_of_getElem? e
theorem places_le (a b c : Int) {n : Nat} (h : c ≠ 0) (h1 : -1 ≤ a ∧ a ≤ n) (h2 : -1 ≤ b ∧ b ≤ n) : Builtin.Slice.slicePlaces a b c ≤ n + 2 := by
  unfold Builtin.Slice.slicePlaces
  have le : ∀ x d : Int, 0 ≤ x → 1 ≤ d → x / d ≤ x := fun x d hx hd => Int.ediv_le_self _ hx
  by_cases q : c > 0
  · rw [if_pos q]
    by_cases r : a < b
    · rw [if_pos r]
      have z := le (b - a - 1) c (by omega) (by omega)
      omega
    · rw [if_neg r]
      omega
  · rw [if_neg q]
    by_cases r : a > b
    · rw [if_pos r]
      have z := le (a - b - 1) (-c) (by omega) (by omega)
      omega
    · rw [if_neg r]
      omega
theorem adj_in (lo hi : Option Int) (c : Int) (n : Nat) : (-1 ≤ (Builtin.Slice.sliceAdjust lo hi c (n : Int)).1 ∧ (Builtin.Slice.sliceAdjust lo hi c (n : Int)).1 ≤ n) ∧ (-1 ≤ (Builtin.Slice.sliceAdjust lo hi c (n : Int)).2 ∧ (Builtin.Slice.sliceAdjust lo hi c (n : Int)).2 ≤ n) := by
  refine ⟨?_, ?_⟩
  · cases lo with
    | none =>
      show -1 ≤ (if c < 0 then (if c < 0 then (n : Int) - 1 else n) else (if c < 0 then -1 else 0)) ∧ (if c < 0 then (if c < 0 then (n : Int) - 1 else n) else (if c < 0 then -1 else 0)) ≤ (n : Int)
      split <;> (try split) <;> omega
    | some v =>
      show -1 ≤ (if v < 0 then max (v + (n : Int)) (if c < 0 then -1 else 0) else min v (if c < 0 then (n : Int) - 1 else n)) ∧ (if v < 0 then max (v + (n : Int)) (if c < 0 then -1 else 0) else min v (if c < 0 then (n : Int) - 1 else n)) ≤ (n : Int)
      simp only [Int.max_def, Int.min_def]
      repeat' split
      all_goals omega
  · cases hi with
    | none =>
      show -1 ≤ (if c < 0 then (if c < 0 then -1 else 0) else (if c < 0 then (n : Int) - 1 else n)) ∧ (if c < 0 then (if c < 0 then -1 else 0) else (if c < 0 then (n : Int) - 1 else n)) ≤ (n : Int)
      split <;> (try split) <;> omega
    | some v =>
      show -1 ≤ (if v < 0 then max (v + (n : Int)) (if c < 0 then -1 else 0) else min v (if c < 0 then (n : Int) - 1 else n)) ∧ (if v < 0 then max (v + (n : Int)) (if c < 0 then -1 else 0) else min v (if c < 0 then (n : Int) - 1 else n)) ≤ (n : Int)
      simp only [Int.max_def, Int.min_def]
      repeat' split
      all_goals omega
theorem step_short {α : Type} (xs : List α) (lo hi : Option Int) {st : Option Int} (h : st ≠ some 0) : (stepL xs lo hi st).length ≤ xs.length + 2 := by
  refine Nat.le_trans (step_len xs) ?_
  unfold HT.idxT
  rw [List.length_map, List.length_range]
  have c0 : st.getD 1 ≠ 0 := by
    cases st with
    | none => decide
    | some c => exact fun e => h (by rw [show c = 0 from e])
  obtain ⟨a, b⟩ := adj_in lo hi (st.getD 1) xs.length
  exact places_le _ _ _ c0 a b
end V3

set_option Elab.async false
set_option linter.all false
set_option maxRecDepth 100000
namespace V3
open PySem L2 TL
abbrev sMvText : Stmt := top 25
section
variable {P : Program} {w : World} {K : PySem.W.Frag} {mg : Str → Option Value} {base : Heap}
theorem scMvText : FnScope ["_law_move"] ["_law_move"] (defScope sMvText) := ⟨rfl, rfl, rfl, by decide +kernel, rfl, by decide +kernel, by decide +kernel⟩
/-- the law's own text of a move -/
theorem app0 (x : Str) : x ++ Str.empty = x := ext_tl (by
  rw [tl_append]
  simp [Str.empty, tl])
theorem empty_app (x : Str) : Str.empty ++ x = x := ext_tl (by
  rw [tl_append]
  simp [Str.empty, tl])
theorem ok_mvText {f : Addr} {fd : FuncData} (F : Fun K "_law_move_text" "_law_move_text" sMvText f fd) (zs : mg "str" = none) : FnOk P w K mg base CX0 1 f fd ["_law_move"] spText := by
  refine F.ok scMvText (fun vs H Q E h => ?_) (fun cdv A outer s H vs Q E hr h => ?_)
  · obtain ⟨v, m, rfl, _⟩ := h
    rfl
  · obtain ⟨v, m, rfl, ⟨p, rfl, hp⟩, ok, q⟩ := h
    refine ⟨_, pss_cons (ps_if (pt_cmpR op_eq (pe_ix ix_tup (pv 0) pe_int (fun _ _ => rfl)) pe_str (nomark _)) (pss_one (ps_ret (pe_op op_add_str pe_str (pe_callTy call_str_int (by rfl) zs (by decide +kernel) (pa_cons (pe_ix ix_tup (pv 0) pe_int (fun _ _ => rfl)) pa_nil))))) pss_nil)
      (pss_cons (ps_if (pt_cmpR op_eq (pe_ix ix_tup (pv 0) pe_int (fun _ _ => rfl)) pe_str (nomark _)) (pss_one (ps_ret pe_str)) pss_nil)
      (pss_cons (ps_if (pt_cmpR op_eq (pe_ix ix_tup (pv 0) pe_int (fun _ _ => rfl)) pe_str (nomark _)) (pss_one (ps_ret (pe_op op_add_str (pe_op op_add_str pe_str (pe_callTy call_str_int (by rfl) zs (by decide +kernel) (pa_cons (pe_ix ix_tup (pv 0) pe_int (fun _ _ => rfl)) pa_nil)))
          (pe_ifExp (pt_cmpR op_gt (pe_ix ix_tup (pv 0) pe_int (fun _ _ => rfl)) pe_int (nomark _)) (pe_op op_add_str pe_str (pe_callTy call_str_int (by rfl) zs (by decide +kernel) (pa_cons (pe_ix ix_tup (pv 0) pe_int (fun _ _ => rfl)) pa_nil))) pe_str)))) pss_nil)
      (pss_one (ps_ret (pe_op op_add_str (pe_op op_add_str (pe_op op_add_str pe_str (pe_callTy call_str_int (by rfl) zs (by decide +kernel) (pa_cons (pe_ix ix_tup (pv 0) pe_int (fun _ _ => rfl)) pa_nil))) pe_str) (pe_callTy call_str_int (by rfl) zs (by decide +kernel) (pa_cons (pe_ix ix_tup (pv 0) pe_int (fun _ _ => rfl)) pa_nil))))))), ?_⟩
    have hS : SqT K H p m.tupV := SqT.of hp
    have e1 : decide (V.str "take" = V.str "begin") = false := by decide +kernel
    have e2 : decide (V.str "take" = V.str "shut") = false := by decide +kernel
    have e4 : decide (V.str "right" = V.str "begin") = false := by decide +kernel
    have e5 : decide (V.str "right" = V.str "shut") = false := by decide +kernel
    have e7 : decide (V.str "right" = V.str "take") = false := by decide +kernel
    have e6 : decide (V.str "shut" = V.str "begin") = false := by decide +kernel
    have l1 : ("begin " : Str).length = 6 := by decide +kernel
    have l2 : ("take " : Str).length = 5 := by decide +kernel
    have l3 : (" by " : Str).length = 4 := by decide +kernel
    have l4 : ("right " : Str).length = 6 := by decide +kernel
    have l5 : (" to " : Str).length = 4 := by decide +kernel
    rcases m with a | t | ⟨t, a⟩ | ⟨t, a⟩ | _
    · have la := num_len (am_of ok)
      refine ⟨_, rfl, p, _, 0, _, rfl, rfl, hS, rfl, rfl, _, rfl, ?_⟩
      rw [decide_eq_true rfl]
      refine iteT ⟨_, rfl, p, _, 1, _, rfl, rfl, hS, rfl, a, rfl, am_log (am_of ok), _, _, rfl, rfl, small ?_, ?_⟩
      · show ("begin " : Str).length + (num a).length ≤ 10000
        omega
      · rw [← b_text] at q
        unfold bText at q
        rw [empty_app] at q
        exact q
    · have lt := num_len (at_am ok)
      refine ⟨_, rfl, p, _, 0, _, rfl, rfl, hS, rfl, rfl, _, rfl, ?_⟩
      rw [e1]
      refine iteF ⟨_, rfl, p, _, 0, _, rfl, rfl, hS, rfl, rfl, _, rfl, ?_⟩
      rw [e2]
      refine iteF ⟨_, rfl, p, _, 0, _, rfl, rfl, hS, rfl, rfl, _, rfl, ?_⟩
      rw [decide_eq_true rfl]
      refine iteT ⟨_, rfl, p, _, 1, _, rfl, rfl, hS, rfl, t, rfl, am_log (at_am ok), _, _, rfl, rfl, small ?_, ?_⟩
      · show ("take " : Str).length + (num t).length ≤ 10000
        omega
      · refine ⟨_, rfl, p, _, 2, _, rfl, rfl, hS, rfl, _, _, rfl, rfl, _, rfl, ?_⟩
        rw [decide_eq_false (by omega)]
        refine iteF ⟨_, _, rfl, rfl, small ?_, ?_⟩
        · show ("take " ++ num t : Str).length + (Str.empty).length ≤ 10000
          rw [app_len]
          have e0 : (Str.empty).length = 0 := rfl
          omega
        · rw [← t_text] at q
          unfold tText at q
          rw [empty_app] at q
          have z : ("take " ++ num t ++ "" : Str) = "take " ++ num t := app0 _
          show Q (.str ("take " ++ num t ++ "")) H
          rw [z]
          exact q
    · have lt := num_len (at_am ok.1)
      have la := num_len (am_of ok.2)
      have a1 : 1 ≤ a := ok.2.1
      refine ⟨_, rfl, p, _, 0, _, rfl, rfl, hS, rfl, rfl, _, rfl, ?_⟩
      rw [e1]
      refine iteF ⟨_, rfl, p, _, 0, _, rfl, rfl, hS, rfl, rfl, _, rfl, ?_⟩
      rw [e2]
      refine iteF ⟨_, rfl, p, _, 0, _, rfl, rfl, hS, rfl, rfl, _, rfl, ?_⟩
      rw [decide_eq_true rfl]
      refine iteT ⟨_, rfl, p, _, 1, _, rfl, rfl, hS, rfl, t, rfl, am_log (at_am ok.1), _, _, rfl, rfl, small ?_, ?_⟩
      · show ("take " : Str).length + (num t).length ≤ 10000
        omega
      · refine ⟨_, rfl, p, _, 2, _, rfl, rfl, hS, rfl, _, _, rfl, rfl, _, rfl, ?_⟩
        rw [decide_eq_true (by omega)]
        refine iteT ⟨_, rfl, p, _, 2, _, rfl, rfl, hS, rfl, a, rfl, am_log (am_of ok.2), _, _, rfl, rfl, small ?_, _, _, rfl, rfl, small ?_, ?_⟩
        · show (" by " : Str).length + (num a).length ≤ 10000
          omega
        · show ("take " ++ num t : Str).length + (" by " ++ num a : Str).length ≤ 10000
          rw [app_len, app_len]
          omega
        · rw [← tb_text] at q
          unfold tbText at q
          rw [empty_app] at q
          have z : ("take " ++ num t ++ (" by " ++ num a) : Str) = "take " ++ num t ++ " by " ++ num a := ext_tl (by
            simp only [tl_append, List.append_assoc])
          show Q (.str ("take " ++ num t ++ (" by " ++ num a))) H
          rw [z]
          exact q
    · have lt := num_len (at_am ok.1)
      have la := num_len (am_of ok.2)
      refine ⟨_, rfl, p, _, 0, _, rfl, rfl, hS, rfl, rfl, _, rfl, ?_⟩
      rw [e4]
      refine iteF ⟨_, rfl, p, _, 0, _, rfl, rfl, hS, rfl, rfl, _, rfl, ?_⟩
      rw [e5]
      refine iteF ⟨_, rfl, p, _, 0, _, rfl, rfl, hS, rfl, rfl, _, rfl, ?_⟩
      rw [e7]
      refine iteF ⟨_, rfl, p, _, 1, _, rfl, rfl, hS, rfl, t, rfl, am_log (at_am ok.1), _, _, rfl, rfl, small ?_, _, _, rfl, rfl, small ?_, ?_⟩
      · show ("right " : Str).length + (num t).length ≤ 10000
        omega
      · show ("right " ++ num t : Str).length + (" to " : Str).length ≤ 10000
        rw [app_len]
        omega
      · refine ⟨_, rfl, p, _, 2, _, rfl, rfl, hS, rfl, a, rfl, am_log (am_of ok.2), _, _, rfl, rfl, small ?_, ?_⟩
        · show ("right " ++ num t ++ " to " : Str).length + (num a).length ≤ 10000
          rw [app_len, app_len]
          omega
        · rw [← r_text] at q
          unfold rText at q
          rw [empty_app] at q
          exact q
    · refine ⟨_, rfl, p, _, 0, _, rfl, rfl, hS, rfl, rfl, _, rfl, ?_⟩
      rw [e6]
      refine iteF ⟨_, rfl, p, _, 0, _, rfl, rfl, hS, rfl, rfl, _, rfl, ?_⟩
      rw [decide_eq_true rfl]
      have e : Mv.shut.text = "shut" := by decide +kernel
      rw [e] at q
      exact iteT q
end
end V3

set_option Elab.async false
set_option linter.all false
set_option maxRecDepth 100000
namespace V3
open PySem L2 TL
def Mv.tupD : Mv → List PyData
  | .beg a => [.str "begin", .int a]
  | .take t => [.str "take", .int t, .int 0]
  | .takeBy t a => [.str "take", .int t, .int a]
  | .right t a => [.str "right", .int t, .int a]
  | .shut => [.str "shut"]
theorem tup_dp {K : PySem.W.Frag} {H : Hp} (m : Mv) : DpAll K H m.tupV m.tupD := by
  cases m with
  | beg a => exact .cons (.str _) (.cons (.int _) .nil)
  | take t => exact .cons (.str _) (.cons (.int _) (.cons (.int _) .nil))
  | takeBy t a => exact .cons (.str _) (.cons (.int _) (.cons (.int _) .nil))
  | right t a => exact .cons (.str _) (.cons (.int _) (.cons (.int _) .nil))
  | shut => exact .cons (.str _) .nil
theorem tup_shaped (m : Mv) : SeqAt.shaped (.tuple m.tupD) = true := by
  have k1 : PyData.canLay0 (.str "begin") = true := by decide +kernel
  have k2 : PyData.canLay0 (.str "take") = true := by decide +kernel
  have k3 : PyData.canLay0 (.str "right") = true := by decide +kernel
  have k4 : PyData.canLay0 (.str "shut") = true := by decide +kernel
  have ki : ∀ i : Int, PyData.canLay0 (.int i) = true := fun i => by simp [PyData.canLay0]
  have kt : ∀ xs : List PyData, PyData.canLay0 (.tuple xs) = PyData.canLayAll0 xs := fun xs => by simp [PyData.canLay0]
  cases m <;> simp [SeqAt.shaped, Mv.tupD, kt, PyData.canLayAll0, k1, k2, k3, k4, ki, PyData.depth, PyData.depthAll]
theorem dec_int2 (a b : Int) : (a == b) = decide (a = b) := by
  by_cases h : a = b
  · rw [decide_eq_true h, h]
    simp
  · rw [decide_eq_false h]
    simpa using h
theorem tup_eqv {m n : Mv} (hm : m.ok) (hn : n.ok) : PyData.eqv (.tuple m.tupD) (.tuple n.tupD) = decide (m = n) := by
  have s1 : (("begin" : Str) == "take") = false := by decide +kernel
  have s2 : (("begin" : Str) == "right") = false := by decide +kernel
  have s3 : (("begin" : Str) == "shut") = false := by decide +kernel
  have s4 : (("take" : Str) == "begin") = false := by decide +kernel
  have s5 : (("take" : Str) == "right") = false := by decide +kernel
  have s6 : (("take" : Str) == "shut") = false := by decide +kernel
  have s7 : (("right" : Str) == "begin") = false := by decide +kernel
  have s8 : (("right" : Str) == "take") = false := by decide +kernel
  have s9 : (("right" : Str) == "shut") = false := by decide +kernel
  have t1 : (("shut" : Str) == "begin") = false := by decide +kernel
  have t2 : (("shut" : Str) == "take") = false := by decide +kernel
  have t3 : (("shut" : Str) == "right") = false := by decide +kernel
  have b1 : (("begin" : Str) == "begin") = true := by decide +kernel
  have b2 : (("take" : Str) == "take") = true := by decide +kernel
  have b3 : (("right" : Str) == "right") = true := by decide +kernel
  have b4 : (("shut" : Str) == "shut") = true := by decide +kernel
  cases m with
  | beg a => cases n <;> simp [PyData.eqv, PyData.eqvAll, Mv.tupD, dec_int2, s1, s2, s3, b1]
  | take t =>
    cases n with
    | takeBy u b =>
      have := hn.2.1
      have e : ¬ (0 : Int) = b := by omega
      simp [PyData.eqv, PyData.eqvAll, Mv.tupD, dec_int2, b2, e]
    | _ => simp [PyData.eqv, PyData.eqvAll, Mv.tupD, dec_int2, s4, s5, s6, b2]
  | takeBy t a =>
    cases n with
    | take u =>
      have := hm.2.1
      have e : ¬ a = (0 : Int) := by omega
      simp [PyData.eqv, PyData.eqvAll, Mv.tupD, dec_int2, b2, e]
    | _ => simp [PyData.eqv, PyData.eqvAll, Mv.tupD, dec_int2, s4, s5, s6, b2]
  | right t a => cases n <;> simp [PyData.eqv, PyData.eqvAll, Mv.tupD, dec_int2, s7, s8, s9, b3]
  | shut => cases n <;> simp [PyData.eqv, PyData.eqvAll, Mv.tupD, dec_int2, t1, t2, t3, b4]

/-- drawn tuples of moves, in a row -/
abbrev Tups (H : Hp) (vs : List V) (ms : List Mv) : Prop := Row (fun v m => TupAt H v m) vs ms
theorem Tups.same {H H' : Hp} {vs : List V} {ms : List Mv} (d : Tups H vs ms) (s : Same H H') : Tups H' vs ms := d.imp fun _ _ h => h.same s
theorem Tups.keepL {H H' : Hp} {vs : List V} {ms : List Mv} (d : Tups H vs ms) (s : KeepL H H') : Tups H' vs ms := d.imp fun _ _ h => by
  obtain ⟨p, e, hp⟩ := h
  exact ⟨p, e, s _ _ (fun _ z => by cases z) hp⟩
theorem Row.tail {α : Type} {R : V → α → Prop} {v : V} {vs : List V} {a : α} {as : List α} (d : Row R (v :: vs) (a :: as)) : R v a ∧ Row R vs as := by
  refine ⟨?_, by simpa using d.1, fun i b hb => ?_⟩
  · obtain ⟨w, e, r⟩ := d.2 0 a rfl
    cases e
    exact r
  · obtain ⟨w, e, r⟩ := d.2 (i + 1) b (by simpa using hb)
    exact ⟨w, by simpa using e, r⟩
theorem tups_dp {K : PySem.W.Frag} {H : Hp} : ∀ {vs : List V} {ms : List Mv}, Tups H vs ms → DpAll K H vs (ms.map fun m => .tuple m.tupD)
  | [], [], _ => .nil
  | v :: vs, m :: ms, d => by
    obtain ⟨⟨p, rfl, hp⟩, r⟩ := d.tail
    exact .cons (.tup (SqT.of hp) (tup_dp m)) (tups_dp r)
  | [], _ :: _, d => by have := d.1; simp at this
  | _ :: _, [], d => by have := d.1; simp at this
theorem shaped_all {ds : List PyData} (h : ∀ d ∈ ds, SeqAt.shaped d = true ∧ PyData.depth d ≤ 1) : SeqAt.shaped (.list ds) = true := by
  have c : ∀ {ds : List PyData}, (∀ d ∈ ds, SeqAt.shaped d = true ∧ PyData.depth d ≤ 1) → PyData.canLayAll0 ds = true ∧ PyData.depthAll ds ≤ 1 := fun {ds} => by
    induction ds with
    | nil => intro _; simp [PyData.canLayAll0, PyData.depthAll]
    | cons d ds ih =>
      intro h
      obtain ⟨a, b⟩ := ih fun x hx => h x (List.mem_cons_of_mem _ hx)
      obtain ⟨e, f⟩ := h d (List.mem_cons_self ..)
      have e2 := SeqAt.canLay_of_shaped e
      refine ⟨by simp [PyData.canLayAll0, e2, a], ?_⟩
      simp only [PyData.depthAll]
      omega
  obtain ⟨a, b⟩ := c h
  unfold SeqAt.shaped
  rw [Bool.and_eq_true]
  refine ⟨by simpa [PyData.canLay0] using a, decide_eq_true ?_⟩
  simp only [PyData.depth]
  omega
theorem tup_depth (m : Mv) : PyData.depth (.tuple m.tupD) ≤ 1 := by
  cases m <;> simp [Mv.tupD, PyData.depth, PyData.depthAll]
theorem tups_shaped (ms : List Mv) : SeqAt.shaped (.list (ms.map fun m => .tuple m.tupD)) = true := shaped_all fun d hd => by
  obtain ⟨m, _, rfl⟩ := List.mem_map.mp hd
  exact ⟨tup_shaped m, tup_depth m⟩
theorem tups_eqv : ∀ {ms ns : List Mv}, (∀ m ∈ ms, m.ok) → (∀ m ∈ ns, m.ok) → PyData.eqv (.list (ms.map fun m => .tuple m.tupD)) (.list (ns.map fun m => .tuple m.tupD)) = decide (ms = ns) := by
  have go : ∀ {ms ns : List Mv}, (∀ m ∈ ms, m.ok) → (∀ m ∈ ns, m.ok) → PyData.eqvAll (ms.map fun m => .tuple m.tupD) (ns.map fun m => .tuple m.tupD) = decide (ms = ns) := fun {ms} => by
    induction ms with
    | nil =>
      intro ns _ _
      cases ns <;> simp [PyData.eqvAll]
    | cons m ms ih =>
      intro ns a b
      cases ns with
      | nil => simp [PyData.eqvAll]
      | cons n ns =>
        have e1 := tup_eqv (a m (List.mem_cons_self ..)) (b n (List.mem_cons_self ..))
        have e2 := ih (ns := ns) (fun x hx => a x (List.mem_cons_of_mem _ hx)) (fun x hx => b x (List.mem_cons_of_mem _ hx))
        simp only [List.map_cons, PyData.eqvAll]
        rw [e1, e2, ← Bool.decide_and]
        simp
  intro ms ns a b
  simp only [PyData.eqv]
  exact go a b
/-! texts -/
theorem far_numL {s n : Nat} (h : 200 ≤ s) : s ∉ numL n := numL_free (.inr (by omega))
theorem far_text {m : Mv} (ok : m.ok) {s : Nat} (h : 200 ≤ s) : s ∉ tl m.text := by
  have n1 : ∀ {t : Int}, 0 ≤ t → s ∉ tl (num t) := fun {t} h0 => by
    rw [tl_num' h0]
    exact far_numL h
  have lit : ∀ {z : List Nat}, (∀ x ∈ z, x < 200) → s ∉ z := fun hz hs => by have := hz s hs; omega
  have w1 : s ∉ tl "begin" := lit (by decide +kernel)
  have w2 : s ∉ tl "take" := lit (by decide +kernel)
  have w3 : s ∉ tl "right" := lit (by decide +kernel)
  have w4 : s ∉ tl "shut" := lit (by decide +kernel)
  have w5 : s ∉ tl "by" := lit (by decide +kernel)
  have w6 : s ∉ tl "to" := lit (by decide +kernel)
  unfold Mv.text
  rw [tl_join]
  refine join_free (by rw [sp_tl]; exact lit (by decide)) fun p hp => ?_
  obtain ⟨q, hq, rfl⟩ := List.mem_map.mp hp
  cases m with
  | beg a =>
    have a1 := ok.1
    simp only [Mv.words, List.mem_cons, List.not_mem_nil, or_false] at hq
    rcases hq with rfl | rfl
    · exact w1
    · exact n1 (by omega)
  | take t =>
    have t1 := ok.1
    simp only [Mv.words, List.mem_cons, List.not_mem_nil, or_false] at hq
    rcases hq with rfl | rfl
    · exact w2
    · exact n1 (by omega)
  | takeBy t a =>
    have t1 := ok.1.1
    have a1 := ok.2.1
    simp only [Mv.words, List.mem_cons, List.not_mem_nil, or_false] at hq
    rcases hq with rfl | rfl | rfl | rfl
    · exact w2
    · exact n1 (by omega)
    · exact w5
    · exact n1 (by omega)
  | right t a =>
    have t1 := ok.1.1
    have a1 := ok.2.1
    simp only [Mv.words, List.mem_cons, List.not_mem_nil, or_false] at hq
    rcases hq with rfl | rfl | rfl | rfl
    · exact w3
    · exact n1 (by omega)
    · exact w6
    · exact n1 (by omega)
  | shut =>
    simp only [Mv.words, List.mem_cons, List.not_mem_nil, or_false] at hq
    subst hq
    exact w4
theorem text_strOk {m : Mv} (ok : m.ok) : PyData.strOk m.text = true := by
  unfold PyData.strOk
  rw [Array.all_eq_true_iff_forall_mem]
  intro x hx
  refine decide_eq_true ?_
  by_cases h : 200 ≤ x
  · exact absurd (show x ∈ tl m.text by simpa using hx) (far_text ok h)
  · omega
theorem texts_dp {K : PySem.W.Frag} {H : Hp} : ∀ ts : List Str, DpAll K H (ts.map V.str) (ts.map .str)
  | [] => .nil
  | t :: ts => .cons (.str t) (texts_dp ts)
theorem texts_shaped {ms : List Mv} (ok : ∀ m ∈ ms, m.ok) : SeqAt.shaped (.list ((ms.map Mv.text).map .str)) = true := shaped_all fun d hd => by
  obtain ⟨t, ht, rfl⟩ := List.mem_map.mp hd
  obtain ⟨m, hm, rfl⟩ := List.mem_map.mp ht
  have z := text_strOk (ok m hm)
  exact ⟨by simp [SeqAt.shaped, PyData.canLay0, z, PyData.depth], by simp [PyData.depth]⟩
theorem texts_eqv (ts : List Str) : PyData.eqv (.list (ts.map .str)) (.list (ts.map .str)) = true := by
  have go : ∀ ts : List Str, PyData.eqvAll (ts.map .str) (ts.map .str) = true := fun ts => by
    induction ts with
    | nil => simp [PyData.eqvAll]
    | cons t ts ih => simp [PyData.eqvAll, PyData.eqv, ih]
  simp only [PyData.eqv]
  exact go ts
end V3

set_option Elab.async false
set_option linter.all false
set_option maxRecDepth 100000
/-! k06, pure: words of a text with ; as spaces; texts of small moves; the parts that are none -/
namespace V3
open PySem L2 TL
theorem inf_cut {s : Nat} {l a b : List Nat} (h : l <:+: a ++ s :: b) (n : s ∉ l) : l <:+: a ∨ l <:+: b := by
  obtain ⟨u, v, e⟩ := h
  rcases List.append_eq_append_iff.mp e with ⟨c, e1, e2⟩ | ⟨c, e1, e2⟩
  · exact .inl ⟨u, c, e1.symm⟩
  · cases c with
    | nil =>
      rw [List.append_nil] at e1
      exact .inl ⟨u, [], by rw [List.append_nil]; exact e1⟩
    | cons x c =>
      obtain ⟨e4, e3⟩ := List.cons.inj e2
      subst e3 e4
      rcases List.append_eq_append_iff.mp e1 with ⟨d, f1, f2⟩ | ⟨d, f1, f2⟩
      · exact absurd (by rw [f2]; simp) n
      · cases d with
        | nil => exact absurd (by rw [List.nil_append] at f2; rw [← f2]; simp) n
        | cons y d =>
          obtain ⟨_, f3⟩ := List.cons.inj f2
          exact .inr ⟨d, v, by rw [f3]; rfl⟩
theorem inf_join {s : Nat} {l : List Nat} (n : s ∉ l) : ∀ {ps : List (List Nat)}, ps ≠ [] → l <:+: joinL [s] ps → ∃ p ∈ ps, l <:+: p
  | [], h, _ => absurd rfl h
  | [a], _, h => ⟨a, by simp, h⟩
  | a :: b :: r, _, h => by
    have h2 : l <:+: a ++ s :: joinL [s] (b :: r) := h
    rcases inf_cut h2 n with h | h
    · exact ⟨a, by simp, h⟩
    · obtain ⟨p, hp, k⟩ := inf_join n (ps := b :: r) (by simp) h
      exact ⟨p, List.mem_cons_of_mem _ hp, k⟩
theorem join_inf {S : List Nat} : ∀ {ps : List (List Nat)} {p : List Nat}, p ∈ ps → p <:+: joinL S ps
  | [], _, h => by cases h
  | [a], p, h => by
    rw [List.mem_singleton.mp h]
    exact ⟨[], [], by simp [joinL]⟩
  | a :: b :: r, p, h => by
    show p <:+: a ++ (S ++ joinL S (b :: r))
    rcases List.mem_cons.mp h with rfl | h
    · exact ⟨[], S ++ joinL S (b :: r), by simp⟩
    · obtain ⟨u, v, e⟩ := join_inf (S := S) h
      exact ⟨a ++ (S ++ u), v, by rw [← e]; simp⟩
theorem split_inf {x y p : Str} (h : p ∈ Txt.split x y) : tl p <:+: tl x := by
  have e := congrArg tl (StrLaws.join_split x y)
  rw [tl_join] at e
  rw [← e]
  exact join_inf (List.mem_map.mpr ⟨p, h, rfl⟩)
theorem inf_split {x : Str} {c : Nat} {l : List Nat} (n : c ∉ l) (h : l <:+: tl x) : ∃ p ∈ Txt.split x ⟨#[c]⟩, l <:+: tl p := by
  have e := congrArg tl (StrLaws.join_split x ⟨#[c]⟩)
  rw [tl_join] at e
  rw [← e] at h
  have h2 : l <:+: joinL [c] ((Txt.split x ⟨#[c]⟩).map tl) := h
  obtain ⟨q, hq, k⟩ := inf_join n (fun z => split_ne x ⟨#[c]⟩ (List.map_eq_nil_iff.mp z)) h2
  obtain ⟨p, hp, rfl⟩ := List.mem_map.mp hq
  exact ⟨p, hp, k⟩
theorem can_no {l : List Nat} (h : canL l = true) {c : Nat} (k : c < 48 ∨ 57 < c) : c ∉ l := fun hc => by
  unfold canL at h
  have d : digL l = true := by
    cases q : digL l with
    | true => rfl
    | false =>
      rw [q] at h
      simp at h
  unfold digL at d
  have z := List.all_eq_true.mp d c hc
  simp only [Bool.and_eq_true, decide_eq_true_eq] at z
  omega
theorem semi_eq : (";" : Str) = ⟨#[59]⟩ := by decide +kernel
theorem space_eq : (" " : Str) = ⟨#[32]⟩ := by decide +kernel
/-- what the law asks of the words of a text before it is read -/
theorem shrt_of {t : Str} {n : Nat} (n40 : n ≤ 40) (h : ∀ w ∈ Txt.split (Txt.replace t ";" " ") " ", w.length ≤ n) : Shrt t := fun p hp w hw hc => by
  have f : tl w <:+: tl t := (split_inf hw).trans (split_inf hp)
  obtain ⟨q, hq, k⟩ := inf_split (c := 59) (can_no hc (.inr (by decide))) f
  have k2 : tl w <:+: tl (Txt.replace t ";" " ") := by
    rw [semi_eq, StrLaws.replace_one, tl_join]
    exact k.trans (join_inf (List.mem_map.mpr ⟨q, hq, rfl⟩))
  obtain ⟨r, hr, k3⟩ := inf_split (c := 32) (can_no hc (.inl (by decide))) k2
  have z := h r (by rw [space_eq] at hr ⊢; exact hr)
  have y := k3.length_le
  rw [← len_tl, ← len_tl] at y
  omega
/-! small moves -/
def Mv.sm (m : Mv) : Prop := m.ok ∧ ∀ n ∈ m.nums, n ≤ 1000000000000
theorem num_sm {n : Int} (h0 : 0 ≤ n) (h : n ≤ 1000000000000) : (num n).length ≤ 13 := by
  rw [len_tl, tl_num' h0]
  exact numL_len (by decide) (by omega)
theorem words_sm {m : Mv} (h : m.sm) : ∀ w ∈ m.words, w.length ≤ 13 := by
  have e1 : ("begin" : Str).length = 5 := by decide +kernel
  have e2 : ("take" : Str).length = 4 := by decide +kernel
  have e3 : ("by" : Str).length = 2 := by decide +kernel
  have e4 : ("right" : Str).length = 5 := by decide +kernel
  have e5 : ("to" : Str).length = 2 := by decide +kernel
  have e6 : ("shut" : Str).length = 4 := by decide +kernel
  obtain ⟨ok, le⟩ := h
  have z : ∀ n ∈ m.nums, (num n).length ≤ 13 := fun n hn => num_sm (nums_ok ok n hn).1 (le n hn)
  intro w hw
  cases m with
  | beg a =>
    simp only [Mv.words, Mv.nums, List.mem_cons, List.not_mem_nil, or_false] at hw z
    rcases hw with rfl | rfl
    · omega
    · exact z _ rfl
  | take a =>
    simp only [Mv.words, Mv.nums, List.mem_cons, List.not_mem_nil, or_false] at hw z
    rcases hw with rfl | rfl
    · omega
    · exact z _ rfl
  | takeBy t a =>
    simp only [Mv.words, Mv.nums, List.mem_cons, List.not_mem_nil, or_false] at hw z
    rcases hw with rfl | rfl | rfl | rfl
    · omega
    · exact z _ (.inl rfl)
    · omega
    · exact z _ (.inr rfl)
  | right t a =>
    simp only [Mv.words, Mv.nums, List.mem_cons, List.not_mem_nil, or_false] at hw z
    rcases hw with rfl | rfl | rfl | rfl
    · omega
    · exact z _ (.inl rfl)
    · omega
    · exact z _ (.inr rfl)
  | shut =>
    simp only [Mv.words, List.mem_cons, List.not_mem_nil, or_false] at hw
    subst hw
    omega
theorem text_sm {m : Mv} (h : m.sm) : m.text.length ≤ 60 := by
  unfold Mv.text
  rw [len_tl, tl_join]
  have z := joinL_len (y := tl sp1) (k := 13) (l := m.words.map tl) fun p hp => by
    obtain ⟨q, hq, rfl⟩ := List.mem_map.mp hp
    rw [← len_tl]
    exact words_sm h q hq
  have l4 : m.words.length ≤ 4 := by cases m <;> simp [Mv.words]
  have s1 : (tl sp1).length = 1 := by decide +kernel
  rw [s1, List.length_map] at z
  omega
theorem hText_sm {ms : List Mv} (h : ∀ m ∈ ms, m.sm) (n : ms.length ≤ 6) : (hText ms).length ≤ 400 := by
  unfold hText
  rw [len_tl, tl_join]
  have z := joinL_len (y := tl semi) (k := 60) (l := (ms.map Mv.text).map tl) fun p hp => by
    obtain ⟨q, hq, rfl⟩ := List.mem_map.mp hp
    obtain ⟨m, hm, rfl⟩ := List.mem_map.mp hq
    rw [← len_tl]
    exact text_sm (h m hm)
  have s1 : (tl semi).length = 2 := by decide +kernel
  rw [s1, List.length_map, List.length_map] at z
  omega
theorem hText_ok {ms : List Mv} (h : ∀ m ∈ ms, m.ok) : PyData.strOk (hText ms) = true := lt_ok fun c hc => by
  by_cases q : c < 1114112
  · exact q
  · unfold hText at hc
    rw [tl_join] at hc
    refine absurd hc (free_joinL (fun z => ?_) fun p hp => ?_)
    · have e : tl semi = [59, 32] := by decide +kernel
      rw [e] at z
      simp only [List.mem_cons, List.not_mem_nil, or_false] at z
      omega
    · obtain ⟨r, hr, rfl⟩ := List.mem_map.mp hp
      obtain ⟨m, hm, rfl⟩ := List.mem_map.mp hr
      exact fun z => q (ok_lt (text_strOk (h m hm)) c z)
theorem parts_h {ms : List Mv} (h : ∀ m ∈ ms, m.ok) : partsM (hText ms) = ms.map Mv.text := by
  unfold partsM
  cases ms with
  | nil => rfl
  | cons a r =>
    rw [if_neg (hText_pos (by simp)), split_texts (by simp) h]
theorem bad_texts : ∀ {ms : List Mv} {j : Nat}, (∀ m ∈ ms, m.ok) → badM j (ms.map Mv.text) = none
  | [], _, _ => rfl
  | m :: r, j, h => by
    rw [List.map_cons, badM_some (mvOf_text (h m (by simp)))]
    exact bad_texts fun n hn => h n (by simp [hn])
theorem bad_h {ms : List Mv} (h : ∀ m ∈ ms, m.ok) : badM 0 (partsM (hText ms)) = none := by
  rw [parts_h h]
  exact bad_texts h
theorem shrt_h {ms : List Mv} (h : ∀ m ∈ ms, m.sm) : Shrt (hText ms) := fun p hp w hw hc => by
  cases ms with
  | nil =>
    have e : hText [] = (⟨#[]⟩ : Str) := by decide +kernel
    have e2 : Txt.split (⟨#[]⟩ : Str) semi = [⟨#[]⟩] := by decide +kernel
    have e3 : Txt.split (⟨#[]⟩ : Str) sp1 = [⟨#[]⟩] := by decide +kernel
    rw [e, e2] at hp
    rw [List.mem_singleton.mp hp, e3] at hw
    rw [List.mem_singleton.mp hw]
    exact Nat.zero_le _
  | cons a r =>
    rw [split_texts (by simp) fun m hm => (h m hm).1] at hp
    obtain ⟨m, hm, rfl⟩ := List.mem_map.mp hp
    rw [split_text (h m hm).1] at hw
    exact Nat.le_trans (words_sm (h m hm) w hw) (by decide)
/-! parts that are none -/
def badsM (j : Nat) (L : List Str) : List Nat := ((enumF j L).filter fun p => !(mvOf p.2).isSome).map (·.1)
theorem bads_head : ∀ {L : List Str} {j : Nat}, badM j L = (badsM j L).head?
  | [], _ => rfl
  | x :: r, j => by
    unfold badsM
    show (if (mvOf x).isSome = true then badM (j + 1) r else some j) = ((((j, x) :: enumF (j + 1) r).filter fun p => !(mvOf p.2).isSome).map (·.1)).head?
    rw [List.filter_cons]
    cases q : (mvOf x).isSome with
    | true =>
      rw [if_pos rfl, if_neg (by simp [q])]
      exact bads_head
    | false =>
      rw [if_neg (by simp), if_pos (by simp [q])]
      rfl
/-- a text that is read: what the parts keep to -/
def PA (t : Str) : Prop := PyData.strOk t = true ∧ Shrt t
theorem pa_parts {t : Str} (h : PA t) (n : t.length ≤ 99000) : ∀ x ∈ partsM t, PtOk x := fun x hx => by
  unfold partsM at hx
  split at hx
  · cases hx
  · have z := wgt_mem hx
    have y := wgt_split t semi (by decide +kernel)
    exact ⟨by omega, split_ok h.1 hx, fun w hw c => h.2 x hx w hw c⟩
theorem pa_len {t : Str} : (partsM t).length ≤ t.length + 1 := by
  unfold partsM
  split
  · exact Nat.zero_le _
  · have y := wgt_split t semi (by decide +kernel)
    unfold wgt at y
    omega
theorem pa_join (t : Str) : Str.join semi (partsM t) = t := by
  unfold partsM
  split
  · rename_i h
    have e : tl t = [] := List.length_eq_zero_iff.mp (by rw [← len_tl]; exact h)
    exact ext_tl (by rw [e]; decide +kernel)
  · exact StrLaws.join_split t semi
end V3

set_option Elab.async false
set_option linter.all false
set_option maxRecDepth 100000
/-! readings that draw: all but the box stays -/
namespace V3
open PySem L2 TL
theorem Pre.keep' {b : Addr} {H H' : Hp} (hb : ∃ u v, H b = some (V3.box u v)) (s : Pre b H H') : Keep H H' := by
  obtain ⟨u, v, hb⟩ := hb
  exact Keep.pre hb s.1
def isLb {α : Type} (b : Addr) (S : α → V → Hp → Prop) (as : List α) : V → Hp → Prop := fun v H => ∃ D us, v = .ref D ∧ D ≠ b ∧ H D = some (.lst us) ∧ Ls (fun u a => S a u H) us as
/-- stays where only the box at b changes -/
class StP (b : Addr) (R : V → Hp → Prop) : Prop where
  st : ∀ v H0 H H', Pre b H0 H → Pre b H H' → R v H → R v H'
theorem Pre.bx {b : Addr} {H H' : Hp} (s : Pre b H H') : ∃ u v, H' b = some (V3.box u v) := by
  obtain ⟨_, u, v, _, e⟩ := s
  exact ⟨u, v, e⟩
theorem Pre.same {b : Addr} {H0 H H' : Hp} (p : Pre b H0 H) (s : Same H H') : Pre b H H' := by
  obtain ⟨_, u, v, ok, e⟩ := p
  exact (Pre.start ok e).then s
theorem Pre.id {b : Addr} {H0 H : Hp} (p : Pre b H0 H) : Pre b H H := p.same (Same.refl H)
theorem Pre.ne {b D : Addr} {H0 H : Hp} (p : Pre b H0 H) (n : H D = none) : D ≠ b := fun e => by
  obtain ⟨u, v, hb⟩ := p.bx
  rw [e, hb] at n
  cases n
instance {b : Addr} {R : V → Hp → Prop} [i : StL R] : StP b R := ⟨fun v H0 H H' p s r => i.st v H H' (s.keep' p.bx) r⟩
instance {α : Type} {b : Addr} {S : α → V → Hp → Prop} {as : List α} [∀ a, StL (S a)] : StP b (isLb b S as) := ⟨fun v H0 H H' p s ⟨D, us, e, ne, h, l⟩ => ⟨D, us, e, ne, s.1 _ _ ne h, l.imp fun _ _ r => upL (s.keep' p.bx) r⟩⟩
theorem upP {b : Addr} {R : V → Hp → Prop} [i : StP b R] {v : V} {H0 H H' : Hp} (p : Pre b H0 H) (s : Pre b H H') (h : R v H) : R v H' := i.st v H0 H H' p s h
def EvP (b : Addr) (H0 : Hp) (σ : L2.St) (te : TE) (R : V → Hp → Prop) : Prop := ∀ H Q, Pre b H0 H → (∀ v H', Pre b H H' → R v H' → Q v H') → te σ H Q
/-- a number drawn -/
def isDr (m : Int) : V → Hp → Prop := fun v _ => ∃ d, v = .int d ∧ 0 ≤ d ∧ d < m
def isOne {α : Type} (S : α → V → Hp → Prop) (as : List α) : V → Hp → Prop := fun v H => ∃ a ∈ as, S a v H
instance {m : Int} : StL (isDr m) := ⟨fun _ _ _ _ h => h⟩
instance {α : Type} {S : α → V → Hp → Prop} {as : List α} [∀ a, StL (S a)] : StL (isOne S as) := ⟨fun _ _ _ s ⟨a, m, h⟩ => ⟨a, m, upL s h⟩⟩
section
variable {K : PySem.W.Frag} {σ : L2.St} {ta tb te tl : TE} {ts : TA} {H0 : Hp} {R Ra Rb : V → Hp → Prop} {b : Addr} {i : Nat} {m : Int}
theorem evp_pure (h : ∀ H, Pre b H0 H → EvV (Same H) σ te R) : EvP b H0 σ te R := fun H Q p k => h H p H Q (Same.refl H) fun v H' s _ r => k v H' (p.same s) r
theorem evp_choose (hi : σ[i]? = some (some (.ref b))) (m1 : 1 ≤ m) (m2 : m ≤ 10000000000000000000000000000000000000000) (hm : EvP b H0 σ te (isIv m)) : EvP b H0 σ (tCall spChoose [] E0 (tCons (tVar i) (tCons te tNil))) (isDr m) := fun H Q p k =>
  ⟨_, hi, hm H _ p fun v H1 p1 e => by
    cases e
    obtain ⟨_, u, w, ok, hb⟩ := id p1
    exact ⟨b, u, w, m, rfl, hb, ok, m1, m2, fun d u' v' d0 d1 ok' => k _ _ (p1.trans (Pre.box ok')) ⟨d, rfl, d0, d1⟩⟩⟩
theorem evp_one {α : Type} {S : α → V → Hp → Prop} [∀ a, StL (S a)] {as : List α} (hi : σ[i]? = some (some (.ref b))) (n1 : 1 ≤ as.length) (n2 : as.length ≤ 1000) (hl : EvP b H0 σ tl (isLb b S as)) : EvP b H0 σ (tCall (spOneOf K) [] E0 (tCons (tVar i) (tCons tl tNil))) (isOne S as) := fun H Q p k =>
  ⟨_, hi, hl H _ p fun v H1 p1 hv => by
    obtain ⟨D, us, rfl, ne, hD, l⟩ := hv
    obtain ⟨_, u, w, ok, hb⟩ := id p1
    refine ⟨b, D, u, w, us, rfl, hb, ok, ne, SqL.of hD, by rw [l.1]; exact n1, by rw [l.1]; exact n2, fun x u' v' hx ok' => ?_⟩
    have p2 : Pre b H1 (upd H1 b (box u' v')) := Pre.box ok'
    obtain ⟨j, hj⟩ := List.getElem?_of_mem hx
    obtain ⟨a, ea, r⟩ := Ls.get l hj
    exact k x _ (p1.trans p2) ⟨a, List.mem_of_getElem? ea, upL (p2.keep' p1.bx) r⟩⟩
/-- a list display -/
theorem evp_lst {α : Type} {S : α → V → Hp → Prop} [∀ a, St (S a)] {as : List α} (h : ∀ H, Pre b H0 H → EvL H σ ts S as) (n : as.length ≤ 1000) : EvP b H0 σ (tLst ts) (isLb b S as) := fun H Q p k =>
  evn_lst (h H p) n H Q (Same.refl H) fun D us H' nD s hD l => k _ H' (p.same s) ⟨D, us, rfl, Pre.ne p nD, hD, l⟩
theorem evp_nl {α : Type} {S : α → V → Hp → Prop} {as : List α} (h : ∀ H, Pre b H0 H → EvNL H σ te S as) : EvP b H0 σ te (isLb b S as) := fun H Q p k =>
  h H p H Q (Same.refl H) fun D us H' nD s hD l => k _ H' (p.same s) ⟨D, us, rfl, Pre.ne p nD, hD, l⟩
theorem evp_o {r : R2} [i : StP b Ra] (ha : EvP b H0 σ ta Ra) (hb : EvP b H0 σ tb Rb) (h : ∀ x y H Q, Pre b H0 H → Ra x H → Rb y H → (∀ v H', Pre b H H' → R v H' → Q v H') → r x y H Q) : EvP b H0 σ (tOp r ta tb) R := fun H Q p k =>
  ha H _ p fun x H1 p1 rx => hb H1 _ (p.trans p1) fun y H2 p2 ry => h x y H2 Q ((p.trans p1).trans p2) (upP p1 p2 rx) ry fun v H' p3 rv => k v H' ((p1.trans p2).trans p3) rv
theorem evp_to {R' : V → Hp → Prop} (h : EvP b H0 σ te R) (e : ∀ v H, R v H → R' v H) : EvP b H0 σ te R' := fun H Q p k => h H Q p fun v H' s r => k v H' s (e v H' r)
theorem isLb.L {α : Type} {S : α → V → Hp → Prop} {as : List α} {v : V} {H : Hp} (h : isLb b S as v H) : isL S as v H := by
  obtain ⟨D, us, e, _, hD, l⟩ := h
  exact ⟨D, us, e, hD, l⟩
end
end V3

set_option Elab.async false
set_option linter.all false
set_option maxRecDepth 100000
/-! numbers drawn, within bounds -/
namespace V3
open PySem L2 TL
def isWh (P : Int → Prop) : V → Hp → Prop := fun v _ => ∃ a, v = .int a ∧ P a
instance {P : Int → Prop} : StL (isWh P) := ⟨fun _ _ _ _ h => h⟩
/-- a test whose answer stays unknown -/
def EvPB (b : Addr) (H0 : Hp) (σ : L2.St) (t : TT) : Prop := ∀ H Q, Pre b H0 H → (∀ r H', Pre b H H' → Q r H') → t σ H Q
section
variable {K : PySem.W.Frag} {σ : L2.St} {ta tb te tl : TE} {t : TT} {H0 : Hp} {R : V → Hp → Prop} {b : Addr} {i : Nat} {m k : Int} {P P' : Int → Prop}
theorem evp_if (c : EvPB b H0 σ t) (h1 : EvP b H0 σ ta R) (h2 : EvP b H0 σ tb R) : EvP b H0 σ (tIf t ta tb) R := fun H Q p k => c H _ p fun r H' p1 => by
  cases r with
  | true => exact iteT (h1 H' Q (p.trans p1) fun v H2 p2 r => k v H2 (p1.trans p2) r)
  | false => exact iteF (h2 H' Q (p.trans p1) fun v H2 p2 r => k v H2 (p1.trans p2) r)
theorem evpb_eq (h : EvP b H0 σ te (isWh P)) : EvPB b H0 σ (tTest (tOp rEq te (tC (.int k)))) := fun H Q p kk => h H _ p fun v H1 p1 ⟨a, ev, _⟩ => by
  cases ev
  exact ⟨rfl, _, rfl, kk _ _ p1⟩
theorem evpb_lt (h : EvP b H0 σ te (isWh P)) : EvPB b H0 σ (tTest (tOp (rI0 fun i j => .bl (decide (i < j))) te (tC (.int k)))) := fun H Q p kk => h H _ p fun v H1 p1 ⟨a, ev, _⟩ => by
  cases ev
  exact ⟨_, _, rfl, rfl, _, rfl, kk _ _ p1⟩
theorem ev_notN {u : V} (ha : EvV (Same H0) σ ta (isVv u)) : EvV (Same H0) σ (tOp (fun x y H Q => y = V.non ∧ Q (.bl (!decide (x = .non))) H) ta (tC .non)) (isBv (!decide (u = .non))) :=
  ev_o (Ra := isVv u) (Rb := isVv .non) ha ev_c fun a b H Q w ea eb k => by
    cases ea
    cases eb
    exact ⟨rfl, k _ H (Same.refl H) rfl⟩
theorem evp_w (h : EvP b H0 σ te (isIv m)) (c : P m) : EvP b H0 σ te (isWh P) := evp_to h fun v H e => ⟨m, e, c⟩
theorem evp_imp (h : EvP b H0 σ te (isWh P)) (c : ∀ a, P a → P' a) : EvP b H0 σ te (isWh P') := evp_to h fun v H ⟨a, e, r⟩ => ⟨a, e, c a r⟩
theorem evp_chooseW (hi : σ[i]? = some (some (.ref b))) (m2 : m ≤ 10000000000000000000000000000000000000000) (hm : EvP b H0 σ te (isWh fun x => 1 ≤ x ∧ x ≤ m)) : EvP b H0 σ (tCall spChoose [] E0 (tCons (tVar i) (tCons te tNil))) (isWh fun d => 0 ≤ d ∧ d < m) := fun H Q p k =>
  ⟨_, hi, hm H _ p fun v H1 p1 e => by
    obtain ⟨x, rfl, x1, xm⟩ := e
    obtain ⟨_, u, w, ok, hb⟩ := id p1
    exact ⟨b, u, w, x, rfl, hb, ok, x1, (by omega), fun d u' v' d0 d1 ok' => k _ _ (p1.trans (Pre.box ok')) ⟨d, rfl, d0, by omega⟩⟩⟩
/-- 1 + a number drawn -/
theorem evp_succ (h : EvP b H0 σ te (isWh fun d => 0 ≤ d ∧ d < m)) : EvP b H0 σ (tOp (rI0 fun i j => .int (i + j)) (tC (.int 1)) te) (isWh fun a => 1 ≤ a ∧ a ≤ m) := fun H Q p k =>
  h H _ p fun v H1 p1 ⟨d, e, d0, d1⟩ => by
    cases e
    exact ⟨1, d, rfl, rfl, k _ _ p1 ⟨1 + d, rfl, by omega, by omega⟩⟩
theorem evp_tm2 {s : Str} (ha : EvP b H0 σ ta (isWh P)) : EvP b H0 σ (tTup (tCons (tC (.str s)) (tCons ta tNil))) (fun v H => ∃ a, P a ∧ ∃ p, v = .ref p ∧ H p = some (.tup [.str s, .int a])) := fun H Q p k =>
  ha H _ p fun v H1 p1 ⟨a, e, r⟩ => by
    cases e
    exact ⟨(by show 2 ≤ sizeLine; decide), fun D nD => k _ _ (p1.then (Same.new nD)) ⟨a, r, D, rfl, upd_same⟩⟩
theorem evp_tm3 {s : Str} (ha : EvP b H0 σ ta (isWh P)) (hb : EvP b H0 σ tb (isWh P')) : EvP b H0 σ (tTup (tCons (tC (.str s)) (tCons ta (tCons tb tNil)))) (fun v H => ∃ a c, P a ∧ P' c ∧ ∃ p, v = .ref p ∧ H p = some (.tup [.str s, .int a, .int c])) := fun H Q p k =>
  ha H _ p fun v H1 p1 ⟨a, e, r⟩ => hb H1 _ (p.trans p1) fun y H2 p2 ⟨c, e2, r2⟩ => by
    cases e
    cases e2
    exact ⟨(by show 3 ≤ sizeLine; decide), fun D nD => k _ _ ((p1.trans p2).then (Same.new nD)) ⟨a, c, r, r2, D, rfl, upd_same⟩⟩
end
end V3

set_option Elab.async false
set_option linter.all false
set_option maxRecDepth 100000
namespace V3
open PySem PySem.Spec PyProof.Rows L2
structure BehindL (K : PySem.W.Frag) (C : Addr) : Prop where
  b : Behind K C
  l : PySem.W.subIn K (.ref C) (.type "list") = some false
inductive PlainL (H : Hp) : V → Prop where
  | str (z : Str) : PlainL H (.str z)
  | non : PlainL H .non
  | tup {b : Addr} {ys : List V} (h : H b = some (.tup ys)) : PlainL H (.ref b)
  | lst {b : Addr} {ys : List V} (h : H b = some (.lst ys)) : PlainL H (.ref b)
section
open PySem PySem.SeqAt
variable {prog : Program} {w : World} {A : Around} {E : Value → Shared → Prop} {s : Shared} {x : Addr} {o : Obj}
theorem lst_declines {K : PySem.W.Frag} {C p : Addr} {od : Option Obj} {items : Array Value} {n : Nat} {Q : Shared → Prop} (X : K.In s.heap) (I : PySem.W.InstAt s.heap x o C od) (hs : PySem.W.subIn K (.ref C) (.type "list") = some false) {d1 : Option Addr} {sl1 : Array (Option Value)} (hp : s.heap.get? p = some { cls := .type "list", dict := d1, data := .seq items n, slots := sl1 }) (hq : Q s) :
    wpAny (model prog w) A (call (.builtin "list.__eq__") [.ref p, .ref x]) (fun v s' => v = .notImplemented ∧ Q s') E s := by
  refine GQ.call_here F.slot_list_eq ⟨_, hp, rfl⟩ F.entry_list_eq (F.args_list_eq_2 _ _) ?_
  obtain ⟨hh, g, d, tk, os⟩ := s
  wp_walk
  refine wpAny_loadPart I.at_ (wpAny_pure ?_)
  rw [I.cls]
  refine (PySem.W.looks_subIn X hs).here ?_
  wp_walk
  exact ⟨rfl, hq⟩
end
section
variable {X : Cx} {n : Nat}
/-- x in (..), x of an own class, no item equal to it -/
def rInL (K : PySem.W.Frag) (FF : Addr → Sp → XK → Prop) : R2 := fun x y H Q => ∃ (a p C dx : Addr) (fs : List (Str × V)) (xs : List V) (sp : Sp) (E : XK), x = .ref a ∧ y = .ref p ∧ H a = some (.ins C dx fs) ∧ H p = some (.tup xs) ∧
  (∀ z ∈ xs, PlainL H z) ∧ BehindL K C ∧ FF C sp E ∧ (∀ z ∈ xs, sp [.ref a, z] H (fun v H' => v = .bl false ∧ H' = H) E) ∧ Q (.bl false) H
theorem op_inL {FF : Addr → Sp → XK → Prop} (hF : ∀ C sp E, FF C sp E → ∃ (CX : CXT) (f : Addr) (fd : FuncData) (ps : List Str), FnOk X.prog X.w X.K X.mg X.base CX n f fd ps sp ∧ EqCls X.K C f ∧ Binds X.K fd ps [] ∧ Passes CX X E) (hr : Room (n + 1) X.A) :
    OpR X (compareOp .In) (rInL X.K FF) := by
  intro pins s σ H x y v u Q I rx ry hq
  obtain ⟨a, p, C, dx, fs, xs, sp, E, rfl, rfl, ha, hp, pl, bh, ff, hsp, q⟩ := hq
  obtain ⟨CX, f, fd, ps, F, ec, bi, hx⟩ := hF C sp E ff
  cases rx
  cases ry
  obtain ⟨its, rv, ht, hz⟩ := I.tuple (SqT.of hp)
  obtain ⟨⟨c0, dd, da, sl⟩, ho, hc, m, hd⟩ := id ht
  simp only at hc hd
  subst hc hd
  show wpAny (model X.prog X.w) X.A (do return .bool (← contains (.ref p) (.ref a))) (EP X pins σ Q) X.xe s
  refine wpAny_bind (wpAny_contains_slot ⟨_, ho, rfl⟩ PySem.F.slot_tuple_contains (wpAny_mono (GQ.call_here (Q := fun v s' => v = .bool false ∧ Inv X pins σ H s') PySem.F.slot_tuple_contains ⟨_, ho, rfl⟩ PySem.F.entry_tuple_contains (PySem.F.args_tuple_contains_2 _ _)
    (tuple_none p its.toArray m dd sl (.ref a) (fun _ s' => Inv X pins σ H s') ?_ (fun s' J => ⟨rfl, J⟩) ho I)) (fun v s' hv => ?_) fun _ _ e => e))
  · intro i hi s' J
    have hi2 : i < its.length := by simpa using hi
    have hi3 : i < xs.length := by rw [rv.length]; exact hi2
    obtain ⟨u, hu, ru⟩ := rv.get (List.getElem?_eq_getElem hi3)
    have eu : its.toArray[i] = u := by
      rw [List.getElem?_eq_getElem hi2] at hu
      simpa using Option.some.inj hu
    rw [eu]
    have mem : xs[i] ∈ xs := List.getElem_mem hi3
    have pz := pl _ mem
    have own := hsp _ mem
    generalize xs[i] = z at ru pz own
    obtain ⟨mA, O, _⟩ := ins_get J.hok ha
    obtain ⟨od, IA, _⟩ := O.look
    obtain ⟨mm, hFr⟩ := J.fr
    have run : wpAny (model X.prog X.w) X.A.in1 (call (.ref f) [.ref a, u]) (fun v s2 => ∃ r, v = .bool r ∧ r = false ∧ Inv X pins σ H s2) X.xe s' :=
      wpAny_mono (run_own (x := .ref a) (y := z) ⟨hr.in1, rfl⟩ F bi hx J rfl ru own) (fun w s2 k => by
        obtain ⟨z2, H', J2, rz, ez, eH⟩ := k
        subst ez
        subst eH
        cases rz
        exact ⟨false, rfl, rfl, J2⟩) fun _ _ e => e
    have hu1 : X.A.in1.units < cLine := hr.in1.units0
    cases pz with
    | str zz =>
      obtain ⟨t, rfl⟩ := ru
      refine eqB_str (turned_K (T := "str") hu1 hFr J.ok.mod.kin IA (typeIs_str _ _ _) PySem.F.slot_str_eq rfl bh.b.s (fun k => str_declines IA.at_ rfl k) ec.eq ec.fn (wpAny_mono run (fun v s2 k => ?_) fun _ _ e => e))
      obtain ⟨r, rfl, e, J2⟩ := k
      exact ⟨r, rfl, r, rfl, e, J2⟩
    | non =>
      cases ru
      refine eqB_non (turned_K (T := "NoneType") hu1 hFr J.ok.mod.kin IA (typeIs_none _) PySem.F.slot_NoneType_eq rfl bh.b.n (fun k => none_declines k) ec.eq ec.fn (wpAny_mono run (fun v s2 k => ?_) fun _ _ e => e))
      obtain ⟨r, rfl, e, J2⟩ := k
      exact ⟨r, rfl, r, rfl, e, J2⟩
    | @tup b ys hb =>
      cases ru
      obtain ⟨its2, r2, ht2, hz2⟩ := J.tuple (SqT.of hb)
      have ne : b ≠ a := by
        intro e
        subst e
        rw [ha] at hb
        cases hb
      obtain ⟨o2, ho2, hc2, _⟩ := id ht2
      refine GQ.eqBool_refG ne (turned_K (T := "tuple") hu1 hFr J.ok.mod.kin IA ⟨o2, ho2, hc2⟩ PySem.F.slot_tuple_eq (by first | rfl | simp [oneThing_ref]) bh.b.t (fun k => tup_declines J.kIn IA bh.b.t ht2 k) ec.eq ec.fn (wpAny_mono run (fun v s2 k => ?_) fun _ _ e => e))
      obtain ⟨r, rfl, e, J2⟩ := k
      exact ⟨r, rfl, r, rfl, e, J2⟩
    | @lst b ys hb =>
      cases ru
      obtain ⟨its2, r2, ht2, hz2⟩ := J.list (SqL.of hb)
      have ne : b ≠ a := by
        intro e
        subst e
        rw [ha] at hb
        cases hb
      obtain ⟨⟨c1, d1, da, sl1⟩, n2, g2, hc2, hdc, hd2⟩ := id ht2
      simp only at hc2 hd2
      subst hc2 hd2
      refine GQ.eqBool_refG ne (turned_K (T := "list") hu1 hFr J.ok.mod.kin IA ⟨_, g2, rfl⟩ PySem.F.slot_list_eq (by first | rfl | simp [oneThing_ref]) bh.l (fun k => lst_declines J.kIn IA bh.l g2 k) ec.eq ec.fn (wpAny_mono run (fun v s2 k => ?_) fun _ _ e => e))
      obtain ⟨r, rfl, e, J2⟩ := k
      exact ⟨r, rfl, r, rfl, e, J2⟩
  · obtain ⟨rfl, J⟩ := hv
    exact wpAny_truthy_bool (wpAny_pure ⟨.bl false, H, J, rfl, q⟩)
end
end V3

set_option Elab.async false
set_option linter.all false
set_option maxRecDepth 100000
/-! k06: what is read; a text with something otherwise -/
namespace V3
open PySem L2 TL
abbrev sReadL : Stmt := top 29
abbrev sBent : Stmt := top 30
/-- what is heard of a text: itself, or the number of the part that is none -/
def rdR (t : Str) : V → Hp → Prop := fun v H => match badM 0 (partsM t) with
  | none => v = .str t
  | some i => isP2 isIv isBv ((i : Int), true) v H
instance {t : Str} : StL (rdR t) := ⟨fun v H H' s h => by
  unfold rdR at h ⊢
  split
  · rename_i e
    rw [e] at h
    exact h
  · rename_i i e
    rw [e] at h
    exact upL (R := isP2 isIv isBv ((i : Int), true)) s h⟩
def spReadL : Sp := fun vs H Q _ => ∃ t : Str, vs = [.str t] ∧ t.length ≤ 900 ∧ PA t ∧ ∀ v H', Same H H' → rdR t v H' → Q v H'
def spBent6 : Sp := fun vs H Q _ => ∃ (b : Addr) (t : Str) (u v : Int), vs = [.ref b, .str t] ∧ H b = some (box u v) ∧ BoxOk u v ∧ t.length ≤ 800 ∧ PyData.strOk t = true ∧ ∀ t' H', Pre b H H' → t'.length ≤ t.length + 20 → PyData.strOk t' = true → Q (.str t') H'
theorem tcons6 {a : TE} {as : TA} {σ : L2.St} {H : Hp} {Q : List V → Hp → Prop} (h : a σ H fun v H1 => as σ H1 fun vs H2 => Q (v :: vs) H2) : tCons a as σ H Q := h
theorem cut_len6 (z : Str) (lo hi : Option Int) : (cutS z lo hi).length ≤ z.length := by
  unfold cutS
  show (List.toArray _).size ≤ _
  rw [List.size_toArray, List.length_take, List.length_drop]
  have e : z.cps.toList.length = z.length := by rw [Array.length_toList]; rfl
  omega
theorem strOk_app6 {x y : Str} (h : PyData.strOk x = true) (k : PyData.strOk y = true) : PyData.strOk (x ++ y) = true := lt_ok fun c hc => by
  have e : tl (x ++ y) = tl x ++ tl y := by
    unfold tl
    rw [PySem.Str.cps_append, Array.toList_append]
  rw [e] at hc
  rcases List.mem_append.mp hc with hc | hc
  · exact ok_lt h c hc
  · exact ok_lt k c hc
theorem cut_to6 (z : Str) (n : Nat) : (cutS z none (some (n : Int))).length ≤ n := by
  unfold cutS
  show (List.toArray _).size ≤ _
  rw [List.size_toArray, List.length_take, HT.sIx_nat, HT.sIx_none]
  omega
theorem cut_from6 (z : Str) (n : Nat) : (cutS z (some (n : Int)) none).length ≤ z.length - n := by
  unfold cutS
  show (List.toArray _).size ≤ _
  rw [List.size_toArray, List.length_take, HT.sIx_nat, HT.sIx_none]
  omega
theorem cut_ok6 {z : Str} (lo hi : Option Int) (h : PyData.strOk z = true) : PyData.strOk (cutS z lo hi) = true := lt_ok fun c hc => ok_lt h c (by
  have z1 : c ∈ (z.cps.toList.drop (HT.sIx z.length 0 lo)).take (HT.sIx z.length z.length hi - HT.sIx z.length 0 lo) := by
    unfold cutS tl at hc
    simpa using hc
  exact List.mem_of_mem_drop (List.mem_of_mem_take z1))
def sgn6 : Str := "a0 ;1-+t"
theorem sgn_at (d : Int) (d0 : 0 ≤ d) (d8 : d < 8) : ∃ c, atI (tl sgn6) d = some c ∧ c < 1114112 := by
  have e : ∀ n : Nat, n < 8 → ∃ c, (tl sgn6)[n]? = some c ∧ c < 1114112 := by
    have q : ∀ n : Fin 8, ((tl sgn6)[n.val]?).any (fun c => decide (c < 1114112)) = true := by decide +kernel
    intro n hn
    have z := q ⟨n, hn⟩
    cases h : (tl sgn6)[n]? with
    | none =>
      rw [show ((tl sgn6)[(⟨n, hn⟩ : Fin 8).val]?) = none from h] at z
      cases z
    | some c =>
      rw [show ((tl sgn6)[(⟨n, hn⟩ : Fin 8).val]?) = some c from h] at z
      exact ⟨c, rfl, of_decide_eq_true z⟩
  obtain ⟨c, hc, lt⟩ := e d.toNat (by omega)
  refine ⟨c, ?_, lt⟩
  have l : (tl sgn6).length = 8 := by decide +kernel
  unfold atI ixN
  rw [l, if_pos d0, if_pos (by omega)]
  exact hc
def odd6a : List Str := ["; shut", "; ", "; shut ", "; take 0 by 0", "; begin 0", ";shut", "; take 00", "; right 1"]
def odd6b : List Str := ["; Shut", "; take 1 to 2"]
def odd6c : List Str := ["shut; ", "begin 01; ", "take -1; ", "take 1 by; ", "begin 5 6; ", " ", "right 0 by 2; "]
def odd6d : List Str := ["take 1_0; ", "begin +1; "]
theorem odd6_ok : ∀ x ∈ (odd6a ++ odd6b) ++ (odd6c ++ odd6d), x.length ≤ 20 ∧ PyData.strOk x = true := by decide +kernel
structure Blt6 (mg : Str → Option Value) : Prop where
  len : mg "len" = none
  range : mg "range" = none
  max : mg "max" = none
  min : mg "min" = none
  repr : mg "repr" = none
  enumerate : mg "enumerate" = none
structure ItM (K : PySem.W.Frag) (mg : Str → Option Value) (CT CB CM : Addr) : Prop where
  x : XClass K CT
  f : XfC K CT
  no : PySem.W.findIn K (.ref CT) "at" = some none
  te : PySem.W.exmOne K (.ref CT) (.ref CT) = some true
  gT : mg "InvalidText" = some (.ref CT)
  gB : mg "BookError" = some (.ref CB)
  gM : mg "InvalidMove" = some (.ref CM)
  isi : mg "isinstance" = none
  str : mg "str" = none
  iB : PySem.W.kitOne K (.ref CT) (.ref CB) = some true
  iM : PySem.W.kitOne K (.ref CT) (.ref CM) = some false
structure HiRdA (P : Program) (w : World) (K : PySem.W.Frag) (mg : Str → Option Value) (base : Heap) (c : Cl) (CT : Addr) : Prop where
  g : mg "History" = some (.ref c.Hi)
  r : ∃ (mc : Value) (p f : Addr) (fd : FuncData), ClX.CRead K c.Hi mc ∧ ClX.CMet K c.Hi mc "read" p f ∧ FnOk P w K mg base (L2.CX P w) 9 f fd ["cls", "text"] (spReadA c CT) ∧ Binds K fd ["cls", "text"] []
def tryB6 (s : Stmt) : List Stmt := match s with
  | .Try b _ _ _ _ => b
  | _ => []
def tryS6 (s : Stmt) : List Stmt := match s with
  | .Try _ (.ExceptHandler _ _ b _ :: _) _ _ _ => b
  | _ => []
abbrev sTry6 : Stmt := (defBody sReadL).getD 1 (.Pass ⟨0, 0, 0, 0⟩)
def tB6 (K : PySem.W.Frag) (c : Cl) (CT : Addr) (W : WX) : TS := tAsg (tCB (rStrHK K c) (tCons (tCMethA c.Hi (spReadA c CT) (WE W) (tC (.ref c.Hi)) (tCons (tVar 0) tNil)) tNil)) (gName 1)
def tS6 (K : PySem.W.Frag) (CT CB CM : Addr) : Addr → Value → Option Addr → TS := fun a cls d => tAsg (tTup (tCons (tXf a cls d CT "at" (tVar 2)) (tCons (tAndV (tCB (rIsX K CT a cls d) (tCons (tVar 2) (tCons (tC (.ref CB)) tNil))) (tNotV (tCB (rIsX K CT a cls d) (tCons (tVar 2) (tCons (tC (.ref CM)) tNil))))) tNil))) (gName 1)
section
variable {P : Program} {w : World} {K : PySem.W.Frag} {mg : Str → Option Value} {base : Heap}
theorem scReadL : FnScope ["_law_text_here", "_law_found", "e"] ["_law_text_here"] (defScope sReadL) := ⟨rfl, rfl, rfl, by decide +kernel, rfl, by decide +kernel, by decide +kernel⟩
theorem scBent : FnScope ["_law_box", "_law_text_here", "_law_at", "_law_way", "_law_sign", "_law_odd"] ["_law_box", "_law_text_here"] (defScope sBent) := ⟨rfl, rfl, rfl, by decide +kernel, rfl, by decide +kernel, by decide +kernel⟩
theorem ok_readL {f CT CB CM : Addr} {c : Cl} {fd : FuncData} (F : Fun K "_law_read" "_law_read" sReadL f fd) (T : ItM K mg CT CB CM) (R : HiRdA P w K mg base c CT) (TH : HiOps P w K mg base c) : FnOk P w K mg base CX0 10 f fd ["_law_text_here"] spReadL := by
  obtain ⟨mc, p, f1, fd1, rd, cm, G1, b1⟩ := R.r
  refine F.ok scReadL (fun vs H Q E h => ?_) (fun cdv A outer s H vs Q E hr h => ?_)
  · obtain ⟨t, rfl, _⟩ := h
    rfl
  · obtain ⟨t, rfl, n, pa, k⟩ := h
    refine ⟨tSeq (tAsg (tC .non) (gName 1)) (tSeq (fun D σ H => tB6 K c CT (wAs K (.ref CT) 2 (tS6 K CT CB CM) (fun _ _ _ _ => False) D) D σ H) (tRet (tVar 1))), ?_, ?_⟩
    · have body1 : ∀ (W : WX) (pn : List (Addr × Obj)) (xe : Value → Shared → Prop), Takes ((cxOf CX0 P w K mg base ["_law_text_here", "_law_found", "e"] "_law_read" (defScope sReadL) f cdv A outer s H E).nox.tr pn xe) W →
          PSs ((cxOf CX0 P w K mg base ["_law_text_here", "_law_found", "e"] "_law_read" (defScope sReadL) f cdv A outer s H E).nox.tr pn xe) (tryB6 sTry6) (tB6 K c CT W) := by
        intro W pn xe tk
        exact pss_one (ps_set (i := 1) scReadL.nd rfl (Or.inl rfl) (by exact (pe_callTy (call_strHK TH (hr.mono (by decide))) (by rfl) T.str (by decide +kernel) (by exact (pa_cons (pe_cmethA (pe_glob (v := .ref c.Hi) rfl R.g rfl) rd cm G1 b1 (hr.mono (by decide)) (fun σ => passAt tk σ) (by exact (pa_cons (pv 0) pa_nil))) pa_nil)))))
      have suite1 : ∀ (ax : Addr) (oe : Obj) (cls : Value) (d : Option Addr) (pn : List (Addr × Obj)), Zc cls d oe → (∃ vs, oe.data = .fields vs) →
          PSs ((cxOf CX0 P w K mg base ["_law_text_here", "_law_found", "e"] "_law_read" (defScope sReadL) f cdv A outer s H E).nox.suite ax ((ax, oe) :: pn)) (tryS6 sTry6) (tS6 K CT CB CM ax cls d) := by
        intro ax oe cls d pn hz hfl
        exact pss_one (ps_set (i := 1) scReadL.nd rfl (Or.inl rfl) (by exact (pe_tup (pa_cons (pe_xf T.f T.no hz hfl (pv 2)) (pa_cons (pe_and (pe_callB (call_isX T.x hz hfl) (by rfl) T.isi (by decide +kernel) (by exact (pa_cons (pv 2) (pa_cons (pe_glob rfl T.gB rfl) pa_nil)))) (pe_one (pe_not (pe_callB (call_isX T.x hz hfl) (by rfl) T.isi (by decide +kernel) (by exact (pa_cons (pv 2) (pa_cons (pe_glob rfl T.gM rfl) pa_nil))))))) pa_nil)))))
      have try1 : PS (cxOf CX0 P w K mg base ["_law_text_here", "_law_found", "e"] "_law_read" (defScope sReadL) f cdv A outer s H E).nox sTry6 (fun D σ H => tB6 K c CT (wAs K (.ref CT) 2 (tS6 K CT CB CM) (fun _ _ _ _ => False) D) D σ H) :=
        ps_try_as (i := 2) (tb := fun W => tB6 K c CT W) (ts := tS6 K CT CB CM) (Wout := fun _ _ _ _ => False) rfl rfl scReadL.nd rfl rfl ⟨rfl, by decide, Or.inl T.gT⟩ takes0
          (fun W pn xe tk _ => body1 W pn xe tk) (fun ax oe cls d pn hz hfl => suite1 ax oe cls d pn hz hfl)
      exact pss_cons (ps_set (i := 1) scReadL.nd rfl (Or.inl rfl) pe_non) (pss_cons try1 (pss_one (ps_ret (pv 1))))
    · have lp : (partsM t).length ≤ t.length + 1 := pa_len
      refine ⟨rfl, _, rfl, t, rfl, by omega, by omega, pa_parts pa (by omega), fun e ms ok em v H' sm hi => ?_, fun i e d H' sm hd => ?_⟩
      · have lm : ms.length ≤ 1000 := by
          have z := congrArg List.length em
          rw [List.length_map] at z
          omega
        refine ⟨v, ms, rfl, .of hi, ok, lm, fun H2 s2 => ⟨_, rfl, ?_⟩⟩
        have eh : hText ms = t := by
          unfold hText
          rw [em]
          exact pa_join t
        rw [eh]
        exact k _ _ (sm.trans s2) (by
          unfold rdR
          rw [e])
      · refine ⟨true, T.te, fun _ ax nax => ?_, fun q => Bool.noConfusion q⟩
        refine ⟨_, rfl, rfl, rfl, d, _, _, rfl, hd, rfl, ?_⟩
        refine ⟨_, rfl, d, _, _, _, _, rfl, rfl, hd, rfl, .own CB, T.iB, _, rfl, iteT ⟨_, rfl, d, _, _, _, _, rfl, rfl, hd, rfl, .own CM, T.iM, _, rfl, ?_⟩⟩
        refine ⟨(by show 2 ≤ sizeLine; decide), fun q nq => ?_⟩
        have sT : Same H' (upd H' q (.tup [.int (i : Int), .bl true])) := Same.new nq
        refine ⟨_, rfl, k _ _ (sm.trans sT) ?_⟩
        unfold rdR
        rw [e]
        exact ⟨q, _, _, rfl, upd_same, rfl, rfl⟩
theorem ok_bent6 {f : Addr} {fd : FuncData} (F : Fun K "_law_bent" "_law_bent" sBent f fd) (T : Blt6 mg) (zi : mg "int" = none) (cC : Cal P w K mg base CX0 "_law_choose" 1 ["_law_box", "_law_many"] spChoose) (cO : Cal P w K mg base CX0 "_law_one_of" 2 ["_law_box", "_law_some"] (spOneOf K)) : FnOk P w K mg base CX0 3 f fd ["_law_box", "_law_text_here"] spBent6 := by
  obtain ⟨fC, fdC, GC, mC, kC, bC⟩ := cC
  obtain ⟨fO, fdO, GO, mO, kO, bO⟩ := cO
  refine F.ok scBent (fun vs H Q E h => ?_) (fun cdv A outer s H vs Q E hr h => ?_)
  · obtain ⟨b, t, u, v, rfl, _⟩ := h
    rfl
  · obtain ⟨b, t, u, v, rfl, hb, bk, n, so, k⟩ := h
    have hr1 : Room 1 _ := hr.mono (by decide)
    refine ⟨_, (pss_cons (ps_par (i := 2) (j := 3) rfl scBent.nd rfl rfl (by decide) rfl rfl (pa_cons (pe_call GC hr1 rfl mC kC bC .nil pass0 (pa_cons (pv 0) (pa_cons (pe_op op_add (pe_callB call_len_str (by rfl) T.len PySem.boot_len (pa_cons (pv 1) pa_nil)) pe_int) pa_nil))) (pa_cons (pe_call GC hr1 rfl mC kC bC .nil pass0 (pa_cons (pv 0) (pa_cons pe_int pa_nil))) pa_nil)) (by rfl))
  (pss_cons (ps_set (i := 4) scBent.nd rfl (Or.inl rfl) (pe_ix ix_str pe_str (pe_call GC hr1 rfl mC kC bC .nil pass0 (pa_cons (pv 0) (pa_cons pe_int pa_nil))) (fun _ _ => rfl)))
  (pss_cons (ps_if (pt_cmpR op_eq (pv 3) pe_int (nomark _)) (pss_cons (ps_set (i := 5) scBent.nd rfl (Or.inl rfl) (pe_lst (pa_cons pe_str (pa_cons pe_str (pa_cons pe_str (pa_cons pe_str (pa_cons pe_str (pa_cons pe_str (pa_cons pe_str (pa_cons pe_str pa_nil))))))))))
  (pss_one (ps_ret (pe_op op_add_str (pv 1) (pe_call GO hr rfl mO kO bO .nil pass0 (pa_cons (pv 0) (pa_cons (pe_op op_cat (pv 5) (pe_lst (pa_cons pe_str (pa_cons pe_str pa_nil)))) pa_nil))))))) pss_nil)
  (pss_cons (ps_if (pt_cmpR op_eq (pv 3) pe_int (nomark _)) (pss_cons (ps_set (i := 5) scBent.nd rfl (Or.inl rfl) (pe_lst (pa_cons pe_str (pa_cons pe_str (pa_cons pe_str (pa_cons pe_str (pa_cons pe_str (pa_cons pe_str (pa_cons pe_str pa_nil)))))))))
  (pss_one (ps_ret (pe_op op_add_str (pe_call GO hr rfl mO kO bO .nil pass0 (pa_cons (pv 0) (pa_cons (pe_op op_cat (pv 5) (pe_lst (pa_cons pe_str (pa_cons pe_str pa_nil)))) pa_nil))) (pv 1))))) pss_nil)
  (pss_one (ps_ret (pe_op op_add_str (pe_op op_add_str (pe_slice sl_str (pv 1) po_none (po_some (pv 2))) (pe_op op_mulS (pv 4) (pe_callTy call_int1 (by rfl) zi (by decide +kernel) (pa_cons (pe_cmpR op_gt (pv 3) pe_int (nomark _)) pa_nil)))) (pe_slice sl_str (pv 1) (po_some (pe_op op_add (pv 2) (pe_callTy call_int1 (by rfl) zi (by decide +kernel) (pa_cons (pe_cmpR op_lt (pv 3) pe_int (nomark _)) pa_nil)))) po_none)))))))), ?_⟩
    try dsimp only [gName, tSeq, tAsg, tNext]
    have p0 : Pre b H H := Pre.start bk hb
    refine tcons6 ?_
    refine evp_chooseW (H0 := H) (b := b) (i := 0) (m := (t.length : Int) + 1) rfl (by omega) (evp_w (m := (t.length : Int) + 1) (evp_pure fun G p => ev_ad (ev_lenStr (by omega) (ev_v (i := 1) rfl rfl)) ev_int) ⟨by omega, Int.le_refl _⟩) H _ p0 fun x2 H2 p2 ⟨a, e2, a0, a1⟩ => ?_
    cases e2
    refine tcons6 ?_
    refine evp_chooseW (H0 := H2) (b := b) (i := 0) (m := 6) rfl (by decide) (evp_w (m := 6) (evp_pure fun G p => ev_int) ⟨by decide, by decide⟩) H2 _ p2.id fun x3 H3 p3 ⟨wy, e3, w0, w6⟩ => ?_
    cases e3
    have P3 := p2.trans p3
    dsimp only [tNil]
    refine ⟨_, _, rfl, ?_⟩
    try dsimp only [gName, tSeq, tAsg, tNext]
    refine evp_o (σ := [some (.ref b), some (.str t), some (.int a), some (.int wy), none, none]) (H0 := H3) (b := b) (Ra := isSv sgn6) (Rb := isWh fun d => 0 ≤ d ∧ d < 8) (R := fun v _ => ∃ c : Nat, v = .str ⟨#[c]⟩ ∧ c < 1114112) (evp_pure fun _ _ => ev_str) (evp_chooseW (b := b) (i := 0) (m := 8) rfl (by decide) (evp_w (m := 8) (evp_pure fun G p => ev_int) ⟨by decide, by decide⟩)) (fun x y G Q p hx hy kk => by
      obtain ⟨d, ey, d0, d8⟩ := hy
      cases hx
      subst ey
      obtain ⟨c, hc, lt⟩ := sgn_at d d0 d8
      exact ⟨sgn6, d, c, rfl, rfl, by decide +kernel, hc, kk _ _ p.id ⟨c, rfl, lt⟩⟩) H3 _ P3.id fun x4 H4 p4 ⟨c, e4, c0⟩ => ?_
    cases e4
    have P4 := P3.trans p4
    try dsimp only [gName, tSeq, tAsg, tNext]
    have one : ∀ (L M : List Str) (G : Hp) (σ : L2.St) (ta tb : TE), Pre b H4 G → σ[0]? = some (some (.ref b)) → 1 ≤ L.length → L.length + M.length ≤ 20 → (∀ G', Pre b G G' → EvV (Same G') σ ta (isSs L)) → (∀ G', Pre b G G' → EvV (Same G') σ tb (isSs M)) → EvP b G σ (tCall (spOneOf K) [] E0 (tCons (tVar 0) (tCons (tOp rCat ta tb) tNil))) (fun v _ => ∃ x ∈ L ++ M, v = .str x) :=
      fun L M G σ ta tb p e l1 l2 ha hb => evp_to (evp_one (K := K) (b := b) (S := isSv) (as := L ++ M) e (by rw [List.length_append]; omega) (by rw [List.length_append]; omega) (evp_nl fun G' p' => evn_cat (ha G' p') (hb G' p') (by omega))) fun v H ⟨x, hx, e⟩ => ⟨x, hx, e⟩
    refine if_b (H0 := H4) (Same.refl _) (ev_test (ev_eqi (i := wy) (j := 4) (ev_v (i := 3) rfl rfl) ev_int)) (fun q H5 s5 => ?_) (fun q H5 s5 => ?_)
    · have P5 := P4.then s5
      try dsimp only [gName, tSeq, tAsg, tNext]
      refine evp_lst (H0 := H5) (b := b) (S := isSv) (as := odd6a) (fun G p => evl_cons ev_str (evl_cons ev_str (evl_cons ev_str (evl_cons ev_str (evl_cons ev_str (evl_cons ev_str (evl_cons ev_str (evl_cons ev_str evl_nil)))))))) (by decide) H5 _ P5.id fun x6 H6 p6 h6 => ?_
      have P6 := P5.trans p6
      try dsimp only [gName, tSeq, tAsg, tNext]
      refine evp_o (σ := [some (.ref b), some (.str t), some (.int a), some (.int wy), some (.str ⟨#[c]⟩), some x6]) (H0 := H6) (b := b) (Ra := isSv t) (Rb := fun v _ => ∃ x ∈ odd6a ++ odd6b, v = .str x) (R := fun v _ => ∃ x ∈ odd6a ++ odd6b, v = .str (t ++ x)) (evp_pure fun _ _ => ev_v (i := 1) rfl rfl) (one odd6a odd6b H6 _ _ _ ((p4.id.then s5).trans p6) rfl (by decide) (by decide) (fun G p => ev_v (i := 5) rfl (upP P6.id p h6).L) (fun G p => ev_lst (S := isSv) (as := odd6b) (evl_cons ev_str (evl_cons ev_str evl_nil)) (by decide))) (fun x y G Q p hx hy kk => by
        obtain ⟨z, hz, ey⟩ := hy
        cases hx
        subst ey
        have o := odd6_ok z (List.mem_append_left _ hz)
        exact ⟨t, z, rfl, rfl, Nat.le_trans (m := 100000) (by omega) (by decide), kk _ _ p.id ⟨z, hz, rfl⟩⟩) H6 _ P6.id fun x7 H7 p7 ⟨z, hz, e7⟩ => ?_
      subst e7
      have o := odd6_ok z (List.mem_append_left _ hz)
      exact k _ _ (P6.trans p7) (by rw [Str.length_append]; omega) (strOk_app6 so o.2)
    refine if_b (H0 := H5) (Same.refl _) (ev_test (ev_eqi (i := wy) (j := 5) (ev_v (i := 3) rfl rfl) ev_int)) (fun q2 H6 s6 => ?_) (fun q2 H6 s6 => ?_)
    · have P5 := P4.then (s5.trans s6)
      try dsimp only [gName, tSeq, tAsg, tNext]
      refine evp_lst (H0 := H6) (b := b) (S := isSv) (as := odd6c) (fun G p => evl_cons ev_str (evl_cons ev_str (evl_cons ev_str (evl_cons ev_str (evl_cons ev_str (evl_cons ev_str (evl_cons ev_str evl_nil))))))) (by decide) H6 _ P5.id fun x6 H7 p6 h6 => ?_
      have P6 := P5.trans p6
      try dsimp only [gName, tSeq, tAsg, tNext]
      refine evp_o (σ := [some (.ref b), some (.str t), some (.int a), some (.int wy), some (.str ⟨#[c]⟩), some x6]) (H0 := H7) (b := b) (Rb := isSv t) (Ra := isOne isSv (odd6c ++ odd6d)) (R := fun v _ => ∃ x ∈ odd6c ++ odd6d, v = .str (x ++ t)) (evp_to (one odd6c odd6d H7 _ _ _ ((p4.id.then (s5.trans s6)).trans p6) rfl (by decide) (by decide) (fun G p => ev_v (i := 5) rfl (upP P6.id p h6).L) (fun G p => ev_lst (S := isSv) (as := odd6d) (evl_cons ev_str (evl_cons ev_str evl_nil)) (by decide))) fun v H ⟨x, hx, e⟩ => ⟨x, hx, e⟩) (evp_pure fun _ _ => ev_v (i := 1) rfl rfl) (fun x y G Q p hx hy kk => by
        obtain ⟨z, hz, ex⟩ := hx
        cases hy
        cases ex
        have o := odd6_ok z (List.mem_append_right _ hz)
        exact ⟨z, t, rfl, rfl, Nat.le_trans (m := 100000) (by omega) (by decide), kk _ _ p.id ⟨z, hz, rfl⟩⟩) H7 _ P6.id fun x7 H8 p7 ⟨z, hz, e7⟩ => ?_
      subst e7
      have o := odd6_ok z (List.mem_append_right _ hz)
      exact k _ _ (P6.trans p7) (by rw [Str.length_append]; omega) (strOk_app6 o.2 so)
    have P6 := P4.then (s5.trans s6)
    try dsimp only [gName, tSeq, tAsg, tNext]
    have cl : ∀ lo hi, (cutS t lo hi).length ≤ t.length := cut_len6 t
    have c1 : (⟨#[c]⟩ : Str).length = 1 := rfl
    have mul1 : ∀ g : Int, g = 0 ∨ g = 1 → (if g = 0 then Str.empty else (⟨#[c]⟩ : Str)).length ≤ 1 ∧ PyData.strOk (if g = 0 then Str.empty else (⟨#[c]⟩ : Str)) = true := fun g hg => by
      split
      · exact ⟨by decide, by decide +kernel⟩
      · exact ⟨Nat.le_of_eq c1, lt_ok fun d hd => by
          have e : tl (⟨#[c]⟩ : Str) = [c] := rfl
          rw [e] at hd
          rw [List.mem_singleton.mp hd]
          exact c0⟩
    have g01 : ∀ q : Bool, (if q then (1 : Int) else 0) = 0 ∨ (if q then (1 : Int) else 0) = 1 := fun q => by cases q <;> simp
    have m1 := mul1 _ (g01 (decide (0 < wy)))
    have t1 := cl none (some a)
    have t2 := cl (some (a + if decide (wy < 2) = true then 1 else 0)) none
    have eF := ev_cat (H0 := H6) (σ := [some (.ref b), some (.str t), some (.int a), some (.int wy), some (.str ⟨#[c]⟩), none]) (by rw [Str.length_append]; omega) (ev_cat (by omega) (ev_slS (lo := none) (hi := some a) (by omega) (ev_v (i := 1) rfl rfl) evo_none (evo_some (ev_v (i := 2) rfl rfl))) (ev_mulS (g01 (decide (0 < wy))) (ev_v (i := 4) (R := isSv ⟨#[c]⟩) rfl rfl) (ev_intK (ev_gt (ev_v (i := 3) rfl rfl) ev_int)))) (ev_slS (lo := some (a + if decide (wy < 2) = true then 1 else 0)) (hi := none) (by omega) (ev_v (i := 1) rfl rfl) (evo_some (ev_ad (ev_v (i := 2) rfl rfl) (ev_intK (ev_lt (ev_v (i := 3) rfl rfl) ev_int)))) evo_none)
    refine eF H6 _ (Same.refl _) fun x7 H7 s7 _ e7 => ?_
    cases e7
    exact k _ _ (P6.then s7) (by
      obtain ⟨a', rfl⟩ : ∃ a' : Nat, a = (a' : Int) := ⟨a.toNat, by omega⟩
      have z1 := cut_to6 t a'
      have z2 : (cutS t (some ((a' : Int) + if decide (wy < 2) = true then 1 else 0)) none).length ≤ t.length - a' := by
        split
        · have y := cut_from6 t (a' + 1)
          have e : ((a' + 1 : Nat) : Int) = (a' : Int) + 1 := by omega
          rw [e] at y
          omega
        · have y := cut_from6 t a'
          rw [Int.add_zero]
          exact y
      have m2 := m1.1
      rw [Str.length_append, Str.length_append]
      omega) (strOk_app6 (strOk_app6 (cut_ok6 _ _ so) m1.2) (cut_ok6 _ _ so))
end
end V3

set_option Elab.async false
set_option linter.all false
set_option maxRecDepth 100000
/-! tuples of flat values: shown, compared -/
namespace V3
open PySem PySem.Spec PyProof.Rows L2 TL
inductive FlA : List V → List PyData → Prop where
  | nil : FlA [] []
  | int {i : Int} {us : List V} {ds : List PyData} (a : Am i) (t : FlA us ds) : FlA (.int i :: us) (.int i :: ds)
  | bl {b : Bool} {us : List V} {ds : List PyData} (t : FlA us ds) : FlA (.bl b :: us) (.bool b :: ds)
  | str {s : Str} {us : List V} {ds : List PyData} (l : PyData.leavesShort 1921 (.str s) = true) (b : PyData.bulk (.str s) ≤ 90) (o : PyData.strOk s = true) (t : FlA us ds) : FlA (.str s :: us) (.str s :: ds)
theorem FlA.len {us : List V} {ds : List PyData} (h : FlA us ds) : us.length = ds.length := by
  induction h with
  | nil => rfl
  | int _ _ ih => simp [ih]
  | bl _ ih => simp [ih]
  | str _ _ _ _ ih => simp [ih]
theorem FlA.dp {us : List V} {ds : List PyData} (h : FlA us ds) (K : PySem.W.Frag) (H : Hp) : DpAll K H us ds := by
  induction h with
  | nil => exact .nil
  | int _ _ ih => exact .cons (.int _) ih
  | bl _ ih => exact .cons (.bl _) ih
  | str _ _ _ _ ih => exact .cons (.str _) ih
theorem am_shown {i : Int} (a : Am i) : (PyData.shown (.int i)).length ≤ 1921 := by
  have e : PyData.shown (.int i) = num i := by simp [PyData.shown, num]
  rw [e]
  exact num_len a
theorem FlA.all {us : List V} {ds : List PyData} (h : FlA us ds) : PyData.showableAll ds = true ∧ PyData.hasDictAll ds = false ∧ PyData.depthAll ds = 0 ∧ PyData.leavesShortAll 1921 ds = true ∧ PyData.bulkAll ds ≤ 100 * ds.length ∧ PyData.canLayAll0 ds = true := by
  induction h with
  | nil => exact ⟨by simp [PyData.showableAll], by simp [PyData.hasDictAll], by simp [PyData.depthAll], by simp [PyData.leavesShortAll], by simp [PyData.bulkAll], by simp [PyData.canLayAll0]⟩
  | int a t ih =>
    obtain ⟨i1, i2, i3, i4, i5, i6⟩ := ih
    refine ⟨by simp [PyData.showableAll, PyData.showable, am_log a, i1], by simp [PyData.hasDictAll, PyData.hasDict, i2], by simp [PyData.depthAll, PyData.depth, i3], ?_, by simp only [PyData.bulkAll, PyData.bulk, List.length_cons]; omega, by simp [PyData.canLayAll0, PyData.canLay0, i6]⟩
    simp only [PyData.leavesShortAll, PyData.leavesShort, i4, Bool.and_true, decide_eq_true_eq]
    exact am_shown a
  | @bl b us ds t ih =>
    obtain ⟨i1, i2, i3, i4, i5, i6⟩ := ih
    refine ⟨by simp [PyData.showableAll, PyData.showable, i1], by simp [PyData.hasDictAll, PyData.hasDict, i2], by simp [PyData.depthAll, PyData.depth, i3], ?_, by simp only [PyData.bulkAll, PyData.bulk, List.length_cons]; omega, by simp [PyData.canLayAll0, PyData.canLay0, i6]⟩
    simp only [PyData.leavesShortAll, PyData.leavesShort, i4, Bool.and_true, decide_eq_true_eq, PyData.shown]
  | str l b o t ih =>
    obtain ⟨i1, i2, i3, i4, i5, i6⟩ := ih
    exact ⟨by simp [PyData.showableAll, PyData.showable, i1], by simp [PyData.hasDictAll, PyData.hasDict, i2], by simp [PyData.depthAll, PyData.depth, i3], by simp only [PyData.leavesShortAll, l, i4, Bool.and_self], by simp only [PyData.bulkAll, List.length_cons]; omega, by simp [PyData.canLayAll0, PyData.canLay0, o, i6]⟩
theorem FlA.ints : ∀ {is : List Int}, (∀ i ∈ is, Am i) → FlA (is.map V.int) (is.map PyData.int)
  | [], _ => .nil
  | i :: r, h => .int (h i (List.mem_cons_self ..)) (FlA.ints fun j hj => h j (List.mem_cons_of_mem _ hj))
theorem rgV_fl {a b : Nat} (ha : b ≤ 100000) : FlA (rgV (a : Int) (b : Int)) (((List.range ((b : Int) - (a : Int)).toNat).map fun i => (a : Int) + (i : Nat)).map PyData.int) := by
  have e : rgV (a : Int) (b : Int) = ((List.range ((b : Int) - (a : Int)).toNat).map fun i => (a : Int) + (i : Nat)).map V.int := by
    unfold rgV
    rw [List.map_map]
    rfl
  rw [e]
  refine FlA.ints fun i hi => ?_
  obtain ⟨j, hj, rfl⟩ := List.mem_map.mp hi
  have := List.mem_range.mp hj
  unfold Am
  omega
theorem FlA.rf {us : List V} {ds : List PyData} (h : FlA us ds) : PyData.eqvAll ds ds = true := by
  induction h with
  | nil => simp [PyData.eqvAll]
  | int _ _ ih => simp [PyData.eqvAll, PyData.eqv, ih]
  | bl _ ih => simp [PyData.eqvAll, PyData.eqv, ih]
  | str _ _ _ _ ih => simp [PyData.eqvAll, PyData.eqv, ih]
section
variable {K : PySem.W.Frag} {A : Around} {σ : L2.St} {ta tb te : TE} {H0 : Hp} {us : List V} {ds : List PyData}
theorem reprFl_at {v : V} {H : Hp} {Q : VK} (un : A.units + 64 < cLine) (f : FlA us ds) (n : us.length ≤ 50) (h : isU isVv us v H) (q : Q (.str (PyData.shown (.tuple ds))) H) : rReprD K A [v] H Q := by
  obtain ⟨D, ws, rfl, hD, l⟩ := h
  have e := l.eqs
  subst e
  obtain ⟨d1, d2, d3, d4, d5, d6⟩ := f.all
  have z := PyData.shown_le_bulk 1921 (by decide) (.tuple ds) (by simp only [PyData.leavesShort, d4])
  have zb : PyData.bulk (.tuple ds) ≤ 100 * ds.length + 1 := by
    simp only [PyData.bulk]
    omega
  have fl := f.len
  refine ⟨D, .tuple ds, rfl, .tup (SqT.of hD) (f.dp K H), by simp only [PyData.showable, d1], by simp only [PyData.hasDict, d2], ?_, ?_, q⟩
  · simp only [PyData.depth, d3]
    omega
  · refine Nat.le_trans z ?_
    have : (1921 + 2) * PyData.bulk (.tuple ds) ≤ (1921 + 2) * 5001 := Nat.mul_le_mul_left _ (by omega)
    show _ ≤ 2 ^ 24
    omega
theorem ev_reprFl (un : A.units + 64 < cLine) (f : FlA us ds) (n : us.length ≤ 50) (ha : EvV (Same H0) σ ta (isU isVv us)) : EvV (Same H0) σ (tCB (rReprD K A) (tCons ta tNil)) (isSv (PyData.shown (.tuple ds))) :=
  ev_cb (eva_cons ha eva_nil) fun vs H Q w r k => by
    obtain ⟨v, r, rfl, hv, rfl⟩ := r
    exact reprFl_at un f n hv (k _ H (Same.refl H) rfl)
theorem ev_neFlT (f : FlA us ds) (ha : EvV (Same H0) σ ta (isU isVv us)) (hb : EvV (Same H0) σ tb (isU isVv us)) : EvV (Same H0) σ (tOp (rNeD K) ta tb) (isBv false) :=
  ev_o ha hb fun x y H Q w a1 a2 k => by
    obtain ⟨D, vs, rfl, hD, l⟩ := a1
    obtain ⟨D2, ws, rfl, hD2, l2⟩ := a2
    have q := l.eqs
    have q2 := l2.eqs
    subst q
    subst q2
    obtain ⟨d1, d2, d3, d4, d5, d6⟩ := f.all
    have sh : SeqAt.shaped (.tuple ds) = true := by simp [SeqAt.shaped, PyData.canLay0, PyData.depth, d3, d6]
    exact ⟨_, _, .tup (SqT.of hD) (f.dp K H), .tup (SqT.of hD2) (f.dp K H), sh, sh, k _ H (Same.refl H) (by rw [show PyData.eqv (.tuple ds) (.tuple ds) = true by simp only [PyData.eqv]; exact f.rf]; rfl)⟩
end
end V3

set_option Elab.async false
set_option linter.all false
set_option maxRecDepth 100000
namespace V3
open PySem L2 TL
abbrev sLawTextP : Stmt := top 26
-- no sLawEnd
-- no sSlices
-- no sSums
structure BltW (mg : Str → Option Value) : Prop where
  len : mg "len" = none
  range : mg "range" = none
  max : mg "max" = none
  min : mg "min" = none
  str : mg "str" = none
  isi : mg "isinstance" = none
  tuple : mg "tuple" = none
  list : mg "list" = none
def spLText : Sp := fun vs H Q _ => ∃ a xs ms, vs = [.ref a] ∧ H a = some (.lst xs) ∧ Tups H xs ms ∧ (∀ m ∈ ms, m.ok) ∧ ms.length ≤ 1000 ∧ ∀ H', Same H H' → Q (.str (hText ms)) H'
def spLEnd : Sp := fun vs H Q _ => ∃ (b : Addr) (u v m : Int), vs = [.ref b, .int m] ∧ H b = some (box u v) ∧ BoxOk u v ∧ 0 ≤ m ∧ m ≤ 900 ∧ ∀ (z : Int) H', Pre b H H' → Q (.int z) H'
def spSlices (K : PySem.W.Frag) (c : Cl) : Sp := fun vs H Q _ => ∃ (b : Addr) (u v : Int) (h : V) (a : Addr) (xs : List V) (ms : List Mv), vs = [.ref b, h, .ref a] ∧ H b = some (box u v) ∧ BoxOk u v ∧ a ≠ b ∧ HiK K c H h ms ∧ H a = some (.lst xs) ∧ Tups H xs ms ∧ (∀ m ∈ ms, m.ok) ∧ ms.length ≤ 900 ∧ ∀ H', Pre b H H' → Q (.bl true) H'
def spSums (K : PySem.W.Frag) (c : Cl) : Sp := fun vs H Q _ => ∃ (h g : V) (a b : Addr) (xs ys : List V) (ms ns : List Mv), vs = [h, g, .ref a, .ref b] ∧ HiK K c H h ms ∧ HiK K c H g ns ∧ H a = some (.lst xs) ∧ H b = some (.lst ys) ∧ Tups H xs ms ∧ Tups H ys ns ∧ (∀ m ∈ ms, m.ok) ∧ (∀ m ∈ ns, m.ok) ∧ ms.length ≤ 100 ∧ ns.length ≤ 100 ∧ ∀ H', Same H H' → Q (.bl true) H'
theorem scLText : FnScope ["_law_moves", "_law_move"] ["_law_moves"] (defScope sLawTextP) := ⟨rfl, rfl, rfl, by decide +kernel, rfl, by decide +kernel, by decide +kernel⟩
section
variable {P : Program} {w : World} {K : PySem.W.Frag} {mg : Str → Option Value} {base : Heap}
abbrev CalText (P : Program) (w : World) (K : PySem.W.Frag) (mg : Str → Option Value) (base : Heap) : Prop := Cal P w K mg base CX0 "_law_move_text" 1 ["_law_move"] spText
abbrev CalLText (P : Program) (w : World) (K : PySem.W.Frag) (mg : Str → Option Value) (base : Heap) : Prop := Cal P w K mg base CX0 "_law_text" 2 ["_law_moves"] spLText
theorem ok_lText {f : Addr} {fd : FuncData} (F : Fun K "_law_text" "_law_text" sLawTextP f fd) (cT : CalText P w K mg base) : FnOk P w K mg base CX0 2 f fd ["_law_moves"] spLText := by
  obtain ⟨fT, fdT, GT, mT, kT, bT⟩ := cT
  refine F.ok scLText (fun vs H Q E h => ?_) (fun cdv A outer s H vs Q E hr h => ?_)
  · obtain ⟨a, xs, ms, rfl, _⟩ := h
    rfl
  · obtain ⟨a, xs, ms, rfl, ha, tp, ok, n, k⟩ := h
    have hr1 : Room 1 _ := hr.mono (by decide)
    refine ⟨_, (pss_one (ps_ret (pe_join pe_str (pe_lc (own := [("_law_move", 1)]) (g := gName 1) (tt := tYes) (by rfl) scLText.nd (pi_list (pv 0)) (blkOk_by (own := [("_law_move", 1)]) (N := ["_law_moves", "_law_move"]) (sc := defScope sLawTextP) (by decide +kernel)) (fun _ _ _ _ _ => (pg_name (i := 1) scLText.nd rfl (Or.inl rfl))) (fun _ _ _ _ _ => pts_nil) (fun _ _ _ _ _ => (pe_call GT hr1 rfl mT kT bT .nil pass0 (pa_cons (pv 1) pa_nil))))))), ?_⟩
    refine ⟨⟨_, rfl⟩, _, rfl, a, rfl, ⟨xs, SqL.of ha⟩, fun D nD => ?_⟩
    have lx := tp.1
    refine lc_list (K := K) (a := a) (xs := xs) (fun i Hh => Same H Hh ∧ H D = none ∧ Hh D = some (.lst (((ms.take i).map Mv.text).map V.str))) ⟨Same.new nD, nD, upd_same⟩ (fun i Hh _ p => SqL.of (p.1 _ _ ha)) ?_ ?_
    · intro i z Hh hi p
      obtain ⟨m, hm, mz⟩ := tp.at hi
      refine ⟨rfl, ?_⟩
      unfold tYes
      dsimp only
      refine iteT ⟨_, rfl, _, m, rfl, mz.same p.1, ok m (List.mem_of_getElem? hm), _, p.2.2, ?_, fun c o h => ?_, p.2.1, ?_⟩
      · rw [List.length_map, List.length_map, List.length_take]
        exact lt_size (by omega)
      · rw [upd_ne (ne_of_none h p.2.1)]
        exact p.1 c o h
      · rw [upd_same, take_next' hm, List.map_append, List.map_append]
        rfl
    · intro Hh p
      obtain ⟨s2, _, e⟩ := p
      rw [lx, List.take_length] at e
      refine ⟨semi, D, ms.map Mv.text, rfl, rfl, .inl (SqL.of e), ?_, ?_⟩
      · have z := sum_texts ok
        have e2 : (semi).length = 2 := by decide +kernel
        rw [e2, List.length_map]
        exact Nat.le_trans (Nat.add_le_add_right z _) (by omega)
      · rw [join_eq]
        exact k _ s2
abbrev CalEnd (P : Program) (w : World) (K : PySem.W.Frag) (mg : Str → Option Value) (base : Heap) : Prop := Cal P w K mg base CX0 "_law_end" 3 ["_law_box", "_law_many"] spLEnd
abbrev CalCh (P : Program) (w : World) (K : PySem.W.Frag) (mg : Str → Option Value) (base : Heap) : Prop := Cal P w K mg base CX0 "_law_choose" 1 ["_law_box", "_law_many"] spChoose
abbrev CalOf (P : Program) (w : World) (K : PySem.W.Frag) (mg : Str → Option Value) (base : Heap) : Prop := Cal P w K mg base CX0 "_law_one_of" 2 ["_law_box", "_law_some"] (spOneOf K)
end
end V3

set_option Elab.async false
set_option linter.all false
set_option maxRecDepth 100000
namespace V3
open PySem L2 TL
theorem Row.app {α : Type} {R : V → α → Prop} {vs ws : List V} {as bs : List α} (d : Row R vs as) (e : Row R ws bs) : Row R (vs ++ ws) (as ++ bs) := by
  refine ⟨by simp [d.1, e.1], fun i x hx => ?_⟩
  by_cases l : i < as.length
  · rw [List.getElem?_append_left l] at hx
    obtain ⟨w, f, r⟩ := d.2 i x hx
    exact ⟨w, by rw [List.getElem?_append_left (by rw [d.1]; exact l)]; exact f, r⟩
  · rw [List.getElem?_append_right (by omega)] at hx
    obtain ⟨w, f, r⟩ := e.2 _ x hx
    exact ⟨w, by rw [List.getElem?_append_right (by rw [d.1]; omega), d.1]; exact f, r⟩
/-- a list of drawn tuples -/
def isLs (ms : List Mv) : V → Hp → Prop := fun v H => ∃ a xs, v = .ref a ∧ H a = some (.lst xs) ∧ Tups H xs ms
theorem st_ls {ms : List Mv} : StV (isLs ms) := fun _ _ _ s h => by
  obtain ⟨a, xs, e, ha, tp⟩ := h
  exact ⟨a, xs, e, s _ _ ha, tp.same s⟩
section
variable {P : Program} {w : World} {K : PySem.W.Frag} {mg : Str → Option Value} {base : Heap} {c : Cl} {W : Hp → Prop} {σ : L2.St} {ta tb te : TE} {ms ns : List Mv} {R Ra Rb : V → Hp → Prop}
theorem ev_call1 {sp : Sp} (ha : EvV W σ ta Ra) (h : ∀ x H Q, W H → Ra x H → (∀ v H', Same H H' → W H' → R v H' → Q v H') → sp [x] H Q E0) : EvV W σ (tCall sp [] E0 (tCons ta tNil)) R := fun H Q w k =>
  ha H _ w fun x H1 s1 w1 rx => h x H1 Q w1 rx fun v H' s w' rv => k v H' (s1.trans s) w' rv
theorem ev_ltext (sw : StW W) (ha : EvV W σ ta (isLs ms)) (ok : ∀ m ∈ ms, m.ok) (n : ms.length ≤ 1000) : EvV W σ (tCall spLText [] E0 (tCons ta tNil)) (isSv (hText ms)) := ev_call1 ha fun x H Q w hx k => by
  obtain ⟨a, xs, rfl, ha, tp⟩ := hx
  exact ⟨a, xs, ms, rfl, ha, tp, ok, n, fun H' s => k _ H' s (sw _ _ s w) rfl⟩
theorem ev_val {b : Bool} (h : EvV W σ te (isBv b)) : EvB W σ (tB te) b := fun H Q w k => h H _ w fun v H' s w' e => ⟨b, e, k H' s w'⟩
theorem ev_not {t : TT} {b : Bool} (h : EvB W σ t b) : EvB W σ (tNot t) (!b) := fun H Q w k => h H _ w k
theorem ev_stepL (sw : StW W) {lo hi st : Option Int} {tl th ts : TO} (ha : EvV W σ ta (isLs ms)) (hl : EvO W σ tl lo) (hh : EvO W σ th hi) (hs : EvO W σ ts st) (h0 : st ≠ some 0) (n : ms.length ≤ 900) :
    EvV W σ (tStep K ta tl th ts) (isLs (stepL ms lo hi st)) := fun H Q w k =>
  ha H _ w fun x H1 s1 w1 hx => hl H1 _ w1 fun H2 s2 w2 => hh H2 _ w2 fun H3 s3 w3 => hs H3 _ w3 fun H4 s4 w4 => by
    obtain ⟨a, xs, rfl, ha, tp⟩ := st_ls _ _ _ ((s2.trans s3).trans s4) hx
    have t2 := tp.step lo hi st
    have S := ((s1.trans s2).trans s3).trans s4
    have z := step_short xs lo hi h0
    have lx := tp.1
    refine ⟨a, xs, rfl, SqL.of ha, h0, ?_, fun p np => ?_⟩
    · rw [step_same _ _ _ h0]
      exact Nat.le_of_lt (lt_size (by omega))
    · rw [step_same _ _ _ h0]
      have s5 : Same H4 (upd H4 p (.lst (stepL xs lo hi st))) := Same.new np
      exact k _ _ (S.trans s5) (sw _ _ s5 w4) ⟨p, _, rfl, upd_same, t2.imp fun _ _ h => h.same s5⟩
theorem ev_cutL (sw : StW W) {lo hi : Option Int} {tl th : TO} (ha : EvV W σ ta (isLs ms)) (hl : EvO W σ tl lo) (hh : EvO W σ th hi) : EvV W σ (tSl (rSlL K) ta tl th) (isLs (stepL ms lo hi none)) := fun H Q w k =>
  ha H _ w fun x H1 s1 w1 hx => hl H1 _ w1 fun H2 s2 w2 => hh H2 _ w2 fun H3 s3 w3 => by
    obtain ⟨a, xs, rfl, ha, tp⟩ := st_ls _ _ _ (s2.trans s3) hx
    have t2 := tp.step lo hi none
    refine ⟨a, xs, rfl, SqL.of ha, fun p np => ?_⟩
    rw [cut_same]
    have s5 : Same H3 (upd H3 p (.lst (stepL xs lo hi none))) := Same.new np
    exact k _ _ (((s1.trans s2).trans s3).trans s5) (sw _ _ s5 w3) ⟨p, _, rfl, upd_same, t2.imp fun _ _ h => h.same s5⟩
theorem ev_catL (sw : StW W) (ha : EvV W σ ta (isLs ms)) (hb : EvV W σ tb (isLs ns)) (n : ms.length + ns.length ≤ 900) : EvV W σ (tOp rCat ta tb) (isLs (ms ++ ns)) := ev_op st_ls ha hb fun x y H Q w hx hy k => by
  obtain ⟨a, xs, rfl, ha, tp⟩ := hx
  obtain ⟨b, ys, rfl, hb, tq⟩ := hy
  have l1 := tp.1
  have l2 := tq.1
  refine ⟨a, b, xs, ys, rfl, rfl, ha, hb, Nat.le_of_lt (lt_size (by omega)), fun r nr => ?_⟩
  have s5 : Same H (upd H r (.lst (xs ++ ys))) := Same.new nr
  exact k _ _ s5 (sw _ _ s5 w) ⟨r, _, rfl, upd_same, (tp.app tq).imp fun _ _ h => h.same s5⟩
theorem ev_isHi (C : HiCls K c) (ha : EvV W σ ta (isH K c ms)) : EvV W σ (tCB (rIsi K) (tCons ta (tCons (tC (.ref c.Hi)) tNil))) (isBv true) := fun H Q w k =>
  ha H _ w fun x H1 s1 w1 hx => by
    obtain ⟨a, dx, q, xs, rfl, ex, hq, mv⟩ := hx
    exact ⟨_, _, _, _, _, rfl, .own c.Hi, .base (.ins ex C.cl C.ca C.gn C.tk C.mr), C.ki, k _ H1 s1 w1 rfl⟩
theorem ev_neSS {s : Str} (ha : EvV W σ ta (isSv s)) (hb : EvV W σ tb (isSv s)) : EvB W σ (tTest (tOp rNe ta tb)) false := ev_bool (ev_test (ev_neS ha hb)) (by simp)
/-- == of two lists of drawn tuples -/
theorem ev_eqLs {ms ns : List Mv} (ha : EvV W σ ta (isLs ms)) (hb : EvV W σ tb (isLs ns)) (mo : ∀ m ∈ ms, m.ok) (no : ∀ m ∈ ns, m.ok) : EvV W σ (tOp (rEqD K) ta tb) (isBv (decide (ms = ns))) := ev_op st_ls ha hb fun x y H Q w hx hy k => by
  obtain ⟨a, xs, rfl, ha, tp⟩ := hx
  obtain ⟨b, ys, rfl, hb, tq⟩ := hy
  refine ⟨_, _, .lst (SqL.of ha) (tups_dp tp), .lst (SqL.of hb) (tups_dp tq), tups_shaped ms, tups_shaped ns, k _ H (Same.refl H) w ?_⟩
  rw [tups_eqv mo no]
  rfl
end
end V3

set_option Elab.async false
set_option linter.all false
set_option maxRecDepth 100000
/-! truth values: repr, is not -/
namespace V3
open PySem PySem.Spec PyProof.Rows L2 TL
def boolT (b : Bool) : Str := if b then "True" else "False"
def rReprB : List V → Hp → VK → Prop := fun xs H Q => ∃ b : Bool, xs = [.bl b] ∧ Q (.str (boolT b)) H
def rIsNotB : R2 := fun x y H Q => ∃ a b : Bool, x = .bl a ∧ y = .bl b ∧ Q (.bl (a != b)) H
section
variable {X : Cx}
theorem call_reprB : CallR X (.builtin "repr") rReprB := by
  intro pins s σ H xs us Q I r h
  obtain ⟨b, rfl, q⟩ := h
  obtain ⟨u, rfl, ru⟩ := vals1 r
  cases ru
  exact PySem.P.repr_of_bool ⟨.str _, H, I.tok _, ⟨_, by cases b <;> rfl⟩, q⟩
theorem op_isnotB : OpR X (compareOp .IsNot) rIsNotB := by
  intro pins s σ H x y v u Q I rx ry h
  obtain ⟨a, b, rfl, rfl, q⟩ := h
  cases rx
  cases ry
  have z : EP X pins σ Q (.bool (!((Value.bool a) == .bool b))) s := fin_bl I q (by cases a <;> cases b <;> rfl)
  exact wpAny_pure z
end
section
variable {σ : L2.St} {ta tb te : TE} {H0 : Hp} {p q : Bool}
theorem ev_reprB {W : Hp → Prop} (ha : EvV W σ ta (isBv p)) : EvV W σ (tCB rReprB (tCons ta tNil)) (isSv (boolT p)) :=
  ev_cb1 ha fun x H Q w e k => ⟨p, by rw [show x = _ from e], k _ H (Same.refl H) w rfl⟩
theorem ev_isnotB {W : Hp → Prop} (ha : EvV W σ ta (isBv p)) (hb : EvV W σ tb (isBv q)) : EvV W σ (tOp rIsNotB ta tb) (isBv (p != q)) :=
  ev_op (Ra := isBv p) (fun _ _ _ _ e => e) ha hb fun x y H Q w e1 e2 k => ⟨p, q, e1, e2, k _ H (Same.refl H) w rfl⟩
end
end V3

set_option Elab.async false
set_option linter.all false
set_option maxRecDepth 100000
/-! k06: the law -/
namespace V3
open PySem L2 TL CwR
def spLaw (K : PySem.W.Frag) : Sp := fun vs H Q _ => ∃ (a : Addr) (ns : List Int), vs = [.ref a] ∧ SqL K H a (ns.map V.int) ∧ ns.length ≤ 63 ∧ ∀ H', Q (.bl true) H'
abbrev NL : List Str := ["_law_script", "_law_k", "_law_box", "_law_turn", "_law_some", "_law_text_here", "_law_more", "_law_bent_here", "_law_wrong", "_law_due", "_law_step", "_law_word", "_law_at", "_law_part"]
theorem scLaw : FnScope NL ["_law_script"] (defScope sLaw) := ⟨rfl, rfl, rfl, by decide +kernel, rfl, by decide +kernel, by decide +kernel⟩
def spAM6 : Sp := fun vs H Q _ => ∃ (b : Addr) (u v : Int), vs = [.ref b] ∧ H b = some (box u v) ∧ BoxOk u v ∧ ∀ (p : V) (m : Mv) (H' : Hp), Pre b H H' → TupAt H' p m → m.sm → Q p H'
theorem mv_sm {xs : List V} (h : MvOk xs) : ∃ m : Mv, m.sm ∧ xs = m.tupV := by
  obtain ⟨t, a, t0, t1, a0, a1, h⟩ := h
  have ot : V3.Idx t := ⟨t0, by omega⟩
  have oa : Amt a := ⟨a0, by omega⟩
  have z : ∀ n ∈ [t, a], n ≤ 1000000000000 := fun n hn => by
    simp only [List.mem_cons, List.not_mem_nil, or_false] at hn
    rcases hn with rfl | rfl <;> omega
  rcases h with rfl | rfl | rfl | rfl | rfl
  · exact ⟨.beg a, ⟨oa, fun n hn => z n (by simp only [Mv.nums, List.mem_cons, List.not_mem_nil, or_false] at hn; subst hn; simp)⟩, rfl⟩
  · exact ⟨.take t, ⟨ot, fun n hn => z n (by simp only [Mv.nums, List.mem_cons, List.not_mem_nil, or_false] at hn; subst hn; simp)⟩, rfl⟩
  · exact ⟨.takeBy t a, ⟨⟨ot, oa⟩, z⟩, rfl⟩
  · exact ⟨.right t a, ⟨⟨ot, oa⟩, z⟩, rfl⟩
  · exact ⟨.shut, ⟨trivial, fun n hn => by cases hn⟩, rfl⟩
section
variable {P : Program} {w : World} {K : PySem.W.Frag} {mg : Str → Option Value} {base : Heap}
theorem am_sm {f : Addr} {fd : FuncData} (F : FnOk P w K mg base CX0 2 f fd ["_law_box"] spMv) : FnOk P w K mg base CX0 2 f fd ["_law_box"] spAM6 := F.imp fun vs H Q E h => by
  obtain ⟨b, u, v, e, hb, ok, k⟩ := h
  refine ⟨b, u, v, e, hb, ok, fun p xs H' pr hp mk => ?_⟩
  obtain ⟨m, mo, rfl⟩ := mv_sm mk
  exact k _ m H' pr ⟨p, rfl, hp⟩ mo
end
/-- drawn tuples, so many as are drawn -/
theorem drawn6 {b : Addr} {H : Hp} {u v : Int} {s0 s1 s3 s4 s5 s6 s7 s8 s9 s10 s11 s12 s13 : Option V} {Q : VK} (hb : H b = some (box u v)) (ok : BoxOk u v)
    (k : ∀ D vs ms H', Pre b H H' → H D = none → D ≠ b → H' D = some (.lst vs) → Tups H' vs ms → (∀ m ∈ ms, m.sm) → ms.length ≤ 6 → Q (.ref D) H') :
    tLc (iRng1 (tCons (tCall spChoose [] E0 (tCons (tVar 2) (tCons (tC (.int 7)) tNil))) tNil)) (gName 10) tYes (tCall spAM6 [] E0 (tCons (tVar 2) tNil)) [10] [s0, s1, some (.ref b), s3, s4, s5, s6, s7, s8, s9, s10, s11, s12, s13] H Q := by
  refine ⟨_, rfl, b, u, v, 7, rfl, hb, ok, by decide, by decide, fun za u4 v4 z0 z1 ok4 => ⟨za, rfl, by omega, by omega, fun D nD => ?_⟩⟩
  have Pb : Pre b H (upd H b (box u4 v4)) := Pre.box ok4
  have nbD : b ≠ D := ne_of_none upd_same nD
  have nDh : H D = none := by rw [upd_ne (Ne.symm nbD)] at nD; exact nD
  have hb4 : upd H b (box u4 v4) b = some (box u4 v4) := upd_same
  generalize upd H b (box u4 v4) = H4 at Pb hb4 nD ⊢
  refine lc_range (lo := 0) (n := za.toNat) (fun i Hk => ∃ vs ms, Pre b H4 Hk ∧ Hk D = some (.lst vs) ∧ Tups Hk vs ms ∧ (∀ m ∈ ms, m.sm) ∧ ms.length = i) ?_ ?_ ?_
  · exact ⟨[], [], ⟨fun c o n e => by rw [upd_ne (ne_of_none e nD)]; exact e, u4, v4, ok4, by rw [upd_ne nbD]; exact hb4⟩, upd_same, Row.nil, (fun _ h => nomatch h), rfl⟩
  · rintro i3 Hk hi3 ⟨vs, ms, S5, hD, tp, mok, ln⟩
    refine ⟨rfl, ?_⟩
    unfold tYes
    dsimp only
    refine iteT ?_
    obtain ⟨sy, u5, v5, ok5, hb5⟩ := id S5
    refine ⟨_, rfl, b, u5, v5, rfl, hb5, ok5, fun p m H5 S6 tm mk => ?_⟩
    have hD6 : H5 D = some (.lst vs) := S6.1 D _ (Ne.symm nbD) hD
    obtain ⟨sz, u6, v6, ok6, hb6⟩ := S5.trans S6
    have kp : KeepL Hk (upd H5 D (.lst (vs ++ [p]))) := (KeepL.pre hb5 S6.1).trans (KeepL.lst hD6)
    refine ⟨vs, hD6, lt_size (by rw [tp.1]; omega), vs ++ [p], ms ++ [m], ⟨fun c o n e => by rw [upd_ne (ne_of_none e nD)]; exact sz c o n e, u6, v6, ok6, by rw [upd_ne nbD]; exact hb6⟩, upd_same, Row.push (tp.keepL kp) ?_, fun x hx => ?_, by simp [ln]⟩
    · obtain ⟨q, e, hq⟩ := tm
      exact ⟨q, e, KeepL.lst hD6 _ _ (fun _ z => by cases z) hq⟩
    · rcases List.mem_append.mp hx with hx | hx
      · exact mok x hx
      · rw [List.mem_singleton.mp hx]
        exact mk
  rintro Hk ⟨vs, ms, S5, hD, tp, mok, ln⟩
  exact k D vs ms Hk (Pb.trans S5) nDh (Ne.symm nbD) hD tp mok (by omega)
/-! repr of what is heard -/
def rRep6 (K : PySem.W.Frag) (A : Around) : List V → Hp → VK → Prop := fun xs H Q => rRepr xs H Q ∨ rReprD K A xs H Q
theorem call_rep6 {X : Cx} (g : NoG X.A) : CallR X (.builtin "repr") (rRep6 X.K X.A) := by
  intro pins s σ H xs us Q I r h
  rcases h with h | h
  · exact call_reprIS pins s σ H xs us Q I r h
  · exact call_reprD g pins s σ H xs us Q I r h
def shown6 (t : Str) : Str := match badM 0 (partsM t) with
  | none => reprText t
  | some i => PyData.shown (.tuple [.int (i : Int), .bool true])
section
variable {K : PySem.W.Frag} {A : Around} {σ : L2.St} {ta tb te : TE} {H0 : Hp} {c : Cl} {CT b : Addr} {t : Str} {i : Nat} {ms : List Mv}
theorem bad_lt : ∀ {L : List Str} {j i : Nat}, badM j L = some i → i < j + L.length
  | [], _, _, h => by cases h
  | x :: r, j, i, h => by
    have h2 : (if (mvOf x).isSome = true then badM (j + 1) r else some j) = some i := h
    split at h2
    · have z := bad_lt h2
      simp only [List.length_cons]
      omega
    · cases h2
      simp only [List.length_cons]
      omega
theorem ev_rep6 (un : A.units + 64 < cLine) (n : t.length ≤ 900) (so : PyData.strOk t = true) (ha : EvV (Same H0) σ ta (rdR t)) : EvV (Same H0) σ (tCB (rRep6 K A) (tCons ta tNil)) (isSv (shown6 t)) :=
  ev_cb (eva_cons ha eva_nil) fun vs H Q w r k => by
    obtain ⟨v, r, rfl, hv, rfl⟩ := r
    unfold rdR at hv
    unfold shown6 at k
    cases e : badM 0 (partsM t) with
    | none =>
      rw [e] at hv k
      have hv : v = .str t := hv
      subst hv
      refine .inl (.inr ⟨t, rfl, ?_, k _ H (Same.refl H) rfl⟩)
      have z := StrLaws.reprText_len t fun c hc => Nat.lt_of_lt_of_le (ok_lt so c hc) (by decide)
      exact Nat.le_trans (m := 10000) (by omega) (by decide)
    | some i =>
      rw [e] at hv k
      have hv : isP2 isIv isBv ((i : Int), true) v H := hv
      obtain ⟨D, u, x, rfl, hD, e1, e2⟩ := hv
      have e1 : u = .int (i : Int) := e1
      have e2 : x = .bl true := e2
      subst e1 e2
      have il := bad_lt e
      have pl : (partsM t).length ≤ t.length + 1 := pa_len
      refine .inr (reprFl_at (us := [.int (i : Int), .bl true]) (ds := [.int (i : Int), .bool true]) un (.int (by unfold Am; omega) (.bl .nil)) (by show 2 ≤ 50; decide) ⟨D, _, rfl, hD, Ls.cons rfl (Ls.cons rfl Ls.nil)⟩ (k _ H (Same.refl H) rfl))
theorem ev_read6 (n : t.length ≤ 900) (pa : PA t) (ha : EvV (Same H0) σ ta (isSv t)) : EvV (Same H0) σ (tCall spReadL [] E0 (tCons ta tNil)) (rdR t) := fun H Q w k =>
  ha H _ w fun v H1 s1 w1 e => by
    cases e
    exact ⟨t, rfl, n, pa, fun v H2 s2 r => k v H2 (s1.trans s2) (w1.trans s2) r⟩
theorem ev_good6 (n : t.length ≤ 900) (so : PyData.strOk t = true) (ha : EvV (Same H0) σ ta (isSv t)) : EvV (Same H0) σ (tCall spIsGood [] E0 (tCons ta tNil)) (isBv (mvOf t).isSome) := fun H Q w k =>
  ha H _ w fun v H1 s1 w1 e => by
    cases e
    exact ⟨t, rfl, n, so, fun H2 s2 => k _ H2 (s1.trans s2) (w1.trans s2) rfl⟩
theorem ev_hist6 (sm : ∀ m ∈ ms, m.sm) (l : ms.length ≤ 6) (ha : EvV (Same H0) σ ta (isSv (hText ms))) : EvV (Same H0) σ (tCMethA c.Hi (spReadA c CT) (fun _ => E0) (tC (.ref c.Hi)) (tCons ta tNil)) (isH K c ms) := fun H Q w k =>
  ⟨rfl, ha H _ w fun v H1 s1 w1 e => by
    cases e
    have ok : ∀ m ∈ ms, m.ok := fun m hm => (sm m hm).1
    have hl := hText_sm sm l
    have pl : (partsM (hText ms)).length ≤ (hText ms).length + 1 := pa_len
    refine ⟨hText ms, rfl, by omega, by omega, pa_parts ⟨hText_ok ok, shrt_h sm⟩ (by omega), fun _ ns okn e v H' s a => ?_, fun i e => ?_⟩
    · have e2 : hText ns = hText ms := by
        unfold hText
        rw [e, parts_h ok]
      rw [hText_inj okn ok e2] at a
      exact k v H' (s1.trans s) (w1.trans s) (.of a)
    · rw [bad_h ok] at e
      cases e⟩
theorem ev_repl6 {x y z : Str} (n : x.length + (x.length + 1) * z.length ≤ 100000) (ha : EvV (Same H0) σ ta (isSv x)) : EvV (Same H0) σ (tReplC ta y z) (isSv (Txt.replace x y z)) := fun H Q w k =>
  ha H _ w fun v H1 s1 w1 e => by
    cases e
    exact ⟨x, rfl, Nat.le_trans n (by decide), k _ H1 s1 w1 rfl⟩
theorem enumF_mem {α : Type} : ∀ {L : List α} {j : Nat} {p : Nat × α}, p ∈ enumF j L → p.2 ∈ L
  | [], _, _, h => by cases h
  | x :: r, j, p, h => by
    have h2 : p ∈ (j, x) :: enumF (j + 1) r := h
    rcases List.mem_cons.mp h2 with rfl | h2
    · simp
    · exact List.mem_cons_of_mem _ (enumF_mem h2)
theorem evp_bent6 (hi : σ[i]? = some (some (.ref b))) (n : t.length ≤ 800) (so : PyData.strOk t = true) (ha : ∀ H, Pre b H0 H → EvV (Same H) σ ta (isSv t)) : EvP b H0 σ (tCall spBent6 [] E0 (tCons (tVar i) (tCons ta tNil))) (fun v _ => ∃ t' : Str, v = .str t' ∧ t'.length ≤ t.length + 20 ∧ PyData.strOk t' = true) := fun H Q p k =>
  ⟨_, hi, ha H p H _ (Same.refl H) fun v H1 s1 _ e => by
    cases e
    obtain ⟨_, u, w, ok, hb⟩ := id (p.same s1)
    have hb1 := (p.same s1)
    exact ⟨b, t, u, w, rfl, hb, ok, n, so, fun t' H' p' l o => k _ H' ((p.same s1).trans p') ⟨t', rfl, l, o⟩⟩⟩
end
section
variable {P : Program} {w : World} {K : PySem.W.Frag} {mg : Str → Option Value} {base : Heap}
theorem ok_law {f CT : Addr} {c : Cl} {fd : FuncData} (F : Fun K "law" "law" sLaw f fd) (T : Blt6 mg) (TH : HiOps P w K mg base c) (RD : HiRdA P w K mg base c CT)
    (cS : Cal P w K mg base CX0 "_law_seed" 1 ["_law_script", "_law_k"] (spSeed K)) (cC : Cal P w K mg base CX0 "_law_choose" 1 ["_law_box", "_law_many"] spChoose) (cM : Cal P w K mg base CX0 "_law_any_move" 2 ["_law_box"] spAM6)
    (cT : CalLText P w K mg base) (cR : Cal P w K mg base CX0 "_law_read" 10 ["_law_text_here"] spReadL) (cB : Cal P w K mg base CX0 "_law_bent" 3 ["_law_box", "_law_text_here"] spBent6) (cG : Cal P w K mg base CX0 "_law_is_good" 2 ["_law_part"] spIsGood) : FnG P w K mg base CX0 11 f fd ["_law_script"] (spLaw K) := by
  obtain ⟨fS, fdS, GS, mS, kS, bS⟩ := cS
  obtain ⟨fC, fdC, GC, mC, kC, bC⟩ := cC
  obtain ⟨fM, fdM, GM, mM, kM, bM⟩ := cM
  obtain ⟨fT, fdT, GT, mT, kT, bT⟩ := cT
  obtain ⟨fR, fdR, GR, mR, kR, bR⟩ := cR
  obtain ⟨fB, fdB, GB, mB, kB, bB⟩ := cB
  obtain ⟨fG, fdG, GG, mG, kG, bG⟩ := cG
  obtain ⟨mc, pr, fH, fdH, rd, cm, GH, bH⟩ := RD.r
  refine fnG F scLaw (fun vs H Q E h => ?_) (fun cdv A outer s H vs Q E g hr h => ?_)
  · obtain ⟨a, ns, rfl, _⟩ := h
    rfl
  · obtain ⟨a, ns, rfl, hS, hl, k⟩ := h
    have hr1 : Room 1 _ := hr.mono (by decide)
    have hr2 : Room 2 _ := hr.mono (by decide)
    have hr3 : Room 3 _ := hr.mono (by decide)
    have hr9 : Room 9 _ := hr.mono (by decide)
    have hr10 : Room 10 _ := hr.mono (by decide)
    have un0 := hr.units
    have e0 : ∀ σ, PassesAt (L2.CX P w) (cxOf CX0 P w K mg base NL "law" (defScope sLaw) f cdv A outer s H E).nox σ E0 := fun σ _ _ _ _ _ _ h => by
      obtain ⟨_, _, _, _, _, _, _, _, _, _, _, _, z⟩ := h
      exact z.elim
    have rdH : ∀ {e : Expr} {te : TE}, PE (cxOf CX0 P w K mg base NL "law" (defScope sLaw) f cdv A outer s H E).nox e te → True := fun _ => trivial
    refine ⟨_, PSs.nox (pss_cons (ps_for PassesOwn.never rfl (pi_range1 (by rfl) T.range (pa_cons (pe_callB (call_max2 rfl) (by rfl) T.max (by decide +kernel) (pa_cons pe_int (pa_cons (pe_callB (call_min2 rfl) (by rfl) T.min (by decide +kernel) (pa_cons pe_int (pa_cons (pe_callB call_len_seq (by rfl) T.len PySem.boot_len (pa_cons (pv 0) pa_nil)) pa_nil))) pa_nil))) pa_nil)) (pg_name (i := 1) scLaw.nd rfl (Or.inl rfl))
  (pss_cons (ps_set (i := 2) scLaw.nd rfl (Or.inr rfl) (pe_call GS hr1 rfl mS kS bS .nil pass0 (pa_cons (pv 0) (pa_cons (pv 1) pa_nil))))
  (pss_one (ps_for PassesOwn.never rfl (pi_range1 (by rfl) T.range (pa_cons pe_int pa_nil)) (pg_name (i := 3) scLaw.nd rfl (Or.inl rfl))
  (pss_cons (ps_setLc (i := 4) (own := [("_law_step", 10)]) (g := gName 10) (tt := tYes) (te := tCall spAM6 [] E0 (tCons (tVar 2) tNil)) (by rfl) scLaw.nd rfl rfl (sw_true rfl rfl rfl (by decide +kernel)) (pi_range1 (by rfl) T.range (pa_cons (pe_call GC hr1 rfl mC kC bC .nil pass0 (pa_cons (pv 2) (pa_cons pe_int pa_nil))) pa_nil)) (blkOk_by (own := [("_law_step", 10)]) (N := NL) (sc := defScope sLaw) (by decide +kernel)) (fun _ _ _ _ _ => (pg_name (i := 10) scLaw.nd rfl (Or.inl rfl))) (fun _ _ _ _ _ => pts_nil) (fun _ _ _ _ _ => (pe_call GM hr2 rfl mM kM bM .nil pass0 (pa_cons (pv 2) pa_nil))))
  (pss_cons (ps_set (i := 5) scLaw.nd rfl (Or.inl rfl) (pe_call GT hr2 rfl mT kT bT .nil pass0 (pa_cons (pv 4) pa_nil)))
  (pss_cons (ps_if (PW.pt (pw_or (pt_cmpR op_ne (pe_call GR hr10 rfl mR kR bR .nil pass0 (pa_cons (pv 5) pa_nil)) (pv 5) (nomark _)) (pw_or1 (pt_cmpR op_ne (pe_callB (call_lenHK TH hr2) (by rfl) T.len PySem.boot_len (pa_cons (pe_cmethA (E := fun _ => E0) (pe_glob (v := .ref c.Hi) rfl RD.g rfl) rd cm GH bH hr9 e0 (pa_cons (pv 5) pa_nil)) pa_nil)) (pe_callB call_len_seq (by rfl) T.len PySem.boot_len (pa_cons (pv 4) pa_nil)) (nomark _))))) (pss_one (ps_ret pe_bl)) pss_nil)
  (pss_cons (ps_if (pt_cmpR (op_neO (op_eqsH TH) (hr.mono (by decide))) (pe_cmethA (E := fun _ => E0) (pe_glob (v := .ref c.Hi) rfl RD.g rfl) rd cm GH bH hr9 e0 (pa_cons (pv 5) pa_nil)) (pe_cmethA (E := fun _ => E0) (pe_glob (v := .ref c.Hi) rfl RD.g rfl) rd cm GH bH hr9 e0 (pa_cons (pv 5) pa_nil)) (nomark _)) (pss_one (ps_ret pe_bl)) pss_nil)
  (pss_one (ps_for PassesOwn.never rfl (pi_range1 (by rfl) T.range (pa_cons pe_int pa_nil)) (pg_name (i := 6) scLaw.nd rfl (Or.inl rfl))
  (pss_cons (ps_set (i := 7) scLaw.nd rfl (Or.inl rfl) (pe_call GB hr3 rfl mB kB bB .nil pass0 (pa_cons (pv 2) (pa_cons (pv 5) pa_nil))))
  (pss_ifTok (i := 7) scLaw.nd rfl (Or.inl rfl) op_eq (pe_call GC hr1 rfl mC kC bC .nil pass0 (pa_cons (pv 2) (pa_cons pe_int pa_nil))) (nomark _) (pe_call GB hr3 rfl mB kB bB .nil pass0 (pa_cons (pv 2) (pa_cons (pv 7) pa_nil))) (pv 7)
  (psst_cons (pst_ifT (ptt_cmpR (op_neE hr.units0) (pet_lc (own := [("_law_word", 11)]) (g := gName 11) (tt := tTest (tOp (rI0 fun i j => .bl (decide (j < i))) (tCB (fun xs H Q => ∃ z, xs = [.str z] ∧ z.length ≤ sizeLine ∧ Q (.int z.length) H) (tCons (tVar 11) tNil)) (tC (.int 12)))) (te := tVar 11) (by rfl) scLaw.nd (pit_list (pet_split (pet_replC (pv 7)) pe_str)) (blkOk_by (own := [("_law_word", 11)]) (N := NL) (sc := defScope sLaw) (by decide +kernel)) (fun _ _ _ _ _ => (pg_name (i := 11) scLaw.nd rfl (Or.inl rfl))) (fun _ _ _ _ _ => pts_one (pt_cmpR op_gt (pe_callB call_len_str (by rfl) T.len PySem.boot_len (pa_cons (pv 11) pa_nil)) pe_int (nomark _))) (fun _ _ _ _ _ => (pv 11))) (pe_lst pa_nil) (nomark _)) (PSsT.of (pss_one ps_continue)) (PSsT.of pss_nil)) (PSsT.of
  (pss_cons (ps_setLc (i := 8) (own := [("_law_at", 12), ("_law_part", 13)]) (g := gTup K 2 (gCons (gName 12) (gCons (gName 13) gNil))) (tt := tNot (tB (tCall spIsGood [] E0 (tCons (tVar 13) tNil)))) (te := tVar 12) (by rfl) scLaw.nd rfl rfl (sw_true rfl rfl rfl (by decide +kernel)) (pi_enum (by rfl) T.enumerate (pa_cons (pe_split (pv 7) pe_str) pa_nil)) (blkOk_by (own := [("_law_at", 12), ("_law_part", 13)]) (N := NL) (sc := defScope sLaw) (by decide +kernel)) (fun _ _ _ _ _ => (pg_tup rfl (pgs_cons (pg_name (i := 12) scLaw.nd rfl (Or.inl rfl)) (pgs_cons (pg_name (i := 13) scLaw.nd rfl (Or.inl rfl)) pgs_nil)))) (fun _ _ _ _ _ => pts_one (pt_not (pt_val (pe_call GG hr2 rfl mG kG bG .nil pass0 (pa_cons (pv 13) pa_nil))))) (fun _ _ _ _ _ => (pv 12)))
  (pss_cons (ps_set (i := 9) scLaw.nd rfl (Or.inl rfl) (pe_ifExp (PW.pt (pw_or (pt_cmpR op_eq (pv 7) pe_str (nomark _)) (pw_or1 (pt_cmpR (op_eqD un0) (pv 8) (pe_lst pa_nil) (nomark _))))) (pv 7) (pe_tup (pa_cons (pe_ix ix_list (pv 8) pe_int (fun _ _ => rfl)) (pa_cons pe_bl pa_nil)))))
  (pss_one (ps_if (pt_cmpR op_ne (pe_callB (call_rep6 g) (by rfl) T.repr (by decide +kernel) (pa_cons (pe_call GR hr10 rfl mR kR bR .nil pass0 (pa_cons (pv 7) pa_nil)) pa_nil)) (pe_callB (call_rep6 g) (by rfl) T.repr (by decide +kernel) (pa_cons (pv 9) pa_nil)) (nomark _)) (pss_one (ps_ret pe_bl)) pss_nil))))))))))))))))))
  (pss_one (ps_ret (pe_and (pe_cmpR op_eq (pe_call GR hr10 rfl mR kR bR .nil pass0 (pa_cons pe_str pa_nil)) pe_str (nomark _)) (pe_and (pe_cmpR (op_eqD un0) (pe_call GR hr10 rfl mR kR bR .nil pass0 (pa_cons pe_str pa_nil)) (pe_tup (pa_cons pe_int (pa_cons pe_bl pa_nil))) (nomark _)) (pe_one (pe_cmpR (op_eqD un0) (pe_call GR hr10 rfl mR kR bR .nil pass0 (pa_cons pe_str pa_nil)) (pe_tup (pa_cons pe_int (pa_cons pe_bl pa_nil))) (nomark _)))))))), ?_⟩
    refine ⟨_, rfl, a, _, rfl, .inl hS, _, _, rfl, _, _, rfl, ?_⟩
    rw [List.length_map]
    have hn : (if (if (ns.length : Int) < 5 then (ns.length : Int) else 5) > 2 then (if (ns.length : Int) < 5 then (ns.length : Int) else 5) else 2) ≤ 5 ∧ 2 ≤ (if (if (ns.length : Int) < 5 then (ns.length : Int) else 5) > 2 then (if (ns.length : Int) < 5 then (ns.length : Int) else 5) else 2) := by
      constructor <;> (split <;> (try split) <;> omega)
    generalize (if (if (ns.length : Int) < 5 then (ns.length : Int) else 5) > 2 then (if (ns.length : Int) < 5 then (ns.length : Int) else 5) else 2) = n at hn
    refine ⟨n, rfl, by omega, by omega, for_range (lo := 0) (n := n.toNat) (fun i σ H' => (∃ o1 o2 o3 o4 o5 o6 o7 o8 o9 o10 o11 o12 o13 : Option V, σ = [some (.ref a), o1, o2, o3, o4, o5, o6, o7, o8, o9, o10, o11, o12, o13]) ∧ Same H H') ⟨⟨_, _, _, _, _, _, _, _, _, _, _, _, _, rfl⟩, Same.refl H⟩ ?_ ?_⟩
    · rintro i σ H0 hi ⟨⟨o1, o2, o3, o4, o5, o6, o7, o8, o9, o10, o11, o12, o13, rfl⟩, s0⟩
      refine ⟨_, rfl, _, rfl, a, ns, _, rfl, s0.seq hS, hl, by omega, by omega, fun b u v nb ok => ?_⟩
      have s1 : Same H (upd H0 b (box u v)) := fun c o e => by
        rw [upd_ne (ne_of_none (s0 c o e) nb)]
        exact s0 c o e
      have hb0 : H b = none := s0.free nb
      have hb1 : upd H0 b (box u v) b = some (box u v) := upd_same
      generalize upd H0 b (box u v) = H1 at s1 hb1
      have p0 : Pre b H1 H1 := Pre.start ok hb1
      try dsimp only [gName, tSeq, tAsg, tNext]
      refine ⟨5, rfl, by decide, by decide, for_range (lo := 0) (n := 5) (fun j σ H' => (∃ o3 o4 o5 o6 o7 o8 o9 o10 o11 o12 o13 : Option V, σ = [some (.ref a), some (.int (0 + (i : Nat))), some (.ref b), o3, o4, o5, o6, o7, o8, o9, o10, o11, o12, o13]) ∧ Pre b H1 H') ⟨⟨_, _, _, _, _, _, _, _, _, _, _, rfl⟩, p0⟩ ?_ ?_⟩
      · rintro j σ HA hj ⟨⟨o3, o4, o5, o6, o7, o8, o9, o10, o11, o12, o13, rfl⟩, pA⟩
        try dsimp only [gName, tSeq, tAsg, tNext]
        obtain ⟨_, uA, vA, okA, hbA⟩ := id pA
        refine drawn6 hbA okA fun D vs ms HB pB nD nDb hD tp sm lm => ?_
        have PB := pA.trans pB
        have mok : ∀ m ∈ ms, m.ok := fun m hm => (sm m hm).1
        have tl4 := hText_sm sm lm
        have tok := hText_ok mok
        have tpa : PA (hText ms) := ⟨tok, shrt_h sm⟩
        have tbad := bad_h mok
        have trd : ∀ v H, rdR (hText ms) v H → v = .str (hText ms) := fun v H r => by
          unfold rdR at r
          rw [tbad] at r
          exact r
        try dsimp only [gName, tSeq, tAsg, tNext]
        refine ⟨_, rfl, D, vs, ms, rfl, hD, tp, mok, by omega, fun HC sC => ?_⟩
        have PC := PB.then sC
        have hDC := sC _ _ hD
        have lv : vs.length = ms.length := tp.1
        try dsimp only [gName, tSeq, tAsg, tNext]
        have v5 : ∀ {G : Hp} {σ : L2.St}, σ[5]? = some (some (.str (hText ms))) → EvV (Same G) σ (tVar 5) (isSv (hText ms)) := fun e => ev_v e rfl
        refine if_f (H0 := HC) (Same.refl _) (ev_bool (ev_orB (p := false) (ev_bool (b := !decide (hText ms = hText ms)) (ev_test (ev_neS (ev_to (ev_read6 (by omega) tpa (v5 rfl)) trd) (v5 rfl))) (by simp)) fun _ => ev_bool (b := !decide ((ms.length : Int) = (ms.length : Int))) (b' := false) (ev_test (ev_neI (i := (ms.length : Int)) (j := (ms.length : Int)) (ev_lenH TH (ev_hist6 sm lm (v5 rfl)) (by omega)) (fun G Q w kk => ⟨_, rfl, D, vs, rfl, .inl (SqL.of (w _ _ hDC)), by
          rw [lv]
          exact kk _ G (Same.refl G) w rfl⟩))) (by simp)) (by rfl)) fun HD sD => ?_
        try dsimp only [gName, tSeq, tAsg, tNext]
        refine if_f (H0 := HD) (Same.refl _) (ev_neH TH (fun _ _ s w => w.trans s) (ev_hist6 (CT := CT) sm lm (v5 rfl)) (ev_hist6 sm lm (v5 rfl)) mok rfl) fun HE sE => ?_
        have PE' := PC.then (sD.trans sE)
        try dsimp only [gName, tSeq, tAsg, tNext]
        refine ⟨4, rfl, by decide, by decide, for_range (lo := 0) (n := 4) (fun i' σ H' => (∃ o6 o7 o8 o9 o10 o11 o12 o13 : Option V, σ = [some (.ref a), some (.int (0 + (i : Nat))), some (.ref b), some (.int (0 + (j : Nat))), some (.ref D), some (.str (hText ms)), o6, o7, o8, o9, o10, o11, o12, o13]) ∧ Pre b H1 H') ⟨⟨_, _, _, _, _, _, _, _, rfl⟩, PE'⟩ ?_ ?_⟩
        · rintro i' σ HF i4 ⟨⟨o6, o7, o8, o9, o10, o11, o12, o13, rfl⟩, PF⟩
          try dsimp only [gName, tSeq, tAsg, tNext]
          refine evp_bent6 (H0 := HF) (b := b) (i := 2) (t := hText ms) rfl (by omega) tok (fun G p => v5 rfl) HF _ PF.id fun v HG pG ⟨t1, e1, l1, k1⟩ => ?_
          subst e1
          have PG := PF.trans pG
          try dsimp only [gName, tSeq, tAsg, tNext]
          have eT : EvP b HG [some (.ref a), some (.int (0 + (i : Nat))), some (.ref b), some (.int (0 + (j : Nat))), some (.ref D), some (.str (hText ms)), some (.int (0 + (i' : Nat))), some (.str t1), o8, o9, o10, o11, o12, o13] (tIf (tTest (tOp rEq (tCall spChoose [] E0 (tCons (tVar 2) (tCons (tC (.int 2)) tNil))) (tC (.int 0)))) (tCall spBent6 [] E0 (tCons (tVar 2) (tCons (tVar 7) tNil))) (tVar 7)) (fun v _ => ∃ t' : Str, v = .str t' ∧ t'.length ≤ 440 ∧ PyData.strOk t' = true) :=
            evp_if (evpb_eq (evp_chooseW (b := b) (i := 2) (m := 2) rfl (by decide) (evp_w (m := 2) (evp_pure fun G p => ev_int) ⟨by decide, by decide⟩))) (evp_to (evp_bent6 (b := b) (i := 2) (t := t1) rfl (by omega) k1 (fun G p => ev_v (i := 7) rfl rfl)) fun v H ⟨t', e, l, o⟩ => ⟨t', e, by omega, o⟩) (evp_pure fun G p => ev_to (ev_v (i := 7) (R := isSv t1) rfl rfl) fun v H e => ⟨t1, e, by omega, k1⟩)
          refine eT HG _ PG.id fun v HH pH ⟨t, et, lt, kt⟩ => ?_
          subst et
          have PH := PG.trans pH
          clear eT
          try dsimp only [gName, tSeq, tAsg, tNext]
          have v7 : ∀ {G : Hp} {σ : L2.St}, σ[7]? = some (some (.str t)) → EvV (Same G) σ (tVar 7) (isSv t) := fun e => ev_v e rfl
          have rl := TK.replace_len t ";" " "
          have c1 : (" " : Str).length = 1 := by decide +kernel
          rw [c1, Nat.mul_one] at rl
          have rw1 := wgt_split (Txt.replace t ";" " ") " " (by decide +kernel)
          have rn : (Txt.split (Txt.replace t ";" " ") " ").length ≤ 1000 := by
            unfold wgt at rw1
            omega
          have eW : EvB (Same HH) [some (.ref a), some (.int (0 + (i : Nat))), some (.ref b), some (.int (0 + (j : Nat))), some (.ref D), some (.str (hText ms)), some (.int (0 + (i' : Nat))), some (.str t), o8, o9, o10, o11, o12, o13] _ (!((Txt.split (Txt.replace t ";" " ") " ").filter fun w => decide ((12 : Int) < (w.length : Int))).isEmpty) :=
            ev_test (by
              have z := ev_neNil (evn_lc (S' := isSv) (vs := [11]) (tt := tTest (tOp (rI0 fun i j => .bl (decide (j < i))) (tCB (fun xs H Q => ∃ z, xs = [.str z] ∧ z.length ≤ sizeLine ∧ Q (.int z.length) H) (tCons (tVar 11) tNil)) (tC (.int 12)))) (te := tVar 11) (g := gName 11) (fun w => decide ((12 : Int) < (w.length : Int))) (fun w => w) (evi_list (K := K) (evn_split (y := " ") (by omega) (by decide +kernel) (ev_repl6 (y := ";") (z := " ") (by rw [c1]; omega) (v7 (G := HH) (σ := [some (.ref a), some (.int (0 + (i : Nat))), some (.ref b), some (.int (0 + (j : Nat))), some (.ref D), some (.str (hText ms)), some (.int (0 + (i' : Nat))), some (.str t), o8, o9, o10, o11, o12, o13]) rfl)) ev_str).ev) rn fun q hq u G w r K2 kk => kk _ _ (Same.refl G) rfl (ev_test (ev_gt (ev_lenStr (by
                have z := wgt_mem hq
                omega) (ev_v (i := 11) rfl r)) ev_int)) fun _ => ev_v (i := 11) rfl r).ev
              rw [List.map_id'] at z
              exact z)
          refine if_b (H0 := HH) (Same.refl _) eW (fun q HI sI => ?_) (fun q HI sI => ?_)
          · exact ⟨⟨_, _, _, _, _, _, _, _, rfl⟩, PH.then sI⟩
          have sh : Shrt t := shrt_of (n := 12) (by decide) fun w hw => by
            by_cases l12 : w.length ≤ 12
            · exact l12
            · exfalso
              have z : w ∈ ((Txt.split (Txt.replace t ";" " ") " ").filter fun w => decide ((12 : Int) < (w.length : Int))) := List.mem_filter.mpr ⟨hw, decide_eq_true (by omega)⟩
              have q2 : ((Txt.split (Txt.replace t ";" " ") " ").filter fun w => decide ((12 : Int) < (w.length : Int))).isEmpty = true := by
                simpa using q
              rw [List.isEmpty_iff.mp q2] at z
              cases z
          have pat : PA t := ⟨kt, sh⟩
          clear eW
          try dsimp only [gName, tSeq, tAsg, tNext]
          have pw := wgt_split t semi (by decide +kernel)
          have pn : (Txt.split t semi).length ≤ 1000 := by
            unfold wgt at pw
            omega
          have pl : ∀ x ∈ Txt.split t semi, x.length ≤ 900 ∧ PyData.strOk x = true := fun x hx => by
            have z := wgt_mem hx
            exact ⟨by omega, split_ok kt hx⟩
          have eB : EvNL HI [some (.ref a), some (.int (0 + (i : Nat))), some (.ref b), some (.int (0 + (j : Nat))), some (.ref D), some (.str (hText ms)), some (.int (0 + (i' : Nat))), some (.str t), o8, o9, o10, o11, o12, o13] (tLc (iEnum K (tCons (tM1 (fun x xs H Q => ∃ a b, x = .str a ∧ xs = [.str b] ∧ (b.length == 0) = false ∧ a.length + 2 ≤ sizeLine ∧ rNewStrs (Txt.split a b) H Q) (tVar 7) (tC (.str "; "))) tNil)) (gTup K 2 (gCons (gName 12) (gCons (gName 13) gNil))) (tNot (tB (tCall spIsGood [] E0 (tCons (tVar 13) tNil)))) (tVar 12) [12, 13]) isIv (((enumF 0 (Txt.split t semi)).filter fun p => !(mvOf p.2).isSome).map fun p => (p.1 : Int)) :=
            evn_lc (S := isEn isSv) (S' := isIv) (fun p => !(mvOf p.2).isSome) (fun p => (p.1 : Int)) (evi_enum (evn_split (y := semi) (by omega) (by decide +kernel) (v7 rfl) ev_str).ev) (by rw [enumF_len]; exact pn) fun p hp x G w r K2 kk => by
              obtain ⟨T', a', b', rfl, hT, ea, eb⟩ := r
              have hm : p.2 ∈ Txt.split t semi := enumF_mem hp
              obtain ⟨p1, p2⟩ := pl _ hm
              exact ⟨T', _, rfl, SqT.of hT, rfl, _, _, rfl, _, _, rfl, rfl, kk _ _ (Same.refl G) rfl (ev_notB (ev_valB (ev_good6 p1 p2 (ev_v (i := 13) rfl eb)))) fun _ => ev_v (i := 12) rfl ea⟩
          have eL : (((enumF 0 (Txt.split t semi)).filter fun p => !(mvOf p.2).isSome).map fun p => (p.1 : Int)) = (badsM 0 (Txt.split t semi)).map fun n : Nat => (n : Int) := by
            unfold badsM
            rw [List.map_map]
            rfl
          rw [eL] at eB
          refine eB.ev HI _ (Same.refl _) fun z8 HJ sJ _ h8 => ?_
          try dsimp only [gName, tSeq, tAsg, tNext]
          have hd := bads_head (L := Txt.split t semi) (j := 0)
          have bt0 : t.length ≠ 0 → partsM t = Txt.split t semi := fun z => by
            unfold partsM
            rw [if_neg z]
          generalize badsM 0 (Txt.split t semi) = Wl at h8 hd
          have eD : EvV (Same HJ) [some (.ref a), some (.int (0 + (i : Nat))), some (.ref b), some (.int (0 + (j : Nat))), some (.ref D), some (.str (hText ms)), some (.int (0 + (i' : Nat))), some (.str t), some z8, o9, o10, o11, o12, o13] _ (rdR t) :=
            ev_if (b := decide (t = "") || decide ((Wl.map fun n : Nat => (n : Int)) = [])) (ev_orB (ev_test (ev_eqS (v7 rfl) ev_str)) fun _ => ev_test (ev_eqD (K := K) (S := isL isIv) (a := Wl.map fun n : Nat => (n : Int)) (b := []) (ev_v (i := 8) rfl h8) (ev_lst (S := isIv) (as := []) evl_nil (by decide)) (fun _ _ => trivial) (fun _ _ => trivial))) (fun e => ev_to (v7 rfl) fun v H ev => by
              have ev : v = .str t := ev
              unfold rdR
              have z : badM 0 (partsM t) = none := by
                by_cases t0 : t.length = 0
                · unfold partsM
                  rw [if_pos t0]
                  rfl
                · rw [bt0 t0, hd]
                  rcases Bool.or_eq_true_iff.mp e with e | e
                  · exact absurd (by rw [of_decide_eq_true e]; decide +kernel) t0
                  · rw [List.map_eq_nil_iff.mp (of_decide_eq_true e)]
                    rfl
              rw [z]
              exact ev) (fun e => by
              obtain ⟨e1, e2⟩ := Bool.or_eq_false_iff.mp e
              have t0 : t.length ≠ 0 := fun z => of_decide_eq_false e1 (ext_tl (by
                have y : tl t = [] := List.length_eq_zero_iff.mp (by rw [← len_tl]; exact z)
                rw [y]
                decide +kernel))
              cases Wl with
              | nil => exact absurd rfl (of_decide_eq_false e2)
              | cons n r =>
                refine ev_to (ev_p2 (S := isIv) (T := isBv) (a := (n : Int)) (c := true) (ev_ixL (K := K) (n := 0) rfl (ev_v (i := 8) rfl h8) ev_int) (show EvV _ _ (tC (.bl true)) _ from fun H Q w k => k _ H (Same.refl H) w rfl)) fun v H ev => ?_
                unfold rdR
                rw [bt0 t0, hd]
                exact ev)
          refine eD HJ _ (Same.refl _) fun z9 HK sK _ h9 => ?_
          try dsimp only [gName, tSeq, tAsg, tNext]
          refine if_f (H0 := HK) (Same.refl _) (ev_bool (b := !decide (shown6 t = shown6 t)) (ev_test (ev_neS (ev_rep6 un0 (by omega) kt (ev_read6 (by omega) pat (v7 rfl))) (ev_rep6 un0 (by omega) kt (ev_v (i := 9) rfl h9)))) (by simp)) fun HL sL => ?_
          exact ⟨⟨_, _, _, _, _, _, _, _, rfl⟩, PH.then (((sI.trans sJ).trans sK).trans sL)⟩
        · rintro σ HF ⟨⟨o6, o7, o8, o9, o10, o11, o12, o13, rfl⟩, PF⟩
          exact ⟨⟨_, _, _, _, _, _, _, _, _, _, _, rfl⟩, PF⟩
      · rintro σ H2 ⟨⟨o3, o4, o5, o6, o7, o8, o9, o10, o11, o12, o13, rfl⟩, P2⟩
        exact ⟨⟨_, _, _, _, _, _, _, _, _, _, _, _, _, rfl⟩, fun c o e => P2.1 c o (ne_of_none e hb0) (s1 c o e)⟩
    · rintro σ H1 ⟨⟨o1, o2, o3, o4, o5, o6, o7, o8, o9, o10, o11, o12, o13, rfl⟩, s0⟩
      have pa0 : PA "" := ⟨by decide +kernel, by unfold Shrt; decide +kernel⟩
      have pa1 : PA "begin 1; " := ⟨by decide +kernel, by unfold Shrt; decide +kernel⟩
      have pa2 : PA "; shut" := ⟨by decide +kernel, by unfold Shrt; decide +kernel⟩
      have b0 : badM 0 (partsM "") = none := by decide +kernel
      have b1 : badM 0 (partsM "begin 1; ") = some 1 := by decide +kernel
      have b2 : badM 0 (partsM "; shut") = some 0 := by decide +kernel
      have bt : ∀ {σ : L2.St}, EvV (Same H1) σ (tC (.bl true)) (isBv true) := fun H Q w k => k _ H (Same.refl H) w rfl
      refine ev_at (ev_is (ev_eqS (i := "") (j := "") (ev_to (ev_read6 (t := "") (by decide +kernel) pa0 ev_str) fun v H r => by
        unfold rdR at r
        rw [b0] at r
        exact r) ev_str) (by simp)) (ev_at (ev_is (ev_eqD (K := K) (S := isP2 isIv isBv) (a := ((1 : Int), true)) (b := ((1 : Int), true)) (ev_to (ev_read6 (t := "begin 1; ") (by decide +kernel) pa1 ev_str) fun v H r => by
        unfold rdR at r
        rw [b1] at r
        exact r) (ev_p2 (S := isIv) (T := isBv) ev_int bt) ⟨trivial, trivial⟩ ⟨trivial, trivial⟩) (by decide)) (ev_is (ev_eqD (K := K) (S := isP2 isIv isBv) (a := ((0 : Int), true)) (b := ((0 : Int), true)) (ev_to (ev_read6 (t := "; shut") (by decide +kernel) pa2 ev_str) fun v H r => by
        unfold rdR at r
        rw [b2] at r
        exact r) (ev_p2 (S := isIv) (T := isBv) ev_int bt) ⟨trivial, trivial⟩ ⟨trivial, trivial⟩) (by decide : decide (((0 : Int), true) = ((0 : Int), true)) = true))) H1 _ (Same.refl _) fun v H' s' _ e => ?_
      cases e
      exact k _
end
end V3

set_option Elab.async false
set_option maxHeartbeats 4000000
set_option linter.all false
set_option maxRecDepth 100000
namespace V3
open PySem L2
theorem kit_ref {K : PySem.W.Frag} {t C : Addr} {b : Bool} (h1 : PySem.W.isClsIn K C = true) (h2 : PySem.W.typeIn K (.ref C) = some (.type "type")) (h3 : PySem.W.subIn K (.ref t) (.ref C) = some b) (h4 : PySem.W.subIn K (.ref t) (.ref t) = some true) :
    PySem.W.kitOne K (.ref t) (.ref C) = some b := by
  unfold PySem.W.kitOne
  by_cases e : t = C
  · subst e
    rw [h4] at h3
    injection h3 with h3
    subst h3
    rw [if_pos (by simp)]
  · have n : (Value.ref t == Value.ref C) = false := by
      refine Bool.eq_false_iff.mpr fun q => e ?_
      exact Value.ref.inj (beq_iff_eq.mp q)
    rw [n, if_neg Bool.false_ne_true]
    have q : ((PySem.W.clsIn K C).isSome && PySem.W.typeIn K (.ref C) == some (.type "type")) = true := by
      have z : (PySem.W.clsIn K C).isSome = true := h1
      rw [z, h2] <;> rfl
    show (if ((PySem.W.clsIn K C).isSome && PySem.W.typeIn K (.ref C) == some (.type "type")) = true then PySem.W.subIn K (.ref t) (.ref C) else none) = some b
    rw [if_pos q]
    exact h3
theorem kit_base {K : PySem.W.Frag} {t : String} {C : Addr} {b : Bool} (h1 : PySem.W.isClsIn K C = true) (h2 : PySem.W.typeIn K (.ref C) = some (.type "type")) (h3 : PySem.W.subIn K (.type t) (.ref C) = some b) :
    PySem.W.kitOne K (.type t) (.ref C) = some b := by
  unfold PySem.W.kitOne
  have n : (Value.type t == Value.ref C) = false := by
    refine Bool.eq_false_iff.mpr fun q => ?_
    cases beq_iff_eq.mp q
  rw [n, if_neg Bool.false_ne_true]
  have q : ((PySem.W.clsIn K C).isSome && PySem.W.typeIn K (.ref C) == some (.type "type")) = true := by
    have z : (PySem.W.clsIn K C).isSome = true := h1
    rw [z, h2] <;> rfl
  show (if ((PySem.W.clsIn K C).isSome && PySem.W.typeIn K (.ref C) == some (.type "type")) = true then PySem.W.subIn K (.type t) (.ref C) else none) = some b
  rw [if_pos q]
  exact h3
theorem kit_rt {K : PySem.W.Frag} {T : String} {C : Addr} {b : Bool} (hm : PySem.W.kitMeta T = true) (h3 : PySem.W.subIn K (.ref C) (.type T) = some b) : PySem.W.kitOne K (.ref C) (.type T) = some b := by
  unfold PySem.W.kitOne
  rw [if_neg (by intro z; cases (beq_iff_eq.mp z))]
  show (if PySem.W.kitMeta T = true then PySem.W.subIn K (.ref C) (.type T) else none) = some b
  rw [if_pos hm]
  exact h3
theorem nf_same {K : PySem.W.Frag} {C : Addr} : PySem.W.notFirst K C (.ref C) = true := by simp [PySem.W.notFirst]
theorem nf_other {K : PySem.W.Frag} {C D : Addr} (h : PySem.W.subIn K (.ref D) (.ref C) = some false) : PySem.W.notFirst K C (.ref D) = true := by
  unfold PySem.W.notFirst
  rw [h]
  simp
theorem nf_type {K : PySem.W.Frag} {C : Addr} {t : String} (h : PySem.W.subIn K (.type t) (.ref C) = some false) : PySem.W.notFirst K C (.type t) = true := by
  unfold PySem.W.notFirst
  rw [h]
  simp
theorem ne_sub {K : PySem.W.Frag} {C D : Addr} (h : PySem.W.subIn K (.ref C) (.ref D) = some false) (k : PySem.W.subIn K (.ref C) (.ref C) = some true) : C ≠ D := fun e => by
  subst e
  rw [h] at k
  cases k
theorem silent2 {K : PySem.W.Frag} {D : Addr} {oc : Value} {od : Option Addr} {cd : ClassData} {sl : Array (Option Value)} {a b : Value} {n : Str} (lk : K.lookup D = some ⟨oc, od, .cls cd, sl⟩) (mr : cd.mro = [a, b]) (h1 : PySem.W.findIn K a n = some none) (h2 : PySem.W.findIn K b n = some none) : Silent K D [n] :=
  ⟨oc, od, cd, sl, lk, by
    rw [mr]
    intro c hc m hm
    simp only [List.mem_cons, List.not_mem_nil, or_false] at hc hm
    subst hm
    rcases hc with rfl | rfl
    · exact h1
    · exact h2⟩
theorem silent3 {K : PySem.W.Frag} {D : Addr} {oc : Value} {od : Option Addr} {cd : ClassData} {sl : Array (Option Value)} {a b d : Value} {n n' : Str} (lk : K.lookup D = some ⟨oc, od, .cls cd, sl⟩) (mr : cd.mro = [a, b, d])
    (h1 : PySem.W.findIn K a n = some none) (h1' : PySem.W.findIn K a n' = some none) (h2 : PySem.W.findIn K b n = some none) (h2' : PySem.W.findIn K b n' = some none) (h3 : PySem.W.findIn K d n = some none) (h3' : PySem.W.findIn K d n' = some none) : Silent K D [n, n'] :=
  ⟨oc, od, cd, sl, lk, by
    rw [mr]
    intro c hc m hm
    simp only [List.mem_cons, List.not_mem_nil, or_false] at hc hm
    rcases hc with rfl | rfl | rfl <;> rcases hm with rfl | rfl
    · exact h1
    · exact h1'
    · exact h2
    · exact h2'
    · exact h3
    · exact h3'⟩
theorem all_mk {l : PySem.W.OpenLaw} {w : World} {K : PySem.W.Frag} {h : Heap} {mg : Str → Option Value} {fa f_int f_num f_amt f_rn f_ism f_rms f_rm f_mo f_seed f_choose f_one f_am f_mt f_lt f_dg f_gd f_rl f_bt f_law CM MV BC TC RC SC HC f_im f_bi f_ti f_ri f_be f_bs f_te f_ts f_re f_rs f_se f_ss f_hi e_hi f_he f_hs f_hl f_hg f_ha pr f_hr CT f_it CB : Addr} (X : K.In h) (G : h.Ns mainGlobals mg) (hfa : mg "law" = some (.ref fa))
    {od_f_int an_f_int : Option Addr} {sl_f_int : Array (Option Value)} {oc_f_int kV_f_int dc_f_int pm_f_int cd_f_int ct_f_int : Value}
    {od_f_num an_f_num : Option Addr} {sl_f_num : Array (Option Value)} {oc_f_num kV_f_num dc_f_num pm_f_num cd_f_num ct_f_num : Value}
    {od_f_amt an_f_amt : Option Addr} {sl_f_amt : Array (Option Value)} {oc_f_amt kV_f_amt dc_f_amt pm_f_amt cd_f_amt ct_f_amt : Value}
    {od_f_rn an_f_rn : Option Addr} {sl_f_rn : Array (Option Value)} {oc_f_rn kV_f_rn dc_f_rn pm_f_rn cd_f_rn ct_f_rn : Value}
    {od_f_ism an_f_ism : Option Addr} {sl_f_ism : Array (Option Value)} {oc_f_ism kV_f_ism dc_f_ism pm_f_ism cd_f_ism ct_f_ism : Value}
    {od_f_rms an_f_rms : Option Addr} {sl_f_rms : Array (Option Value)} {oc_f_rms kV_f_rms dc_f_rms pm_f_rms cd_f_rms ct_f_rms : Value}
    {od_f_rm an_f_rm : Option Addr} {sl_f_rm : Array (Option Value)} {oc_f_rm kV_f_rm dc_f_rm pm_f_rm cd_f_rm ct_f_rm : Value}
    {od_f_mo an_f_mo : Option Addr} {sl_f_mo : Array (Option Value)} {oc_f_mo kV_f_mo dc_f_mo pm_f_mo cd_f_mo ct_f_mo : Value}
    {od_f_seed an_f_seed : Option Addr} {sl_f_seed : Array (Option Value)} {oc_f_seed kV_f_seed dc_f_seed pm_f_seed cd_f_seed ct_f_seed : Value}
    {od_f_choose an_f_choose : Option Addr} {sl_f_choose : Array (Option Value)} {oc_f_choose kV_f_choose dc_f_choose pm_f_choose cd_f_choose ct_f_choose : Value}
    {od_f_one an_f_one : Option Addr} {sl_f_one : Array (Option Value)} {oc_f_one kV_f_one dc_f_one pm_f_one cd_f_one ct_f_one : Value}
    {od_f_am an_f_am : Option Addr} {sl_f_am : Array (Option Value)} {oc_f_am kV_f_am dc_f_am pm_f_am cd_f_am ct_f_am : Value}
    {od_f_mt an_f_mt : Option Addr} {sl_f_mt : Array (Option Value)} {oc_f_mt kV_f_mt dc_f_mt pm_f_mt cd_f_mt ct_f_mt : Value}
    {od_f_lt an_f_lt : Option Addr} {sl_f_lt : Array (Option Value)} {oc_f_lt kV_f_lt dc_f_lt pm_f_lt cd_f_lt ct_f_lt : Value}
    {od_f_dg an_f_dg : Option Addr} {sl_f_dg : Array (Option Value)} {oc_f_dg kV_f_dg dc_f_dg pm_f_dg cd_f_dg ct_f_dg : Value}
    {od_f_gd an_f_gd : Option Addr} {sl_f_gd : Array (Option Value)} {oc_f_gd kV_f_gd dc_f_gd pm_f_gd cd_f_gd ct_f_gd : Value}
    {od_f_rl an_f_rl : Option Addr} {sl_f_rl : Array (Option Value)} {oc_f_rl kV_f_rl dc_f_rl pm_f_rl cd_f_rl ct_f_rl : Value}
    {od_f_bt an_f_bt : Option Addr} {sl_f_bt : Array (Option Value)} {oc_f_bt kV_f_bt dc_f_bt pm_f_bt cd_f_bt ct_f_bt : Value}
    {od_f_law an_f_law : Option Addr} {sl_f_law : Array (Option Value)} {oc_f_law kV_f_law dc_f_law pm_f_law cd_f_law ct_f_law : Value}
    {nm_CM q_CM : Str} {N_CM : Addr} {bs_CM bm_CM : List Value} {sn_CM : List Str} {sub_CM : List Value} {ab_CM : Bool} {col_CM : Option Bool} {dd_CM : Option Addr} {m0_CM m1_CM m2_CM m3_CM m5_CM : Option Value}
    {od_f_im an_f_im : Option Addr} {sl_f_im : Array (Option Value)} {oc_f_im kV_f_im dc_f_im pm_f_im cd_f_im ct_f_im : Value}
    {od_f_bi an_f_bi : Option Addr} {sl_f_bi : Array (Option Value)} {oc_f_bi kV_f_bi dc_f_bi pm_f_bi cd_f_bi ct_f_bi : Value}
    {od_f_ti an_f_ti dd_f_ti : Option Addr} {sl_f_ti ds_f_ti : Array (Option Value)} {oc_f_ti kV_f_ti dc_f_ti pm_f_ti cd_f_ti ct_f_ti : Value} {T_f_ti : Addr} {n_f_ti : Nat}
    {od_f_ri an_f_ri : Option Addr} {sl_f_ri : Array (Option Value)} {oc_f_ri kV_f_ri dc_f_ri pm_f_ri cd_f_ri ct_f_ri : Value}
    {od_f_be an_f_be : Option Addr} {sl_f_be : Array (Option Value)} {oc_f_be kV_f_be dc_f_be pm_f_be cd_f_be ct_f_be : Value}
    {od_f_bs an_f_bs : Option Addr} {sl_f_bs : Array (Option Value)} {oc_f_bs kV_f_bs dc_f_bs pm_f_bs cd_f_bs ct_f_bs : Value}
    {od_f_te an_f_te : Option Addr} {sl_f_te : Array (Option Value)} {oc_f_te kV_f_te dc_f_te pm_f_te cd_f_te ct_f_te : Value}
    {od_f_ts an_f_ts : Option Addr} {sl_f_ts : Array (Option Value)} {oc_f_ts kV_f_ts dc_f_ts pm_f_ts cd_f_ts ct_f_ts : Value}
    {od_f_re an_f_re : Option Addr} {sl_f_re : Array (Option Value)} {oc_f_re kV_f_re dc_f_re pm_f_re cd_f_re ct_f_re : Value}
    {od_f_rs an_f_rs : Option Addr} {sl_f_rs : Array (Option Value)} {oc_f_rs kV_f_rs dc_f_rs pm_f_rs cd_f_rs ct_f_rs : Value}
    {od_f_se an_f_se : Option Addr} {sl_f_se : Array (Option Value)} {oc_f_se kV_f_se dc_f_se pm_f_se cd_f_se ct_f_se : Value}
    {od_f_ss an_f_ss : Option Addr} {sl_f_ss : Array (Option Value)} {oc_f_ss kV_f_ss dc_f_ss pm_f_ss cd_f_ss ct_f_ss : Value}
    {od_f_hi an_f_hi dd_f_hi : Option Addr} {sl_f_hi ds_f_hi : Array (Option Value)} {oc_f_hi kV_f_hi dc_f_hi pm_f_hi cd_f_hi ct_f_hi : Value} {T_f_hi : Addr} {n_f_hi : Nat}
    {dd_e : Option Addr} {n_e : Nat} {ds_e : Array (Option Value)}
    {od_f_he an_f_he : Option Addr} {sl_f_he : Array (Option Value)} {oc_f_he kV_f_he dc_f_he pm_f_he cd_f_he ct_f_he : Value}
    {od_f_hs an_f_hs : Option Addr} {sl_f_hs : Array (Option Value)} {oc_f_hs kV_f_hs dc_f_hs pm_f_hs cd_f_hs ct_f_hs : Value}
    {od_f_hl an_f_hl : Option Addr} {sl_f_hl : Array (Option Value)} {oc_f_hl kV_f_hl dc_f_hl pm_f_hl cd_f_hl ct_f_hl : Value}
    {od_f_hg an_f_hg : Option Addr} {sl_f_hg : Array (Option Value)} {oc_f_hg kV_f_hg dc_f_hg pm_f_hg cd_f_hg ct_f_hg : Value}
    {od_f_ha an_f_ha : Option Addr} {sl_f_ha : Array (Option Value)} {oc_f_ha kV_f_ha dc_f_ha pm_f_ha cd_f_ha ct_f_ha : Value}
    {oc_BC : Value} {od_BC : Option Addr} {cd_BC : ClassData} {sl_BC : Array (Option Value)}
    {oc_TC : Value} {od_TC : Option Addr} {cd_TC : ClassData} {sl_TC : Array (Option Value)}
    {oc_RC : Value} {od_RC : Option Addr} {cd_RC : ClassData} {sl_RC : Array (Option Value)}
    {oc_SC : Value} {od_SC : Option Addr} {cd_SC : ClassData} {sl_SC : Array (Option Value)}
    {oc_HC : Value} {od_HC : Option Addr} {cd_HC : ClassData} {sl_HC : Array (Option Value)}
    {rest_hr : List Value}
    {od_f_hr an_f_hr : Option Addr} {sl_f_hr : Array (Option Value)} {oc_f_hr kV_f_hr dc_f_hr pm_f_hr cd_f_hr ct_f_hr : Value}
    {nm_CT q_CT : Str} {N_CT : Addr} {bs_CT bm_CT : List Value} {sn_CT : List Str} {sub_CT : List Value} {ab_CT : Bool} {col_CT : Option Bool} {dd_CT : Option Addr} {m0_CT m1_CT m2_CT m3_CT m5_CT : Option Value}
    {od_f_it an_f_it : Option Addr} {sl_f_it : Array (Option Value)} {oc_f_it kV_f_it dc_f_it pm_f_it cd_f_it ct_f_it : Value}
    (g_f_int : PySem.W.nsIn K mainGlobals "is_integer" = some (some (.ref f_int)))
    (l_f_int : K.lookup f_int = some ⟨oc_f_int, od_f_int, .func (PySem.W.fnOf "is_integer" "is_integer" (defArgs sIsInt) (defBody sIsInt) (defScope sIsInt) .none kV_f_int dc_f_int pm_f_int an_f_int cd_f_int ct_f_int), sl_f_int⟩)
    (c_f_int : PySem.W.codeIn K cd_f_int "is_integer" = true)
    (k_f_int : PySem.W.keepIn K (.ref f_int) = true)
    (g_f_num : PySem.W.nsIn K mainGlobals "is_number" = some (some (.ref f_num)))
    (l_f_num : K.lookup f_num = some ⟨oc_f_num, od_f_num, .func (PySem.W.fnOf "is_number" "is_number" (defArgs sIsNum) (defBody sIsNum) (defScope sIsNum) .none kV_f_num dc_f_num pm_f_num an_f_num cd_f_num ct_f_num), sl_f_num⟩)
    (c_f_num : PySem.W.codeIn K cd_f_num "is_number" = true)
    (k_f_num : PySem.W.keepIn K (.ref f_num) = true)
    (g_f_amt : PySem.W.nsIn K mainGlobals "is_amount" = some (some (.ref f_amt)))
    (l_f_amt : K.lookup f_amt = some ⟨oc_f_amt, od_f_amt, .func (PySem.W.fnOf "is_amount" "is_amount" (defArgs sIsAmt) (defBody sIsAmt) (defScope sIsAmt) .none kV_f_amt dc_f_amt pm_f_amt an_f_amt cd_f_amt ct_f_amt), sl_f_amt⟩)
    (c_f_amt : PySem.W.codeIn K cd_f_amt "is_amount" = true)
    (k_f_amt : PySem.W.keepIn K (.ref f_amt) = true)
    (g_f_rn : PySem.W.nsIn K mainGlobals "read_number" = some (some (.ref f_rn)))
    (l_f_rn : K.lookup f_rn = some ⟨oc_f_rn, od_f_rn, .func (PySem.W.fnOf "read_number" "read_number" (defArgs sReadNumber) (defBody sReadNumber) (defScope sReadNumber) .none kV_f_rn dc_f_rn pm_f_rn an_f_rn cd_f_rn ct_f_rn), sl_f_rn⟩)
    (c_f_rn : PySem.W.codeIn K cd_f_rn "read_number" = true)
    (k_f_rn : PySem.W.keepIn K (.ref f_rn) = true)
    (g_f_ism : PySem.W.nsIn K mainGlobals "is_moves" = some (some (.ref f_ism)))
    (l_f_ism : K.lookup f_ism = some ⟨oc_f_ism, od_f_ism, .func (PySem.W.fnOf "is_moves" "is_moves" (defArgs sIsMoves) (defBody sIsMoves) (defScope sIsMoves) .none kV_f_ism dc_f_ism pm_f_ism an_f_ism cd_f_ism ct_f_ism), sl_f_ism⟩)
    (c_f_ism : PySem.W.codeIn K cd_f_ism "is_moves" = true)
    (k_f_ism : PySem.W.keepIn K (.ref f_ism) = true)
    (g_f_rms : PySem.W.nsIn K mainGlobals "read_moves" = some (some (.ref f_rms)))
    (l_f_rms : K.lookup f_rms = some ⟨oc_f_rms, od_f_rms, .func (PySem.W.fnOf "read_moves" "read_moves" (defArgs sReadMoves) (defBody sReadMoves) (defScope sReadMoves) .none kV_f_rms dc_f_rms pm_f_rms an_f_rms cd_f_rms ct_f_rms), sl_f_rms⟩)
    (c_f_rms : PySem.W.codeIn K cd_f_rms "read_moves" = true)
    (k_f_rms : PySem.W.keepIn K (.ref f_rms) = true)
    (g_f_rm : PySem.W.nsIn K mainGlobals "read_move" = some (some (.ref f_rm)))
    (l_f_rm : K.lookup f_rm = some ⟨oc_f_rm, od_f_rm, .func (PySem.W.fnOf "read_move" "read_move" (defArgs sReadMove) (defBody sReadMove) (defScope sReadMove) .none kV_f_rm dc_f_rm pm_f_rm an_f_rm cd_f_rm ct_f_rm), sl_f_rm⟩)
    (c_f_rm : PySem.W.codeIn K cd_f_rm "read_move" = true)
    (k_f_rm : PySem.W.keepIn K (.ref f_rm) = true)
    (g_f_mo : PySem.W.nsIn K mainGlobals "move_of" = some (some (.ref f_mo)))
    (l_f_mo : K.lookup f_mo = some ⟨oc_f_mo, od_f_mo, .func (PySem.W.fnOf "move_of" "move_of" (defArgs sMoveOf) (defBody sMoveOf) (defScope sMoveOf) .none kV_f_mo dc_f_mo pm_f_mo an_f_mo cd_f_mo ct_f_mo), sl_f_mo⟩)
    (c_f_mo : PySem.W.codeIn K cd_f_mo "move_of" = true)
    (k_f_mo : PySem.W.keepIn K (.ref f_mo) = true)
    (g_f_seed : PySem.W.nsIn K mainGlobals "_law_seed" = some (some (.ref f_seed)))
    (l_f_seed : K.lookup f_seed = some ⟨oc_f_seed, od_f_seed, .func (PySem.W.fnOf "_law_seed" "_law_seed" (defArgs sSeed) (defBody sSeed) (defScope sSeed) .none kV_f_seed dc_f_seed pm_f_seed an_f_seed cd_f_seed ct_f_seed), sl_f_seed⟩)
    (c_f_seed : PySem.W.codeIn K cd_f_seed "_law_seed" = true)
    (k_f_seed : PySem.W.keepIn K (.ref f_seed) = true)
    (g_f_choose : PySem.W.nsIn K mainGlobals "_law_choose" = some (some (.ref f_choose)))
    (l_f_choose : K.lookup f_choose = some ⟨oc_f_choose, od_f_choose, .func (PySem.W.fnOf "_law_choose" "_law_choose" (defArgs sChoose) (defBody sChoose) (defScope sChoose) .none kV_f_choose dc_f_choose pm_f_choose an_f_choose cd_f_choose ct_f_choose), sl_f_choose⟩)
    (c_f_choose : PySem.W.codeIn K cd_f_choose "_law_choose" = true)
    (k_f_choose : PySem.W.keepIn K (.ref f_choose) = true)
    (g_f_one : PySem.W.nsIn K mainGlobals "_law_one_of" = some (some (.ref f_one)))
    (l_f_one : K.lookup f_one = some ⟨oc_f_one, od_f_one, .func (PySem.W.fnOf "_law_one_of" "_law_one_of" (defArgs sOneOf) (defBody sOneOf) (defScope sOneOf) .none kV_f_one dc_f_one pm_f_one an_f_one cd_f_one ct_f_one), sl_f_one⟩)
    (c_f_one : PySem.W.codeIn K cd_f_one "_law_one_of" = true)
    (k_f_one : PySem.W.keepIn K (.ref f_one) = true)
    (g_f_am : PySem.W.nsIn K mainGlobals "_law_any_move" = some (some (.ref f_am)))
    (l_f_am : K.lookup f_am = some ⟨oc_f_am, od_f_am, .func (PySem.W.fnOf "_law_any_move" "_law_any_move" (defArgs sAnyMove) (defBody sAnyMove) (defScope sAnyMove) .none kV_f_am dc_f_am pm_f_am an_f_am cd_f_am ct_f_am), sl_f_am⟩)
    (c_f_am : PySem.W.codeIn K cd_f_am "_law_any_move" = true)
    (k_f_am : PySem.W.keepIn K (.ref f_am) = true)
    (g_f_mt : PySem.W.nsIn K mainGlobals "_law_move_text" = some (some (.ref f_mt)))
    (l_f_mt : K.lookup f_mt = some ⟨oc_f_mt, od_f_mt, .func (PySem.W.fnOf "_law_move_text" "_law_move_text" (defArgs sMvText) (defBody sMvText) (defScope sMvText) .none kV_f_mt dc_f_mt pm_f_mt an_f_mt cd_f_mt ct_f_mt), sl_f_mt⟩)
    (c_f_mt : PySem.W.codeIn K cd_f_mt "_law_move_text" = true)
    (k_f_mt : PySem.W.keepIn K (.ref f_mt) = true)
    (g_f_lt : PySem.W.nsIn K mainGlobals "_law_text" = some (some (.ref f_lt)))
    (l_f_lt : K.lookup f_lt = some ⟨oc_f_lt, od_f_lt, .func (PySem.W.fnOf "_law_text" "_law_text" (defArgs sLawTextP) (defBody sLawTextP) (defScope sLawTextP) .none kV_f_lt dc_f_lt pm_f_lt an_f_lt cd_f_lt ct_f_lt), sl_f_lt⟩)
    (c_f_lt : PySem.W.codeIn K cd_f_lt "_law_text" = true)
    (k_f_lt : PySem.W.keepIn K (.ref f_lt) = true)
    (g_f_dg : PySem.W.nsIn K mainGlobals "_law_is_digits" = some (some (.ref f_dg)))
    (l_f_dg : K.lookup f_dg = some ⟨oc_f_dg, od_f_dg, .func (PySem.W.fnOf "_law_is_digits" "_law_is_digits" (defArgs sIsDigits) (defBody sIsDigits) (defScope sIsDigits) .none kV_f_dg dc_f_dg pm_f_dg an_f_dg cd_f_dg ct_f_dg), sl_f_dg⟩)
    (c_f_dg : PySem.W.codeIn K cd_f_dg "_law_is_digits" = true)
    (k_f_dg : PySem.W.keepIn K (.ref f_dg) = true)
    (g_f_gd : PySem.W.nsIn K mainGlobals "_law_is_good" = some (some (.ref f_gd)))
    (l_f_gd : K.lookup f_gd = some ⟨oc_f_gd, od_f_gd, .func (PySem.W.fnOf "_law_is_good" "_law_is_good" (defArgs sIsGood) (defBody sIsGood) (defScope sIsGood) .none kV_f_gd dc_f_gd pm_f_gd an_f_gd cd_f_gd ct_f_gd), sl_f_gd⟩)
    (c_f_gd : PySem.W.codeIn K cd_f_gd "_law_is_good" = true)
    (k_f_gd : PySem.W.keepIn K (.ref f_gd) = true)
    (g_f_rl : PySem.W.nsIn K mainGlobals "_law_read" = some (some (.ref f_rl)))
    (l_f_rl : K.lookup f_rl = some ⟨oc_f_rl, od_f_rl, .func (PySem.W.fnOf "_law_read" "_law_read" (defArgs sReadL) (defBody sReadL) (defScope sReadL) .none kV_f_rl dc_f_rl pm_f_rl an_f_rl cd_f_rl ct_f_rl), sl_f_rl⟩)
    (c_f_rl : PySem.W.codeIn K cd_f_rl "_law_read" = true)
    (k_f_rl : PySem.W.keepIn K (.ref f_rl) = true)
    (g_f_bt : PySem.W.nsIn K mainGlobals "_law_bent" = some (some (.ref f_bt)))
    (l_f_bt : K.lookup f_bt = some ⟨oc_f_bt, od_f_bt, .func (PySem.W.fnOf "_law_bent" "_law_bent" (defArgs sBent) (defBody sBent) (defScope sBent) .none kV_f_bt dc_f_bt pm_f_bt an_f_bt cd_f_bt ct_f_bt), sl_f_bt⟩)
    (c_f_bt : PySem.W.codeIn K cd_f_bt "_law_bent" = true)
    (k_f_bt : PySem.W.keepIn K (.ref f_bt) = true)
    (g_f_law : PySem.W.nsIn K mainGlobals "law" = some (some (.ref f_law)))
    (l_f_law : K.lookup f_law = some ⟨oc_f_law, od_f_law, .func (PySem.W.fnOf "law" "law" (defArgs sLaw) (defBody sLaw) (defScope sLaw) .none kV_f_law dc_f_law pm_f_law an_f_law cd_f_law ct_f_law), sl_f_law⟩)
    (c_f_law : PySem.W.codeIn K cd_f_law "law" = true)
    (k_f_law : PySem.W.keepIn K (.ref f_law) = true)
    (g_CM : PySem.W.nsIn K mainGlobals "InvalidMove" = some (some (.ref CM)))
    (g_MV : PySem.W.nsIn K mainGlobals "Move" = some (some (.ref MV)))
    (g_BC : PySem.W.nsIn K mainGlobals "Begin" = some (some (.ref BC)))
    (g_TC : PySem.W.nsIn K mainGlobals "Take" = some (some (.ref TC)))
    (g_RC : PySem.W.nsIn K mainGlobals "Right" = some (some (.ref RC)))
    (g_SC : PySem.W.nsIn K mainGlobals "Shut" = some (some (.ref SC)))
    (g_HC : PySem.W.nsIn K mainGlobals "History" = some (some (.ref HC)))
    (x_CM : K.lookup CM = some (PySem.excClassObj nm_CM q_CM CM N_CM bs_CM bm_CM true sn_CM sub_CM ab_CM col_CM dd_CM m0_CM m1_CM m2_CM m3_CM m5_CM "ValueError.__new__"))
    (xb_CM : PySem.HandSPX.refsVE bm_CM = true)
    (xsa_CM : PySem.W.findIn K (.ref CM) "__setattr__" = some (some (.builtin "object.__setattr__")))
    (xga_CM : PySem.W.findIn K (.ref CM) "__getattribute__" = some (some (.builtin "BaseException.__getattribute__")))
    (xgg_CM : PySem.W.findIn K (.ref CM) "__getattr__" = some none)
    (xex_CM : PySem.W.subIn K (.ref CM) (.type "BaseException") = some true)
    (xty_CM : PySem.W.typeIn K (.ref CM) = some (.type "type"))
    (xkc_CM : PySem.W.keepIn K (.ref CM) = true)
    (xhd_CM : PySem.W.hasDictIn K CM = true)
    (xis_CM : PySem.W.isClsIn K CM = true)
    (xca_CM : PySem.W.findIn K (.ref CM) "__class__" = some (some (.builtin "object.__class__")))
    (xgn_CM : PySem.W.specialIn K (.builtin "object.__class__") "__get__" = some (some (.builtin "getset_descriptor.__get__")))
    (xtk_CM : PySem.W.takesIn K (.builtin "object.__class__") = some true)
    (xmo_CM : PySem.W.mroIn K CM (.type "object") = some true)
    (xss_CM : PySem.W.subIn K (.ref CM) (.ref CM) = some true)
    (no_CM_word : PySem.W.findIn K (.ref CM) "word" = some none)
    (a_f_im : PySem.W.findIn K (.ref CM) "__init__" = some (some (.ref f_im)))
    (tf_im : PySem.W.typeIn K (.ref f_im) = some (.type "function"))
    (l_f_im : K.lookup f_im = some ⟨oc_f_im, od_f_im, .func (PySem.W.fnOf "__init__" "InvalidMove.__init__" (defArgs sImInit) (defBody sImInit) (defScope sImInit) .none kV_f_im dc_f_im pm_f_im an_f_im cd_f_im ct_f_im), sl_f_im⟩)
    (c_f_im : PySem.W.codeIn K cd_f_im "InvalidMove.__init__" = true)
    (k_f_im : PySem.W.keepIn K (.ref f_im) = true)
    (is_MV : PySem.W.isClsIn K MV = true)
    (ty_MV : PySem.W.typeIn K (.ref MV) = some (.type "type"))
    (ic_HC : PySem.W.isClsIn K HC = true)
    (tc_HC : PySem.W.typeIn K (.ref HC) = some (.type "type"))
    (pg_BC : PySem.W.plainGet K BC Str.empty = true)
    (hd_BC : PySem.W.hasDictIn K BC = true)
    (po_BC : PySem.W.plainOver K BC = true)
    (sa_BC : PySem.W.findIn K (.ref BC) "__setattr__" = some (some (.builtin "object.__setattr__")))
    (mk_BC : PySem.W.makesIn K BC = true)
    (kc_BC : PySem.W.keepIn K (.ref BC) = true)
    (ca_BC : PySem.W.findIn K (.ref BC) "__class__" = some (some (.builtin "object.__class__")))
    (mo_BC : PySem.W.mroIn K BC (.type "object") = some true)
    (ss_BC : PySem.W.subIn K (.ref BC) (.ref BC) = some true)
    (ne_BC : PySem.W.findIn K (.ref BC) "__ne__" = some (some (.builtin "object.__ne__")))
    (ob_BC : PySem.W.subIn K (.ref BC) (.type "object") = some true)
    (pg_TC : PySem.W.plainGet K TC Str.empty = true)
    (hd_TC : PySem.W.hasDictIn K TC = true)
    (po_TC : PySem.W.plainOver K TC = true)
    (sa_TC : PySem.W.findIn K (.ref TC) "__setattr__" = some (some (.builtin "object.__setattr__")))
    (mk_TC : PySem.W.makesIn K TC = true)
    (kc_TC : PySem.W.keepIn K (.ref TC) = true)
    (ca_TC : PySem.W.findIn K (.ref TC) "__class__" = some (some (.builtin "object.__class__")))
    (mo_TC : PySem.W.mroIn K TC (.type "object") = some true)
    (ss_TC : PySem.W.subIn K (.ref TC) (.ref TC) = some true)
    (ne_TC : PySem.W.findIn K (.ref TC) "__ne__" = some (some (.builtin "object.__ne__")))
    (ob_TC : PySem.W.subIn K (.ref TC) (.type "object") = some true)
    (pg_RC : PySem.W.plainGet K RC Str.empty = true)
    (hd_RC : PySem.W.hasDictIn K RC = true)
    (po_RC : PySem.W.plainOver K RC = true)
    (sa_RC : PySem.W.findIn K (.ref RC) "__setattr__" = some (some (.builtin "object.__setattr__")))
    (mk_RC : PySem.W.makesIn K RC = true)
    (kc_RC : PySem.W.keepIn K (.ref RC) = true)
    (ca_RC : PySem.W.findIn K (.ref RC) "__class__" = some (some (.builtin "object.__class__")))
    (mo_RC : PySem.W.mroIn K RC (.type "object") = some true)
    (ss_RC : PySem.W.subIn K (.ref RC) (.ref RC) = some true)
    (ne_RC : PySem.W.findIn K (.ref RC) "__ne__" = some (some (.builtin "object.__ne__")))
    (ob_RC : PySem.W.subIn K (.ref RC) (.type "object") = some true)
    (pg_SC : PySem.W.plainGet K SC Str.empty = true)
    (hd_SC : PySem.W.hasDictIn K SC = true)
    (po_SC : PySem.W.plainOver K SC = true)
    (sa_SC : PySem.W.findIn K (.ref SC) "__setattr__" = some (some (.builtin "object.__setattr__")))
    (mk_SC : PySem.W.makesIn K SC = true)
    (kc_SC : PySem.W.keepIn K (.ref SC) = true)
    (ca_SC : PySem.W.findIn K (.ref SC) "__class__" = some (some (.builtin "object.__class__")))
    (mo_SC : PySem.W.mroIn K SC (.type "object") = some true)
    (ss_SC : PySem.W.subIn K (.ref SC) (.ref SC) = some true)
    (ne_SC : PySem.W.findIn K (.ref SC) "__ne__" = some (some (.builtin "object.__ne__")))
    (ob_SC : PySem.W.subIn K (.ref SC) (.type "object") = some true)
    (pg_HC : PySem.W.plainGet K HC Str.empty = true)
    (hd_HC : PySem.W.hasDictIn K HC = true)
    (po_HC : PySem.W.plainOver K HC = true)
    (sa_HC : PySem.W.findIn K (.ref HC) "__setattr__" = some (some (.builtin "object.__setattr__")))
    (mk_HC : PySem.W.makesIn K HC = true)
    (kc_HC : PySem.W.keepIn K (.ref HC) = true)
    (ca_HC : PySem.W.findIn K (.ref HC) "__class__" = some (some (.builtin "object.__class__")))
    (mo_HC : PySem.W.mroIn K HC (.type "object") = some true)
    (ss_HC : PySem.W.subIn K (.ref HC) (.ref HC) = some true)
    (ne_HC : PySem.W.findIn K (.ref HC) "__ne__" = some (some (.builtin "object.__ne__")))
    (ob_HC : PySem.W.subIn K (.ref HC) (.type "object") = some true)
    (sm_BC : PySem.W.subIn K (.ref BC) (.ref MV) = some true)
    (su_BC_HC : PySem.W.subIn K (.ref BC) (.ref HC) = some false)
    (su_TC_BC : PySem.W.subIn K (.ref TC) (.ref BC) = some false)
    (su_RC_BC : PySem.W.subIn K (.ref RC) (.ref BC) = some false)
    (su_SC_BC : PySem.W.subIn K (.ref SC) (.ref BC) = some false)
    (sm_TC : PySem.W.subIn K (.ref TC) (.ref MV) = some true)
    (su_TC_HC : PySem.W.subIn K (.ref TC) (.ref HC) = some false)
    (su_BC_TC : PySem.W.subIn K (.ref BC) (.ref TC) = some false)
    (su_RC_TC : PySem.W.subIn K (.ref RC) (.ref TC) = some false)
    (su_SC_TC : PySem.W.subIn K (.ref SC) (.ref TC) = some false)
    (sm_RC : PySem.W.subIn K (.ref RC) (.ref MV) = some true)
    (su_RC_HC : PySem.W.subIn K (.ref RC) (.ref HC) = some false)
    (su_BC_RC : PySem.W.subIn K (.ref BC) (.ref RC) = some false)
    (su_TC_RC : PySem.W.subIn K (.ref TC) (.ref RC) = some false)
    (su_SC_RC : PySem.W.subIn K (.ref SC) (.ref RC) = some false)
    (sm_SC : PySem.W.subIn K (.ref SC) (.ref MV) = some true)
    (su_SC_HC : PySem.W.subIn K (.ref SC) (.ref HC) = some false)
    (su_BC_SC : PySem.W.subIn K (.ref BC) (.ref SC) = some false)
    (su_TC_SC : PySem.W.subIn K (.ref TC) (.ref SC) = some false)
    (su_RC_SC : PySem.W.subIn K (.ref RC) (.ref SC) = some false)
    (no_BC_amount : PySem.W.findIn K (.ref BC) "amount" = some none)
    (no_TC_at : PySem.W.findIn K (.ref TC) "at" = some none)
    (no_TC_amount : PySem.W.findIn K (.ref TC) "amount" = some none)
    (no_RC_at : PySem.W.findIn K (.ref RC) "at" = some none)
    (no_RC_amount : PySem.W.findIn K (.ref RC) "amount" = some none)
    (no_HC_moves : PySem.W.findIn K (.ref HC) "moves" = some none)
    (a_f_bi : PySem.W.findIn K (.ref BC) "__init__" = some (some (.ref f_bi)))
    (i_f_bi : PySem.W.isFn K (.ref f_bi) = true)
    (l_f_bi : K.lookup f_bi = some ⟨oc_f_bi, od_f_bi, .func (PySem.W.fnOf "__init__" "Begin.__init__" (defArgs sBInit) (defBody sBInit) (defScope sBInit) .none kV_f_bi dc_f_bi pm_f_bi an_f_bi cd_f_bi ct_f_bi), sl_f_bi⟩)
    (c_f_bi : PySem.W.codeIn K cd_f_bi "Begin.__init__" = true)
    (k_f_bi : PySem.W.keepIn K (.ref f_bi) = true)
    (a_f_ti : PySem.W.findIn K (.ref TC) "__init__" = some (some (.ref f_ti)))
    (i_f_ti : PySem.W.isFn K (.ref f_ti) = true)
    (l_f_ti : K.lookup f_ti = some ⟨oc_f_ti, od_f_ti, .func (PySem.W.fnOf "__init__" "Take.__init__" (defArgs sTInit) (defBody sTInit) (defScope sTInit) (.ref T_f_ti) kV_f_ti dc_f_ti pm_f_ti an_f_ti cd_f_ti ct_f_ti), sl_f_ti⟩)
    (c_f_ti : PySem.W.codeIn K cd_f_ti "Take.__init__" = true)
    (k_f_ti : PySem.W.keepIn K (.ref f_ti) = true)
    (t_f_ti : K.lookup T_f_ti = some ⟨.type "tuple", dd_f_ti, .seq #[.none] n_f_ti, ds_f_ti⟩)
    (a_f_ri : PySem.W.findIn K (.ref RC) "__init__" = some (some (.ref f_ri)))
    (i_f_ri : PySem.W.isFn K (.ref f_ri) = true)
    (l_f_ri : K.lookup f_ri = some ⟨oc_f_ri, od_f_ri, .func (PySem.W.fnOf "__init__" "Right.__init__" (defArgs sRInit) (defBody sRInit) (defScope sRInit) .none kV_f_ri dc_f_ri pm_f_ri an_f_ri cd_f_ri ct_f_ri), sl_f_ri⟩)
    (c_f_ri : PySem.W.codeIn K cd_f_ri "Right.__init__" = true)
    (k_f_ri : PySem.W.keepIn K (.ref f_ri) = true)
    (a_f_be : PySem.W.findIn K (.ref BC) "__eq__" = some (some (.ref f_be)))
    (i_f_be : PySem.W.isFn K (.ref f_be) = true)
    (l_f_be : K.lookup f_be = some ⟨oc_f_be, od_f_be, .func (PySem.W.fnOf "__eq__" "Begin.__eq__" (defArgs sBEq) (defBody sBEq) (defScope sBEq) .none kV_f_be dc_f_be pm_f_be an_f_be cd_f_be ct_f_be), sl_f_be⟩)
    (c_f_be : PySem.W.codeIn K cd_f_be "Begin.__eq__" = true)
    (k_f_be : PySem.W.keepIn K (.ref f_be) = true)
    (a_f_bs : PySem.W.findIn K (.ref BC) "__str__" = some (some (.ref f_bs)))
    (i_f_bs : PySem.W.isFn K (.ref f_bs) = true)
    (l_f_bs : K.lookup f_bs = some ⟨oc_f_bs, od_f_bs, .func (PySem.W.fnOf "__str__" "Begin.__str__" (defArgs sBStr) (defBody sBStr) (defScope sBStr) .none kV_f_bs dc_f_bs pm_f_bs an_f_bs cd_f_bs ct_f_bs), sl_f_bs⟩)
    (c_f_bs : PySem.W.codeIn K cd_f_bs "Begin.__str__" = true)
    (k_f_bs : PySem.W.keepIn K (.ref f_bs) = true)
    (a_f_te : PySem.W.findIn K (.ref TC) "__eq__" = some (some (.ref f_te)))
    (i_f_te : PySem.W.isFn K (.ref f_te) = true)
    (l_f_te : K.lookup f_te = some ⟨oc_f_te, od_f_te, .func (PySem.W.fnOf "__eq__" "Take.__eq__" (defArgs sTEq) (defBody sTEq) (defScope sTEq) .none kV_f_te dc_f_te pm_f_te an_f_te cd_f_te ct_f_te), sl_f_te⟩)
    (c_f_te : PySem.W.codeIn K cd_f_te "Take.__eq__" = true)
    (k_f_te : PySem.W.keepIn K (.ref f_te) = true)
    (a_f_ts : PySem.W.findIn K (.ref TC) "__str__" = some (some (.ref f_ts)))
    (i_f_ts : PySem.W.isFn K (.ref f_ts) = true)
    (l_f_ts : K.lookup f_ts = some ⟨oc_f_ts, od_f_ts, .func (PySem.W.fnOf "__str__" "Take.__str__" (defArgs sTStr) (defBody sTStr) (defScope sTStr) .none kV_f_ts dc_f_ts pm_f_ts an_f_ts cd_f_ts ct_f_ts), sl_f_ts⟩)
    (c_f_ts : PySem.W.codeIn K cd_f_ts "Take.__str__" = true)
    (k_f_ts : PySem.W.keepIn K (.ref f_ts) = true)
    (a_f_re : PySem.W.findIn K (.ref RC) "__eq__" = some (some (.ref f_re)))
    (i_f_re : PySem.W.isFn K (.ref f_re) = true)
    (l_f_re : K.lookup f_re = some ⟨oc_f_re, od_f_re, .func (PySem.W.fnOf "__eq__" "Right.__eq__" (defArgs sREq) (defBody sREq) (defScope sREq) .none kV_f_re dc_f_re pm_f_re an_f_re cd_f_re ct_f_re), sl_f_re⟩)
    (c_f_re : PySem.W.codeIn K cd_f_re "Right.__eq__" = true)
    (k_f_re : PySem.W.keepIn K (.ref f_re) = true)
    (a_f_rs : PySem.W.findIn K (.ref RC) "__str__" = some (some (.ref f_rs)))
    (i_f_rs : PySem.W.isFn K (.ref f_rs) = true)
    (l_f_rs : K.lookup f_rs = some ⟨oc_f_rs, od_f_rs, .func (PySem.W.fnOf "__str__" "Right.__str__" (defArgs sRStr) (defBody sRStr) (defScope sRStr) .none kV_f_rs dc_f_rs pm_f_rs an_f_rs cd_f_rs ct_f_rs), sl_f_rs⟩)
    (c_f_rs : PySem.W.codeIn K cd_f_rs "Right.__str__" = true)
    (k_f_rs : PySem.W.keepIn K (.ref f_rs) = true)
    (a_f_se : PySem.W.findIn K (.ref SC) "__eq__" = some (some (.ref f_se)))
    (i_f_se : PySem.W.isFn K (.ref f_se) = true)
    (l_f_se : K.lookup f_se = some ⟨oc_f_se, od_f_se, .func (PySem.W.fnOf "__eq__" "Shut.__eq__" (defArgs sSEq) (defBody sSEq) (defScope sSEq) .none kV_f_se dc_f_se pm_f_se an_f_se cd_f_se ct_f_se), sl_f_se⟩)
    (c_f_se : PySem.W.codeIn K cd_f_se "Shut.__eq__" = true)
    (k_f_se : PySem.W.keepIn K (.ref f_se) = true)
    (a_f_ss : PySem.W.findIn K (.ref SC) "__str__" = some (some (.ref f_ss)))
    (i_f_ss : PySem.W.isFn K (.ref f_ss) = true)
    (l_f_ss : K.lookup f_ss = some ⟨oc_f_ss, od_f_ss, .func (PySem.W.fnOf "__str__" "Shut.__str__" (defArgs sSStr) (defBody sSStr) (defScope sSStr) .none kV_f_ss dc_f_ss pm_f_ss an_f_ss cd_f_ss ct_f_ss), sl_f_ss⟩)
    (c_f_ss : PySem.W.codeIn K cd_f_ss "Shut.__str__" = true)
    (k_f_ss : PySem.W.keepIn K (.ref f_ss) = true)
    (oi_SC : PySem.W.findIn K (.ref SC) "__init__" = some (some (.builtin "object.__init__")))
    (a_f_hi : PySem.W.findIn K (.ref HC) "__init__" = some (some (.ref f_hi)))
    (i_f_hi : PySem.W.isFn K (.ref f_hi) = true)
    (l_f_hi : K.lookup f_hi = some ⟨oc_f_hi, od_f_hi, .func (PySem.W.fnOf "__init__" "History.__init__" (defArgs sHInit) (defBody sHInit) (defScope sHInit) (.ref T_f_hi) kV_f_hi dc_f_hi pm_f_hi an_f_hi cd_f_hi ct_f_hi), sl_f_hi⟩)
    (c_f_hi : PySem.W.codeIn K cd_f_hi "History.__init__" = true)
    (k_f_hi : PySem.W.keepIn K (.ref f_hi) = true)
    (t_f_hi : K.lookup T_f_hi = some ⟨.type "tuple", dd_f_hi, .seq #[.ref e_hi] n_f_hi, ds_f_hi⟩)
    (q_e : K.lookup e_hi = some ⟨.type "tuple", dd_e, .seq #[] n_e, ds_e⟩)
    (a_f_he : PySem.W.findIn K (.ref HC) "__eq__" = some (some (.ref f_he)))
    (i_f_he : PySem.W.isFn K (.ref f_he) = true)
    (l_f_he : K.lookup f_he = some ⟨oc_f_he, od_f_he, .func (PySem.W.fnOf "__eq__" "History.__eq__" (defArgs sHEq) (defBody sHEq) (defScope sHEq) .none kV_f_he dc_f_he pm_f_he an_f_he cd_f_he ct_f_he), sl_f_he⟩)
    (c_f_he : PySem.W.codeIn K cd_f_he "History.__eq__" = true)
    (k_f_he : PySem.W.keepIn K (.ref f_he) = true)
    (a_f_hs : PySem.W.findIn K (.ref HC) "__str__" = some (some (.ref f_hs)))
    (i_f_hs : PySem.W.isFn K (.ref f_hs) = true)
    (l_f_hs : K.lookup f_hs = some ⟨oc_f_hs, od_f_hs, .func (PySem.W.fnOf "__str__" "History.__str__" (defArgs sHStr) (defBody sHStr) (defScope sHStr) .none kV_f_hs dc_f_hs pm_f_hs an_f_hs cd_f_hs ct_f_hs), sl_f_hs⟩)
    (c_f_hs : PySem.W.codeIn K cd_f_hs "History.__str__" = true)
    (k_f_hs : PySem.W.keepIn K (.ref f_hs) = true)
    (a_f_hl : PySem.W.findIn K (.ref HC) "__len__" = some (some (.ref f_hl)))
    (i_f_hl : PySem.W.isFn K (.ref f_hl) = true)
    (l_f_hl : K.lookup f_hl = some ⟨oc_f_hl, od_f_hl, .func (PySem.W.fnOf "__len__" "History.__len__" (defArgs sHLen) (defBody sHLen) (defScope sHLen) .none kV_f_hl dc_f_hl pm_f_hl an_f_hl cd_f_hl ct_f_hl), sl_f_hl⟩)
    (c_f_hl : PySem.W.codeIn K cd_f_hl "History.__len__" = true)
    (k_f_hl : PySem.W.keepIn K (.ref f_hl) = true)
    (a_f_hg : PySem.W.findIn K (.ref HC) "__getitem__" = some (some (.ref f_hg)))
    (i_f_hg : PySem.W.isFn K (.ref f_hg) = true)
    (l_f_hg : K.lookup f_hg = some ⟨oc_f_hg, od_f_hg, .func (PySem.W.fnOf "__getitem__" "History.__getitem__" (defArgs sHGet) (defBody sHGet) (defScope sHGet) .none kV_f_hg dc_f_hg pm_f_hg an_f_hg cd_f_hg ct_f_hg), sl_f_hg⟩)
    (c_f_hg : PySem.W.codeIn K cd_f_hg "History.__getitem__" = true)
    (k_f_hg : PySem.W.keepIn K (.ref f_hg) = true)
    (a_f_ha : PySem.W.findIn K (.ref HC) "__add__" = some (some (.ref f_ha)))
    (i_f_ha : PySem.W.isFn K (.ref f_ha) = true)
    (l_f_ha : K.lookup f_ha = some ⟨oc_f_ha, od_f_ha, .func (PySem.W.fnOf "__add__" "History.__add__" (defArgs sHAdd) (defBody sHAdd) (defScope sHAdd) .none kV_f_ha dc_f_ha pm_f_ha an_f_ha cd_f_ha ct_f_ha), sl_f_ha⟩)
    (c_f_ha : PySem.W.codeIn K cd_f_ha "History.__add__" = true)
    (k_f_ha : PySem.W.keepIn K (.ref f_ha) = true)
    (sf_HC : PySem.W.selfFirst K HC = true)
    (nq_HC : PySem.W.noSeq K HC = true)
    (fi_hg : PySem.W.fnIn K f_hg = true)
    (lk_BC : K.lookup BC = some ⟨oc_BC, od_BC, .cls cd_BC, sl_BC⟩)
    (mr_BC : cd_BC.mro = [.ref BC, .ref MV, .type "object"])
    (lk_TC : K.lookup TC = some ⟨oc_TC, od_TC, .cls cd_TC, sl_TC⟩)
    (mr_TC : cd_TC.mro = [.ref TC, .ref MV, .type "object"])
    (lk_RC : K.lookup RC = some ⟨oc_RC, od_RC, .cls cd_RC, sl_RC⟩)
    (mr_RC : cd_RC.mro = [.ref RC, .ref MV, .type "object"])
    (lk_SC : K.lookup SC = some ⟨oc_SC, od_SC, .cls cd_SC, sl_SC⟩)
    (mr_SC : cd_SC.mro = [.ref SC, .ref MV, .type "object"])
    (lk_HC : K.lookup HC = some ⟨oc_HC, od_HC, .cls cd_HC, sl_HC⟩)
    (mr_HC : cd_HC.mro = [.ref HC, .type "object"])
    (nadd_BC : PySem.W.findIn K (.ref BC) "__add__" = some none)
    (nradd_BC : PySem.W.findIn K (.ref BC) "__radd__" = some none)
    (nadd_TC : PySem.W.findIn K (.ref TC) "__add__" = some none)
    (nradd_TC : PySem.W.findIn K (.ref TC) "__radd__" = some none)
    (nadd_RC : PySem.W.findIn K (.ref RC) "__add__" = some none)
    (nradd_RC : PySem.W.findIn K (.ref RC) "__radd__" = some none)
    (nadd_SC : PySem.W.findIn K (.ref SC) "__add__" = some none)
    (nradd_SC : PySem.W.findIn K (.ref SC) "__radd__" = some none)
    (nadd_MV : PySem.W.findIn K (.ref MV) "__add__" = some none)
    (nradd_MV : PySem.W.findIn K (.ref MV) "__radd__" = some none)
    (niadd_HC : PySem.W.findIn K (.ref HC) "__iadd__" = some none)
    (nadd_ob : PySem.W.findIn K (.type "object") "__add__" = some none)
    (nradd_ob : PySem.W.findIn K (.type "object") "__radd__" = some none)
    (niadd_ob : PySem.W.findIn K (.type "object") "__iadd__" = some none)
    (rd_HC : PySem.W.readsIn K HC (.type "type") = true)
    (rg_HC : PySem.W.specialIn K (.ref HC) "__getattribute__" = some (some (.builtin "type.__getattribute__")))
    (at_hr : PySem.W.findCls K (.ref HC) (.type "type") "read" = some (.get (.builtin "classmethod.__get__") (.ref pr) .none (.ref HC)))
    (rc_hr : PySem.W.recIn K pr "classmethod" = some (.ref f_hr :: rest_hr))
    (fi_hr : PySem.W.fnIn K f_hr = true)
    (l_f_hr : K.lookup f_hr = some ⟨oc_f_hr, od_f_hr, .func (PySem.W.fnOf "read" "History.read" (defArgs sHRead) (defBody sHRead) (defScope sHRead) .none kV_f_hr dc_f_hr pm_f_hr an_f_hr cd_f_hr ct_f_hr), sl_f_hr⟩)
    (c_f_hr : PySem.W.codeIn K cd_f_hr "History.read" = true)
    (k_f_hr : PySem.W.keepIn K (.ref f_hr) = true)
    (z_len : PySem.W.nsIn K mainGlobals "len" = some none)
    (z_abs : PySem.W.nsIn K mainGlobals "abs" = some none)
    (z_int : PySem.W.nsIn K mainGlobals "int" = some none)
    (z_isinstance : PySem.W.nsIn K mainGlobals "isinstance" = some none)
    (z_bool : PySem.W.nsIn K mainGlobals "bool" = some none)
    (z_range : PySem.W.nsIn K mainGlobals "range" = some none)
    (z_tuple : PySem.W.nsIn K mainGlobals "tuple" = some none)
    (z_list : PySem.W.nsIn K mainGlobals "list" = some none)
    (z_all : PySem.W.nsIn K mainGlobals "all" = some none)
    (z_max : PySem.W.nsIn K mainGlobals "max" = some none)
    (z_min : PySem.W.nsIn K mainGlobals "min" = some none)
    (z_str : PySem.W.nsIn K mainGlobals "str" = some none)
    (z_enumerate : PySem.W.nsIn K mainGlobals "enumerate" = some none)
    (z_repr : PySem.W.nsIn K mainGlobals "repr" = some none)
    (g_CT : PySem.W.nsIn K mainGlobals "InvalidText" = some (some (.ref CT)))
    (x_CT : K.lookup CT = some (PySem.excClassObj nm_CT q_CT CT N_CT bs_CT bm_CT true sn_CT sub_CT ab_CT col_CT dd_CT m0_CT m1_CT m2_CT m3_CT m5_CT "ValueError.__new__"))
    (xb_CT : PySem.HandSPX.refsVE bm_CT = true)
    (xsa_CT : PySem.W.findIn K (.ref CT) "__setattr__" = some (some (.builtin "object.__setattr__")))
    (xga_CT : PySem.W.findIn K (.ref CT) "__getattribute__" = some (some (.builtin "BaseException.__getattribute__")))
    (xgg_CT : PySem.W.findIn K (.ref CT) "__getattr__" = some none)
    (xex_CT : PySem.W.subIn K (.ref CT) (.type "BaseException") = some true)
    (xty_CT : PySem.W.typeIn K (.ref CT) = some (.type "type"))
    (xkc_CT : PySem.W.keepIn K (.ref CT) = true)
    (xhd_CT : PySem.W.hasDictIn K CT = true)
    (xis_CT : PySem.W.isClsIn K CT = true)
    (xca_CT : PySem.W.findIn K (.ref CT) "__class__" = some (some (.builtin "object.__class__")))
    (xgn_CT : PySem.W.specialIn K (.builtin "object.__class__") "__get__" = some (some (.builtin "getset_descriptor.__get__")))
    (xtk_CT : PySem.W.takesIn K (.builtin "object.__class__") = some true)
    (xmo_CT : PySem.W.mroIn K CT (.type "object") = some true)
    (xss_CT : PySem.W.subIn K (.ref CT) (.ref CT) = some true)
    (no_CT_at : PySem.W.findIn K (.ref CT) "at" = some none)
    (a_f_it : PySem.W.findIn K (.ref CT) "__init__" = some (some (.ref f_it)))
    (tf_it : PySem.W.typeIn K (.ref f_it) = some (.type "function"))
    (l_f_it : K.lookup f_it = some ⟨oc_f_it, od_f_it, .func (PySem.W.fnOf "__init__" "InvalidText.__init__" (defArgs sItInit) (defBody sItInit) (defScope sItInit) .none kV_f_it dc_f_it pm_f_it an_f_it cd_f_it ct_f_it), sl_f_it⟩)
    (c_f_it : PySem.W.codeIn K cd_f_it "InvalidText.__init__" = true)
    (k_f_it : PySem.W.keepIn K (.ref f_it) = true)
    (te_CT : PySem.W.exmOne K (.ref CT) (.ref CT) = some true)
    (te_CM : PySem.W.exmOne K (.ref CM) (.ref CM) = some true)
    (g_CB : PySem.W.nsIn K mainGlobals "BookError" = some (some (.ref CB)))
    (is_CB : PySem.W.isClsIn K CB = true)
    (ty_CB : PySem.W.typeIn K (.ref CB) = some (.type "type"))
    (su_CT_CB : PySem.W.subIn K (.ref CT) (.ref CB) = some true)
    (su_CT_CM : PySem.W.subIn K (.ref CT) (.ref CM) = some false)
    : ∃ fd : FuncData, (∀ (s : Shared) (v : Value), BindsTo s fd ⟨[v], []⟩ [("_law_script", v)]) ∧ ∀ base : Heap, K.In base → base.Ns mainGlobals mg → FnG l.prog w K mg base CX0 11 fa fd ["_law_script"] (spLaw K) := by
  have e := hfa.symm.trans (PySem.W.mg_of X G g_f_law)
  cases e
  have F_f_int := fun_mk (st := sIsInt) l_f_int c_f_int k_f_int
  have b_f_int := F_f_int.binds (ps := ["value"]) fun _ _ _ _ _ _ us hl => match us, hl with | [_], _ => rfl
  have F_f_num := fun_mk (st := sIsNum) l_f_num c_f_num k_f_num
  have b_f_num := F_f_num.binds (ps := ["value"]) fun _ _ _ _ _ _ us hl => match us, hl with | [_], _ => rfl
  have F_f_amt := fun_mk (st := sIsAmt) l_f_amt c_f_amt k_f_amt
  have b_f_amt := F_f_amt.binds (ps := ["value"]) fun _ _ _ _ _ _ us hl => match us, hl with | [_], _ => rfl
  have F_f_rn := fun_mk (st := sReadNumber) l_f_rn c_f_rn k_f_rn
  have b_f_rn := F_f_rn.binds (ps := ["text"]) fun _ _ _ _ _ _ us hl => match us, hl with | [_], _ => rfl
  have F_f_ism := fun_mk (st := sIsMoves) l_f_ism c_f_ism k_f_ism
  have b_f_ism := F_f_ism.binds (ps := ["value"]) fun _ _ _ _ _ _ us hl => match us, hl with | [_], _ => rfl
  have F_f_rms := fun_mk (st := sReadMoves) l_f_rms c_f_rms k_f_rms
  have b_f_rms := F_f_rms.binds (ps := ["text"]) fun _ _ _ _ _ _ us hl => match us, hl with | [_], _ => rfl
  have F_f_rm := fun_mk (st := sReadMove) l_f_rm c_f_rm k_f_rm
  have b_f_rm := F_f_rm.binds (ps := ["text"]) fun _ _ _ _ _ _ us hl => match us, hl with | [_], _ => rfl
  have F_f_mo := fun_mk (st := sMoveOf) l_f_mo c_f_mo k_f_mo
  have b_f_mo := F_f_mo.binds (ps := ["words", "numbers"]) fun _ _ _ _ _ _ us hl => match us, hl with | [_, _], _ => rfl
  have F_f_seed := fun_mk (st := sSeed) l_f_seed c_f_seed k_f_seed
  have b_f_seed := F_f_seed.binds (ps := ["_law_script", "_law_k"]) fun _ _ _ _ _ _ us hl => match us, hl with | [_, _], _ => rfl
  have F_f_choose := fun_mk (st := sChoose) l_f_choose c_f_choose k_f_choose
  have b_f_choose := F_f_choose.binds (ps := ["_law_box", "_law_many"]) fun _ _ _ _ _ _ us hl => match us, hl with | [_, _], _ => rfl
  have F_f_one := fun_mk (st := sOneOf) l_f_one c_f_one k_f_one
  have b_f_one := F_f_one.binds (ps := ["_law_box", "_law_some"]) fun _ _ _ _ _ _ us hl => match us, hl with | [_, _], _ => rfl
  have F_f_am := fun_mk (st := sAnyMove) l_f_am c_f_am k_f_am
  have b_f_am := F_f_am.binds (ps := ["_law_box"]) fun _ _ _ _ _ _ us hl => match us, hl with | [_], _ => rfl
  have F_f_mt := fun_mk (st := sMvText) l_f_mt c_f_mt k_f_mt
  have b_f_mt := F_f_mt.binds (ps := ["_law_move"]) fun _ _ _ _ _ _ us hl => match us, hl with | [_], _ => rfl
  have F_f_lt := fun_mk (st := sLawTextP) l_f_lt c_f_lt k_f_lt
  have b_f_lt := F_f_lt.binds (ps := ["_law_moves"]) fun _ _ _ _ _ _ us hl => match us, hl with | [_], _ => rfl
  have F_f_dg := fun_mk (st := sIsDigits) l_f_dg c_f_dg k_f_dg
  have b_f_dg := F_f_dg.binds (ps := ["_law_word"]) fun _ _ _ _ _ _ us hl => match us, hl with | [_], _ => rfl
  have F_f_gd := fun_mk (st := sIsGood) l_f_gd c_f_gd k_f_gd
  have b_f_gd := F_f_gd.binds (ps := ["_law_part"]) fun _ _ _ _ _ _ us hl => match us, hl with | [_], _ => rfl
  have F_f_rl := fun_mk (st := sReadL) l_f_rl c_f_rl k_f_rl
  have b_f_rl := F_f_rl.binds (ps := ["_law_text_here"]) fun _ _ _ _ _ _ us hl => match us, hl with | [_], _ => rfl
  have F_f_bt := fun_mk (st := sBent) l_f_bt c_f_bt k_f_bt
  have b_f_bt := F_f_bt.binds (ps := ["_law_box", "_law_text_here"]) fun _ _ _ _ _ _ us hl => match us, hl with | [_, _], _ => rfl
  have F_f_law := fun_mk (st := sLaw) l_f_law c_f_law k_f_law
  have b_f_law := F_f_law.binds (ps := ["_law_script"]) fun _ _ _ _ _ _ us hl => match us, hl with | [_], _ => rfl
  have ox_CM : OexC K CM := ⟨⟨_, _, _, _, _, _, _, _, _, _, _, _, _, _, _, x_CM, xb_CM⟩, xsa_CM, xex_CM, xty_CM, xkc_CM⟩
  have xc_CM : XClass K CM := ⟨xis_CM, xga_CM, xgg_CM, xex_CM, xca_CM, xgn_CM, xtk_CM, xmo_CM⟩
  have xf_CM : XfC K CM := ⟨xga_CM, xgg_CM, xex_CM, xhd_CM⟩
  have F_f_im := fun_mk (st := sImInit) l_f_im c_f_im k_f_im
  have b_f_im := F_f_im.binds (ps := ["self", "word"]) fun _ _ _ _ _ _ us hl => match us, hl with | [_, _], _ => rfl
  have cl_BC : Cls K BC := ⟨pg_BC, hd_BC, po_BC, sa_BC⟩
  have cl_TC : Cls K TC := ⟨pg_TC, hd_TC, po_TC, sa_TC⟩
  have cl_RC : Cls K RC := ⟨pg_RC, hd_RC, po_RC, sa_RC⟩
  have cl_SC : Cls K SC := ⟨pg_SC, hd_SC, po_SC, sa_SC⟩
  have cl_HC : Cls K HC := ⟨pg_HC, hd_HC, po_HC, sa_HC⟩
  have F_f_bi := fun_mk (st := sBInit) l_f_bi c_f_bi k_f_bi
  have b_f_bi := F_f_bi.binds (ps := ["self", "amount"]) fun _ _ _ _ _ _ us hl => match us, hl with | [_, _], _ => rfl
  have F_f_ti : FunD K "__init__" "Take.__init__" (defArgs sTInit) (defBody sTInit) (defScope sTInit) [.non] [] f_ti _ := ⟨⟨_, _, _, _, _, _, _, _, _, _, rfl, l_f_ti, c_f_ti, .inr ⟨by simp, T_f_ti, _, [.none], n_f_ti, rfl, t_f_ti, rfl, .cons rfl .nil⟩, .inl rfl⟩, k_f_ti⟩
  obtain ⟨ds_, vds_, b_f_ti⟩ := F_f_ti.binds1 (ps := ["self", "at", "amount"]) 3 1 (by simp) rfl (fun _ _ _ _ _ _ _ us its hu hi => by
    match us, its, hu, hi with
    | [_, _, _], [_], _, _ => exact ⟨_, rfl, rfl⟩)
  cases vds_
  obtain ⟨es_f_ti, ve_f_ti, cb_f_ti⟩ := F_f_ti.binds1 (ps := ["self", "at", "amount"]) 2 0 (by simp) rfl (fun _ _ _ _ _ _ _ us its hu hi => by
    match us, its, hu, hi with
    | [_, _], [_], _, _ => exact ⟨_, rfl, rfl⟩)
  have F_f_ri := fun_mk (st := sRInit) l_f_ri c_f_ri k_f_ri
  have b_f_ri := F_f_ri.binds (ps := ["self", "at", "amount"]) fun _ _ _ _ _ _ us hl => match us, hl with | [_, _, _], _ => rfl
  have F_f_be := fun_mk (st := sBEq) l_f_be c_f_be k_f_be
  have b_f_be := F_f_be.binds (ps := ["self", "other"]) fun _ _ _ _ _ _ us hl => match us, hl with | [_, _], _ => rfl
  have F_f_bs := fun_mk (st := sBStr) l_f_bs c_f_bs k_f_bs
  have b_f_bs := F_f_bs.binds (ps := ["self"]) fun _ _ _ _ _ _ us hl => match us, hl with | [_], _ => rfl
  have F_f_te := fun_mk (st := sTEq) l_f_te c_f_te k_f_te
  have b_f_te := F_f_te.binds (ps := ["self", "other"]) fun _ _ _ _ _ _ us hl => match us, hl with | [_, _], _ => rfl
  have F_f_ts := fun_mk (st := sTStr) l_f_ts c_f_ts k_f_ts
  have b_f_ts := F_f_ts.binds (ps := ["self"]) fun _ _ _ _ _ _ us hl => match us, hl with | [_], _ => rfl
  have F_f_re := fun_mk (st := sREq) l_f_re c_f_re k_f_re
  have b_f_re := F_f_re.binds (ps := ["self", "other"]) fun _ _ _ _ _ _ us hl => match us, hl with | [_, _], _ => rfl
  have F_f_rs := fun_mk (st := sRStr) l_f_rs c_f_rs k_f_rs
  have b_f_rs := F_f_rs.binds (ps := ["self"]) fun _ _ _ _ _ _ us hl => match us, hl with | [_], _ => rfl
  have F_f_se := fun_mk (st := sSEq) l_f_se c_f_se k_f_se
  have b_f_se := F_f_se.binds (ps := ["self", "other"]) fun _ _ _ _ _ _ us hl => match us, hl with | [_, _], _ => rfl
  have F_f_ss := fun_mk (st := sSStr) l_f_ss c_f_ss k_f_ss
  have b_f_ss := F_f_ss.binds (ps := ["self"]) fun _ _ _ _ _ _ us hl => match us, hl with | [_], _ => rfl
  have F_f_hi : FunD K "__init__" "History.__init__" (defArgs sHInit) (defBody sHInit) (defScope sHInit) [.ref e_hi] [] f_hi _ := ⟨⟨_, _, _, _, _, _, _, _, _, _, rfl, l_f_hi, c_f_hi, .inr ⟨by simp, T_f_hi, _, [.ref e_hi], n_f_hi, rfl, t_f_hi, rfl, .cons rfl .nil⟩, .inl rfl⟩, k_f_hi⟩
  obtain ⟨ds_, vds_, b_f_hi⟩ := F_f_hi.binds1 (ps := ["self", "moves"]) 2 1 (by simp) rfl (fun _ _ _ _ _ _ _ us its hu hi => by
    match us, its, hu, hi with
    | [_, _], [_], _, _ => exact ⟨_, rfl, rfl⟩)
  cases vds_
  obtain ⟨es_f_hi, ve_f_hi, cb_f_hi⟩ := F_f_hi.binds1 (ps := ["self", "moves"]) 1 0 (by simp) rfl (fun _ _ _ _ _ _ _ us its hu hi => by
    match us, its, hu, hi with
    | [_], [_], _, _ => exact ⟨_, rfl, rfl⟩)
  have F_f_he := fun_mk (st := sHEq) l_f_he c_f_he k_f_he
  have b_f_he := F_f_he.binds (ps := ["self", "other"]) fun _ _ _ _ _ _ us hl => match us, hl with | [_, _], _ => rfl
  have F_f_hs := fun_mk (st := sHStr) l_f_hs c_f_hs k_f_hs
  have b_f_hs := F_f_hs.binds (ps := ["self"]) fun _ _ _ _ _ _ us hl => match us, hl with | [_], _ => rfl
  have F_f_hl := fun_mk (st := sHLen) l_f_hl c_f_hl k_f_hl
  have b_f_hl := F_f_hl.binds (ps := ["self"]) fun _ _ _ _ _ _ us hl => match us, hl with | [_], _ => rfl
  have F_f_hg := fun_mk (st := sHGet) l_f_hg c_f_hg k_f_hg
  have b_f_hg := F_f_hg.binds (ps := ["self", "at"]) fun _ _ _ _ _ _ us hl => match us, hl with | [_, _], _ => rfl
  have F_f_ha := fun_mk (st := sHAdd) l_f_ha c_f_ha k_f_ha
  have b_f_ha := F_f_ha.binds (ps := ["self", "other"]) fun _ _ _ _ _ _ us hl => match us, hl with | [_, _], _ => rfl
  have F_f_hr := fun_mk (st := sHRead) l_f_hr c_f_hr k_f_hr
  have b_f_hr := F_f_hr.binds (ps := ["cls", "text"]) fun _ _ _ _ _ _ us hl => match us, hl with | [_, _], _ => rfl
  have ox_CT : OexC K CT := ⟨⟨_, _, _, _, _, _, _, _, _, _, _, _, _, _, _, x_CT, xb_CT⟩, xsa_CT, xex_CT, xty_CT, xkc_CT⟩
  have xc_CT : XClass K CT := ⟨xis_CT, xga_CT, xgg_CT, xex_CT, xca_CT, xgn_CT, xtk_CT, xmo_CT⟩
  have xf_CT : XfC K CT := ⟨xga_CT, xgg_CT, xex_CT, xhd_CT⟩
  have F_f_it := fun_mk (st := sItInit) l_f_it c_f_it k_f_it
  have b_f_it := F_f_it.binds (ps := ["self", "at"]) fun _ _ _ _ _ _ us hl => match us, hl with | [_, _], _ => rfl
  have TA : Blt mg := ⟨PySem.W.mg_none_of X G z_len, PySem.W.mg_none_of X G z_abs, PySem.W.mg_none_of X G z_int⟩
  have TB : BltB mg := ⟨PySem.W.mg_none_of X G z_isinstance, PySem.W.mg_none_of X G z_int, PySem.W.mg_none_of X G z_bool⟩
  have TE : BltE mg := ⟨PySem.W.mg_none_of X G z_isinstance, PySem.W.mg_none_of X G z_str⟩
  have THH : BltH mg := ⟨PySem.W.mg_none_of X G z_isinstance, PySem.W.mg_none_of X G z_list, PySem.W.mg_none_of X G z_tuple, PySem.W.mg_none_of X G z_all, PySem.W.mg_none_of X G z_str⟩
  have CLS : MvCls K ⟨BC, TC, RC, SC, HC⟩ MV := ⟨fun k hk => match k, hk with
    | 0, _ => ⟨cl_BC, ca_BC, mo_BC, kit_ref is_MV ty_MV sm_BC ss_BC⟩
    | 1, _ => ⟨cl_TC, ca_TC, mo_TC, kit_ref is_MV ty_MV sm_TC ss_TC⟩
    | 2, _ => ⟨cl_RC, ca_RC, mo_RC, kit_ref is_MV ty_MV sm_RC ss_RC⟩
    | 3, _ => ⟨cl_SC, ca_SC, mo_SC, kit_ref is_MV ty_MV sm_SC ss_SC⟩, xgn_CM, xtk_CM, fun k hk j hj => match k, hk with
    | 0, _ => match j, hj with | 0, _ => nf_same | 1, _ => nf_other su_TC_BC | 2, _ => nf_other su_RC_BC | 3, _ => nf_other su_SC_BC
    | 1, _ => match j, hj with | 0, _ => nf_other su_BC_TC | 1, _ => nf_same | 2, _ => nf_other su_RC_TC | 3, _ => nf_other su_SC_TC
    | 2, _ => match j, hj with | 0, _ => nf_other su_BC_RC | 1, _ => nf_other su_TC_RC | 2, _ => nf_same | 3, _ => nf_other su_SC_RC
    | 3, _ => match j, hj with | 0, _ => nf_other su_BC_SC | 1, _ => nf_other su_TC_SC | 2, _ => nf_other su_RC_SC | 3, _ => nf_same⟩
  have HCLS : HiCls K ⟨BC, TC, RC, SC, HC⟩ := ⟨cl_HC, no_HC_moves, ca_HC, xgn_CM, xtk_CM, mo_HC, by unfold PySem.W.kitOne; rw [if_pos (by simp)]⟩
  have TRne : TC ≠ RC := ne_sub su_TC_RC ss_TC
  have NK : ∀ k, k < 4 → PySem.W.kitOne K (.ref (Cl.at ⟨BC, TC, RC, SC, HC⟩ k)) (.ref HC) = some false := fun k hk => match k, hk with
    | 0, _ => kit_ref ic_HC tc_HC su_BC_HC ss_BC
    | 1, _ => kit_ref ic_HC tc_HC su_TC_HC ss_TC
    | 2, _ => kit_ref ic_HC tc_HC su_RC_HC ss_RC
    | 3, _ => kit_ref ic_HC tc_HC su_SC_HC ss_SC
  have eAdd : [dunder Operator.Add.info.2, dunderR Operator.Add.info.2] = [("__add__" : Str), "__radd__"] := by decide +kernel
  have eInp : [dunderI Operator.Add.info.2] = [("__iadd__" : Str)] := by decide +kernel
  have eAdd1 : dunder Operator.Add.info.2 = "__add__" := by decide +kernel
  have INP : Silent K HC [dunderI Operator.Add.info.2] := by
    rw [eInp]
    exact silent2 lk_HC mr_HC niadd_HC niadd_ob
  have SIL : ∀ k, k < 4 → HC ≠ Cl.at ⟨BC, TC, RC, SC, HC⟩ k ∧ Silent K (Cl.at ⟨BC, TC, RC, SC, HC⟩ k) [dunder Operator.Add.info.2, dunderR Operator.Add.info.2] := by
    rw [eAdd]
    exact fun k hk => match k, hk with
      | 0, _ => ⟨Ne.symm (ne_sub su_BC_HC ss_BC), silent3 lk_BC mr_BC nadd_BC nradd_BC nadd_MV nradd_MV nadd_ob nradd_ob⟩
      | 1, _ => ⟨Ne.symm (ne_sub su_TC_HC ss_TC), silent3 lk_TC mr_TC nadd_TC nradd_TC nadd_MV nradd_MV nadd_ob nradd_ob⟩
      | 2, _ => ⟨Ne.symm (ne_sub su_RC_HC ss_RC), silent3 lk_RC mr_RC nadd_RC nradd_RC nadd_MV nradd_MV nadd_ob nradd_ob⟩
      | 3, _ => ⟨Ne.symm (ne_sub su_SC_HC ss_SC), silent3 lk_SC mr_SC nadd_SC nradd_SC nadd_MV nradd_MV nadd_ob nradd_ob⟩
  refine ⟨PySem.W.fnOf "law" "law" (defArgs sLaw) (defBody sLaw) (defScope sLaw) .none kV_f_law dc_f_law pm_f_law an_f_law cd_f_law ct_f_law, fun s v => .of_eq rfl, fun base _ _ => ?_⟩
  have cI : Cal l.prog w K mg base CX0 "is_integer" 1 ["value"] spInt := ⟨f_int, _, ok_isInt F_f_int TB, PySem.W.mg_of X G g_f_int, k_f_int, b_f_int⟩
  have cN : CalNum l.prog w K mg base := ⟨f_num, _, ok_isNum F_f_num cI, PySem.W.mg_of X G g_f_num, k_f_num, b_f_num⟩
  have cA : CalAmt l.prog w K mg base := ⟨f_amt, _, ok_isAmt F_f_amt cN, PySem.W.mg_of X G g_f_amt, k_f_amt, b_f_amt⟩
  have cC : Cal l.prog w K mg base CX0 "_law_choose" 1 ["_law_box", "_law_many"] spChoose := ⟨f_choose, _, ok_choose F_f_choose TA, PySem.W.mg_of X G g_f_choose, k_f_choose, b_f_choose⟩
  have cS : Cal l.prog w K mg base CX0 "_law_seed" 1 ["_law_script", "_law_k"] (spSeed K) := ⟨f_seed, _, ok_seed F_f_seed TA, PySem.W.mg_of X G g_f_seed, k_f_seed, b_f_seed⟩
  have im : ImTxt l.prog w K mg base CM := ⟨PySem.W.mg_of X G g_CM, ox_CM, no_CM_word, f_im, _, ok_imInit F_f_im ox_CM no_CM_word, a_f_im, tf_im, b_f_im⟩
  have GB := ok_bInit (P := l.prog) (w := w) (mg := mg) (base := base) F_f_bi cl_BC no_BC_amount cA im
  have GT := ok_tInit (P := l.prog) (w := w) (mg := mg) (base := base) F_f_ti cl_TC no_TC_at no_TC_amount cN cA im
  have GR := ok_rInit (P := l.prog) (w := w) (mg := mg) (base := base) F_f_ri cl_RC no_RC_at no_RC_amount cN cA im
  have mB : MkTxt l.prog w K mg base "Begin" ["self", "amount"] BC (spBegin BC CM) [] := ⟨PySem.W.mg_of X G g_BC, f_bi, _, GB, ⟨mk_BC, a_f_bi, i_f_bi, kc_BC⟩, b_f_bi, [], .nil, b_f_bi⟩
  have mT : MkTxt l.prog w K mg base "Take" ["self", "at", "amount"] TC (spTake TC CM) [.non] := ⟨PySem.W.mg_of X G g_TC, f_ti, _, GT, ⟨mk_TC, a_f_ti, i_f_ti, kc_TC⟩, b_f_ti, es_f_ti, ve_f_ti, cb_f_ti⟩
  have mR : MkTxt l.prog w K mg base "Right" ["self", "at", "amount"] RC (spRight RC CM) [] := ⟨PySem.W.mg_of X G g_RC, f_ri, _, GR, ⟨mk_RC, a_f_ri, i_f_ri, kc_RC⟩, b_f_ri, [], .nil, b_f_ri⟩
  have MT : MvTxt l.prog w K mg base ⟨BC, TC, RC, SC, HC⟩ CM := ⟨mB, mT, mR, ⟨mk_SC, oi_SC, kc_SC⟩, PySem.W.mg_of X G g_SC⟩
  have ST : StrTxt l.prog w K mg base ⟨BC, TC, RC, SC, HC⟩ := ⟨fun k hk => match k, hk with
    | 0, _ => ⟨f_bs, _, ms_b (c := ⟨BC, TC, RC, SC, HC⟩) (ok_bStr F_f_bs cl_BC no_BC_amount), a_f_bs, i_f_bs, b_f_bs⟩
    | 1, _ => ⟨f_ts, _, ms_t (c := ⟨BC, TC, RC, SC, HC⟩) (ok_tStr F_f_ts cl_TC no_TC_at no_TC_amount), a_f_ts, i_f_ts, b_f_ts⟩
    | 2, _ => ⟨f_rs, _, ms_r (c := ⟨BC, TC, RC, SC, HC⟩) (ok_rStr F_f_rs cl_RC no_RC_at no_RC_amount), a_f_rs, i_f_rs, b_f_rs⟩
    | 3, _ => ⟨f_ss, _, ok_sStr F_f_ss, a_f_ss, i_f_ss, b_f_ss⟩⟩
  have ET : EqTxt l.prog w K mg base ⟨BC, TC, RC, SC, HC⟩ := ⟨fun k hk => match k, hk with
    | 0, _ => ⟨f_be, _, ok_bEq F_f_be TE ST CLS (PySem.W.mg_of X G g_MV), ⟨a_f_be, i_f_be, ne_BC, ob_BC⟩, b_f_be⟩
    | 1, _ => ⟨f_te, _, ok_tEq F_f_te TE ST CLS (PySem.W.mg_of X G g_MV), ⟨a_f_te, i_f_te, ne_TC, ob_TC⟩, b_f_te⟩
    | 2, _ => ⟨f_re, _, ok_rEq' F_f_re TE ST CLS (PySem.W.mg_of X G g_MV), ⟨a_f_re, i_f_re, ne_RC, ob_RC⟩, b_f_re⟩
    | 3, _ => ⟨f_se, _, ok_sEq F_f_se TE ST CLS (PySem.W.mg_of X G g_MV), ⟨a_f_se, i_f_se, ne_SC, ob_SC⟩, b_f_se⟩⟩
  have cIM : CalIsMM l.prog w K mg base ⟨BC, TC, RC, SC, HC⟩ := ⟨f_ism, _, ok_isMovesM F_f_ism THH CLS (PySem.W.mg_of X G g_MV), PySem.W.mg_of X G g_f_ism, k_f_ism, b_f_ism⟩
  have cIT : CalIsMT l.prog w K mg base ⟨BC, TC, RC, SC, HC⟩ := ⟨f_ism, _, ok_isMovesT F_f_ism THH CLS (PySem.W.mg_of X G g_MV), PySem.W.mg_of X G g_f_ism, k_f_ism, b_f_ism⟩
  have GH : FnOk l.prog w K mg base CX0 3 f_hi _ ["self", "moves"] (spHIM ⟨BC, TC, RC, SC, HC⟩) := ok_hInitM F_f_hi cl_HC no_HC_moves cIM (PySem.W.mg_none_of X G z_tuple)
  have GHT : FnOk l.prog w K mg base CX0 3 f_hi _ ["self", "moves"] (spHIT K ⟨BC, TC, RC, SC, HC⟩) := ok_hInitT F_f_hi cl_HC no_HC_moves cIT (PySem.W.mg_none_of X G z_tuple)
  have HT : HiTxt l.prog w K mg base ⟨BC, TC, RC, SC, HC⟩ := ⟨PySem.W.mg_of X G g_HC, f_hi, _, GH, ⟨mk_HC, a_f_hi, i_f_hi, kc_HC⟩, b_f_hi⟩
  have HTT : HiTxtT l.prog w K mg base ⟨BC, TC, RC, SC, HC⟩ := ⟨PySem.W.mg_of X G g_HC, f_hi, _, GHT, ⟨mk_HC, a_f_hi, i_f_hi, kc_HC⟩, b_f_hi⟩
  have H0 : (∃ o, K.lookup e_hi = some o ∧ o.cls = .type "tuple") ∧ ∀ H, SqT K H e_hi [] := ⟨⟨_, q_e, rfl⟩, fun _ => .inr ⟨_, _, _, q_e, rfl, rfl, by show 0 ≤ sizeLine; decide, .nil⟩⟩
  have TH : HiOps l.prog w K mg base ⟨BC, TC, RC, SC, HC⟩ := {
    g := PySem.W.mg_of X G g_HC
    cl := HCLS
    iniL := ⟨f_hi, _, GH, ⟨mk_HC, a_f_hi, i_f_hi, kc_HC⟩, b_f_hi⟩
    iniT := ⟨f_hi, _, GHT, ⟨mk_HC, a_f_hi, i_f_hi, kc_HC⟩, b_f_hi⟩
    ini0 := ⟨f_hi, _, e_hi, es_f_hi, GHT, ⟨mk_HC, a_f_hi, i_f_hi, kc_HC⟩, ve_f_hi, cb_f_hi, H0⟩
    add := ⟨f_ha, _, ok_hAddH F_f_ha THH HCLS HTT (PySem.W.mg_of X G g_MV), ok_hAddM F_f_ha THH HCLS CLS NK HTT (PySem.W.mg_of X G g_MV), ⟨sf_HC, by rw [eAdd1]; exact a_f_ha, i_f_ha⟩, b_f_ha⟩
    get := ⟨f_hg, _, ok_hGetK F_f_hg THH HCLS HTT, ⟨⟨a_f_hg, i_f_hg, fi_hg⟩, nq_HC⟩, b_f_hg⟩
    len := ⟨f_hl, _, ok_hLenK F_f_hl HCLS (PySem.W.mg_none_of X G z_len), a_f_hl, i_f_hl, b_f_hl⟩
    eq := ⟨f_he, _, ok_hEqK F_f_he ET HCLS CLS TRne (PySem.W.mg_none_of X G z_isinstance) (PySem.W.mg_of X G g_HC), ⟨a_f_he, i_f_he, ne_HC, ob_HC⟩, b_f_he⟩
    str := ⟨f_hs, _, ok_hStrK F_f_hs ST HCLS (PySem.W.mg_none_of X G z_str), a_f_hs, i_f_hs, b_f_hs⟩
    nf := nf_same
    inp := INP
    sil := SIL }
  have T6 : Blt6 mg := ⟨PySem.W.mg_none_of X G z_len, PySem.W.mg_none_of X G z_range, PySem.W.mg_none_of X G z_max, PySem.W.mg_none_of X G z_min, PySem.W.mg_none_of X G z_repr, PySem.W.mg_none_of X G z_enumerate⟩
  have IT : ItTxt l.prog w K mg base CT := ⟨PySem.W.mg_of X G g_CT, ox_CT, no_CT_at, f_it, _, ok_itInit F_f_it ox_CT no_CT_at, a_f_it, tf_it, b_f_it⟩
  have cRN : Cal l.prog w K mg base CX0 "read_number" 1 ["text"] spRNA := ⟨f_rn, _, ok_readNumberA F_f_rn (PySem.W.mg_none_of X G z_int), PySem.W.mg_of X G g_f_rn, k_f_rn, b_f_rn⟩
  have cMO : Cal l.prog w K mg base (L2.CX l.prog w) "move_of" 6 ["words", "numbers"] (spMOA ⟨BC, TC, RC, SC, HC⟩ CM) := ⟨f_mo, _, ok_moveOfA F_f_mo (PySem.W.mg_none_of X G z_len) MT, PySem.W.mg_of X G g_f_mo, k_f_mo, b_f_mo⟩
  have cRM : Cal l.prog w K mg base CX0 "read_move" 7 ["text"] (spRMA ⟨BC, TC, RC, SC, HC⟩) := ⟨f_rm, _, ok_readMoveA F_f_rm cRN cMO (PySem.W.mg_of X G g_CM) te_CM, PySem.W.mg_of X G g_f_rm, k_f_rm, b_f_rm⟩
  have cRMs : Cal l.prog w K mg base (L2.CX l.prog w) "read_moves" 8 ["text"] (spRMsA ⟨BC, TC, RC, SC, HC⟩ CT) := ⟨f_rms, _, ok_readMovesA F_f_rms (PySem.W.mg_none_of X G z_enumerate) IT cRM, PySem.W.mg_of X G g_f_rms, k_f_rms, b_f_rms⟩
  have RD : HiRdA l.prog w K mg base ⟨BC, TC, RC, SC, HC⟩ CT := ⟨PySem.W.mg_of X G g_HC, .type "type", pr, f_hr, _, ⟨rd_HC, rg_HC⟩, ⟨at_hr, ⟨rest_hr, rc_hr⟩, fi_hr⟩, ok_hReadA F_f_hr cRMs HT, b_f_hr⟩
  have IM : ItM K mg CT CB CM := ⟨xc_CT, xf_CT, no_CT_at, te_CT, PySem.W.mg_of X G g_CT, PySem.W.mg_of X G g_CB, PySem.W.mg_of X G g_CM, PySem.W.mg_none_of X G z_isinstance, PySem.W.mg_none_of X G z_str, kit_ref is_CB ty_CB su_CT_CB xss_CT, kit_ref xis_CM xty_CM su_CT_CM xss_CT⟩
  have cO : Cal l.prog w K mg base CX0 "_law_one_of" 2 ["_law_box", "_law_some"] (spOneOf K) := ⟨f_one, _, ok_oneOf F_f_one TA cC, PySem.W.mg_of X G g_f_one, k_f_one, b_f_one⟩
  have cAM : Cal l.prog w K mg base CX0 "_law_any_move" 2 ["_law_box"] spAM6 := ⟨f_am, _, am_sm (ok_anyMove F_f_am cC), PySem.W.mg_of X G g_f_am, k_f_am, b_f_am⟩
  have cMT : CalText l.prog w K mg base := ⟨f_mt, _, ok_mvText F_f_mt (PySem.W.mg_none_of X G z_str), PySem.W.mg_of X G g_f_mt, k_f_mt, b_f_mt⟩
  have cLT : CalLText l.prog w K mg base := ⟨f_lt, _, ok_lText F_f_lt cMT, PySem.W.mg_of X G g_f_lt, k_f_lt, b_f_lt⟩
  have cDG : Cal l.prog w K mg base CX0 "_law_is_digits" 1 ["_law_word"] spIsDig := ⟨f_dg, _, ok_isDig F_f_dg, PySem.W.mg_of X G g_f_dg, k_f_dg, b_f_dg⟩
  have cGD : Cal l.prog w K mg base CX0 "_law_is_good" 2 ["_law_part"] spIsGood := ⟨f_gd, _, ok_isGood F_f_gd (PySem.W.mg_none_of X G z_len) cDG, PySem.W.mg_of X G g_f_gd, k_f_gd, b_f_gd⟩
  have cRL : Cal l.prog w K mg base CX0 "_law_read" 10 ["_law_text_here"] spReadL := ⟨f_rl, _, ok_readL F_f_rl IM RD TH, PySem.W.mg_of X G g_f_rl, k_f_rl, b_f_rl⟩
  have cBT : Cal l.prog w K mg base CX0 "_law_bent" 3 ["_law_box", "_law_text_here"] spBent6 := ⟨f_bt, _, ok_bent6 F_f_bt T6 (PySem.W.mg_none_of X G z_int) cC cO, PySem.W.mg_of X G g_f_bt, k_f_bt, b_f_bt⟩
  exact ok_law F_f_law T6 TH RD cS cC cAM cLT cRL cBT cGD
end V3

set_option Elab.async false
set_option linter.all false
set_option maxRecDepth 100000
/-! the facts of the top read by a hook: nothing of the top is written out -/
namespace V3
open PySem PySem.Spec PyProof.Rows L2
/-! ### what stands at an address -/
def objO (K : PySem.W.Frag) (a : Addr) : Obj := match K.lookup a with
  | some o => o
  | none => default
def fdO (K : PySem.W.Frag) (a : Addr) : FuncData := match K.lookup a with
  | some ⟨_, _, .func fd, _⟩ => fd
  | _ => default
def cdO (K : PySem.W.Frag) (a : Addr) : ClassData := match K.lookup a with
  | some ⟨_, _, .cls cd, _⟩ => cd
  | _ => default
def itsO (K : PySem.W.Frag) (a : Addr) : List Value := match K.lookup a with
  | some ⟨_, _, .seq its _, _⟩ => its.toList
  | _ => []
def nO (K : PySem.W.Frag) (a : Addr) : Nat := match K.lookup a with
  | some ⟨_, _, .seq _ n, _⟩ => n
  | _ => 0
def tkO (K : PySem.W.Frag) (a : Addr) (i : Nat) : Tok := match (itsO K a)[i]? with
  | some (.str _ t) => t
  | some (.int _ t) => t
  | _ => 0
def addrV : Value → Addr
  | .ref a => a
  | _ => 0
/-- where things stand -/
def dflT (K : PySem.W.Frag) (f : Addr) : Addr := addrV (fdO K f).defaults
def itemA (K : PySem.W.Frag) (a : Addr) (i : Nat) : Addr := match (itsO K a)[i]? with
  | some v => addrV v
  | none => 0
def maA (K : PySem.W.Frag) (C : Addr) (m : Str) : Addr := match PySem.W.findIn K (.ref C) m with
  | some (some (.ref a)) => a
  | _ => 0
def clsA (K : PySem.W.Frag) (C : Addr) (n : Str) : Addr := match PySem.W.findCls K (.ref C) (.type "type") n with
  | some (.get _ (.ref p) _ _) => p
  | _ => 0
def recA (K : PySem.W.Frag) (p : Addr) (T : String) : Addr := match PySem.W.recIn K p T with
  | some (.ref f :: _) => f
  | _ => 0
def recR (K : PySem.W.Frag) (p : Addr) (T : String) : List Value := match PySem.W.recIn K p T with
  | some (_ :: r) => r
  | _ => []
/-! ### functions -/
abbrev FnO : Type := Option (Str × Str × Arguments × FuncBody × Scope × Addr × List (Str × Addr) × Addr)
def fnO (K : PySem.W.Frag) (a : Addr) : FnO := match K.lookup a with
  | some ⟨_, _, .func fd, _⟩ => some (fd.name, fd.qualname, fd.params, fd.body, fd.scope, fd.globals, fd.closure, fd.builtins)
  | _ => none
structure FnR where
  at_ : PySem.W.Frag → Addr
  name : Str
  qual : Str
  st : Stmt
def FnR.val (d : FnR) : FnO := some (d.name, d.qual, defArgs d.st, .stmts (defBody d.st), defScope d.st, mainGlobals, [], builtinsNs)
section
variable {K : PySem.W.Frag} {a f g : Addr}
theorem objO_eq {o : Obj} (q : K.lookup a = some o) : objO K a = o := by
  unfold objO
  rw [q]
theorem fdO_eq {oc : Value} {od : Option Addr} {fd : FuncData} {sl : Array (Option Value)} (q : K.lookup a = some ⟨oc, od, .func fd, sl⟩) : fdO K a = fd := by
  unfold fdO
  rw [q]
theorem cdO_eq {oc : Value} {od : Option Addr} {cd : ClassData} {sl : Array (Option Value)} (q : K.lookup a = some ⟨oc, od, .cls cd, sl⟩) : cdO K a = cd := by
  unfold cdO
  rw [q]
theorem fn_at {dV : Value} {nm qn : Str} {st : Stmt} (e : fnO K a = some (nm, qn, defArgs st, .stmts (defBody st), defScope st, mainGlobals, [], builtinsNs)) (d : (fdO K a).defaults = dV) :
    K.lookup a = some ⟨(objO K a).cls, (objO K a).dict, .func (PySem.W.fnOf nm qn (defArgs st) (defBody st) (defScope st) dV (fdO K a).kwdefaults (fdO K a).doc (fdO K a).pyModule (fdO K a).annotations (fdO K a).code (fdO K a).closureTuple), (objO K a).slots⟩ := by
  unfold fnO at e
  cases q : K.lookup a with
  | none =>
    rw [q] at e
    cases e
  | some o =>
    obtain ⟨oc, od, dt, osl⟩ := o
    rw [q] at e
    cases dt with
    | func fd =>
      rw [fdO_eq q] at d ⊢
      rw [objO_eq q]
      obtain ⟨n1, n2, n3, n4, n5, n6, n7, n8, n9, n10, n11, n12, n13, n14, n15⟩ := fd
      have e2 : (some (n1, n2, n3, n4, n5, n6, n7, n15) : FnO) = some (nm, qn, defArgs st, .stmts (defBody st), defScope st, mainGlobals, [], builtinsNs) := e
      simp only [Option.some.injEq, Prod.mk.injEq] at e2
      obtain ⟨h1, h2, h3, h4, h5, h6, h7, h8⟩ := e2
      have h9 : n8 = dV := d
      subst h1 h2 h3 h4 h5 h6 h7 h8 h9
      rfl
    | _ => cases e
/-! ### tuples -/
def mkIts (K : PySem.W.Frag) (a : Addr) : Nat → List V → List Value
  | _, [] => []
  | i, v :: r => (match v with
    | .str x => .str x (tkO K a i)
    | .int x => .int x (tkO K a i)
    | .ref b => .ref b
    | _ => .none) :: mkIts K a (i + 1) r
def tupO (K : PySem.W.Frag) (a : Addr) (vs : List V) : Bool := match K.lookup a with
  | some ⟨.type c, _, .seq its _, _⟩ => decide (c = "tuple") && decide (its.toList = mkIts K a 0 vs)
  | _ => false
theorem tup_at {vs : List V} (h : tupO K a vs = true) : K.lookup a = some ⟨.type "tuple", (objO K a).dict, .seq (mkIts K a 0 vs).toArray (nO K a), (objO K a).slots⟩ := by
  unfold tupO at h
  cases q : K.lookup a with
  | none =>
    rw [q] at h
    cases h
  | some o =>
    obtain ⟨oc, od, dt, osl⟩ := o
    rw [q] at h
    cases oc with
    | type c =>
      cases dt with
      | seq its n =>
        obtain ⟨h1, h2⟩ := Bool.and_eq_true_iff.mp (show (decide (c = "tuple") && decide (its.toList = mkIts K a 0 vs)) = true from h)
        have e1 := of_decide_eq_true h1
        have e2 := of_decide_eq_true h2
        have en : nO K a = n := by
          unfold nO
          rw [q]
        rw [objO_eq q, en, ← e2, e1]
      | _ => cases h
    | _ => cases dt <;> cases h
/-! ### classes -/
def isC (K : PySem.W.Frag) (a : Addr) : Bool := match K.lookup a with
  | some ⟨_, _, .cls _, _⟩ => true
  | _ => false
theorem cls_at (h : isC K a = true) : K.lookup a = some ⟨(objO K a).cls, (objO K a).dict, .cls (cdO K a), (objO K a).slots⟩ := by
  unfold isC at h
  cases q : K.lookup a with
  | none =>
    rw [q] at h
    cases h
  | some o =>
    obtain ⟨oc, od, dt, osl⟩ := o
    rw [q] at h
    cases dt with
    | cls cd => rw [objO_eq q, cdO_eq q]
    | _ => cases h
def slA (K : PySem.W.Frag) (a : Addr) (i : Nat) : Option Value := ((objO K a).slots.toList[i]?).join
def newO (l : List (Option Value)) (new : String) : Bool := match l with
  | [_, _, _, _, some (.builtin n), _] => decide (n = new)
  | _ => false
theorem newO_ok {l : List (Option Value)} {new : String} (h : newO l new = true) : ∃ k0 k1 k2 k3 k5, l = [k0, k1, k2, k3, some (.builtin new), k5] := by
  unfold newO at h
  split at h
  · rename_i k0 k1 k2 k3 n k5
    rw [of_decide_eq_true h]
    exact ⟨k0, k1, k2, k3, k5, rfl⟩
  · cases h
def excO (K : PySem.W.Frag) (a : Addr) (new : String) : Bool := match K.lookup a with
  | some ⟨.type t, _, .cls cd, sl⟩ => decide (t = "type") && (decide (cd.mro = .ref a :: cd.mro.tail) && (cd.hasDict && (!cd.hasDel && newO sl.toList new)))
  | _ => false
theorem exc_at {new : String} (h : excO K a new = true) : K.lookup a = some (excClassObj (cdO K a).name (cdO K a).qualname a (cdO K a).ns (cdO K a).bases (cdO K a).mro.tail true (cdO K a).slotNames (cdO K a).subclasses (cdO K a).abstract (cdO K a).collection (objO K a).dict
    (slA K a 0) (slA K a 1) (slA K a 2) (slA K a 3) (slA K a 5) new) := by
  unfold excO at h
  cases q : K.lookup a with
  | none =>
    rw [q] at h
    cases h
  | some o =>
    obtain ⟨oc, od, dt, osl⟩ := o
    rw [q] at h
    cases oc with
    | type t =>
      cases dt with
      | cls cd =>
        unfold slA
        rw [objO_eq q, cdO_eq q]
        obtain ⟨h1, h⟩ := Bool.and_eq_true_iff.mp (show (decide (t = "type") && (decide (cd.mro = .ref a :: cd.mro.tail) && (cd.hasDict && (!cd.hasDel && newO osl.toList new)))) = true from h)
        obtain ⟨h2, h⟩ := Bool.and_eq_true_iff.mp h
        obtain ⟨h3, h⟩ := Bool.and_eq_true_iff.mp h
        obtain ⟨h4, h5⟩ := Bool.and_eq_true_iff.mp h
        have e1 := of_decide_eq_true h1
        have e2 := of_decide_eq_true h2
        obtain ⟨nm, bs, mro, ns, qn, hd, sn, sub, ab, col, del⟩ := cd
        dsimp only at e2 h3 h4 ⊢
        subst e1
        obtain ⟨l⟩ := osl
        obtain ⟨k0, k1, k2, k3, k5, el⟩ := newO_ok h5
        have el2 : l = [k0, k1, k2, k3, some (.builtin new), k5] := el
        subst el2
        have e4 : del = false := by
          cases del with
          | false => rfl
          | true => cases h4
        subst e4
        have e3 : hd = true := h3
        subst e3
        unfold excClassObj
        rw [← e2]
        rfl
      | _ => cases h
    | _ => cases dt <;> cases h
/-! ### what a class answers -/
def cfO (o : Option PySem.W.CFound) (g a b c : Value) : Bool := match o with
  | some (.get g' a' b' c') => decide (g' = g) && (decide (a' = a) && (decide (b' = b) && decide (c' = c)))
  | _ => false
theorem cf_at {o : Option PySem.W.CFound} {g a b c : Value} (h : cfO o g a b c = true) : o = some (.get g a b c) := by
  unfold cfO at h
  cases o with
  | none => cases h
  | some x =>
    cases x with
    | val v => cases h
    | get g' a' b' c' =>
      obtain ⟨h1, h⟩ := Bool.and_eq_true_iff.mp (show (decide (g' = g) && (decide (a' = a) && (decide (b' = b) && decide (c' = c)))) = true from h)
      obtain ⟨h2, h⟩ := Bool.and_eq_true_iff.mp h
      obtain ⟨h3, h4⟩ := Bool.and_eq_true_iff.mp h
      rw [of_decide_eq_true h1, of_decide_eq_true h2, of_decide_eq_true h3, of_decide_eq_true h4]
end
/-! ### the Hook -/
abbrev AlK : Type := Bool × List FnO
def obsK (ck : PySem.W.Frag → List (List Bool)) (fn : List FnR) (K : PySem.W.Frag) : AlK := ((ck K).all (fun l => l.all id), fn.map fun d => fnO K (d.at_ K))
def valK (fn : List FnR) : AlK := (true, fn.map FnR.val)
def SaysK (ck : PySem.W.Frag → List (List Bool)) (fn : List FnR) (K : PySem.W.Frag) : Prop := obsK ck fn K = valK fn
def frK (g : Addr → Option Obj) (n : Nat) : PySem.W.Frag := He.frG g (List.range n)
def hookK (ck : PySem.W.Frag → List (List Bool)) (fn : List FnR) : PySem.W.Hook where
  α := AlK
  obs := fun s => obsK ck fn (frK s.heap.get? s.heap.objs.size)
  val := fun _ => valK fn
  says := fun _ h => ∃ K : PySem.W.Frag, K.In h ∧ SaysK ck fn K
  of := fun _ _ e => ⟨_, He.frG_in, e⟩
  keeps := fun _ _ _ ⟨K, hK, c⟩ k => ⟨K, PySem.W.Frag.In.keeps hK k, c⟩
def obK (ck : PySem.W.Frag → List (List Bool)) (fn : List FnR) (s : PySem.W.SharedT) : AlK := obsK ck fn (frK (HandSHeadRun.getT s) s.n)
theorem obK_eq (ck : PySem.W.Frag → List (List Bool)) (fn : List FnR) (s : PySem.W.SharedT) : obK ck fn s = (hookK ck fn).obs s.abs := by
  show obsK ck fn (frK (HandSHeadRun.getT s) s.n) = obsK ck fn (frK s.abs.heap.get? s.abs.heap.objs.size)
  have e : HandSHeadRun.getT s = s.abs.heap.get? := funext fun a => HandSHeadRun.getT_eq s a
  have n : s.abs.heap.objs.size = s.n := PySem.W.absHeap_size s.tree s.n s.life
  rw [e, n]
section
variable {ck : PySem.W.Frag → List (List Bool)} {fn : List FnR} {K : PySem.W.Frag}
theorem SaysK.chk (c : SaysK ck fn K) (i j : Nat) {l : List Bool} {b : Bool} (h : (ck K)[i]? = some l) (k : l[j]? = some b) : b = true := by
  have c1 : (ck K).all (fun l => l.all id) = true := congrArg (fun z : AlK => z.1) c
  exact List.all_eq_true.mp (List.all_eq_true.mp c1 l (List.mem_of_getElem? h)) b (List.mem_of_getElem? k)
theorem SaysK.def_ (c : SaysK ck fn K) (i : Nat) {d : FnR} (h : fn[i]? = some d) : fnO K (d.at_ K) = some (d.name, d.qual, defArgs d.st, .stmts (defBody d.st), defScope d.st, mainGlobals, [], builtinsNs) := by
  have e : fn.map (fun d => fnO K (d.at_ K)) = fn.map FnR.val := congrArg (fun z : AlK => z.2) c
  have e2 : (fn.map fun d => fnO K (d.at_ K))[i]? = (fn.map FnR.val)[i]? := by rw [e]
  rw [List.getElem?_map, List.getElem?_map, h] at e2
  exact Option.some.inj e2
end
end V3

set_option Elab.async false
set_option linter.all false
set_option maxRecDepth 100000
/-! a law's end over a head by a hook -/
namespace V3
open PySem PySem.Spec PyProof.Rows L2
theorem walk_ofGE {l : PySem.W.OpenLaw} {n k : Nat} {q : Program} {loose : List Str}
    {XP : (Str → Option Value) → Heap → Prop} {YP : World → Heap → Prop} {d : DefRec} {x : Str}
    (hn : l.most = some n) (small : n ≤ sizeLine) (hdf : d.params.defaults = []) (room : Room k callerA)
    (F : ∀ (w : World) (mg : Str → Option Value) (fa : Addr) (h : Heap), YP w h → h.Ns mainGlobals mg → mg d.name = some (.ref fa) →
      ∃ (K : PySem.W.Frag) (fd : FuncData) (sp : Sp), K.In h ∧ (∀ (s : Shared) (u : Value), BindsTo s fd ⟨[u], []⟩ [(x, u)]) ∧
        (∀ (H : Hp) (a : Addr) (ns : List Int), ns.length ≤ n → Only H → SqL K H a (ns.map V.int) → sp [.ref a] H (fun v _ => v = .bl true) fun _ _ _ => False) ∧
        ∀ base : Heap, K.In base → base.Ns mainGlobals mg → FnG l.prog w K mg base CX0 k fa fd [x] sp) :
    PySem.W.WalkO q loose XP YP l.row.toRowW d [] (fun f vs => PySem.call f vs) := by
  refine Att.attach_call hn hdf fun w s0 s1 mg mb fa o pm cd doc a vs ns G Y ho hd hcd hmg hobj whole len gens => ?_
  obtain ⟨K, fd, sp, KX, bi, hsp, hF⟩ := F w mg fa _ Y G.T.g hmg
  exact law_callG KX G.T.g G.T.b G.T.builtins G.T.nolimit gens hobj whole (Nat.le_trans len small) room hF bi
    fun H hO hS => hsp H a ns len hO hS
end V3

set_option Elab.async false
set_option linter.all false
set_option maxRecDepth 100000
set_option maxHeartbeats 0
namespace V3
open PySem PySem.Spec PyProof.Rows L2
def A_f_int (K : PySem.W.Frag) : Addr := He.ga K "is_integer"
def A_f_num (K : PySem.W.Frag) : Addr := He.ga K "is_number"
def A_f_amt (K : PySem.W.Frag) : Addr := He.ga K "is_amount"
def A_f_rn (K : PySem.W.Frag) : Addr := He.ga K "read_number"
def A_f_ism (K : PySem.W.Frag) : Addr := He.ga K "is_moves"
def A_f_rms (K : PySem.W.Frag) : Addr := He.ga K "read_moves"
def A_f_rm (K : PySem.W.Frag) : Addr := He.ga K "read_move"
def A_f_mo (K : PySem.W.Frag) : Addr := He.ga K "move_of"
def A_f_seed (K : PySem.W.Frag) : Addr := He.ga K "_law_seed"
def A_f_choose (K : PySem.W.Frag) : Addr := He.ga K "_law_choose"
def A_f_one (K : PySem.W.Frag) : Addr := He.ga K "_law_one_of"
def A_f_am (K : PySem.W.Frag) : Addr := He.ga K "_law_any_move"
def A_f_mt (K : PySem.W.Frag) : Addr := He.ga K "_law_move_text"
def A_f_lt (K : PySem.W.Frag) : Addr := He.ga K "_law_text"
def A_f_dg (K : PySem.W.Frag) : Addr := He.ga K "_law_is_digits"
def A_f_gd (K : PySem.W.Frag) : Addr := He.ga K "_law_is_good"
def A_f_rl (K : PySem.W.Frag) : Addr := He.ga K "_law_read"
def A_f_bt (K : PySem.W.Frag) : Addr := He.ga K "_law_bent"
def A_f_law (K : PySem.W.Frag) : Addr := He.ga K "law"
def A_CM (K : PySem.W.Frag) : Addr := He.ga K "InvalidMove"
def A_MV (K : PySem.W.Frag) : Addr := He.ga K "Move"
def A_BC (K : PySem.W.Frag) : Addr := He.ga K "Begin"
def A_TC (K : PySem.W.Frag) : Addr := He.ga K "Take"
def A_RC (K : PySem.W.Frag) : Addr := He.ga K "Right"
def A_SC (K : PySem.W.Frag) : Addr := He.ga K "Shut"
def A_HC (K : PySem.W.Frag) : Addr := He.ga K "History"
def A_f_im (K : PySem.W.Frag) : Addr := maA K (A_CM K) "__init__"
def A_f_bi (K : PySem.W.Frag) : Addr := maA K (A_BC K) "__init__"
def A_f_ti (K : PySem.W.Frag) : Addr := maA K (A_TC K) "__init__"
def A_T_f_ti (K : PySem.W.Frag) : Addr := dflT K (A_f_ti K)
def A_f_ri (K : PySem.W.Frag) : Addr := maA K (A_RC K) "__init__"
def A_f_be (K : PySem.W.Frag) : Addr := maA K (A_BC K) "__eq__"
def A_f_bs (K : PySem.W.Frag) : Addr := maA K (A_BC K) "__str__"
def A_f_te (K : PySem.W.Frag) : Addr := maA K (A_TC K) "__eq__"
def A_f_ts (K : PySem.W.Frag) : Addr := maA K (A_TC K) "__str__"
def A_f_re (K : PySem.W.Frag) : Addr := maA K (A_RC K) "__eq__"
def A_f_rs (K : PySem.W.Frag) : Addr := maA K (A_RC K) "__str__"
def A_f_se (K : PySem.W.Frag) : Addr := maA K (A_SC K) "__eq__"
def A_f_ss (K : PySem.W.Frag) : Addr := maA K (A_SC K) "__str__"
def A_f_hi (K : PySem.W.Frag) : Addr := maA K (A_HC K) "__init__"
def A_T_f_hi (K : PySem.W.Frag) : Addr := dflT K (A_f_hi K)
def A_e_hi (K : PySem.W.Frag) : Addr := itemA K (A_T_f_hi K) 0
def A_f_he (K : PySem.W.Frag) : Addr := maA K (A_HC K) "__eq__"
def A_f_hs (K : PySem.W.Frag) : Addr := maA K (A_HC K) "__str__"
def A_f_hl (K : PySem.W.Frag) : Addr := maA K (A_HC K) "__len__"
def A_f_hg (K : PySem.W.Frag) : Addr := maA K (A_HC K) "__getitem__"
def A_f_ha (K : PySem.W.Frag) : Addr := maA K (A_HC K) "__add__"
def A_pr (K : PySem.W.Frag) : Addr := clsA K (A_HC K) "read"
def A_f_hr (K : PySem.W.Frag) : Addr := recA K (A_pr K) "classmethod"
def A_CT (K : PySem.W.Frag) : Addr := He.ga K "InvalidText"
def A_f_it (K : PySem.W.Frag) : Addr := maA K (A_CT K) "__init__"
def A_CB (K : PySem.W.Frag) : Addr := He.ga K "BookError"
def ckK0 (K : PySem.W.Frag) : List Bool := [
  decide (PySem.W.nsIn K mainGlobals "is_integer" = some (some (.ref (A_f_int K)))),
  decide ((fdO K (A_f_int K)).defaults = .none),
  PySem.W.codeIn K (fdO K (A_f_int K)).code "is_integer",
  PySem.W.keepIn K (.ref (A_f_int K)),
  decide (PySem.W.nsIn K mainGlobals "is_number" = some (some (.ref (A_f_num K)))),
  decide ((fdO K (A_f_num K)).defaults = .none),
  PySem.W.codeIn K (fdO K (A_f_num K)).code "is_number",
  PySem.W.keepIn K (.ref (A_f_num K)),
  decide (PySem.W.nsIn K mainGlobals "is_amount" = some (some (.ref (A_f_amt K)))),
  decide ((fdO K (A_f_amt K)).defaults = .none),
  PySem.W.codeIn K (fdO K (A_f_amt K)).code "is_amount",
  PySem.W.keepIn K (.ref (A_f_amt K)),
  decide (PySem.W.nsIn K mainGlobals "read_number" = some (some (.ref (A_f_rn K)))),
  decide ((fdO K (A_f_rn K)).defaults = .none),
  PySem.W.codeIn K (fdO K (A_f_rn K)).code "read_number",
  PySem.W.keepIn K (.ref (A_f_rn K)),
  decide (PySem.W.nsIn K mainGlobals "is_moves" = some (some (.ref (A_f_ism K)))),
  decide ((fdO K (A_f_ism K)).defaults = .none),
  PySem.W.codeIn K (fdO K (A_f_ism K)).code "is_moves",
  PySem.W.keepIn K (.ref (A_f_ism K)),
  decide (PySem.W.nsIn K mainGlobals "read_moves" = some (some (.ref (A_f_rms K)))),
  decide ((fdO K (A_f_rms K)).defaults = .none),
  PySem.W.codeIn K (fdO K (A_f_rms K)).code "read_moves",
  PySem.W.keepIn K (.ref (A_f_rms K)),
  decide (PySem.W.nsIn K mainGlobals "read_move" = some (some (.ref (A_f_rm K)))),
  decide ((fdO K (A_f_rm K)).defaults = .none),
  PySem.W.codeIn K (fdO K (A_f_rm K)).code "read_move",
  PySem.W.keepIn K (.ref (A_f_rm K)),
  decide (PySem.W.nsIn K mainGlobals "move_of" = some (some (.ref (A_f_mo K)))),
  decide ((fdO K (A_f_mo K)).defaults = .none)]
def ckK1 (K : PySem.W.Frag) : List Bool := [
  PySem.W.codeIn K (fdO K (A_f_mo K)).code "move_of",
  PySem.W.keepIn K (.ref (A_f_mo K)),
  decide (PySem.W.nsIn K mainGlobals "_law_seed" = some (some (.ref (A_f_seed K)))),
  decide ((fdO K (A_f_seed K)).defaults = .none),
  PySem.W.codeIn K (fdO K (A_f_seed K)).code "_law_seed",
  PySem.W.keepIn K (.ref (A_f_seed K)),
  decide (PySem.W.nsIn K mainGlobals "_law_choose" = some (some (.ref (A_f_choose K)))),
  decide ((fdO K (A_f_choose K)).defaults = .none),
  PySem.W.codeIn K (fdO K (A_f_choose K)).code "_law_choose",
  PySem.W.keepIn K (.ref (A_f_choose K)),
  decide (PySem.W.nsIn K mainGlobals "_law_one_of" = some (some (.ref (A_f_one K)))),
  decide ((fdO K (A_f_one K)).defaults = .none),
  PySem.W.codeIn K (fdO K (A_f_one K)).code "_law_one_of",
  PySem.W.keepIn K (.ref (A_f_one K)),
  decide (PySem.W.nsIn K mainGlobals "_law_any_move" = some (some (.ref (A_f_am K)))),
  decide ((fdO K (A_f_am K)).defaults = .none),
  PySem.W.codeIn K (fdO K (A_f_am K)).code "_law_any_move",
  PySem.W.keepIn K (.ref (A_f_am K)),
  decide (PySem.W.nsIn K mainGlobals "_law_move_text" = some (some (.ref (A_f_mt K)))),
  decide ((fdO K (A_f_mt K)).defaults = .none),
  PySem.W.codeIn K (fdO K (A_f_mt K)).code "_law_move_text",
  PySem.W.keepIn K (.ref (A_f_mt K)),
  decide (PySem.W.nsIn K mainGlobals "_law_text" = some (some (.ref (A_f_lt K)))),
  decide ((fdO K (A_f_lt K)).defaults = .none),
  PySem.W.codeIn K (fdO K (A_f_lt K)).code "_law_text",
  PySem.W.keepIn K (.ref (A_f_lt K)),
  decide (PySem.W.nsIn K mainGlobals "_law_is_digits" = some (some (.ref (A_f_dg K)))),
  decide ((fdO K (A_f_dg K)).defaults = .none),
  PySem.W.codeIn K (fdO K (A_f_dg K)).code "_law_is_digits",
  PySem.W.keepIn K (.ref (A_f_dg K))]
def ckK2 (K : PySem.W.Frag) : List Bool := [
  decide (PySem.W.nsIn K mainGlobals "_law_is_good" = some (some (.ref (A_f_gd K)))),
  decide ((fdO K (A_f_gd K)).defaults = .none),
  PySem.W.codeIn K (fdO K (A_f_gd K)).code "_law_is_good",
  PySem.W.keepIn K (.ref (A_f_gd K)),
  decide (PySem.W.nsIn K mainGlobals "_law_read" = some (some (.ref (A_f_rl K)))),
  decide ((fdO K (A_f_rl K)).defaults = .none),
  PySem.W.codeIn K (fdO K (A_f_rl K)).code "_law_read",
  PySem.W.keepIn K (.ref (A_f_rl K)),
  decide (PySem.W.nsIn K mainGlobals "_law_bent" = some (some (.ref (A_f_bt K)))),
  decide ((fdO K (A_f_bt K)).defaults = .none),
  PySem.W.codeIn K (fdO K (A_f_bt K)).code "_law_bent",
  PySem.W.keepIn K (.ref (A_f_bt K)),
  decide (PySem.W.nsIn K mainGlobals "law" = some (some (.ref (A_f_law K)))),
  decide ((fdO K (A_f_law K)).defaults = .none),
  PySem.W.codeIn K (fdO K (A_f_law K)).code "law",
  PySem.W.keepIn K (.ref (A_f_law K)),
  decide (PySem.W.nsIn K mainGlobals "InvalidMove" = some (some (.ref (A_CM K)))),
  decide (PySem.W.nsIn K mainGlobals "Move" = some (some (.ref (A_MV K)))),
  decide (PySem.W.nsIn K mainGlobals "Begin" = some (some (.ref (A_BC K)))),
  decide (PySem.W.nsIn K mainGlobals "Take" = some (some (.ref (A_TC K)))),
  decide (PySem.W.nsIn K mainGlobals "Right" = some (some (.ref (A_RC K)))),
  decide (PySem.W.nsIn K mainGlobals "Shut" = some (some (.ref (A_SC K)))),
  decide (PySem.W.nsIn K mainGlobals "History" = some (some (.ref (A_HC K)))),
  excO K (A_CM K) "ValueError.__new__",
  PySem.HandSPX.refsVE (cdO K (A_CM K)).mro.tail,
  decide (PySem.W.findIn K (.ref (A_CM K)) "__setattr__" = some (some (.builtin "object.__setattr__"))),
  decide (PySem.W.findIn K (.ref (A_CM K)) "__getattribute__" = some (some (.builtin "BaseException.__getattribute__"))),
  decide (PySem.W.findIn K (.ref (A_CM K)) "__getattr__" = some none),
  decide (PySem.W.subIn K (.ref (A_CM K)) (.type "BaseException") = some true),
  decide (PySem.W.typeIn K (.ref (A_CM K)) = some (.type "type"))]
def ckK3 (K : PySem.W.Frag) : List Bool := [
  PySem.W.keepIn K (.ref (A_CM K)),
  PySem.W.hasDictIn K (A_CM K),
  PySem.W.isClsIn K (A_CM K),
  decide (PySem.W.findIn K (.ref (A_CM K)) "__class__" = some (some (.builtin "object.__class__"))),
  decide (PySem.W.specialIn K (.builtin "object.__class__") "__get__" = some (some (.builtin "getset_descriptor.__get__"))),
  decide (PySem.W.takesIn K (.builtin "object.__class__") = some true),
  decide (PySem.W.mroIn K (A_CM K) (.type "object") = some true),
  decide (PySem.W.subIn K (.ref (A_CM K)) (.ref (A_CM K)) = some true),
  decide (PySem.W.findIn K (.ref (A_CM K)) "word" = some none),
  decide (PySem.W.findIn K (.ref (A_CM K)) "__init__" = some (some (.ref (A_f_im K)))),
  decide (PySem.W.typeIn K (.ref (A_f_im K)) = some (.type "function")),
  decide ((fdO K (A_f_im K)).defaults = .none),
  PySem.W.codeIn K (fdO K (A_f_im K)).code "InvalidMove.__init__",
  PySem.W.keepIn K (.ref (A_f_im K)),
  PySem.W.isClsIn K (A_MV K),
  decide (PySem.W.typeIn K (.ref (A_MV K)) = some (.type "type")),
  PySem.W.isClsIn K (A_HC K),
  decide (PySem.W.typeIn K (.ref (A_HC K)) = some (.type "type")),
  PySem.W.plainGet K (A_BC K) Str.empty,
  PySem.W.hasDictIn K (A_BC K),
  PySem.W.plainOver K (A_BC K),
  decide (PySem.W.findIn K (.ref (A_BC K)) "__setattr__" = some (some (.builtin "object.__setattr__"))),
  PySem.W.makesIn K (A_BC K),
  PySem.W.keepIn K (.ref (A_BC K)),
  decide (PySem.W.findIn K (.ref (A_BC K)) "__class__" = some (some (.builtin "object.__class__"))),
  decide (PySem.W.mroIn K (A_BC K) (.type "object") = some true),
  decide (PySem.W.subIn K (.ref (A_BC K)) (.ref (A_BC K)) = some true),
  decide (PySem.W.findIn K (.ref (A_BC K)) "__ne__" = some (some (.builtin "object.__ne__"))),
  decide (PySem.W.subIn K (.ref (A_BC K)) (.type "object") = some true),
  PySem.W.plainGet K (A_TC K) Str.empty]
def ckK4 (K : PySem.W.Frag) : List Bool := [
  PySem.W.hasDictIn K (A_TC K),
  PySem.W.plainOver K (A_TC K),
  decide (PySem.W.findIn K (.ref (A_TC K)) "__setattr__" = some (some (.builtin "object.__setattr__"))),
  PySem.W.makesIn K (A_TC K),
  PySem.W.keepIn K (.ref (A_TC K)),
  decide (PySem.W.findIn K (.ref (A_TC K)) "__class__" = some (some (.builtin "object.__class__"))),
  decide (PySem.W.mroIn K (A_TC K) (.type "object") = some true),
  decide (PySem.W.subIn K (.ref (A_TC K)) (.ref (A_TC K)) = some true),
  decide (PySem.W.findIn K (.ref (A_TC K)) "__ne__" = some (some (.builtin "object.__ne__"))),
  decide (PySem.W.subIn K (.ref (A_TC K)) (.type "object") = some true),
  PySem.W.plainGet K (A_RC K) Str.empty,
  PySem.W.hasDictIn K (A_RC K),
  PySem.W.plainOver K (A_RC K),
  decide (PySem.W.findIn K (.ref (A_RC K)) "__setattr__" = some (some (.builtin "object.__setattr__"))),
  PySem.W.makesIn K (A_RC K),
  PySem.W.keepIn K (.ref (A_RC K)),
  decide (PySem.W.findIn K (.ref (A_RC K)) "__class__" = some (some (.builtin "object.__class__"))),
  decide (PySem.W.mroIn K (A_RC K) (.type "object") = some true),
  decide (PySem.W.subIn K (.ref (A_RC K)) (.ref (A_RC K)) = some true),
  decide (PySem.W.findIn K (.ref (A_RC K)) "__ne__" = some (some (.builtin "object.__ne__"))),
  decide (PySem.W.subIn K (.ref (A_RC K)) (.type "object") = some true),
  PySem.W.plainGet K (A_SC K) Str.empty,
  PySem.W.hasDictIn K (A_SC K),
  PySem.W.plainOver K (A_SC K),
  decide (PySem.W.findIn K (.ref (A_SC K)) "__setattr__" = some (some (.builtin "object.__setattr__"))),
  PySem.W.makesIn K (A_SC K),
  PySem.W.keepIn K (.ref (A_SC K)),
  decide (PySem.W.findIn K (.ref (A_SC K)) "__class__" = some (some (.builtin "object.__class__"))),
  decide (PySem.W.mroIn K (A_SC K) (.type "object") = some true),
  decide (PySem.W.subIn K (.ref (A_SC K)) (.ref (A_SC K)) = some true)]
def ckK5 (K : PySem.W.Frag) : List Bool := [
  decide (PySem.W.findIn K (.ref (A_SC K)) "__ne__" = some (some (.builtin "object.__ne__"))),
  decide (PySem.W.subIn K (.ref (A_SC K)) (.type "object") = some true),
  PySem.W.plainGet K (A_HC K) Str.empty,
  PySem.W.hasDictIn K (A_HC K),
  PySem.W.plainOver K (A_HC K),
  decide (PySem.W.findIn K (.ref (A_HC K)) "__setattr__" = some (some (.builtin "object.__setattr__"))),
  PySem.W.makesIn K (A_HC K),
  PySem.W.keepIn K (.ref (A_HC K)),
  decide (PySem.W.findIn K (.ref (A_HC K)) "__class__" = some (some (.builtin "object.__class__"))),
  decide (PySem.W.mroIn K (A_HC K) (.type "object") = some true),
  decide (PySem.W.subIn K (.ref (A_HC K)) (.ref (A_HC K)) = some true),
  decide (PySem.W.findIn K (.ref (A_HC K)) "__ne__" = some (some (.builtin "object.__ne__"))),
  decide (PySem.W.subIn K (.ref (A_HC K)) (.type "object") = some true),
  decide (PySem.W.subIn K (.ref (A_BC K)) (.ref (A_MV K)) = some true),
  decide (PySem.W.subIn K (.ref (A_BC K)) (.ref (A_HC K)) = some false),
  decide (PySem.W.subIn K (.ref (A_TC K)) (.ref (A_BC K)) = some false),
  decide (PySem.W.subIn K (.ref (A_RC K)) (.ref (A_BC K)) = some false),
  decide (PySem.W.subIn K (.ref (A_SC K)) (.ref (A_BC K)) = some false),
  decide (PySem.W.subIn K (.ref (A_TC K)) (.ref (A_MV K)) = some true),
  decide (PySem.W.subIn K (.ref (A_TC K)) (.ref (A_HC K)) = some false),
  decide (PySem.W.subIn K (.ref (A_BC K)) (.ref (A_TC K)) = some false),
  decide (PySem.W.subIn K (.ref (A_RC K)) (.ref (A_TC K)) = some false),
  decide (PySem.W.subIn K (.ref (A_SC K)) (.ref (A_TC K)) = some false),
  decide (PySem.W.subIn K (.ref (A_RC K)) (.ref (A_MV K)) = some true),
  decide (PySem.W.subIn K (.ref (A_RC K)) (.ref (A_HC K)) = some false),
  decide (PySem.W.subIn K (.ref (A_BC K)) (.ref (A_RC K)) = some false),
  decide (PySem.W.subIn K (.ref (A_TC K)) (.ref (A_RC K)) = some false),
  decide (PySem.W.subIn K (.ref (A_SC K)) (.ref (A_RC K)) = some false),
  decide (PySem.W.subIn K (.ref (A_SC K)) (.ref (A_MV K)) = some true),
  decide (PySem.W.subIn K (.ref (A_SC K)) (.ref (A_HC K)) = some false)]
def ckK6 (K : PySem.W.Frag) : List Bool := [
  decide (PySem.W.subIn K (.ref (A_BC K)) (.ref (A_SC K)) = some false),
  decide (PySem.W.subIn K (.ref (A_TC K)) (.ref (A_SC K)) = some false),
  decide (PySem.W.subIn K (.ref (A_RC K)) (.ref (A_SC K)) = some false),
  decide (PySem.W.findIn K (.ref (A_BC K)) "amount" = some none),
  decide (PySem.W.findIn K (.ref (A_TC K)) "at" = some none),
  decide (PySem.W.findIn K (.ref (A_TC K)) "amount" = some none),
  decide (PySem.W.findIn K (.ref (A_RC K)) "at" = some none),
  decide (PySem.W.findIn K (.ref (A_RC K)) "amount" = some none),
  decide (PySem.W.findIn K (.ref (A_HC K)) "moves" = some none),
  decide (PySem.W.findIn K (.ref (A_BC K)) "__init__" = some (some (.ref (A_f_bi K)))),
  PySem.W.isFn K (.ref (A_f_bi K)),
  decide ((fdO K (A_f_bi K)).defaults = .none),
  PySem.W.codeIn K (fdO K (A_f_bi K)).code "Begin.__init__",
  PySem.W.keepIn K (.ref (A_f_bi K)),
  decide (PySem.W.findIn K (.ref (A_TC K)) "__init__" = some (some (.ref (A_f_ti K)))),
  PySem.W.isFn K (.ref (A_f_ti K)),
  decide ((fdO K (A_f_ti K)).defaults = (.ref (A_T_f_ti K))),
  PySem.W.codeIn K (fdO K (A_f_ti K)).code "Take.__init__",
  PySem.W.keepIn K (.ref (A_f_ti K)),
  tupO K (A_T_f_ti K) [.non],
  decide (PySem.W.findIn K (.ref (A_RC K)) "__init__" = some (some (.ref (A_f_ri K)))),
  PySem.W.isFn K (.ref (A_f_ri K)),
  decide ((fdO K (A_f_ri K)).defaults = .none),
  PySem.W.codeIn K (fdO K (A_f_ri K)).code "Right.__init__",
  PySem.W.keepIn K (.ref (A_f_ri K)),
  decide (PySem.W.findIn K (.ref (A_BC K)) "__eq__" = some (some (.ref (A_f_be K)))),
  PySem.W.isFn K (.ref (A_f_be K)),
  decide ((fdO K (A_f_be K)).defaults = .none),
  PySem.W.codeIn K (fdO K (A_f_be K)).code "Begin.__eq__",
  PySem.W.keepIn K (.ref (A_f_be K))]
def ckK7 (K : PySem.W.Frag) : List Bool := [
  decide (PySem.W.findIn K (.ref (A_BC K)) "__str__" = some (some (.ref (A_f_bs K)))),
  PySem.W.isFn K (.ref (A_f_bs K)),
  decide ((fdO K (A_f_bs K)).defaults = .none),
  PySem.W.codeIn K (fdO K (A_f_bs K)).code "Begin.__str__",
  PySem.W.keepIn K (.ref (A_f_bs K)),
  decide (PySem.W.findIn K (.ref (A_TC K)) "__eq__" = some (some (.ref (A_f_te K)))),
  PySem.W.isFn K (.ref (A_f_te K)),
  decide ((fdO K (A_f_te K)).defaults = .none),
  PySem.W.codeIn K (fdO K (A_f_te K)).code "Take.__eq__",
  PySem.W.keepIn K (.ref (A_f_te K)),
  decide (PySem.W.findIn K (.ref (A_TC K)) "__str__" = some (some (.ref (A_f_ts K)))),
  PySem.W.isFn K (.ref (A_f_ts K)),
  decide ((fdO K (A_f_ts K)).defaults = .none),
  PySem.W.codeIn K (fdO K (A_f_ts K)).code "Take.__str__",
  PySem.W.keepIn K (.ref (A_f_ts K)),
  decide (PySem.W.findIn K (.ref (A_RC K)) "__eq__" = some (some (.ref (A_f_re K)))),
  PySem.W.isFn K (.ref (A_f_re K)),
  decide ((fdO K (A_f_re K)).defaults = .none),
  PySem.W.codeIn K (fdO K (A_f_re K)).code "Right.__eq__",
  PySem.W.keepIn K (.ref (A_f_re K)),
  decide (PySem.W.findIn K (.ref (A_RC K)) "__str__" = some (some (.ref (A_f_rs K)))),
  PySem.W.isFn K (.ref (A_f_rs K)),
  decide ((fdO K (A_f_rs K)).defaults = .none),
  PySem.W.codeIn K (fdO K (A_f_rs K)).code "Right.__str__",
  PySem.W.keepIn K (.ref (A_f_rs K)),
  decide (PySem.W.findIn K (.ref (A_SC K)) "__eq__" = some (some (.ref (A_f_se K)))),
  PySem.W.isFn K (.ref (A_f_se K)),
  decide ((fdO K (A_f_se K)).defaults = .none),
  PySem.W.codeIn K (fdO K (A_f_se K)).code "Shut.__eq__",
  PySem.W.keepIn K (.ref (A_f_se K))]
def ckK8 (K : PySem.W.Frag) : List Bool := [
  decide (PySem.W.findIn K (.ref (A_SC K)) "__str__" = some (some (.ref (A_f_ss K)))),
  PySem.W.isFn K (.ref (A_f_ss K)),
  decide ((fdO K (A_f_ss K)).defaults = .none),
  PySem.W.codeIn K (fdO K (A_f_ss K)).code "Shut.__str__",
  PySem.W.keepIn K (.ref (A_f_ss K)),
  decide (PySem.W.findIn K (.ref (A_SC K)) "__init__" = some (some (.builtin "object.__init__"))),
  decide (PySem.W.findIn K (.ref (A_HC K)) "__init__" = some (some (.ref (A_f_hi K)))),
  PySem.W.isFn K (.ref (A_f_hi K)),
  decide ((fdO K (A_f_hi K)).defaults = (.ref (A_T_f_hi K))),
  PySem.W.codeIn K (fdO K (A_f_hi K)).code "History.__init__",
  PySem.W.keepIn K (.ref (A_f_hi K)),
  tupO K (A_T_f_hi K) [.ref (A_e_hi K)],
  tupO K (A_e_hi K) [],
  decide (PySem.W.findIn K (.ref (A_HC K)) "__eq__" = some (some (.ref (A_f_he K)))),
  PySem.W.isFn K (.ref (A_f_he K)),
  decide ((fdO K (A_f_he K)).defaults = .none),
  PySem.W.codeIn K (fdO K (A_f_he K)).code "History.__eq__",
  PySem.W.keepIn K (.ref (A_f_he K)),
  decide (PySem.W.findIn K (.ref (A_HC K)) "__str__" = some (some (.ref (A_f_hs K)))),
  PySem.W.isFn K (.ref (A_f_hs K)),
  decide ((fdO K (A_f_hs K)).defaults = .none),
  PySem.W.codeIn K (fdO K (A_f_hs K)).code "History.__str__",
  PySem.W.keepIn K (.ref (A_f_hs K)),
  decide (PySem.W.findIn K (.ref (A_HC K)) "__len__" = some (some (.ref (A_f_hl K)))),
  PySem.W.isFn K (.ref (A_f_hl K)),
  decide ((fdO K (A_f_hl K)).defaults = .none),
  PySem.W.codeIn K (fdO K (A_f_hl K)).code "History.__len__",
  PySem.W.keepIn K (.ref (A_f_hl K)),
  decide (PySem.W.findIn K (.ref (A_HC K)) "__getitem__" = some (some (.ref (A_f_hg K)))),
  PySem.W.isFn K (.ref (A_f_hg K))]
def ckK9 (K : PySem.W.Frag) : List Bool := [
  decide ((fdO K (A_f_hg K)).defaults = .none),
  PySem.W.codeIn K (fdO K (A_f_hg K)).code "History.__getitem__",
  PySem.W.keepIn K (.ref (A_f_hg K)),
  decide (PySem.W.findIn K (.ref (A_HC K)) "__add__" = some (some (.ref (A_f_ha K)))),
  PySem.W.isFn K (.ref (A_f_ha K)),
  decide ((fdO K (A_f_ha K)).defaults = .none),
  PySem.W.codeIn K (fdO K (A_f_ha K)).code "History.__add__",
  PySem.W.keepIn K (.ref (A_f_ha K)),
  PySem.W.selfFirst K (A_HC K),
  PySem.W.noSeq K (A_HC K),
  PySem.W.fnIn K (A_f_hg K),
  isC K (A_BC K),
  decide ((cdO K (A_BC K)).mro = [.ref (A_BC K), .ref (A_MV K), .type "object"]),
  isC K (A_TC K),
  decide ((cdO K (A_TC K)).mro = [.ref (A_TC K), .ref (A_MV K), .type "object"]),
  isC K (A_RC K),
  decide ((cdO K (A_RC K)).mro = [.ref (A_RC K), .ref (A_MV K), .type "object"]),
  isC K (A_SC K),
  decide ((cdO K (A_SC K)).mro = [.ref (A_SC K), .ref (A_MV K), .type "object"]),
  isC K (A_HC K),
  decide ((cdO K (A_HC K)).mro = [.ref (A_HC K), .type "object"]),
  decide (PySem.W.findIn K (.ref (A_BC K)) "__add__" = some none),
  decide (PySem.W.findIn K (.ref (A_BC K)) "__radd__" = some none),
  decide (PySem.W.findIn K (.ref (A_TC K)) "__add__" = some none),
  decide (PySem.W.findIn K (.ref (A_TC K)) "__radd__" = some none),
  decide (PySem.W.findIn K (.ref (A_RC K)) "__add__" = some none),
  decide (PySem.W.findIn K (.ref (A_RC K)) "__radd__" = some none),
  decide (PySem.W.findIn K (.ref (A_SC K)) "__add__" = some none),
  decide (PySem.W.findIn K (.ref (A_SC K)) "__radd__" = some none),
  decide (PySem.W.findIn K (.ref (A_MV K)) "__add__" = some none)]
def ckK10 (K : PySem.W.Frag) : List Bool := [
  decide (PySem.W.findIn K (.ref (A_MV K)) "__radd__" = some none),
  decide (PySem.W.findIn K (.ref (A_HC K)) "__iadd__" = some none),
  decide (PySem.W.findIn K (.type "object") "__add__" = some none),
  decide (PySem.W.findIn K (.type "object") "__radd__" = some none),
  decide (PySem.W.findIn K (.type "object") "__iadd__" = some none),
  PySem.W.readsIn K (A_HC K) (.type "type"),
  decide (PySem.W.specialIn K (.ref (A_HC K)) "__getattribute__" = some (some (.builtin "type.__getattribute__"))),
  cfO (PySem.W.findCls K (.ref (A_HC K)) (.type "type") "read") (.builtin "classmethod.__get__") (.ref (A_pr K)) .none (.ref (A_HC K)),
  decide (PySem.W.recIn K (A_pr K) "classmethod" = some (.ref (A_f_hr K) :: (recR K (A_pr K) "classmethod"))),
  PySem.W.fnIn K (A_f_hr K),
  decide ((fdO K (A_f_hr K)).defaults = .none),
  PySem.W.codeIn K (fdO K (A_f_hr K)).code "History.read",
  PySem.W.keepIn K (.ref (A_f_hr K)),
  decide (PySem.W.nsIn K mainGlobals "len" = some none),
  decide (PySem.W.nsIn K mainGlobals "abs" = some none),
  decide (PySem.W.nsIn K mainGlobals "int" = some none),
  decide (PySem.W.nsIn K mainGlobals "isinstance" = some none),
  decide (PySem.W.nsIn K mainGlobals "bool" = some none),
  decide (PySem.W.nsIn K mainGlobals "range" = some none),
  decide (PySem.W.nsIn K mainGlobals "tuple" = some none),
  decide (PySem.W.nsIn K mainGlobals "list" = some none),
  decide (PySem.W.nsIn K mainGlobals "all" = some none),
  decide (PySem.W.nsIn K mainGlobals "max" = some none),
  decide (PySem.W.nsIn K mainGlobals "min" = some none),
  decide (PySem.W.nsIn K mainGlobals "str" = some none),
  decide (PySem.W.nsIn K mainGlobals "enumerate" = some none),
  decide (PySem.W.nsIn K mainGlobals "repr" = some none),
  decide (PySem.W.nsIn K mainGlobals "InvalidText" = some (some (.ref (A_CT K)))),
  excO K (A_CT K) "ValueError.__new__",
  PySem.HandSPX.refsVE (cdO K (A_CT K)).mro.tail]
def ckK11 (K : PySem.W.Frag) : List Bool := [
  decide (PySem.W.findIn K (.ref (A_CT K)) "__setattr__" = some (some (.builtin "object.__setattr__"))),
  decide (PySem.W.findIn K (.ref (A_CT K)) "__getattribute__" = some (some (.builtin "BaseException.__getattribute__"))),
  decide (PySem.W.findIn K (.ref (A_CT K)) "__getattr__" = some none),
  decide (PySem.W.subIn K (.ref (A_CT K)) (.type "BaseException") = some true),
  decide (PySem.W.typeIn K (.ref (A_CT K)) = some (.type "type")),
  PySem.W.keepIn K (.ref (A_CT K)),
  PySem.W.hasDictIn K (A_CT K),
  PySem.W.isClsIn K (A_CT K),
  decide (PySem.W.findIn K (.ref (A_CT K)) "__class__" = some (some (.builtin "object.__class__"))),
  decide (PySem.W.specialIn K (.builtin "object.__class__") "__get__" = some (some (.builtin "getset_descriptor.__get__"))),
  decide (PySem.W.takesIn K (.builtin "object.__class__") = some true),
  decide (PySem.W.mroIn K (A_CT K) (.type "object") = some true),
  decide (PySem.W.subIn K (.ref (A_CT K)) (.ref (A_CT K)) = some true),
  decide (PySem.W.findIn K (.ref (A_CT K)) "at" = some none),
  decide (PySem.W.findIn K (.ref (A_CT K)) "__init__" = some (some (.ref (A_f_it K)))),
  decide (PySem.W.typeIn K (.ref (A_f_it K)) = some (.type "function")),
  decide ((fdO K (A_f_it K)).defaults = .none),
  PySem.W.codeIn K (fdO K (A_f_it K)).code "InvalidText.__init__",
  PySem.W.keepIn K (.ref (A_f_it K)),
  decide (PySem.W.exmOne K (.ref (A_CT K)) (.ref (A_CT K)) = some true),
  decide (PySem.W.exmOne K (.ref (A_CM K)) (.ref (A_CM K)) = some true),
  decide (PySem.W.nsIn K mainGlobals "BookError" = some (some (.ref (A_CB K)))),
  PySem.W.isClsIn K (A_CB K),
  decide (PySem.W.typeIn K (.ref (A_CB K)) = some (.type "type")),
  decide (PySem.W.subIn K (.ref (A_CT K)) (.ref (A_CB K)) = some true),
  decide (PySem.W.subIn K (.ref (A_CT K)) (.ref (A_CM K)) = some false)]
def ckK (K : PySem.W.Frag) : List (List Bool) := [ckK0 K, ckK1 K, ckK2 K, ckK3 K, ckK4 K, ckK5 K, ckK6 K, ckK7 K, ckK8 K, ckK9 K, ckK10 K, ckK11 K]
def fnK0 : List FnR := [
  ⟨A_f_int, "is_integer", "is_integer", sIsInt⟩,
  ⟨A_f_num, "is_number", "is_number", sIsNum⟩,
  ⟨A_f_amt, "is_amount", "is_amount", sIsAmt⟩,
  ⟨A_f_rn, "read_number", "read_number", sReadNumber⟩,
  ⟨A_f_ism, "is_moves", "is_moves", sIsMoves⟩,
  ⟨A_f_rms, "read_moves", "read_moves", sReadMoves⟩,
  ⟨A_f_rm, "read_move", "read_move", sReadMove⟩,
  ⟨A_f_mo, "move_of", "move_of", sMoveOf⟩,
  ⟨A_f_seed, "_law_seed", "_law_seed", sSeed⟩,
  ⟨A_f_choose, "_law_choose", "_law_choose", sChoose⟩,
  ⟨A_f_one, "_law_one_of", "_law_one_of", sOneOf⟩,
  ⟨A_f_am, "_law_any_move", "_law_any_move", sAnyMove⟩,
  ⟨A_f_mt, "_law_move_text", "_law_move_text", sMvText⟩,
  ⟨A_f_lt, "_law_text", "_law_text", sLawTextP⟩,
  ⟨A_f_dg, "_law_is_digits", "_law_is_digits", sIsDigits⟩,
  ⟨A_f_gd, "_law_is_good", "_law_is_good", sIsGood⟩,
  ⟨A_f_rl, "_law_read", "_law_read", sReadL⟩,
  ⟨A_f_bt, "_law_bent", "_law_bent", sBent⟩,
  ⟨A_f_law, "law", "law", sLaw⟩,
  ⟨A_f_im, "__init__", "InvalidMove.__init__", sImInit⟩,
  ⟨A_f_bi, "__init__", "Begin.__init__", sBInit⟩,
  ⟨A_f_ti, "__init__", "Take.__init__", sTInit⟩,
  ⟨A_f_ri, "__init__", "Right.__init__", sRInit⟩,
  ⟨A_f_be, "__eq__", "Begin.__eq__", sBEq⟩,
  ⟨A_f_bs, "__str__", "Begin.__str__", sBStr⟩,
  ⟨A_f_te, "__eq__", "Take.__eq__", sTEq⟩,
  ⟨A_f_ts, "__str__", "Take.__str__", sTStr⟩,
  ⟨A_f_re, "__eq__", "Right.__eq__", sREq⟩,
  ⟨A_f_rs, "__str__", "Right.__str__", sRStr⟩,
  ⟨A_f_se, "__eq__", "Shut.__eq__", sSEq⟩]
def fnK1 : List FnR := [
  ⟨A_f_ss, "__str__", "Shut.__str__", sSStr⟩,
  ⟨A_f_hi, "__init__", "History.__init__", sHInit⟩,
  ⟨A_f_he, "__eq__", "History.__eq__", sHEq⟩,
  ⟨A_f_hs, "__str__", "History.__str__", sHStr⟩,
  ⟨A_f_hl, "__len__", "History.__len__", sHLen⟩,
  ⟨A_f_hg, "__getitem__", "History.__getitem__", sHGet⟩,
  ⟨A_f_ha, "__add__", "History.__add__", sHAdd⟩,
  ⟨A_f_hr, "read", "History.read", sHRead⟩,
  ⟨A_f_it, "__init__", "InvalidText.__init__", sItInit⟩]
def fnK : List FnR := fnK0 ++ fnK1
def namesK0 : List PySem.Str := ["is_integer", "is_number", "is_amount", "read_number", "BookError", "InvalidMove", "InvalidText", "Move", "Begin", "Take", "Right", "Shut", "History", "is_moves", "read_moves", "read_move", "move_of", "_law_seed", "_law_choose", "_law_one_of", "_law_any_move", "_law_move_text", "_law_text", "_law_is_digits", "_law_is_good", "_law_read", "_law_bent"]
def namesK : List PySem.Str := namesK0
theorem hk_run (w : World) : HandSHeadRun.RunEq (PySem.W.OpenLaw.row PySem.Challenge.rw_contrabooks_k06_texts_of_histories) (PySem.W.view (PySem.W.OpenLaw.row PySem.Challenge.rw_contrabooks_k06_texts_of_histories).prog [31]) (hookK ckK fnK) (obK ckK fnK) 20000 namesK w := by
  intro os
  kernel_rfl
theorem hk_all {l : PySem.W.OpenLaw} {w : World} {K : PySem.W.Frag} {h : Heap} {mg : Str → Option Value} {fa : Addr} (X : K.In h) (G : h.Ns mainGlobals mg) (hfa : mg "law" = some (.ref fa)) (c : SaysK ckK fnK K) :
    ∃ fd : FuncData, (∀ (s : Shared) (v : Value), BindsTo s fd ⟨[v], []⟩ [("_law_script", v)]) ∧ ∀ base : Heap, K.In base → base.Ns mainGlobals mg → FnG l.prog w K mg base CX0 11 fa fd ["_law_script"] (spLaw K) :=
  all_mk (f_int := A_f_int K) (f_num := A_f_num K) (f_amt := A_f_amt K) (f_rn := A_f_rn K) (f_ism := A_f_ism K) (f_rms := A_f_rms K) (f_rm := A_f_rm K) (f_mo := A_f_mo K) (f_seed := A_f_seed K) (f_choose := A_f_choose K) (f_one := A_f_one K) (f_am := A_f_am K) (f_mt := A_f_mt K) (f_lt := A_f_lt K) (f_dg := A_f_dg K) (f_gd := A_f_gd K) (f_rl := A_f_rl K) (f_bt := A_f_bt K) (f_law := A_f_law K) (CM := A_CM K) (MV := A_MV K) (BC := A_BC K) (TC := A_TC K) (RC := A_RC K) (SC := A_SC K) (HC := A_HC K) (f_im := A_f_im K) (f_bi := A_f_bi K) (f_ti := A_f_ti K) (f_ri := A_f_ri K) (f_be := A_f_be K) (f_bs := A_f_bs K) (f_te := A_f_te K) (f_ts := A_f_ts K) (f_re := A_f_re K) (f_rs := A_f_rs K) (f_se := A_f_se K) (f_ss := A_f_ss K) (f_hi := A_f_hi K) (e_hi := A_e_hi K) (f_he := A_f_he K) (f_hs := A_f_hs K) (f_hl := A_f_hl K) (f_hg := A_f_hg K) (f_ha := A_f_ha K) (pr := A_pr K) (f_hr := A_f_hr K) (CT := A_CT K) (f_it := A_f_it K) (CB := A_CB K) X G hfa
    (of_decide_eq_true (c.chk 0 0 (l := ckK0 K) rfl rfl))
    (fn_at (c.def_ 0 (d := ⟨A_f_int, "is_integer", "is_integer", sIsInt⟩) rfl) (of_decide_eq_true (c.chk 0 1 (l := ckK0 K) rfl rfl)))
    (c.chk 0 2 (l := ckK0 K) rfl rfl)
    (c.chk 0 3 (l := ckK0 K) rfl rfl)
    (of_decide_eq_true (c.chk 0 4 (l := ckK0 K) rfl rfl))
    (fn_at (c.def_ 1 (d := ⟨A_f_num, "is_number", "is_number", sIsNum⟩) rfl) (of_decide_eq_true (c.chk 0 5 (l := ckK0 K) rfl rfl)))
    (c.chk 0 6 (l := ckK0 K) rfl rfl)
    (c.chk 0 7 (l := ckK0 K) rfl rfl)
    (of_decide_eq_true (c.chk 0 8 (l := ckK0 K) rfl rfl))
    (fn_at (c.def_ 2 (d := ⟨A_f_amt, "is_amount", "is_amount", sIsAmt⟩) rfl) (of_decide_eq_true (c.chk 0 9 (l := ckK0 K) rfl rfl)))
    (c.chk 0 10 (l := ckK0 K) rfl rfl)
    (c.chk 0 11 (l := ckK0 K) rfl rfl)
    (of_decide_eq_true (c.chk 0 12 (l := ckK0 K) rfl rfl))
    (fn_at (c.def_ 3 (d := ⟨A_f_rn, "read_number", "read_number", sReadNumber⟩) rfl) (of_decide_eq_true (c.chk 0 13 (l := ckK0 K) rfl rfl)))
    (c.chk 0 14 (l := ckK0 K) rfl rfl)
    (c.chk 0 15 (l := ckK0 K) rfl rfl)
    (of_decide_eq_true (c.chk 0 16 (l := ckK0 K) rfl rfl))
    (fn_at (c.def_ 4 (d := ⟨A_f_ism, "is_moves", "is_moves", sIsMoves⟩) rfl) (of_decide_eq_true (c.chk 0 17 (l := ckK0 K) rfl rfl)))
    (c.chk 0 18 (l := ckK0 K) rfl rfl)
    (c.chk 0 19 (l := ckK0 K) rfl rfl)
    (of_decide_eq_true (c.chk 0 20 (l := ckK0 K) rfl rfl))
    (fn_at (c.def_ 5 (d := ⟨A_f_rms, "read_moves", "read_moves", sReadMoves⟩) rfl) (of_decide_eq_true (c.chk 0 21 (l := ckK0 K) rfl rfl)))
    (c.chk 0 22 (l := ckK0 K) rfl rfl)
    (c.chk 0 23 (l := ckK0 K) rfl rfl)
    (of_decide_eq_true (c.chk 0 24 (l := ckK0 K) rfl rfl))
    (fn_at (c.def_ 6 (d := ⟨A_f_rm, "read_move", "read_move", sReadMove⟩) rfl) (of_decide_eq_true (c.chk 0 25 (l := ckK0 K) rfl rfl)))
    (c.chk 0 26 (l := ckK0 K) rfl rfl)
    (c.chk 0 27 (l := ckK0 K) rfl rfl)
    (of_decide_eq_true (c.chk 0 28 (l := ckK0 K) rfl rfl))
    (fn_at (c.def_ 7 (d := ⟨A_f_mo, "move_of", "move_of", sMoveOf⟩) rfl) (of_decide_eq_true (c.chk 0 29 (l := ckK0 K) rfl rfl)))
    (c.chk 1 0 (l := ckK1 K) rfl rfl)
    (c.chk 1 1 (l := ckK1 K) rfl rfl)
    (of_decide_eq_true (c.chk 1 2 (l := ckK1 K) rfl rfl))
    (fn_at (c.def_ 8 (d := ⟨A_f_seed, "_law_seed", "_law_seed", sSeed⟩) rfl) (of_decide_eq_true (c.chk 1 3 (l := ckK1 K) rfl rfl)))
    (c.chk 1 4 (l := ckK1 K) rfl rfl)
    (c.chk 1 5 (l := ckK1 K) rfl rfl)
    (of_decide_eq_true (c.chk 1 6 (l := ckK1 K) rfl rfl))
    (fn_at (c.def_ 9 (d := ⟨A_f_choose, "_law_choose", "_law_choose", sChoose⟩) rfl) (of_decide_eq_true (c.chk 1 7 (l := ckK1 K) rfl rfl)))
    (c.chk 1 8 (l := ckK1 K) rfl rfl)
    (c.chk 1 9 (l := ckK1 K) rfl rfl)
    (of_decide_eq_true (c.chk 1 10 (l := ckK1 K) rfl rfl))
    (fn_at (c.def_ 10 (d := ⟨A_f_one, "_law_one_of", "_law_one_of", sOneOf⟩) rfl) (of_decide_eq_true (c.chk 1 11 (l := ckK1 K) rfl rfl)))
    (c.chk 1 12 (l := ckK1 K) rfl rfl)
    (c.chk 1 13 (l := ckK1 K) rfl rfl)
    (of_decide_eq_true (c.chk 1 14 (l := ckK1 K) rfl rfl))
    (fn_at (c.def_ 11 (d := ⟨A_f_am, "_law_any_move", "_law_any_move", sAnyMove⟩) rfl) (of_decide_eq_true (c.chk 1 15 (l := ckK1 K) rfl rfl)))
    (c.chk 1 16 (l := ckK1 K) rfl rfl)
    (c.chk 1 17 (l := ckK1 K) rfl rfl)
    (of_decide_eq_true (c.chk 1 18 (l := ckK1 K) rfl rfl))
    (fn_at (c.def_ 12 (d := ⟨A_f_mt, "_law_move_text", "_law_move_text", sMvText⟩) rfl) (of_decide_eq_true (c.chk 1 19 (l := ckK1 K) rfl rfl)))
    (c.chk 1 20 (l := ckK1 K) rfl rfl)
    (c.chk 1 21 (l := ckK1 K) rfl rfl)
    (of_decide_eq_true (c.chk 1 22 (l := ckK1 K) rfl rfl))
    (fn_at (c.def_ 13 (d := ⟨A_f_lt, "_law_text", "_law_text", sLawTextP⟩) rfl) (of_decide_eq_true (c.chk 1 23 (l := ckK1 K) rfl rfl)))
    (c.chk 1 24 (l := ckK1 K) rfl rfl)
    (c.chk 1 25 (l := ckK1 K) rfl rfl)
    (of_decide_eq_true (c.chk 1 26 (l := ckK1 K) rfl rfl))
    (fn_at (c.def_ 14 (d := ⟨A_f_dg, "_law_is_digits", "_law_is_digits", sIsDigits⟩) rfl) (of_decide_eq_true (c.chk 1 27 (l := ckK1 K) rfl rfl)))
    (c.chk 1 28 (l := ckK1 K) rfl rfl)
    (c.chk 1 29 (l := ckK1 K) rfl rfl)
    (of_decide_eq_true (c.chk 2 0 (l := ckK2 K) rfl rfl))
    (fn_at (c.def_ 15 (d := ⟨A_f_gd, "_law_is_good", "_law_is_good", sIsGood⟩) rfl) (of_decide_eq_true (c.chk 2 1 (l := ckK2 K) rfl rfl)))
    (c.chk 2 2 (l := ckK2 K) rfl rfl)
    (c.chk 2 3 (l := ckK2 K) rfl rfl)
    (of_decide_eq_true (c.chk 2 4 (l := ckK2 K) rfl rfl))
    (fn_at (c.def_ 16 (d := ⟨A_f_rl, "_law_read", "_law_read", sReadL⟩) rfl) (of_decide_eq_true (c.chk 2 5 (l := ckK2 K) rfl rfl)))
    (c.chk 2 6 (l := ckK2 K) rfl rfl)
    (c.chk 2 7 (l := ckK2 K) rfl rfl)
    (of_decide_eq_true (c.chk 2 8 (l := ckK2 K) rfl rfl))
    (fn_at (c.def_ 17 (d := ⟨A_f_bt, "_law_bent", "_law_bent", sBent⟩) rfl) (of_decide_eq_true (c.chk 2 9 (l := ckK2 K) rfl rfl)))
    (c.chk 2 10 (l := ckK2 K) rfl rfl)
    (c.chk 2 11 (l := ckK2 K) rfl rfl)
    (of_decide_eq_true (c.chk 2 12 (l := ckK2 K) rfl rfl))
    (fn_at (c.def_ 18 (d := ⟨A_f_law, "law", "law", sLaw⟩) rfl) (of_decide_eq_true (c.chk 2 13 (l := ckK2 K) rfl rfl)))
    (c.chk 2 14 (l := ckK2 K) rfl rfl)
    (c.chk 2 15 (l := ckK2 K) rfl rfl)
    (of_decide_eq_true (c.chk 2 16 (l := ckK2 K) rfl rfl))
    (of_decide_eq_true (c.chk 2 17 (l := ckK2 K) rfl rfl))
    (of_decide_eq_true (c.chk 2 18 (l := ckK2 K) rfl rfl))
    (of_decide_eq_true (c.chk 2 19 (l := ckK2 K) rfl rfl))
    (of_decide_eq_true (c.chk 2 20 (l := ckK2 K) rfl rfl))
    (of_decide_eq_true (c.chk 2 21 (l := ckK2 K) rfl rfl))
    (of_decide_eq_true (c.chk 2 22 (l := ckK2 K) rfl rfl))
    (exc_at (c.chk 2 23 (l := ckK2 K) rfl rfl))
    (c.chk 2 24 (l := ckK2 K) rfl rfl)
    (of_decide_eq_true (c.chk 2 25 (l := ckK2 K) rfl rfl))
    (of_decide_eq_true (c.chk 2 26 (l := ckK2 K) rfl rfl))
    (of_decide_eq_true (c.chk 2 27 (l := ckK2 K) rfl rfl))
    (of_decide_eq_true (c.chk 2 28 (l := ckK2 K) rfl rfl))
    (of_decide_eq_true (c.chk 2 29 (l := ckK2 K) rfl rfl))
    (c.chk 3 0 (l := ckK3 K) rfl rfl)
    (c.chk 3 1 (l := ckK3 K) rfl rfl)
    (c.chk 3 2 (l := ckK3 K) rfl rfl)
    (of_decide_eq_true (c.chk 3 3 (l := ckK3 K) rfl rfl))
    (of_decide_eq_true (c.chk 3 4 (l := ckK3 K) rfl rfl))
    (of_decide_eq_true (c.chk 3 5 (l := ckK3 K) rfl rfl))
    (of_decide_eq_true (c.chk 3 6 (l := ckK3 K) rfl rfl))
    (of_decide_eq_true (c.chk 3 7 (l := ckK3 K) rfl rfl))
    (of_decide_eq_true (c.chk 3 8 (l := ckK3 K) rfl rfl))
    (of_decide_eq_true (c.chk 3 9 (l := ckK3 K) rfl rfl))
    (of_decide_eq_true (c.chk 3 10 (l := ckK3 K) rfl rfl))
    (fn_at (c.def_ 19 (d := ⟨A_f_im, "__init__", "InvalidMove.__init__", sImInit⟩) rfl) (of_decide_eq_true (c.chk 3 11 (l := ckK3 K) rfl rfl)))
    (c.chk 3 12 (l := ckK3 K) rfl rfl)
    (c.chk 3 13 (l := ckK3 K) rfl rfl)
    (c.chk 3 14 (l := ckK3 K) rfl rfl)
    (of_decide_eq_true (c.chk 3 15 (l := ckK3 K) rfl rfl))
    (c.chk 3 16 (l := ckK3 K) rfl rfl)
    (of_decide_eq_true (c.chk 3 17 (l := ckK3 K) rfl rfl))
    (c.chk 3 18 (l := ckK3 K) rfl rfl)
    (c.chk 3 19 (l := ckK3 K) rfl rfl)
    (c.chk 3 20 (l := ckK3 K) rfl rfl)
    (of_decide_eq_true (c.chk 3 21 (l := ckK3 K) rfl rfl))
    (c.chk 3 22 (l := ckK3 K) rfl rfl)
    (c.chk 3 23 (l := ckK3 K) rfl rfl)
    (of_decide_eq_true (c.chk 3 24 (l := ckK3 K) rfl rfl))
    (of_decide_eq_true (c.chk 3 25 (l := ckK3 K) rfl rfl))
    (of_decide_eq_true (c.chk 3 26 (l := ckK3 K) rfl rfl))
    (of_decide_eq_true (c.chk 3 27 (l := ckK3 K) rfl rfl))
    (of_decide_eq_true (c.chk 3 28 (l := ckK3 K) rfl rfl))
    (c.chk 3 29 (l := ckK3 K) rfl rfl)
    (c.chk 4 0 (l := ckK4 K) rfl rfl)
    (c.chk 4 1 (l := ckK4 K) rfl rfl)
    (of_decide_eq_true (c.chk 4 2 (l := ckK4 K) rfl rfl))
    (c.chk 4 3 (l := ckK4 K) rfl rfl)
    (c.chk 4 4 (l := ckK4 K) rfl rfl)
    (of_decide_eq_true (c.chk 4 5 (l := ckK4 K) rfl rfl))
    (of_decide_eq_true (c.chk 4 6 (l := ckK4 K) rfl rfl))
    (of_decide_eq_true (c.chk 4 7 (l := ckK4 K) rfl rfl))
    (of_decide_eq_true (c.chk 4 8 (l := ckK4 K) rfl rfl))
    (of_decide_eq_true (c.chk 4 9 (l := ckK4 K) rfl rfl))
    (c.chk 4 10 (l := ckK4 K) rfl rfl)
    (c.chk 4 11 (l := ckK4 K) rfl rfl)
    (c.chk 4 12 (l := ckK4 K) rfl rfl)
    (of_decide_eq_true (c.chk 4 13 (l := ckK4 K) rfl rfl))
    (c.chk 4 14 (l := ckK4 K) rfl rfl)
    (c.chk 4 15 (l := ckK4 K) rfl rfl)
    (of_decide_eq_true (c.chk 4 16 (l := ckK4 K) rfl rfl))
    (of_decide_eq_true (c.chk 4 17 (l := ckK4 K) rfl rfl))
    (of_decide_eq_true (c.chk 4 18 (l := ckK4 K) rfl rfl))
    (of_decide_eq_true (c.chk 4 19 (l := ckK4 K) rfl rfl))
    (of_decide_eq_true (c.chk 4 20 (l := ckK4 K) rfl rfl))
    (c.chk 4 21 (l := ckK4 K) rfl rfl)
    (c.chk 4 22 (l := ckK4 K) rfl rfl)
    (c.chk 4 23 (l := ckK4 K) rfl rfl)
    (of_decide_eq_true (c.chk 4 24 (l := ckK4 K) rfl rfl))
    (c.chk 4 25 (l := ckK4 K) rfl rfl)
    (c.chk 4 26 (l := ckK4 K) rfl rfl)
    (of_decide_eq_true (c.chk 4 27 (l := ckK4 K) rfl rfl))
    (of_decide_eq_true (c.chk 4 28 (l := ckK4 K) rfl rfl))
    (of_decide_eq_true (c.chk 4 29 (l := ckK4 K) rfl rfl))
    (of_decide_eq_true (c.chk 5 0 (l := ckK5 K) rfl rfl))
    (of_decide_eq_true (c.chk 5 1 (l := ckK5 K) rfl rfl))
    (c.chk 5 2 (l := ckK5 K) rfl rfl)
    (c.chk 5 3 (l := ckK5 K) rfl rfl)
    (c.chk 5 4 (l := ckK5 K) rfl rfl)
    (of_decide_eq_true (c.chk 5 5 (l := ckK5 K) rfl rfl))
    (c.chk 5 6 (l := ckK5 K) rfl rfl)
    (c.chk 5 7 (l := ckK5 K) rfl rfl)
    (of_decide_eq_true (c.chk 5 8 (l := ckK5 K) rfl rfl))
    (of_decide_eq_true (c.chk 5 9 (l := ckK5 K) rfl rfl))
    (of_decide_eq_true (c.chk 5 10 (l := ckK5 K) rfl rfl))
    (of_decide_eq_true (c.chk 5 11 (l := ckK5 K) rfl rfl))
    (of_decide_eq_true (c.chk 5 12 (l := ckK5 K) rfl rfl))
    (of_decide_eq_true (c.chk 5 13 (l := ckK5 K) rfl rfl))
    (of_decide_eq_true (c.chk 5 14 (l := ckK5 K) rfl rfl))
    (of_decide_eq_true (c.chk 5 15 (l := ckK5 K) rfl rfl))
    (of_decide_eq_true (c.chk 5 16 (l := ckK5 K) rfl rfl))
    (of_decide_eq_true (c.chk 5 17 (l := ckK5 K) rfl rfl))
    (of_decide_eq_true (c.chk 5 18 (l := ckK5 K) rfl rfl))
    (of_decide_eq_true (c.chk 5 19 (l := ckK5 K) rfl rfl))
    (of_decide_eq_true (c.chk 5 20 (l := ckK5 K) rfl rfl))
    (of_decide_eq_true (c.chk 5 21 (l := ckK5 K) rfl rfl))
    (of_decide_eq_true (c.chk 5 22 (l := ckK5 K) rfl rfl))
    (of_decide_eq_true (c.chk 5 23 (l := ckK5 K) rfl rfl))
    (of_decide_eq_true (c.chk 5 24 (l := ckK5 K) rfl rfl))
    (of_decide_eq_true (c.chk 5 25 (l := ckK5 K) rfl rfl))
    (of_decide_eq_true (c.chk 5 26 (l := ckK5 K) rfl rfl))
    (of_decide_eq_true (c.chk 5 27 (l := ckK5 K) rfl rfl))
    (of_decide_eq_true (c.chk 5 28 (l := ckK5 K) rfl rfl))
    (of_decide_eq_true (c.chk 5 29 (l := ckK5 K) rfl rfl))
    (of_decide_eq_true (c.chk 6 0 (l := ckK6 K) rfl rfl))
    (of_decide_eq_true (c.chk 6 1 (l := ckK6 K) rfl rfl))
    (of_decide_eq_true (c.chk 6 2 (l := ckK6 K) rfl rfl))
    (of_decide_eq_true (c.chk 6 3 (l := ckK6 K) rfl rfl))
    (of_decide_eq_true (c.chk 6 4 (l := ckK6 K) rfl rfl))
    (of_decide_eq_true (c.chk 6 5 (l := ckK6 K) rfl rfl))
    (of_decide_eq_true (c.chk 6 6 (l := ckK6 K) rfl rfl))
    (of_decide_eq_true (c.chk 6 7 (l := ckK6 K) rfl rfl))
    (of_decide_eq_true (c.chk 6 8 (l := ckK6 K) rfl rfl))
    (of_decide_eq_true (c.chk 6 9 (l := ckK6 K) rfl rfl))
    (c.chk 6 10 (l := ckK6 K) rfl rfl)
    (fn_at (c.def_ 20 (d := ⟨A_f_bi, "__init__", "Begin.__init__", sBInit⟩) rfl) (of_decide_eq_true (c.chk 6 11 (l := ckK6 K) rfl rfl)))
    (c.chk 6 12 (l := ckK6 K) rfl rfl)
    (c.chk 6 13 (l := ckK6 K) rfl rfl)
    (of_decide_eq_true (c.chk 6 14 (l := ckK6 K) rfl rfl))
    (c.chk 6 15 (l := ckK6 K) rfl rfl)
    (fn_at (c.def_ 21 (d := ⟨A_f_ti, "__init__", "Take.__init__", sTInit⟩) rfl) (of_decide_eq_true (c.chk 6 16 (l := ckK6 K) rfl rfl)))
    (c.chk 6 17 (l := ckK6 K) rfl rfl)
    (c.chk 6 18 (l := ckK6 K) rfl rfl)
    (tup_at (c.chk 6 19 (l := ckK6 K) rfl rfl))
    (of_decide_eq_true (c.chk 6 20 (l := ckK6 K) rfl rfl))
    (c.chk 6 21 (l := ckK6 K) rfl rfl)
    (fn_at (c.def_ 22 (d := ⟨A_f_ri, "__init__", "Right.__init__", sRInit⟩) rfl) (of_decide_eq_true (c.chk 6 22 (l := ckK6 K) rfl rfl)))
    (c.chk 6 23 (l := ckK6 K) rfl rfl)
    (c.chk 6 24 (l := ckK6 K) rfl rfl)
    (of_decide_eq_true (c.chk 6 25 (l := ckK6 K) rfl rfl))
    (c.chk 6 26 (l := ckK6 K) rfl rfl)
    (fn_at (c.def_ 23 (d := ⟨A_f_be, "__eq__", "Begin.__eq__", sBEq⟩) rfl) (of_decide_eq_true (c.chk 6 27 (l := ckK6 K) rfl rfl)))
    (c.chk 6 28 (l := ckK6 K) rfl rfl)
    (c.chk 6 29 (l := ckK6 K) rfl rfl)
    (of_decide_eq_true (c.chk 7 0 (l := ckK7 K) rfl rfl))
    (c.chk 7 1 (l := ckK7 K) rfl rfl)
    (fn_at (c.def_ 24 (d := ⟨A_f_bs, "__str__", "Begin.__str__", sBStr⟩) rfl) (of_decide_eq_true (c.chk 7 2 (l := ckK7 K) rfl rfl)))
    (c.chk 7 3 (l := ckK7 K) rfl rfl)
    (c.chk 7 4 (l := ckK7 K) rfl rfl)
    (of_decide_eq_true (c.chk 7 5 (l := ckK7 K) rfl rfl))
    (c.chk 7 6 (l := ckK7 K) rfl rfl)
    (fn_at (c.def_ 25 (d := ⟨A_f_te, "__eq__", "Take.__eq__", sTEq⟩) rfl) (of_decide_eq_true (c.chk 7 7 (l := ckK7 K) rfl rfl)))
    (c.chk 7 8 (l := ckK7 K) rfl rfl)
    (c.chk 7 9 (l := ckK7 K) rfl rfl)
    (of_decide_eq_true (c.chk 7 10 (l := ckK7 K) rfl rfl))
    (c.chk 7 11 (l := ckK7 K) rfl rfl)
    (fn_at (c.def_ 26 (d := ⟨A_f_ts, "__str__", "Take.__str__", sTStr⟩) rfl) (of_decide_eq_true (c.chk 7 12 (l := ckK7 K) rfl rfl)))
    (c.chk 7 13 (l := ckK7 K) rfl rfl)
    (c.chk 7 14 (l := ckK7 K) rfl rfl)
    (of_decide_eq_true (c.chk 7 15 (l := ckK7 K) rfl rfl))
    (c.chk 7 16 (l := ckK7 K) rfl rfl)
    (fn_at (c.def_ 27 (d := ⟨A_f_re, "__eq__", "Right.__eq__", sREq⟩) rfl) (of_decide_eq_true (c.chk 7 17 (l := ckK7 K) rfl rfl)))
    (c.chk 7 18 (l := ckK7 K) rfl rfl)
    (c.chk 7 19 (l := ckK7 K) rfl rfl)
    (of_decide_eq_true (c.chk 7 20 (l := ckK7 K) rfl rfl))
    (c.chk 7 21 (l := ckK7 K) rfl rfl)
    (fn_at (c.def_ 28 (d := ⟨A_f_rs, "__str__", "Right.__str__", sRStr⟩) rfl) (of_decide_eq_true (c.chk 7 22 (l := ckK7 K) rfl rfl)))
    (c.chk 7 23 (l := ckK7 K) rfl rfl)
    (c.chk 7 24 (l := ckK7 K) rfl rfl)
    (of_decide_eq_true (c.chk 7 25 (l := ckK7 K) rfl rfl))
    (c.chk 7 26 (l := ckK7 K) rfl rfl)
    (fn_at (c.def_ 29 (d := ⟨A_f_se, "__eq__", "Shut.__eq__", sSEq⟩) rfl) (of_decide_eq_true (c.chk 7 27 (l := ckK7 K) rfl rfl)))
    (c.chk 7 28 (l := ckK7 K) rfl rfl)
    (c.chk 7 29 (l := ckK7 K) rfl rfl)
    (of_decide_eq_true (c.chk 8 0 (l := ckK8 K) rfl rfl))
    (c.chk 8 1 (l := ckK8 K) rfl rfl)
    (fn_at (c.def_ 30 (d := ⟨A_f_ss, "__str__", "Shut.__str__", sSStr⟩) rfl) (of_decide_eq_true (c.chk 8 2 (l := ckK8 K) rfl rfl)))
    (c.chk 8 3 (l := ckK8 K) rfl rfl)
    (c.chk 8 4 (l := ckK8 K) rfl rfl)
    (of_decide_eq_true (c.chk 8 5 (l := ckK8 K) rfl rfl))
    (of_decide_eq_true (c.chk 8 6 (l := ckK8 K) rfl rfl))
    (c.chk 8 7 (l := ckK8 K) rfl rfl)
    (fn_at (c.def_ 31 (d := ⟨A_f_hi, "__init__", "History.__init__", sHInit⟩) rfl) (of_decide_eq_true (c.chk 8 8 (l := ckK8 K) rfl rfl)))
    (c.chk 8 9 (l := ckK8 K) rfl rfl)
    (c.chk 8 10 (l := ckK8 K) rfl rfl)
    (tup_at (c.chk 8 11 (l := ckK8 K) rfl rfl))
    (tup_at (c.chk 8 12 (l := ckK8 K) rfl rfl))
    (of_decide_eq_true (c.chk 8 13 (l := ckK8 K) rfl rfl))
    (c.chk 8 14 (l := ckK8 K) rfl rfl)
    (fn_at (c.def_ 32 (d := ⟨A_f_he, "__eq__", "History.__eq__", sHEq⟩) rfl) (of_decide_eq_true (c.chk 8 15 (l := ckK8 K) rfl rfl)))
    (c.chk 8 16 (l := ckK8 K) rfl rfl)
    (c.chk 8 17 (l := ckK8 K) rfl rfl)
    (of_decide_eq_true (c.chk 8 18 (l := ckK8 K) rfl rfl))
    (c.chk 8 19 (l := ckK8 K) rfl rfl)
    (fn_at (c.def_ 33 (d := ⟨A_f_hs, "__str__", "History.__str__", sHStr⟩) rfl) (of_decide_eq_true (c.chk 8 20 (l := ckK8 K) rfl rfl)))
    (c.chk 8 21 (l := ckK8 K) rfl rfl)
    (c.chk 8 22 (l := ckK8 K) rfl rfl)
    (of_decide_eq_true (c.chk 8 23 (l := ckK8 K) rfl rfl))
    (c.chk 8 24 (l := ckK8 K) rfl rfl)
    (fn_at (c.def_ 34 (d := ⟨A_f_hl, "__len__", "History.__len__", sHLen⟩) rfl) (of_decide_eq_true (c.chk 8 25 (l := ckK8 K) rfl rfl)))
    (c.chk 8 26 (l := ckK8 K) rfl rfl)
    (c.chk 8 27 (l := ckK8 K) rfl rfl)
    (of_decide_eq_true (c.chk 8 28 (l := ckK8 K) rfl rfl))
    (c.chk 8 29 (l := ckK8 K) rfl rfl)
    (fn_at (c.def_ 35 (d := ⟨A_f_hg, "__getitem__", "History.__getitem__", sHGet⟩) rfl) (of_decide_eq_true (c.chk 9 0 (l := ckK9 K) rfl rfl)))
    (c.chk 9 1 (l := ckK9 K) rfl rfl)
    (c.chk 9 2 (l := ckK9 K) rfl rfl)
    (of_decide_eq_true (c.chk 9 3 (l := ckK9 K) rfl rfl))
    (c.chk 9 4 (l := ckK9 K) rfl rfl)
    (fn_at (c.def_ 36 (d := ⟨A_f_ha, "__add__", "History.__add__", sHAdd⟩) rfl) (of_decide_eq_true (c.chk 9 5 (l := ckK9 K) rfl rfl)))
    (c.chk 9 6 (l := ckK9 K) rfl rfl)
    (c.chk 9 7 (l := ckK9 K) rfl rfl)
    (c.chk 9 8 (l := ckK9 K) rfl rfl)
    (c.chk 9 9 (l := ckK9 K) rfl rfl)
    (c.chk 9 10 (l := ckK9 K) rfl rfl)
    (cls_at (c.chk 9 11 (l := ckK9 K) rfl rfl))
    (of_decide_eq_true (c.chk 9 12 (l := ckK9 K) rfl rfl))
    (cls_at (c.chk 9 13 (l := ckK9 K) rfl rfl))
    (of_decide_eq_true (c.chk 9 14 (l := ckK9 K) rfl rfl))
    (cls_at (c.chk 9 15 (l := ckK9 K) rfl rfl))
    (of_decide_eq_true (c.chk 9 16 (l := ckK9 K) rfl rfl))
    (cls_at (c.chk 9 17 (l := ckK9 K) rfl rfl))
    (of_decide_eq_true (c.chk 9 18 (l := ckK9 K) rfl rfl))
    (cls_at (c.chk 9 19 (l := ckK9 K) rfl rfl))
    (of_decide_eq_true (c.chk 9 20 (l := ckK9 K) rfl rfl))
    (of_decide_eq_true (c.chk 9 21 (l := ckK9 K) rfl rfl))
    (of_decide_eq_true (c.chk 9 22 (l := ckK9 K) rfl rfl))
    (of_decide_eq_true (c.chk 9 23 (l := ckK9 K) rfl rfl))
    (of_decide_eq_true (c.chk 9 24 (l := ckK9 K) rfl rfl))
    (of_decide_eq_true (c.chk 9 25 (l := ckK9 K) rfl rfl))
    (of_decide_eq_true (c.chk 9 26 (l := ckK9 K) rfl rfl))
    (of_decide_eq_true (c.chk 9 27 (l := ckK9 K) rfl rfl))
    (of_decide_eq_true (c.chk 9 28 (l := ckK9 K) rfl rfl))
    (of_decide_eq_true (c.chk 9 29 (l := ckK9 K) rfl rfl))
    (of_decide_eq_true (c.chk 10 0 (l := ckK10 K) rfl rfl))
    (of_decide_eq_true (c.chk 10 1 (l := ckK10 K) rfl rfl))
    (of_decide_eq_true (c.chk 10 2 (l := ckK10 K) rfl rfl))
    (of_decide_eq_true (c.chk 10 3 (l := ckK10 K) rfl rfl))
    (of_decide_eq_true (c.chk 10 4 (l := ckK10 K) rfl rfl))
    (c.chk 10 5 (l := ckK10 K) rfl rfl)
    (of_decide_eq_true (c.chk 10 6 (l := ckK10 K) rfl rfl))
    (cf_at (c.chk 10 7 (l := ckK10 K) rfl rfl))
    (of_decide_eq_true (c.chk 10 8 (l := ckK10 K) rfl rfl))
    (c.chk 10 9 (l := ckK10 K) rfl rfl)
    (fn_at (c.def_ 37 (d := ⟨A_f_hr, "read", "History.read", sHRead⟩) rfl) (of_decide_eq_true (c.chk 10 10 (l := ckK10 K) rfl rfl)))
    (c.chk 10 11 (l := ckK10 K) rfl rfl)
    (c.chk 10 12 (l := ckK10 K) rfl rfl)
    (of_decide_eq_true (c.chk 10 13 (l := ckK10 K) rfl rfl))
    (of_decide_eq_true (c.chk 10 14 (l := ckK10 K) rfl rfl))
    (of_decide_eq_true (c.chk 10 15 (l := ckK10 K) rfl rfl))
    (of_decide_eq_true (c.chk 10 16 (l := ckK10 K) rfl rfl))
    (of_decide_eq_true (c.chk 10 17 (l := ckK10 K) rfl rfl))
    (of_decide_eq_true (c.chk 10 18 (l := ckK10 K) rfl rfl))
    (of_decide_eq_true (c.chk 10 19 (l := ckK10 K) rfl rfl))
    (of_decide_eq_true (c.chk 10 20 (l := ckK10 K) rfl rfl))
    (of_decide_eq_true (c.chk 10 21 (l := ckK10 K) rfl rfl))
    (of_decide_eq_true (c.chk 10 22 (l := ckK10 K) rfl rfl))
    (of_decide_eq_true (c.chk 10 23 (l := ckK10 K) rfl rfl))
    (of_decide_eq_true (c.chk 10 24 (l := ckK10 K) rfl rfl))
    (of_decide_eq_true (c.chk 10 25 (l := ckK10 K) rfl rfl))
    (of_decide_eq_true (c.chk 10 26 (l := ckK10 K) rfl rfl))
    (of_decide_eq_true (c.chk 10 27 (l := ckK10 K) rfl rfl))
    (exc_at (c.chk 10 28 (l := ckK10 K) rfl rfl))
    (c.chk 10 29 (l := ckK10 K) rfl rfl)
    (of_decide_eq_true (c.chk 11 0 (l := ckK11 K) rfl rfl))
    (of_decide_eq_true (c.chk 11 1 (l := ckK11 K) rfl rfl))
    (of_decide_eq_true (c.chk 11 2 (l := ckK11 K) rfl rfl))
    (of_decide_eq_true (c.chk 11 3 (l := ckK11 K) rfl rfl))
    (of_decide_eq_true (c.chk 11 4 (l := ckK11 K) rfl rfl))
    (c.chk 11 5 (l := ckK11 K) rfl rfl)
    (c.chk 11 6 (l := ckK11 K) rfl rfl)
    (c.chk 11 7 (l := ckK11 K) rfl rfl)
    (of_decide_eq_true (c.chk 11 8 (l := ckK11 K) rfl rfl))
    (of_decide_eq_true (c.chk 11 9 (l := ckK11 K) rfl rfl))
    (of_decide_eq_true (c.chk 11 10 (l := ckK11 K) rfl rfl))
    (of_decide_eq_true (c.chk 11 11 (l := ckK11 K) rfl rfl))
    (of_decide_eq_true (c.chk 11 12 (l := ckK11 K) rfl rfl))
    (of_decide_eq_true (c.chk 11 13 (l := ckK11 K) rfl rfl))
    (of_decide_eq_true (c.chk 11 14 (l := ckK11 K) rfl rfl))
    (of_decide_eq_true (c.chk 11 15 (l := ckK11 K) rfl rfl))
    (fn_at (c.def_ 38 (d := ⟨A_f_it, "__init__", "InvalidText.__init__", sItInit⟩) rfl) (of_decide_eq_true (c.chk 11 16 (l := ckK11 K) rfl rfl)))
    (c.chk 11 17 (l := ckK11 K) rfl rfl)
    (c.chk 11 18 (l := ckK11 K) rfl rfl)
    (of_decide_eq_true (c.chk 11 19 (l := ckK11 K) rfl rfl))
    (of_decide_eq_true (c.chk 11 20 (l := ckK11 K) rfl rfl))
    (of_decide_eq_true (c.chk 11 21 (l := ckK11 K) rfl rfl))
    (c.chk 11 22 (l := ckK11 K) rfl rfl)
    (of_decide_eq_true (c.chk 11 23 (l := ckK11 K) rfl rfl))
    (of_decide_eq_true (c.chk 11 24 (l := ckK11 K) rfl rfl))
    (of_decide_eq_true (c.chk 11 25 (l := ckK11 K) rfl rfl))
end V3
open PySem PySem.W PySem.Calls PyProof.Rows in
set_option maxRecDepth 100000 in
set_option maxHeartbeats 0 in
theorem PySem.Challenge.cw_contrabooks_k06_texts_of_histories_holds : PySem.Challenge.rw_contrabooks_k06_texts_of_histories.Holds := by
  w_on; o_law
  refine HandSHeadRun.head_any (r := OpenLaw.row PySem.Challenge.rw_contrabooks_k06_texts_of_histories) (q := view (OpenLaw.row PySem.Challenge.rw_contrabooks_k06_texts_of_histories).prog [31]) (H := V3.hookK V3.ckK V3.fnK) (ob := V3.obK V3.ckK V3.fnK) (M := 20000) (loose := V3.namesK) (d := HandSHeadRun.topDef (OpenLaw.row PySem.Challenge.rw_contrabooks_k06_texts_of_histories).prog 31) (kwd := []) (V3.obK_eq _ _)
    (by kernel_rfl) (fun s => by kernel_rfl) V3.hk_run (by kernel_rfl) (by kernel_rfl) (by kernel_rfl) (by rfl) (by first | assumption | decide +kernel) (by decide +kernel) ⟨rfl, rfl, rfl, rfl, rfl, by decide +kernel⟩ ?hw ?hc
  case hw => w_witness2
  case hc =>
    refine V3.walk_ofGE (l := PySem.Challenge.rw_contrabooks_k06_texts_of_histories) (n := 63) (k := 11) (x := "_law_script") rfl (by decide) (by kernel_rfl) ⟨rfl, by decide, by decide⟩ ?F
    intro w mg fa h Y G hmg0
    obtain ⟨K, KX, c⟩ := Y
    have hmg : mg ("law" : PySem.Str) = some (.ref fa) := by
      have e : (HandSHeadRun.topDef (OpenLaw.row PySem.Challenge.rw_contrabooks_k06_texts_of_histories).prog 31).name = ("law" : PySem.Str) := by kernel_rfl
      rw [← e]
      exact hmg0
    obtain ⟨fd, hb, hF⟩ := V3.hk_all (l := PySem.Challenge.rw_contrabooks_k06_texts_of_histories) (w := w) KX G hmg c
    exact ⟨K, fd, V3.spLaw K, KX, hb, fun H a ns hl _ hS => ⟨a, ns, rfl, hS, hl, fun _ => rfl⟩, hF⟩
#print axioms PySem.Challenge.cw_contrabooks_k06_texts_of_histories_holds
