import PyProof.Rows.All
import Wide.All
import OpenK.AllK
import Wide.FinOn
import HandS.ForExc
import HandS.Comp
import HandS.Dict
import HandS.Iter
import HandS.Text
import HandS.Wide
import HandS.FStr
import HandS.IsInst
import HandS.ExcInit
import HandS.ExcField
import HandS.OwnEq
import KE.KCallOwn
import KE.KExcIs
import PyProof.NeKinds
import HandS.RaiseMore
import HandS.Star
import HandS.ClsMeth
import HandS.StrMore
import PyProof.InstEq
import PyProof.Rows.NestShow
import HandS.Ends
import HandS.ExcIs
import HandS.Zip
import HandS.Walk
import HandS.Defaults
import KE.GoesEnum
import HandS.Strs
import HandS.TryOnly
import HandS.TupAny
import OpenK.KMeth
import HandS.Base
import HandS.Call
import HandS.List
import HandS.Style
import HandS.Conv
import PySem.Challenge.RW_contrabooks_k16_texts_of_houses
set_option Elab.async false
set_option linter.all false
set_option maxRecDepth 100000
/-! Rules of our own over the hand layer: an object made whose making may raise, within a try; str(o) by its own def; isinstance of a caught error with fields. -/
namespace V3
open PySem L2 PyProof.Rows
section
variable {X : Cx} {CX : CXT} {k : Nat} {f C : Addr} {fd : FuncData} {ps : List Str} {sp : Sp} {E : L2.St → XK} {x : Str} {p pos : Pos} {e : Expr} {es : List Expr} {t : TA} {dvs : List V} {ds : List Value}
theorem make_at {pins : List (Addr × Obj)} {σ : L2.St} {H : Hp} {s : Shared} {Q : VK}
    {us : List Value} {vs : List V} (M : Mk X.K C f)
    (F : FnOk X.prog X.w X.K X.mg X.base CX k f fd ps sp)
    (room : Room (k + 1) X.A) (bi : Binds X.K fd ps ds) (va : Vals dvs ds)
    (out : PassesAt CX X σ (E σ)) (I : Inv X pins σ H s) (r : Vals vs us)
    (h : ∀ y dy, H y = none → H dy = none → dy ≠ y →
      sp (.ref y :: (vs ++ dvs)) (upd (upd H dy (.own y)) y (.ins C dy []))
        (fun v H2 => v = .non ∧ Q (.ref y) H2) (E σ)) :
    wpAny (model X.prog X.w) X.A (call (.ref C) us) (EP X pins σ Q) X.xe s := by
  have want := h (s.heap.objs.size + 1) s.heap.objs.size
    (I.hok.fresh (Nat.le_succ _)) (I.hok.fresh (Nat.le_refl _))
    (Nat.ne_of_lt (Nat.lt_succ_self _))
  have J := Inv.made (C := C) I
  have rr : Vals (V.ref (s.heap.objs.size + 1) :: (vs ++ dvs))
      (Value.ref (s.heap.objs.size + 1) :: (us ++ ds)) := .cons rfl (r.append va)
  have len : (Value.ref (s.heap.objs.size + 1) :: us ++ ds).length = ps.length := by
    have q := rr.length
    rw [F.len _ _ _ _ want] at q
    exact q.symm
  have bound := bi _ (Value.ref (s.heap.objs.size + 1) :: us) J.kIn len
  have ran := F.run _ X.stack _ _ ⟨Value.ref (s.heap.objs.size + 1) :: us, []⟩
    (Value.ref (s.heap.objs.size + 1) :: (us ++ ds)) _ _ (E σ)
    (room.make C us []) (J.env0.make C us []) bound rr want
  refine wpAny_call (make_map (f := f) I.kIn M.makes M.init
    (beq_iff_eq.mp M.fn) (codeAny_mono ran fun res s' hq => ?_))
  match res, hq with
  | .error err, hq => exact out pins _ _ err s' J hq
  | .ok (.ret u), hq =>
    obtain ⟨v, H', I3, rv, ev, q3⟩ := J.after hq
    subst ev
    exact ⟨rv, ⟨V.ref (s.heap.objs.size + 1), H', I3, rfl, q3⟩⟩
  | .ok .next, hq => exact hq.elim
  | .ok .brk, hq => exact hq.elim
  | .ok .cont, hq => exact hq.elim
/-- C(e, ..) where what its making raises is wished for at the slots -/
def tMakeS (C : Addr) (sp : Sp) (dvs : List V) (E : L2.St → XK) (t : TA) : TE :=
  fun σ H Q => t σ H fun vs H1 => ∀ y dy, H1 y = none → H1 dy = none → dy ≠ y →
    sp (.ref y :: (vs ++ dvs)) (upd (upd H1 dy (.own y)) y (.ins C dy []))
      (fun v H2 => v = .non ∧ Q (.ref y) H2) (E σ)
theorem pe_makeS (M : Mk X.K C f) (F : FnOk X.prog X.w X.K X.mg X.base CX k f fd ps sp)
    (room : Room (k + 1) X.A) (hg : Gl X x) (hm : X.mg x = some (.ref C))
    (bi : Binds X.K fd ps ds) (va : Vals dvs ds) (out : ∀ σ, PassesAt CX X σ (E σ))
    (ha : PA X (e :: es) t) (hdb : (x == ("__debug__" : Str)) = false := by decide)
    (he : starEach (e :: es) X.env = (false, eval e X.env) :: starEach es X.env := by rfl)
    (hpl : (backTo pos (starEach es X.env)).any (·.1) = false := by rfl) :
    PE X (.Call (.Name x p) (e :: es) [] pos) (tMakeS C sp dvs E t) := by
  refine ⟨fun pins s σ H Q I h => wpAny_Call_Name_kw (ld_glob I hg hm ?_ hdb)⟩
  refine PySem.W.callWith_K (h₀ := X.base) I.ok.mod.kin M.kp ?_ he hpl
  exact thn (ha.run pos pins s σ H _ I h) fun us s1 ⟨vs, H1, I1, r, q⟩ =>
    ⟨I1.kIn, make_at M F room bi va (out σ) I1 r q⟩
end
/-! str(o), o of an own class with its own __str__ -/
section
variable {X : Cx} {CX : CXT} {n : Nat} {f C : Addr} {fd : FuncData} {ps : List Str} {sp : Sp} {E : XK}
theorem room2 {A : Around} (r : Room (n + 2) A) : Room n A.in1.in1 := Room.in1 (k := n) (Room.in1 (k := n + 1) r)
def rStrO (C : Addr) (sp : Sp) (E : XK) : List V → Hp → VK → Prop := fun xs H Q =>
  ∃ a dx fs, xs = [.ref a] ∧ H a = some (.ins C dx fs) ∧
    sp [.ref a] H (fun v H' => ∃ y : Str, v = .str y ∧ Q (.str y) H') E
theorem call_strO (F : FnOk X.prog X.w X.K X.mg X.base CX n f fd ps sp)
    (at_ : PySem.W.findIn X.K (.ref C) "__str__" = some (some (.ref f)))
    (isf : PySem.W.isFn X.K (.ref f) = true) (bi : Binds X.K fd ps [])
    (out : Passes CX X E) (room : Room (n + 2) X.A) : CallR X (.type "str") (rStrO C sp E) := by
  intro pins s σ H xs us Q I r h
  obtain ⟨a, dx, fs, rfl, ha, want⟩ := h
  cases r with
  | cons r1 rn =>
    cases rn
    cases r1
    obtain ⟨mA, O, _⟩ := ins_get I.hok ha
    obtain ⟨od, J, _⟩ := O.look
    have rr := room2 room
    refine PySem.W.kso_call rr.units0 I.kIn J at_ isf ?_
    have e0 : Env0 X.prog X.w X.K X.mg X.base X.A.in1.in1 X.stack s H := I.env0.in1.in1
    have len := F.len _ _ _ _ want
    have bound : BindsTo s fd ⟨[.ref a], []⟩ (ps.zip [Value.ref a]) := by
      have b := bi s [.ref a] I.kIn (by simpa using len)
      simpa using b
    have ran := F.run X.A.in1.in1 X.stack s H ⟨[.ref a], []⟩ [.ref a] [.ref a] _ E rr e0 bound (.cons rfl .nil) want
    refine wpAny_call (codeAny_mono ran fun res s' hq => ?_)
    match res, hq with
    | .error err, hq => exact out pins σ H s err s' I hq
    | .ok (.ret u), hq =>
      obtain ⟨v, H', I', rv, y, ev, q⟩ := I.after hq
      subst ev
      obtain ⟨t, rfl⟩ := rv
      exact ⟨.str y, H', I', ⟨t, rfl⟩, q⟩
    | .ok .next, hq => exact hq.elim
    | .ok .brk, hq => exact hq.elim
    | .ok .cont, hq => exact hq.elim
end
/-! isinstance(e, c), isinstance(e, (c, ..)), e the error that the suite holds -/
structure XClass (K : PySem.W.Frag) (D : Addr) : Prop where
  is : (PySem.W.clsIn K D).isSome = true
  ga : PySem.W.findIn K (.ref D) "__getattribute__" = some (some (.builtin "BaseException.__getattribute__"))
  gt : PySem.W.findIn K (.ref D) "__getattr__" = some none
  sb : PySem.W.subIn K (.ref D) (.type "BaseException") = some true
  ca : PySem.W.findIn K (.ref D) "__class__" = some (some (.builtin "object.__class__"))
  gn : PySem.W.specialIn K (.builtin "object.__class__") "__get__" = some (some (.builtin "getset_descriptor.__get__"))
  tk : PySem.W.takesIn K (.builtin "object.__class__") = some true
  mo : PySem.W.mroIn K D (.type "object") = some true
section
variable {X : Cx} {a D : Addr} {oe : Obj} {pn : List (Addr × Obj)} {d : Option Addr}
theorem held_at {pins : List (Addr × Obj)} {σ : L2.St} {H : Hp} {s : Shared} {dd : Addr} {fs : List (Str × V)}
    (hz : Zc (.ref D) (some dd) oe) (hf : ∃ vs, oe.data = .fields vs)
    (I : Inv (X.suite a ((a, oe) :: pn)) pins σ H s) (hd : H dd = some (.xd fs)) :
    ∃ od : Obj, PySem.W.InstAt s.heap a oe D (some od) := by
  obtain ⟨ha, _⟩ := I.pin (a, oe) (List.mem_append_left _ List.mem_cons_self)
  obtain ⟨vs, hv⟩ := hf
  have hx : ObjOk X.prog X.w H s.heap dd (.xd fs) := I.hok dd _ hd
  obtain ⟨mA, hns, _⟩ := hx
  obtain ⟨od, ho, _⟩ := lookIn_ns hns
  exact ⟨od, ha, hz.1, by unfold PySem.W.notCls; rw [hv] <;> rfl, by rw [hz.2]; exact ho⟩
def rIsX (K : PySem.W.Frag) (D a : Addr) (cls : Value) (d : Option Addr) : List V → Hp → VK → Prop := fun xs H Q =>
  ∃ (dd : Addr) (fs : List (Str × V)) (c : V) (u : Value) (b : Bool), cls = .ref D ∧ d = some dd ∧ H dd = some (.xd fs) ∧
    xs = [.ref a, c] ∧ ClsV c u ∧ PySem.W.kitOne K (.ref D) u = some b ∧ Q (.bl b) H
theorem call_isX {cls : Value} (T : XClass X.K D) (hz : Zc cls d oe) (hf : ∃ vs, oe.data = .fields vs) :
    CallR (X.suite a ((a, oe) :: pn)) (.builtin "isinstance") (rIsX X.K D a cls d) := by
  intro pins s σ H xs us Q I r h
  obtain ⟨dd, fs, c, u, b, rfl, rfl, hd, rfl, k, e, q⟩ := h
  obtain ⟨u1, u2, rfl, r1, r2⟩ := vals2 r
  cases (show u1 = Value.ref a from r1)
  have e2 := k.eq r2
  subst e2
  obtain ⟨od, J⟩ := held_at hz hf I hd
  exact PySem.W.kia_one (PySem.W.kitx_exc T.is T.ga T.gt T.sb T.ca T.gn T.tk T.mo) I.kIn J e (fun z => nomatch z)
    fun tk => ⟨.bl b, H, I.tok tk, rfl, q⟩
def rIsXT (K : PySem.W.Frag) (D a : Addr) (cls : Value) (d : Option Addr) : List V → Hp → VK → Prop := fun xs H Q =>
  ∃ (dd : Addr) (fs : List (Str × V)) (tp : Addr) (cs : List V) (us : List Value) (b : Bool), cls = .ref D ∧ d = some dd ∧ H dd = some (.xd fs) ∧
    xs = [.ref a, .ref tp] ∧ H tp = some (.tup cs) ∧ Paired ClsV cs us ∧ PySem.W.kitAny K (.ref D) us = some b ∧ Q (.bl b) H
theorem call_isXT {cls : Value} (T : XClass X.K D) (hz : Zc cls d oe) (hf : ∃ vs, oe.data = .fields vs) :
    CallR (X.suite a ((a, oe) :: pn)) (.builtin "isinstance") (rIsXT X.K D a cls d) := by
  intro pins s σ H xs us Q I r h
  obtain ⟨dd, fs, tp, cs, ws, b, rfl, rfl, hd, rfl, hT, k, e, q⟩ := h
  obtain ⟨u1, u2, rfl, r1, r2⟩ := vals2 r
  cases (show u1 = Value.ref a from r1)
  cases (show u2 = Value.ref tp from r2)
  obtain ⟨od, J⟩ := held_at hz hf I hd
  have okT : ObjOk X.prog X.w H s.heap tp (.tup cs) := I.hok tp _ hT
  obtain ⟨_, items, vals, ob, got, isT, m, dat⟩ := okT
  have same := ClsV.all k vals
  subst same
  obtain ⟨c0, d0, dt0, s0⟩ := ob
  simp only at isT dat
  subst isT dat
  exact PySem.W.kia_tup (PySem.W.kitx_exc T.is T.ga T.gt T.sb T.ca T.gn T.tk T.mo) I.kIn J got e (fun z => nomatch z)
    fun tk => ⟨.bl b, H, I.tok tk, rfl, q⟩
end
end V3

set_option Elab.async false
set_option linter.all false
set_option maxRecDepth 100000
/-! Further rules of our own: C() without an own __init__, len(o) by an own __len__, repr of small values, a list against the empty one. -/
namespace V3
open PySem L2 PyProof.Rows
section
variable {X : Cx} {C : Addr} {x : Str} {p pos : Pos}
/-- what a class without an own __init__ must have to be made -/
structure Mk0 (K : PySem.W.Frag) (C : Addr) : Prop where
  makes : PySem.W.makesIn K C = true
  ini : PySem.W.findIn K (.ref C) "__init__" = some (some (.builtin "object.__init__"))
  kp : PySem.W.keepIn K (.ref C) = true
def tNew (C : Addr) : TE := fun σ H Q => ∀ y dy, H y = none → H dy = none → dy ≠ y → Q (.ref y) (upd (upd H dy (.own y)) y (.ins C dy []))
theorem pe_new0 (M : Mk0 X.K C) (hg : Gl X x) (hm : X.mg x = some (.ref C)) (hdb : (x == ("__debug__" : Str)) = false := by decide) :
    PE X (.Call (.Name x p) [] [] pos) (tNew C) := by
  refine ⟨fun pins s σ H Q I h => wpAny_Call_Name_kw (ld_glob I hg hm ?_ hdb)⟩
  refine PySem.W.callWith_K0 I.kIn M.kp ?_
  have J := Inv.made (C := C) I
  have want := h (s.heap.objs.size + 1) s.heap.objs.size (I.hok.fresh (Nat.le_succ _)) (I.hok.fresh (Nat.le_refl _)) (Nat.ne_of_lt (Nat.lt_succ_self _))
  show wpAny _ _ (call (.ref C) []) _ _ _
  have KX := I.kIn
  refine wpAny_call (make_map0 KX M.makes M.ini (fun self => PySem.W.Looks.of_pure (PySem.W.oi_bind self)) ?_)
  have Y := PySem.W.makes_of (M := model X.prog X.w) KX M.makes
  obtain ⟨hh, g, d, t, os⟩ := s
  have own : ((hh.push PySem.W.emptyDict).push (PySem.W.instObj C hh.objs.size)).get? (hh.objs.size + 1) = some (PySem.W.instObj C hh.objs.size) := by heap_get
  have ty : PySem.W.Looks (model X.prog X.w) ((hh.push PySem.W.emptyDict).push (PySem.W.instObj C hh.objs.size)) (typeOf (.ref (hh.objs.size + 1))) (.ref C) :=
    (PySem.W.Looks.ld own).andThen .now
  have sub : PySem.W.Looks (model X.prog X.w) ((hh.push PySem.W.emptyDict).push (PySem.W.instObj C hh.objs.size)) (isInstance (.ref (hh.objs.size + 1)) (.type "object")) true := ty.andThen (Y.top.keeps fun b o e => Heap.get?_push_of_some _ (Heap.get?_push_of_some _ e))
  refine codeAny_call_builtin PySem.W.oi_plain PySem.W.entry_oi
    (@PySem.W.check_slot (model X.prog X.w) _ _ _ "object.__init__" "object" "__init__" (.ref (hh.objs.size + 1)) [] [] _
      PySem.W.oi_kind PySem.W.oi_split sub (PySem.W.oi_args (.ref (hh.objs.size + 1))) ?_)
  rw [PySem.W.oi_run]
  exact wpAny_pure (And.intro rfl ⟨V.ref (hh.objs.size + 1), _, J, rfl, want⟩)
end
section
variable {X : Cx} {CX : CXT} {n : Nat} {f C : Addr} {fd : FuncData} {ps : List Str} {sp : Sp} {E : XK}
/-- len(o), o of a class with its own __len__ -/
def rLenO (C : Addr) (sp : Sp) (E : XK) : List V → Hp → VK → Prop := fun xs H Q =>
  ∃ a dx fs, xs = [.ref a] ∧ H a = some (.ins C dx fs) ∧ sp [.ref a] H (fun v H' => ∃ i : Int, v = .int i ∧ (0 ≤ i ∧ i < 2 ^ 63) ∧ Q (.int i) H') E
theorem call_lenO (F : FnOk X.prog X.w X.K X.mg X.base CX n f fd ps sp) (at_ : PySem.W.findIn X.K (.ref C) "__len__" = some (some (.ref f)))
    (isf : PySem.W.isFn X.K (.ref f) = true) (bi : Binds X.K fd ps []) (out : Passes CX X E) (room : Room (n + 1) X.A) : CallR X (.builtin "len") (rLenO C sp E) := by
  intro pins s σ H xs us Q I r h
  obtain ⟨a, dx, fs, rfl, ha, want⟩ := h
  cases r with
  | cons r1 rn =>
    cases rn
    cases r1
    obtain ⟨mA, O, _⟩ := ins_get I.hok ha
    obtain ⟨od, J, _⟩ := O.look
    obtain ⟨m, hF⟩ := I.fr
    have rr : Room n X.A.in1 := Room.in1 (k := n) room
    refine PySem.W.len_K hF I.ok.mod.kin J at_ isf ?_
    have e0 : Env0 X.prog X.w X.K X.mg X.base X.A.in1 X.stack s H := I.env0.in1
    have len := F.len _ _ _ _ want
    have bound : BindsTo s fd ⟨[.ref a], []⟩ (ps.zip [Value.ref a]) := by
      have b := bi s [.ref a] I.kIn (by simpa using len)
      simpa using b
    have ran := F.run X.A.in1 X.stack s H ⟨[.ref a], []⟩ [.ref a] [.ref a] _ E rr e0 bound (.cons rfl .nil) want
    refine wpAny_call (codeAny_mono ran fun res s' hq => ?_)
    match res, hq with
    | .error err, hq => exact out pins σ H s err s' I hq
    | .ok (.ret u), hq =>
      obtain ⟨v, H', I', rv, i, ev, hi, q⟩ := I.after hq
      subst ev
      obtain ⟨t, rfl⟩ := rv
      exact ⟨hi, .int i, H', I'.tok _, ⟨_, rfl⟩, q⟩
    | .ok .next, hq => exact hq.elim
    | .ok .brk, hq => exact hq.elim
    | .ok .cont, hq => exact hq.elim
end
section
variable {X : Cx}
theorem call_repr_str : CallR X (.builtin "repr") (fun xs H Q => ∃ z : Str, xs = [.str z] ∧ (reprText z).length ≤ sizeLine ∧ Q (.str (reprText z)) H) := by
  intro pins s σ H xs us Q I r h
  obtain ⟨z, rfl, hz, q⟩ := h
  obtain ⟨u, rfl, t, rfl⟩ := vals1 r
  exact PySem.P.repr_of_str ⟨.str _, H, I.tok _, ⟨_, rfl⟩, q⟩ hz
/-- an int or a text -/
def rRepr : List V → Hp → VK → Prop := fun xs H Q => (∃ i : Int, xs = [.int i] ∧ i.natAbs.log2 < 1920 ∧ Q (.str (toString i)) H) ∨
  (∃ z : Str, xs = [.str z] ∧ (reprText z).length ≤ sizeLine ∧ Q (.str (reprText z)) H)
theorem call_reprIS : CallR X (.builtin "repr") rRepr := by
  intro pins s σ H xs us Q I r h
  rcases h with h | h
  · exact SkE.call_repr_int pins s σ H xs us Q I r h
  · exact call_repr_str pins s σ H xs us Q I r h
/-- xs != [] -/
def rNeE : R2 := fun x y H Q => ∃ l b xs, x = .ref l ∧ y = .ref b ∧ H l = some (.lst xs) ∧ H b = some (.lst []) ∧ Q (.bl (!xs.isEmpty)) H
theorem op_neE (hu : X.A.units < cLine) : OpR X (compareOp .NotEq) rNeE := by
  intro pins s σ H x y v u Q I rx ry h
  obtain ⟨l, b, xs, rfl, rfl, hl, hb, q⟩ := h
  cases rx
  cases ry
  obtain ⟨z, its, k, r, e⟩ := I.hok l _ hl
  obtain ⟨z2, its2, k2, r2, e2⟩ := I.hok b _ hb
  cases r2
  have L1 : s.heap.IsList l its.toArray := ⟨_, e, rfl, k, rfl⟩
  have L2' : s.heap.IsList b ([] : List Value).toArray := ⟨_, e2, rfl, k2, rfl⟩
  refine PySem.W.cmp_ofNotEq ?_
  cases r with
  | nil =>
    have c := PySem.SeqAt.RcNeAt.lists (e := fun _ => true) L1 L2' rfl hu (fun j h1 _ => absurd h1 (Nat.not_lt_zero _))
    exact c X.prog X.w X.xe _ ⟨.bl false, H, I, rfl, q⟩
  | @cons x0 u0 xs0 us0 r0 rr =>
    have c := PySem.SeqAt.RcNeAt.lists_lengths L1 L2' (by simp) hu
    exact c X.prog X.w X.xe _ ⟨.bl true, H, I, rfl, q⟩
end
end V3

set_option Elab.async false
set_option linter.all false
set_option maxRecDepth 100000
/-! Further rules of our own: xs[a:b:k]; a class that stands in a local name, called. -/
namespace V3
open PySem PySem.Spec PyProof.Rows L2
/-- the items of xs[lo:hi:st] -/
def stepV (xs : List V) (lo hi st : Option Int) : List V :=
  (sliceRange (sliceBounds lo hi st xs.length).1 (sliceBounds lo hi st xs.length).2.1 (sliceBounds lo hi st xs.length).2.2).filterMap (fun i => xs[i]?)
theorem vals_pick {xs : List V} {us : List Value} (r : Vals xs us) : ∀ idx : List Nat, Vals (idx.filterMap (fun i => xs[i]?)) (idx.filterMap (fun i => us.toArray[i]?))
  | [] => .nil
  | i :: idx => by
    have ih := vals_pick r idx
    rw [List.filterMap_cons, List.filterMap_cons]
    cases e : xs[i]? with
    | none =>
      have e2 : us.toArray[i]? = none := by
        rw [List.getElem?_toArray]
        exact r.none_of e
      rw [e2]
      exact ih
    | some x =>
      obtain ⟨u, hu, ru⟩ := r.get e
      have e2 : us.toArray[i]? = some u := by
        rw [List.getElem?_toArray]
        exact hu
      rw [e2]
      exact .cons ru ih
section
variable {X : Cx} {e : Expr} {te : TE} {lo hi st : Option Expr} {tl th ts : TO} {p2 pos : Pos}
def tStep (K : PySem.W.Frag) (te : TE) (tl th ts : TO) : TE := fun σ H Q => te σ H fun x H1 => tl σ H1 fun l H2 => th σ H2 fun u H3 => ts σ H3 fun k H4 =>
  ∃ a xs, x = .ref a ∧ SqL K H4 a xs ∧ k ≠ some 0 ∧ (stepV xs l u k).length ≤ sizeLine ∧ ∀ p, H4 p = none → Q (.ref p) (upd H4 p (.lst (stepV xs l u k)))
theorem pe_step (he : PE X e te) (hl : PO X lo tl) (hu : PO X hi th) (hk : PO X st ts)
    (hop : ∀ (o : Value) (n : Addr), subscripted (.Slice lo hi st p2) false o (.ref n) = operate [o, .ref n] (getItem o (.ref n)) := by intro _ _; with_unfolding_all rfl) :
    PE X (.Subscript e (.Slice lo hi st p2) pos) (tStep X.K te tl th ts) := by
  refine ⟨fun pins s σ H Q I h => ?_⟩
  refine Subscript_ (thn (he.run pins s σ H _ I h) fun v s1 ⟨x, H1, I1, r1, q1⟩ => ?_)
  refine wpAny_Slice (thn (hl.run pins s1 σ H1 _ I1 q1) fun vl s2 ⟨l, H2, I2, pl, q2⟩ =>
    thn (hu.run pins s2 σ H2 _ I2 q2) fun vu s3 ⟨u, H3, I3, pu, q3⟩ =>
    thn (hk.run pins s3 σ H3 _ I3 q3) fun vk s4 ⟨k, H4, I4, pk, q4⟩ => ?_)
  obtain ⟨a, xs, rfl, hx, hk0, hsz, q⟩ := q4
  have J : Inv X pins σ H4 { s4 with heap := s4.heap.push { cls := .type "slice", data := .fields #[vl, vu, vk] } } := I4.kept (t' := s4.toks) fun b ob q => Heap.get?_push_of_some _ q
  cases r1
  obtain ⟨its, r, ht, hz⟩ := J.list hx
  have hlen := r.length
  have got : wpAny (model X.prog X.w) X.A (getItem (.ref a) (.ref s4.heap.objs.size)) (EP X pins σ Q) X.xe { s4 with heap := s4.heap.push { cls := .type "slice", data := .fields #[vl, vu, vk] } } := by
    refine wpAny_getItem_list_slice ht.isList (Heap.IsSliceOf.new ..) pl pu pk hk0 ?_ (by rw [List.size_toArray] <;> omega)
    have e : slicePick its.toArray l u k = ((sliceRange (sliceBounds l u k xs.length).1 (sliceBounds l u k xs.length).2.1 (sliceBounds l u k xs.length).2.2).filterMap (fun i => its.toArray[i]?)).toArray := by
      unfold slicePick
      rw [List.size_toArray, ← hlen]
    rw [e]
    refine ⟨.ref (s4.heap.push _).objs.size, _, J.laid (t' := s4.toks) (o := .lst (stepV xs l u k)) (fun b ob q => Heap.get?_push_of_some _ q) (Nat.le_refl _) ?_, rfl, q _ (J.hok.fresh (Nat.le_refl _))⟩
    exact ⟨hsz, _, 0, vals_pick r _, Heap.get?_push_size _ rfl⟩
  show wpAny (model X.prog X.w) X.A (subscriptTail e (.Slice lo hi st p2) (.ref a) (.ref s4.heap.objs.size)) (EP X pins σ Q) X.xe { s4 with heap := s4.heap.push { cls := .type "slice", data := .fields #[vl, vu, vk] } }
  exact tail_any (ops := [.ref a, .ref s4.heap.objs.size]) ht.isList.typeIs slot_list_getitem.lookup got (hop _ _)
end
section
variable {X : Cx} {CX : CXT} {k i : Nat} {f C : Addr} {fd : FuncData} {ps : List Str} {sp : Sp} {E : XK} {x : Str} {p pos : Pos} {e : Expr} {es : List Expr} {t : TA} {dvs : List V} {ds : List Value}
/-- c(e, ..), c a local name that holds the class at C -/
def tMakeL (i : Nat) (C : Addr) (sp : Sp) (dvs : List V) (E : XK) (t : TA) : TE := fun σ H Q => σ[i]? = some (some (.ref C)) ∧ tMake C sp dvs E t σ H Q
theorem pe_makeL (M : Mk X.K C f) (F : FnOk X.prog X.w X.K X.mg X.base CX k f fd ps sp) (room : Room (k + 1) X.A) (hN : X.N[i]? = some x) (hv : Vis X.env.scope x)
    (bi : Binds X.K fd ps ds) (va : Vals dvs ds) (out : Passes CX X E) (ha : PA X (e :: es) t)
    (hdb : (x == ("__debug__" : Str)) = false := by decide) (hcd : (x == ("__classdict__" : Str)) = false := by decide)
    (he : starEach (e :: es) X.env = (false, eval e X.env) :: starEach es X.env := by rfl) (hpl : (backTo pos (starEach es X.env)).any (·.1) = false := by rfl) :
    PE X (.Call (.Name x p) (e :: es) [] pos) (tMakeL i C sp dvs E t) := by
  refine ⟨fun pins s σ H Q I h => ?_⟩
  obtain ⟨at_, want⟩ := h
  refine wpAny_Call_Name_kw (thn ((pe_var (pos := p) hN hv hdb hcd).run pins s σ H (fun v H1 => v = .ref C ∧ H1 = H) I ⟨.ref C, at_, rfl, rfl⟩) fun u s1 ⟨v, H1, I1, r1, q1⟩ => ?_)
  obtain ⟨rfl, rfl⟩ := q1
  cases r1
  refine PySem.W.callWith_K (h₀ := X.base) I.ok.mod.kin M.kp ?_ he hpl
  exact thn (ha.run pos pins s1 σ _ _ I1 want) fun us s2 ⟨vs, H2, I2, r, q⟩ => ⟨I2.kIn, run_make M F room bi va out I2 r q⟩
end
end V3

set_option Elab.async false
set_option linter.all false
set_option maxRecDepth 100000
/-! == and != of objects of our own classes, by their own __eq__, whatever it answers. -/
namespace V3
open PySem PySem.Spec PyProof.Rows L2
section
variable {prog : Program} {w : World} {A : Around} {E : Value → Shared → Prop} {s : Shared} {K : PySem.W.Frag} {x C L f : Addr} {h₀ : Heap} {m : Str → Option Value} {ox : Obj} {od : Option Obj} {name : Str} {b tb : Value}
theorem ifBound_B {M : Model} {args : List Value} {id : String} {Q : Option Value → Shared → Prop} (X : K.In s.heap) (I : PySem.W.InstAt s.heap x ox C od) (hs : PySem.W.findIn K (.ref C) name = some (some (.builtin id)))
    (hb : ∀ self, bindSpecial (.builtin id) self = pure (.builtin id, [self]))
    (h : wpAny M A (call (.builtin id) (.ref x :: args)) (fun v => Q (some v)) E s) : wpAny M A (callSpecialIfBound? (.ref x) name args) Q E s := by
  simp only [callSpecialIfBound?, bindSpecialIfBound?]
  refine wpAny_holding (wpAny_bind (wpAny_bind (wpAny_bind (I.type.here ((PySem.W.looks_findIn X hs).here ?_)))))
  simp only [hb]
  refine wpAny_bind (wpAny_askSetting (wpAny_ite ?_))
  have fin : wpAny M A (call (.builtin id) ([.ref x] ++ args) >>= fun v => pure (some v)) Q E s := wpAny_bind (wpAny_mono h (fun v s' h' => wpAny_pure h') fun _ _ h' => h')
  split
  · exact wpAny_bind (wpAny_pure (wpAny_pure fin))
  · exact wpAny_tryCatch (wpAny_bind (wpAny_pure (wpAny_pure fin)))
theorem ne_entry {Q : Fin → Shared → Prop} (hu : A.units < cLine) (X : K.In s.heap) (I : PySem.W.InstAt s.heap x ox C od) (hs : PySem.W.findIn K (.ref C) "__eq__" = some (some (.ref f))) (hf : PySem.W.isFn K (.ref f) = true)
    (h : wpAny (model prog w) A (call (.ref f) [.ref x, b]) (fun v s' => ∃ r, v = .bool r ∧ Q (.done (.ret (.bool (!r)))) s') E s) :
    wpAny (model prog w) A (Builtin.«object.__ne__» ⟨[.ref x, b], []⟩) Q E s := by
  unfold Builtin.«object.__ne__»
  repeat (first | with_reducible refine wpAny_cRoomFor hu ?_ | with_reducible refine wpAny_bind (PySem.W.ifBound_K X I hs hf (wpAny_mono h (fun v s' hv => ?_) fun _ _ e => e)) | wp_step)
  obtain ⟨r, rfl, q⟩ := hv
  repeat wp_step
  exact q
theorem ne_K {Q : Value → Shared → Prop} (hu : A.units + 1 < cLine) (F : PyProof.Rows.Fr h₀ L s.heap m) (X₀ : K.In h₀) (I : PySem.W.InstAt s.heap x ox C od) (hb : PySem.W.Looks (model prog w) s.heap (typeOf b) tb) (hn : PySem.W.notFirst K C tb = true)
    (hs : PySem.W.findIn K (.ref C) "__eq__" = some (some (.ref f))) (hf : PySem.W.isFn K (.ref f) = true)
    (hne : PySem.W.findIn K (.ref C) "__ne__" = some (some (.builtin "object.__ne__"))) (hob : PySem.W.subIn K (.ref C) (.type "object") = some true)
    (h : wpAny (model prog w) A.in1 (call (.ref f) [.ref x, b]) (fun v s' => ∃ r, v = .bool r ∧ Q (.bool (!r)) s') E s) : wpAny (model prog w) A (richCompare .NotEq (.ref x) b) Q E s := by
  have X := X₀.keeps F.keep
  have hu0 : A.units < cLine := Nat.lt_of_succ_lt hu
  have one : wpAny (model prog w) A (tryCompare (.ref x) "__ne__" b) (fun r s' => ∃ v, r = some v ∧ Q v s') E s := by
    unfold tryCompare
    refine wpAny_bind (ifBound_B X I hne (fun self => PySem.F.cmp_object.ne.bind self) ?_)
    refine wpAny_call (codeAny_call_builtin PySem.F.cmp_object.ne.plain PySem.F.cmpEntry_ne (PySem.W.check_slot PySem.F.cmpKind_ne PySem.F.cmpSplit_ne (I.type.andThen (PySem.W.looks_subIn X hob)) (PySem.F.cmpArgs_ne _ _) (ne_entry (A := A.in1) hu X I hs hf ?_)))
    refine wpAny_mono h (fun v s' hv => ?_) fun _ _ e => e
    obtain ⟨r, rfl, q⟩ := hv
    exact ⟨r, rfl, wpAny_pure ⟨_, rfl, q⟩⟩
  unfold richCompare
  simp only [oneThing_ref]
  refine wpAny_holding (wpAny_bind (wpAny_cRoomFor hu0 ?_))
  refine wpAny_bind (I.type.here (wpAny_bind (hb.here ?_)))
  split
  · rename_i q
    have e : PySem.W.subIn K tb (.ref C) = some false := by
      rcases Bool.or_eq_true_iff.mp hn with e | e
      · rw [beq_iff_eq.mp e] at q; simp at q
      · exact beq_iff_eq.mp e
    refine wpAny_bind ((PySem.W.looks_subIn X e).here ?_)
    simp only [Bool.false_eq_true, if_false]
    refine wpAny_bind (wpAny_mono one (fun r s' z => ?_) fun _ _ e => e)
    obtain ⟨v, rfl, hq⟩ := z
    exact wpAny_pure hq
  · refine wpAny_bind (wpAny_pure ?_)
    simp only [Bool.false_eq_true, if_false]
    refine wpAny_bind (wpAny_mono one (fun r s' z => ?_) fun _ _ e => e)
    obtain ⟨v, rfl, hq⟩ := z
    exact wpAny_pure hq
end
/-- a class with an own __eq__ at f and the __ne__ of object -/
structure EqCls (K : PySem.W.Frag) (C f : Addr) : Prop where
  eq : PySem.W.findIn K (.ref C) "__eq__" = some (some (.ref f))
  fn : PySem.W.isFn K (.ref f) = true
  ne : PySem.W.findIn K (.ref C) "__ne__" = some (some (.builtin "object.__ne__"))
  ob : PySem.W.subIn K (.ref C) (.type "object") = some true
section
variable {X : Cx} {CX : CXT} {n : Nat} {f C D : Addr} {fd : FuncData} {ps : List Str} {sp : Sp} {E : XK}
/-- f called at a pair, somewhere below the running body -/
theorem run_own {A : Around} {pins : List (Addr × Obj)} {s : Shared} {σ : L2.St} {H : Hp} {x y : V} {u v : Value} {Q : VK} (sb : Sub X n A) (F : FnOk X.prog X.w X.K X.mg X.base CX n f fd ps sp) (hb : Binds X.K fd ps []) (hx : Passes CX X E)
    (I : Inv X pins σ H s) (rx : RelV x u) (ry : RelV y v) (h : sp [x, y] H Q E) : wpAny (model X.prog X.w) A (call (.ref f) [u, v]) (EP X pins σ Q) X.xe s := by
  have e0 : Env0 X.prog X.w X.K X.mg X.base A X.stack s H := by
    have e := I.env0
    exact ⟨by rw [sb.fr]; exact e.frames, e.mod, e.bs, e.bsz, e.funs, e.frf, e.hok, e.bare⟩
  have hl := F.len _ _ _ _ h
  have r2 : Vals [x, y] [u, v] := .cons rx (.cons ry .nil)
  refine wpAny_call (codeAny_mono (F.run A X.stack s H ⟨[u, v], []⟩ [u, v] [x, y] _ E sb.room e0 (by
    have := hb s [u, v] I.kIn (by simpa using hl)
    simpa using this) r2 h) fun r s' hq => ?_)
  cases r with
  | error e => exact hx pins σ H s e s' I hq
  | ok fl =>
    cases fl with
    | ret w =>
      obtain ⟨z, H', I', rz, q⟩ := I.after hq
      exact ⟨z, H', I', rz, q⟩
    | next => exact False.elim hq
    | brk => exact False.elim hq
    | cont => exact False.elim hq
/-- x == y, x an object whose class has the own __eq__ -/
def rEqO (K : PySem.W.Frag) (n : Nat) (FF : Addr → Sp → XK → Prop) (neg : Bool) : R2 := fun x y H Q => ∃ (a C dx : Addr) (fs : List (Str × V)) (b D dy : Addr) (gs : List (Str × V)) (sp : Sp) (E : XK), x = .ref a ∧ y = .ref b ∧ H a = some (.ins C dx fs) ∧ H b = some (.ins D dy gs) ∧
  FF C sp E ∧ PySem.W.notFirst K C (.ref D) = true ∧ sp [x, y] H (fun v H' => ∃ r : Bool, v = .bl r ∧ Q (.bl (r != neg)) H') E
theorem op_eqO {FF : Addr → Sp → XK → Prop} (hF : ∀ C sp E, FF C sp E → ∃ (CX : CXT) (f : Addr) (fd : FuncData) (ps : List Str), FnOk X.prog X.w X.K X.mg X.base CX n f fd ps sp ∧ EqCls X.K C f ∧ Binds X.K fd ps [] ∧ Passes CX X E) (hr : Room n X.A) :
    OpR X (compareOp .Eq) (rEqO X.K n FF false) := by
  intro pins s σ H x y v u Q I rx ry hq
  obtain ⟨a, C, dx, fs, b, D, dy, gs, sp, E, rfl, rfl, ha, hb, ff, hn, hsp⟩ := hq
  obtain ⟨CX, f, fd, ps, F, ec, bi, hx⟩ := hF C sp E ff
  cases rx
  cases ry
  obtain ⟨mA, J, _⟩ := ins_get I.hok ha
  obtain ⟨mB, J', _⟩ := ins_get I.hok hb
  obtain ⟨od, J, _⟩ := J.look
  obtain ⟨od', J', _⟩ := J'.look
  obtain ⟨m, hF⟩ := I.fr
  show wpAny (model X.prog X.w) X.A (richCompare .Eq (.ref a) (.ref b)) (EP X pins σ Q) X.xe s
  refine PySem.W.cmp_K (op := .Eq) (tb := .ref D) hr.units0 hF I.ok.mod.kin J J'.type hn ec.eq ec.fn ?_
  refine wpAny_mono (run_own (x := .ref a) (y := .ref b) ⟨hr, rfl⟩ F bi hx I rfl rfl hsp) (fun w s' q => ?_) fun _ _ e => e
  obtain ⟨z, H', I', rz, r, ez, q⟩ := q
  subst ez
  cases rz
  refine ⟨.bl r, H', I', rfl, ?_⟩
  have e : (r != false) = r := by cases r <;> rfl
  rw [e] at q
  exact q
theorem op_neO {FF : Addr → Sp → XK → Prop} (hF : ∀ C sp E, FF C sp E → ∃ (CX : CXT) (f : Addr) (fd : FuncData) (ps : List Str), FnOk X.prog X.w X.K X.mg X.base CX n f fd ps sp ∧ EqCls X.K C f ∧ Binds X.K fd ps [] ∧ Passes CX X E) (hr : Room (n + 1) X.A) :
    OpR X (compareOp .NotEq) (rEqO X.K n FF true) := by
  intro pins s σ H x y v u Q I rx ry hq
  obtain ⟨a, C, dx, fs, b, D, dy, gs, sp, E, rfl, rfl, ha, hb, ff, hn, hsp⟩ := hq
  obtain ⟨CX, f, fd, ps, F, ec, bi, hx⟩ := hF C sp E ff
  cases rx
  cases ry
  obtain ⟨mA, J, _⟩ := ins_get I.hok ha
  obtain ⟨mB, J', _⟩ := ins_get I.hok hb
  obtain ⟨od, J, _⟩ := J.look
  obtain ⟨od', J', _⟩ := J'.look
  obtain ⟨m, hF⟩ := I.fr
  show wpAny (model X.prog X.w) X.A (richCompare .NotEq (.ref a) (.ref b)) (EP X pins σ Q) X.xe s
  refine ne_K (tb := .ref D) (by have := hr.units; omega) hF I.ok.mod.kin J J'.type hn ec.eq ec.fn ec.ne ec.ob ?_
  refine wpAny_mono (run_own (x := .ref a) (y := .ref b) (A := X.A.in1) ⟨hr.in1, rfl⟩ F bi hx I rfl rfl hsp) (fun w s' q => ?_) fun _ _ e => e
  obtain ⟨z, H', I', rz, r, ez, q⟩ := q
  subst ez
  cases rz
  refine ⟨r, rfl, .bl (!r), H', I', rfl, ?_⟩
  have e : (r != true) = !r := by cases r <;> rfl
  rw [e] at q
  exact q
end
end V3

set_option Elab.async false
set_option linter.all false
set_option maxRecDepth 100000
/-! functions that are called where no repr is under way: repr of nested lists and tuples -/
namespace V3
open PySem PySem.Spec PyProof.Rows L2
def NoG (A : Around) : Prop := A.guards = some []
theorem NoG.deeper {A : Around} (h : NoG A) (e : Env) : NoG (A.deeper e) := h
/-- what a def promises to such callers -/
structure FnG (P : Program) (w : World) (K : PySem.W.Frag)
    (mg : Str → Option Value) (base : Heap) (CX : CXT) (k : Nat)
    (f : Addr) (fd : FuncData) (ps : List Str) (sp : Sp) : Prop where
  len : ∀ vs H Q E, sp vs H Q E → vs.length = ps.length
  run : ∀ (A : Around) (up : List Env) (s : Shared) (H : Hp) (args : Args)
    (us : List Value) (vs : List V) (Q : VK) (E : XK),
    NoG A → Room k A → Env0 P w K mg base A up s H →
    BindsTo s fd args (ps.zip us) → Vals vs us → sp vs H Q E →
    codeAny (model P w) A (.call (.ref f) args) (CR CX up P w H s Q E) s
theorem FnG.of {P : Program} {w : World} {K : PySem.W.Frag} {mg : Str → Option Value} {base : Heap}
    {CX : CXT} {k : Nat} {f : Addr} {fd : FuncData} {ps : List Str} {sp : Sp}
    (F : FnOk P w K mg base CX k f fd ps sp) : FnG P w K mg base CX k f fd ps sp :=
  ⟨F.len, fun A up s H args us vs Q E _ => F.run A up s H args us vs Q E⟩
theorem FnG.up {P : Program} {w : World} {K : PySem.W.Frag} {mg : Str → Option Value} {base : Heap}
    {CX : CXT} {j k : Nat} {f : Addr} {fd : FuncData} {ps : List Str} {sp : Sp}
    (F : FnG P w K mg base CX j f fd ps sp) (h : j ≤ k) : FnG P w K mg base CX k f fd ps sp :=
  ⟨F.len, fun A up s H args us vs Q E g r => F.run A up s H args us vs Q E g (r.mono h)⟩
section
variable {P : Program} {w : World} {K : PySem.W.Frag} {mg : Str → Option Value} {base : Heap}
/-- the rule for a def of the text -/
theorem fnG {CX : CXT} {k : Nat} {f : Addr} {x qual : Str} {st : Stmt} {fd : FuncData}
    {N ps : List Str} {sp : Sp} (F : Fun K x qual st f fd) (S : FnScope N ps (defScope st))
    (len : ∀ vs H Q E, sp vs H Q E → vs.length = ps.length)
    (hbody : ∀ (cdv : Value) (A : Around) (up : List Env) (s : Shared) (H : Hp)
      (vs : List V) (Q : VK) (E : XK),
      NoG A → Room k (A.deeper (envOfC qual (defScope st) s.heap.objs.size f cdv)) →
      sp vs H Q E →
      ∃ t, PSs (cxOf CX P w K mg base N qual (defScope st) f cdv A up s H E) (defBody st) t ∧
        t { nx := fun _ H' => Q .non H', rt := Q } (start N vs) H) :
    FnG P w K mg base CX (k + 1) f fd ps sp := by
  obtain ⟨oc, od, kV, doc, pm, an, cdv, ct, osl, rfl, lk, hcd⟩ := F.ex
  refine ⟨len, fun A up s H args us vs Q E g room e0 bnd rel want => ?_⟩
  have nlen := len _ _ _ _ want
  have old := fun b o e => (e0.bs b o e).1
  have KX : K.In s.heap := e0.mod.kin.keeps old
  have lim := e0.mod.nolimit.keeps old
  have known : ∀ y ∈ ps.zip us, (defScope st).names.lookup y.1 = some .local ∨
      ((defScope st).names.lookup y.1 = some .cell ∧
        ((cellsFrom (s.heap.objs.size + 1) (defScope st).names []).lookup y.1).isSome = true) := by
    rintro ⟨n, v⟩ hy
    exact (S.par n (List.of_mem_zip hy).1).imp id fun q => ⟨q, PySem.W.cellsFrom_some _ _ _ (.inl q)⟩
  refine codeAny_call_function room.depth (KX _ _ lk) rfl S.co S.gen rfl
    (PySem.W.codeRec_of KX hcd) (bnd _ _ _ _ ?_)
  refine wpAny_newFunctionEnv_cells S.kind known fun env same s1 x => ?_
  subst same
  refine ⟨lim.keeps x.toInCall.keep, codeAny_func ?_⟩
  obtain ⟨t, ht, hq⟩ := hbody cdv A up s H vs Q E g (room.deeper _) want
  have I := inv_start (CX := CX) (E := E) S room.hd e0 nlen rel x
  refine wpAny_mono (ht.run [] s1 (start N vs) H _ I hq) (fun fl s' hs => ?_) fun e s' hs => hs
  match fl, hs with
  | .ret u, hs =>
    obtain ⟨v, σ', H', J, rv, q⟩ := hs
    exact ⟨v, H', J.os, J.bare, J.base, J.hok, rv, q⟩
  | .next, hs =>
    obtain ⟨σ', H', J, q⟩ := hs
    exact ⟨.non, H', J.os, J.bare, J.base, J.hok, rfl, q⟩
  | .brk, hs =>
    obtain ⟨_, _, _, q⟩ := hs
    exact q.elim
  | .cont, hs =>
    obtain ⟨_, _, _, q⟩ := hs
    exact q.elim
end
section
variable {X : Cx} {CX : CXT} {k : Nat} {f : Addr} {fd : FuncData} {ps : List Str} {sp : Sp}
  {dvs : List V} {ds : List Value} {E : XK} {x : Str} {p pos : Pos} {e : Expr} {es : List Expr} {t : TA}
theorem runG {pins : List (Addr × Obj)} {σ : L2.St} {H : Hp} {s : Shared} {Q : VK}
    {us : List Value} {vs : List V} (F : FnG X.prog X.w X.K X.mg X.base CX k f fd ps sp)
    (g : NoG X.A) (room : Room k X.A) (bi : Binds X.K fd ps ds) (va : Vals dvs ds)
    (out : Passes CX X E) (I : Inv X pins σ H s) (r : Vals vs us) (want : sp (vs ++ dvs) H Q E) :
    wpAny (model X.prog X.w) X.A (call (.ref f) us) (EP X pins σ Q) X.xe s := by
  have r2 := r.append va
  have nlen := r2.length.symm.trans (F.len _ _ _ _ want)
  have ran := F.run X.A X.stack s H ⟨us, []⟩ _ _ Q E g room I.env0 (bi s us I.kIn nlen) r2 want
  refine wpAny_call (codeAny_mono ran fun res s' hq => ?_)
  match res, hq with
  | .error err, hq => exact out pins σ H s err s' I hq
  | .ok (.ret u), hq => exact I.after hq
  | .ok .next, hq => exact hq.elim
  | .ok .brk, hq => exact hq.elim
  | .ok .cont, hq => exact hq.elim
/-- f(e, ..) -/
theorem pe_callG (F : FnG X.prog X.w X.K X.mg X.base CX k f fd ps sp) (g : NoG X.A)
    (room : Room k X.A) (hg : Gl X x) (hm : X.mg x = some (.ref f))
    (kp : PySem.W.keepIn X.K (.ref f) = true) (bi : Binds X.K fd ps ds) (va : Vals dvs ds)
    (out : Passes CX X E) (ha : PA X (e :: es) t)
    (hdb : (x == ("__debug__" : Str)) = false := by decide)
    (he : starEach (e :: es) X.env = (false, eval e X.env) :: starEach es X.env := by rfl)
    (hpl : (backTo pos (starEach es X.env)).any (·.1) = false := by rfl) :
    PE X (.Call (.Name x p) (e :: es) [] pos) (tCall sp dvs E t) := by
  refine ⟨fun pins s σ H Q I h => wpAny_Call_Name_kw (ld_glob I hg hm ?_ hdb)⟩
  refine PySem.W.callWith_K (h₀ := X.base) I.ok.mod.kin kp ?_ he hpl
  exact thn (ha.run pos pins s σ H _ I h) fun us s1 ⟨vs, H1, I1, r, q⟩ =>
    ⟨I1.kIn, runG F g room bi va out I1 r q⟩
/-- repr(v), v nested data -/
def rReprD (K : PySem.W.Frag) (A : Around) : List V → Hp → VK → Prop := fun xs H Q =>
  ∃ (a : Addr) (d : PyData), xs = [.ref a] ∧ Dp K H (.ref a) d ∧ d.showable = true ∧
    d.hasDict = false ∧ A.units + (d.depth + 1) < cLine ∧ d.shown.length ≤ sizeLine ∧ Q (.str d.shown) H
theorem call_reprD (g : NoG X.A) : CallR X (.builtin "repr") (rReprD X.K X.A) := by
  intro pins s σ H xs us Q I r h
  obtain ⟨a, d, rfl, hd, sh, nd, hu, hz, q⟩ := h
  obtain ⟨u, rfl, ru⟩ := vals1 r
  obtain ⟨as, rd⟩ := hd.reads I d _ _ ru
  cases ru
  exact repr_of_reads' rd sh (PyData.noDict_hsm nd) g hu (fun _ _ e => e)
    (fun h' u tk hk => ⟨.str d.shown, H, I.kept (t' := tk) hk, ⟨u, rfl⟩, q⟩) hz
end
end V3

set_option Elab.async false
set_option linter.all false
set_option maxRecDepth 100000
/-! the law's own call, where no repr is under way -/
namespace V3
open PySem PySem.Spec PyProof.Rows L2
section
variable {P : Program} {w : World} {K : PySem.W.Frag} {mg mb : Str → Option Value} {k : Nat}
  {fa a : Addr} {fd : FuncData} {x : Str} {sp : Sp} {s1 : Shared} {vs : List Value} {ns : List Int}
/-- nothing but the script is followed -/
structure Lone (H : Hp) (a : Addr) : Prop where
  only : Only H
  here : ∀ b, H b ≠ none → b = a
theorem law_from {H : Hp} (KX : K.In s1.heap) (hns : s1.heap.Ns mainGlobals mg)
    (hb : s1.heap.Ns builtinsNs mb) (hbb : ∀ y : Str, y ≠ "__name__" → mb y = bootBuiltins y)
    (lim : s1.heap.NoLimit) (gens : s1.gens = #[])
    (ha : s1.heap.get? a = some { cls := .type "list", data := .seq vs.toArray })
    (room : Room k callerA)
    (F : ∀ base : Heap, K.In base → base.Ns mainGlobals mg → FnG P w K mg base CX0 k fa fd [x] sp)
    (bi : ∀ (s : Shared) (u : Value), BindsTo s fd ⟨[u], []⟩ [(x, u)])
    (want : sp [.ref a] H (fun v _ => v = .bl true) fun _ _ _ => False)
    (lone : Lone H a) (hok : HOk P w H s1.heap) (free : H a ≠ none → K.lookup a = none) :
    codeAny (model P w) callerA (.call (.ref fa) ⟨[.ref a], []⟩)
      (fun r s' => r = .ok (.ret (.bool true)) ∧ OldK s1.heap s'.heap ∧ s'.os = s1.os ∧ AllBare s'.gens) s1 := by
  have at_a : ∀ {b : Addr}, H b ≠ none → b = a := fun {b} h => lone.here b h
  have kept : ∀ {b : Addr} {o : Obj}, s1.heap.get? b = some o → (b = a → H b = none) →
      (hidT s1.heap H).get? b = some o := by
    intro b o e n
    by_cases q : H b = none
    · exact hidT_get e q
    · exact hidT_get e (n (at_a q))
  have nsK : ∀ {b : Addr} {m : Str → Option Value}, s1.heap.Ns b m → (hidT s1.heap H).Ns b m := by
    rintro b m ⟨o, es, ep, e, d, r⟩
    refine ⟨o, es, ep, kept e fun z => ?_, d, r⟩
    subst z
    rw [ha] at e
    cases e
    exact nomatch d
  have hKb : K.In (hidT s1.heap H) := by
    intro b o e
    refine kept (KX b o e) fun z => ?_
    subst z
    by_cases q : H b = none
    · exact q
    · rw [free q] at e
      cases e
  obtain ⟨mc, c1, c2⟩ := lim
  have hM : Mod K mg (hidT s1.heap H) := ⟨hKb, nsK hns, ⟨mb, nsK hb, hbb⟩, mc, nsK c1, c2⟩
  have e0 : Env0 P w K mg (hidT s1.heap H) callerA [] s1 H :=
    ⟨rfl, hM, fun b o e => of_hidT e, Nat.le_of_eq (hidT_size _ _), trivial,
      fun b hb => (nomatch hb), hok, AllBare.of_eq gens⟩
  have ran := (F _ hKb (nsK hns)).run callerA [] s1 H ⟨[.ref a], []⟩ [.ref a] [.ref a] _ _ rfl room e0
    (bi s1 (.ref a)) (.cons rfl .nil) want
  refine codeAny_mono ran fun r s' h => ?_
  match r, h with
  | .error e, h => exact h.elim
  | .ok .next, h => exact h.elim
  | .ok .brk, h => exact h.elim
  | .ok .cont, h => exact h.elim
  | .ok (.ret u), h =>
    obtain ⟨v, H', os, bare, un, hok', r', q⟩ := h
    have q' : v = .bl true := q
    subst q'
    have r2 : u = Value.bool true := r'
    subst r2
    refine ⟨rfl, OldK.of_keep fun b o e => ?_, os, bare⟩
    cases hb : H b with
    | none => exact un.keep b o e hb (fun z => by cases z) (by simp)
    | some u =>
      rcases lone.only b with z | ⟨ob, xs, z⟩
      · rw [hb] at z
        cases z
      · obtain ⟨g1, _⟩ := hok b _ z
        obtain ⟨g2, _⟩ := hok' b _ (un.frzs b ob _ z)
        rw [e] at g1
        cases g1
        exact g2
theorem law_callG (KX : K.In s1.heap) (hns : s1.heap.Ns mainGlobals mg)
    (hb : s1.heap.Ns builtinsNs mb) (hbb : ∀ y : Str, y ≠ "__name__" → mb y = bootBuiltins y)
    (lim : s1.heap.NoLimit) (gens : s1.gens = #[])
    (ha : s1.heap.get? a = some { cls := .type "list", data := .seq vs.toArray })
    (whole : IntsAre vs ns) (few : ns.length ≤ sizeLine) (room : Room k callerA)
    (F : ∀ base : Heap, K.In base → base.Ns mainGlobals mg → FnG P w K mg base CX0 k fa fd [x] sp)
    (bi : ∀ (s : Shared) (u : Value), BindsTo s fd ⟨[u], []⟩ [(x, u)])
    (want : ∀ H : Hp, Only H → SqL K H a (ns.map V.int) → sp [.ref a] H (fun v _ => v = .bl true) fun _ _ _ => False) :
    codeAny (model P w) callerA (.call (.ref fa) ⟨[.ref a], []⟩)
      (fun r s' => r = .ok (.ret (.bool true)) ∧ OldK s1.heap s'.heap ∧ s'.os = s1.os ∧ AllBare s'.gens) s1 := by
  have rv := vals_ints whole
  have nv := whole.length
  cases hk : K.lookup a with
  | some o =>
    have e := KX a o hk
    rw [ha] at e
    cases e
    have o0 : Only (fun _ => none) := fun _ => .inl rfl
    refine law_from KX hns hb hbb lim gens ha room F bi (want _ o0 (.inr ⟨_, vs.toArray, _, hk, rfl, rfl, rfl, ?_, ?_⟩)) ⟨o0, ?_⟩ ?_ ?_
    · rw [List.size_toArray, nv]
      exact few
    · simpa using rv
    · intro b z
      exact absurd rfl z
    · intro b u z
      have z2 : (none : Option HO) = some u := z
      cases z2
    · intro z
      exact absurd rfl z
  | none =>
    let Ha : Hp := fun b => if b = a then some (.frz { cls := .type "list", data := .seq vs.toArray } (.lst (ns.map V.int))) else none
    have yes : Ha a = some (.frz { cls := .type "list", data := .seq vs.toArray } (.lst (ns.map V.int))) := if_pos rfl
    have no : ∀ b, b ≠ a → Ha b = none := fun b n => if_neg n
    have o0 : Only Ha := by
      intro b
      by_cases z : b = a
      · subst z
        exact .inr ⟨_, _, yes⟩
      · exact .inl (no b z)
    refine law_from (H := Ha) KX hns hb hbb lim gens ha room F bi (want _ o0 (.inl (.inr ⟨_, yes⟩))) ⟨o0, ?_⟩ ?_ fun _ => hk
    · intro b z
      by_cases q : b = a
      · exact q
      · exact absurd (no b q) z
    · intro b u z
      by_cases q : b = a
      · subst q
        rw [yes] at z
        cases z
        exact ⟨ha, by rw [List.length_map]; exact few, vs, _, rv, ha⟩
      · rw [no b q] at z
        cases z
end
/-- the walk from such a promise -/
theorem walk_ofG {l : PySem.W.OpenLaw} {n k : Nat} {q : Program} {loose : List Str}
    {XP : (Str → Option Value) → Heap → Prop} {YP : World → Heap → Prop} {d : DefRec}
    {K : Params → PySem.W.Frag} {sp : World → Sp} {x : Str}
    (hn : l.most = some n) (small : n ≤ sizeLine) (hdf : d.params.defaults = []) (room : Room k callerA)
    (hY : ∀ (w : World) (h : Heap), YP w h → (K w.params).In h)
    (F : ∀ (w : World) (mg : Str → Option Value) (fa : Addr) (h : Heap), (K w.params).In h →
      h.Ns mainGlobals mg → mg d.name = some (.ref fa) →
      ∃ fd : FuncData, (∀ (s : Shared) (u : Value), BindsTo s fd ⟨[u], []⟩ [(x, u)]) ∧
        ∀ base : Heap, (K w.params).In base → base.Ns mainGlobals mg →
          FnG l.prog w (K w.params) mg base CX0 k fa fd [x] (sp w))
    (hsp : ∀ (w : World) (H : Hp) (a : Addr) (ns : List Int), ns.length ≤ n → Only H →
      SqL (K w.params) H a (ns.map V.int) → sp w [.ref a] H (fun v _ => v = .bl true) fun _ _ _ => False) :
    PySem.W.WalkO q loose XP YP l.row.toRowW d [] (fun f vs => PySem.call f vs) := by
  refine Att.attach_call hn hdf fun w s0 s1 mg mb fa o pm cd doc a vs ns G Y ho hd hcd hmg hobj whole len gens => ?_
  have KX := hY w _ Y
  obtain ⟨fd, bi, hF⟩ := F w mg fa _ KX G.T.g hmg
  exact law_callG KX G.T.g G.T.b G.T.builtins G.T.nolimit gens hobj whole (Nat.le_trans len small) room hF bi
    fun H hO hS => hsp w H a ns len hO hS
end V3

set_option Elab.async false
set_option linter.all false
set_option maxRecDepth 100000
/-! x in (a, b, ..), where none of the items is x: each item's own == is run -/
namespace V3
open PySem PySem.SeqAt
open AutoSeq1 (wpAny_loadPart')
open MeetsSeq MeetsSeq2 MeetsSeq3 SeqRoads2
section
variable {prog : Program} {w : World} {A : Around} {R : Result → Shared → Prop}
theorem tuple_none (l : Addr) (items : Array Value) (n : Nat) (dd : Option Addr) (sl : Array (Option Value)) (x : Value) (I : Nat → Shared → Prop)
    (turn : ∀ i (h : i < items.size) s, I i s →
      wpAny (model prog w) A.in1 (eqBool items[i] x) (fun r s' => r = false ∧ I (i + 1) s') (fun e s' => R (.error e) s') s)
    (fin : ∀ s, I items.size s → R (.ok (.ret (.bool false))) s) {s : Shared}
    (hl : s.heap.get? l = some { cls := .type "tuple", dict := dd, data := .seq items n, slots := sl }) (h : I 0 s) :
    wpAny (model prog w) A.in1 (Builtin.«tuple.__contains__» ⟨[.ref l, x], []⟩) (GQ.FinOf prog w A R) (fun e s' => R (.error e) s') s := by
  have h0 := h
  obtain ⟨hp, g, d, tk, os⟩ := s
  wp_walk using wpAny_loadPart' hl, wpAny_forIn_array _ (fun rest b s' => b.1 = none ∧ ∃ i, rest = items.toList.drop i ∧ i ≤ items.size ∧ I i s') _
  case turn =>
    rintro y rest b s' ⟨hb, i, hz, hi, hI⟩
    have lt : i < items.toList.length := by
      rcases Nat.lt_or_ge i items.toList.length with q | q
      · exact q
      · rw [List.drop_of_length_le q] at hz
        cases hz
    have lt2 : i < items.size := by simpa using lt
    rw [List.drop_eq_getElem_cons lt] at hz
    injection hz with hy hr
    have hy2 : y = items[i] := by simpa using hy
    subst hy2
    refine wpAny_bind (wpAny_mono (turn i lt2 s' hI) (fun r s2 q => ?_) fun _ _ z => z)
    obtain ⟨rfl, q⟩ := q
    wp_walk
    exact ⟨rfl, i + 1, hr, lt2, q⟩
  case fin =>
    rintro ⟨b1, b2⟩ s' ⟨hb, i, hz, hi, hI⟩
    simp only at hb
    subst hb
    have ge : items.size ≤ i := by
      rcases Nat.lt_or_ge i items.toList.length with q | q
      · rw [List.drop_eq_getElem_cons q] at hz
        cases hz
      · simpa using q
    have e : i = items.size := by omega
    have hR := fin s' (e ▸ hI)
    wp_walk
    first | exact hR | exact ⟨_, rfl, hR⟩ | simpa using hR
  case h =>
    exact ⟨rfl, 0, rfl, Nat.zero_le _, h0⟩
end
end V3

set_option Elab.async false
set_option linter.all false
set_option maxRecDepth 100000
namespace V3
open PySem PySem.SeqAt
open AutoSeq1 (wpAny_loadPart')
section
variable {prog : Program} {w : World} {A : Around} {E : Value → Shared → Prop} {s : Shared} {x : Addr} {o : Obj}
theorem str_declines {z : Str} {t : Tok} {Q : Shared → Prop} (ho : s.heap.get? x = some o) (hd : o.data = .plain) (hq : Q s) :
    wpAny (model prog w) A (call (.builtin "str.__eq__") [.str z t, .ref x]) (fun v s' => v = .notImplemented ∧ Q s') E s := by
  refine GQ.call_here F.slot_str_eq (typeIs_str s z t) F.entry_str_eq (F.args_str_eq_2 _ _) ?_
  obtain ⟨c, dd, da, sl⟩ := o
  simp only at hd
  subst hd
  obtain ⟨hp, g, d, tk, os⟩ := s
  unfold Builtin.«str.__eq__» Builtin.Str.strCompare
  wp_walk using wpAny_load ho
  exact ⟨rfl, hq⟩
theorem none_declines {Q : Shared → Prop} (hq : Q s) :
    wpAny (model prog w) A (call (.builtin "NoneType.__eq__") [.none, .ref x]) (fun v s' => v = .notImplemented ∧ Q s') E s := by
  refine GQ.call_here F.slot_NoneType_eq (typeIs_none s) F.entry_NoneType_eq (F.args_NoneType_eq_2 _ _) ?_
  obtain ⟨hp, g, d, tk, os⟩ := s
  unfold Builtin.«NoneType.__eq__»
  wp_walk
  exact ⟨rfl, hq⟩
theorem tup_declines {K : PySem.W.Frag} {C p : Addr} {od : Option Obj} {items : Array Value} {Q : Shared → Prop} (X : K.In s.heap) (I : PySem.W.InstAt s.heap x o C od) (hs : PySem.W.subIn K (.ref C) (.type "tuple") = some false) (hp : s.heap.IsTuple p items) (hq : Q s) :
    wpAny (model prog w) A (call (.builtin "tuple.__eq__") [.ref p, .ref x]) (fun v s' => v = .notImplemented ∧ Q s') E s := by
  obtain ⟨⟨c1, d1, da, sl⟩, ho, hc, n, hd⟩ := id hp
  simp only at hc hd
  subst hc hd
  refine GQ.call_here F.slot_tuple_eq ⟨_, ho, rfl⟩ F.entry_tuple_eq (F.args_tuple_eq_2 _ _) ?_
  obtain ⟨hh, g, d, tk, os⟩ := s
  wp_walk
  refine wpAny_loadPart I.at_ (wpAny_pure ?_)
  rw [I.cls]
  refine (PySem.W.looks_subIn X hs).here ?_
  wp_walk
  exact ⟨rfl, hq⟩
end
/-! a == b by the own __eq__ of b, where that of a declines -/
section
variable {prog : Program} {w : World} {A : Around} {E : Value → Shared → Prop} {s : Shared} {K : PySem.W.Frag} {x C L f : Addr} {h₀ : Heap} {m : Str → Option Value} {ox : Obj} {od : Option Obj} {a : Value} {T id : String}
theorem turned_K {Q : Value → Shared → Prop} (hu : A.units < cLine) (F : PyProof.Rows.Fr h₀ L s.heap m) (X₀ : K.In h₀) (I : PySem.W.InstAt s.heap x ox C od) (hT : s.TypeIs a T) (sl : Slot T "__eq__" id)
    (one : oneThing? .Eq a (.ref x) = none) (hs : PySem.W.subIn K (.ref C) (.type T) = some false)
    (no : ∀ {Q : Shared → Prop}, Q s → wpAny (model prog w) A (call (.builtin id) [a, .ref x]) (fun v s' => v = .notImplemented ∧ Q s') E s)
    (he : PySem.W.findIn K (.ref C) "__eq__" = some (some (.ref f))) (hf : PySem.W.isFn K (.ref f) = true)
    (h : wpAny (model prog w) A (call (.ref f) [.ref x, a]) (fun v s' => ∃ r, v = .bool r ∧ Q (.bool r) s') E s) : wpAny (model prog w) A (richCompare .Eq a (.ref x)) Q E s := by
  have X := X₀.keeps F.keep
  unfold richCompare
  simp only [one]
  refine wpAny_holding (wpAny_bind (wpAny_cRoomFor hu ?_))
  refine wpAny_bind (wpAny_typeOf hT (wpAny_bind (I.type.here ?_)))
  split
  · refine wpAny_bind ((PySem.W.looks_subIn X hs).here ?_)
    simp only [Bool.false_eq_true, if_false]
    refine wpAny_bind (wpAny_tryCompare_declines hT sl (no ?_))
    simp only [Bool.not_false, if_true]
    have two : wpAny (model prog w) A (tryCompare (.ref x) "__eq__" a) (fun r s' => ∃ v, r = some v ∧ Q v s') E s := by
      unfold tryCompare
      refine wpAny_bind (PySem.W.ifBound_K X I he hf (wpAny_mono h (fun v s' hv => ?_) fun _ _ e => e))
      obtain ⟨r, rfl, q⟩ := hv
      exact wpAny_pure ⟨_, rfl, q⟩
    refine wpAny_bind (wpAny_mono two (fun r s' z => ?_) fun _ _ e => e)
    obtain ⟨v, rfl, hq⟩ := z
    exact wpAny_pure hq
  · rename_i q
    exact absurd (by simp) q
end
end V3

set_option Elab.async false
set_option linter.all false
set_option maxRecDepth 100000
namespace V3
open PySem PySem.Spec PyProof.Rows L2
/-- what of a class is wanted where its objects stand behind texts, None and tuples -/
structure Behind (K : PySem.W.Frag) (C : Addr) : Prop where
  s : PySem.W.subIn K (.ref C) (.type "str") = some false
  n : PySem.W.subIn K (.ref C) (.type "NoneType") = some false
  t : PySem.W.subIn K (.ref C) (.type "tuple") = some false
inductive Plain (H : Hp) : V → Prop where
  | str (z : Str) : Plain H (.str z)
  | non : Plain H .non
  | tup {b : Addr} {ys : List V} (h : H b = some (.tup ys)) : Plain H (.ref b)
section
variable {prog : Program} {w : World} {A : Around} {E : Value → Shared → Prop} {s : Shared}
theorem eqB_str {z : Str} {t : Tok} {a : Addr} {Q : Bool → Shared → Prop} (h : wpAny (model prog w) A (richCompare .Eq (.str z t) (.ref a)) (fun v s' => ∃ r, v = .bool r ∧ Q r s') E s) :
    wpAny (model prog w) A (eqBool (.str z t) (.ref a)) Q E s := by
  unfold eqBool
  refine wpAny_holding (wpAny_ite_split (fun q => absurd (eq_of_beq q) (fun e => nomatch e)) fun _ => ?_)
  refine wpAny_bind (wpAny_mono h (fun v s' hv => ?_) fun _ _ x => x)
  obtain ⟨r, rfl, q⟩ := hv
  exact wpAny_truthy_bool q
theorem eqB_non {a : Addr} {Q : Bool → Shared → Prop} (h : wpAny (model prog w) A (richCompare .Eq .none (.ref a)) (fun v s' => ∃ r, v = .bool r ∧ Q r s') E s) :
    wpAny (model prog w) A (eqBool .none (.ref a)) Q E s := by
  unfold eqBool
  refine wpAny_holding (wpAny_ite_split (fun q => absurd (eq_of_beq q) (fun e => nomatch e)) fun _ => ?_)
  refine wpAny_bind (wpAny_mono h (fun v s' hv => ?_) fun _ _ x => x)
  obtain ⟨r, rfl, q⟩ := hv
  exact wpAny_truthy_bool q
end
section
variable {X : Cx} {n : Nat}
/-- x in (..), x of an own class, no item equal to it -/
def rInO (K : PySem.W.Frag) (FF : Addr → Sp → XK → Prop) : R2 := fun x y H Q => ∃ (a p C dx : Addr) (fs : List (Str × V)) (xs : List V) (sp : Sp) (E : XK), x = .ref a ∧ y = .ref p ∧ H a = some (.ins C dx fs) ∧ H p = some (.tup xs) ∧
  (∀ z ∈ xs, Plain H z) ∧ Behind K C ∧ FF C sp E ∧ (∀ z ∈ xs, sp [.ref a, z] H (fun v H' => v = .bl false ∧ H' = H) E) ∧ Q (.bl false) H
theorem op_inO {FF : Addr → Sp → XK → Prop} (hF : ∀ C sp E, FF C sp E → ∃ (CX : CXT) (f : Addr) (fd : FuncData) (ps : List Str), FnOk X.prog X.w X.K X.mg X.base CX n f fd ps sp ∧ EqCls X.K C f ∧ Binds X.K fd ps [] ∧ Passes CX X E) (hr : Room (n + 1) X.A) :
    OpR X (compareOp .In) (rInO X.K FF) := by
  intro pins s σ H x y v u Q I rx ry hq
  obtain ⟨a, p, C, dx, fs, xs, sp, E, rfl, rfl, ha, hp, pl, bh, ff, hsp, q⟩ := hq
  obtain ⟨CX, f, fd, ps, F, ec, bi, hx⟩ := hF C sp E ff
  cases rx
  cases ry
  obtain ⟨its, rv, ht, hz⟩ := I.tuple (SqT.of hp)
  obtain ⟨⟨c0, dd, da, sl⟩, ho, hc, m, hd⟩ := id ht
  simp only at hc hd
  subst hc hd
  show wpAny (model X.prog X.w) X.A (do return .bool (← contains (.ref p) (.ref a))) (EP X pins σ Q) X.xe s
  refine wpAny_bind (wpAny_contains_slot ⟨_, ho, rfl⟩ PySem.F.slot_tuple_contains (wpAny_mono (GQ.call_here (Q := fun v s' => v = .bool false ∧ Inv X pins σ H s') PySem.F.slot_tuple_contains ⟨_, ho, rfl⟩ PySem.F.entry_tuple_contains (PySem.F.args_tuple_contains_2 _ _)
    (tuple_none p its.toArray m dd sl (.ref a) (fun _ s' => Inv X pins σ H s') ?_ (fun s' J => ⟨rfl, J⟩) ho I)) (fun v s' hv => ?_) fun _ _ e => e))
  · intro i hi s' J
    have hi2 : i < its.length := by simpa using hi
    have hi3 : i < xs.length := by rw [rv.length]; exact hi2
    obtain ⟨u, hu, ru⟩ := rv.get (List.getElem?_eq_getElem hi3)
    have eu : its.toArray[i] = u := by
      rw [List.getElem?_eq_getElem hi2] at hu
      simpa using Option.some.inj hu
    rw [eu]
    have mem : xs[i] ∈ xs := List.getElem_mem hi3
    have pz := pl _ mem
    have own := hsp _ mem
    generalize xs[i] = z at ru pz own
    obtain ⟨mA, O, _⟩ := ins_get J.hok ha
    obtain ⟨od, IA, _⟩ := O.look
    obtain ⟨mm, hFr⟩ := J.fr
    have run : wpAny (model X.prog X.w) X.A.in1 (call (.ref f) [.ref a, u]) (fun v s2 => ∃ r, v = .bool r ∧ r = false ∧ Inv X pins σ H s2) X.xe s' :=
      wpAny_mono (run_own (x := .ref a) (y := z) ⟨hr.in1, rfl⟩ F bi hx J rfl ru own) (fun w s2 k => by
        obtain ⟨z2, H', J2, rz, ez, eH⟩ := k
        subst ez
        subst eH
        cases rz
        exact ⟨false, rfl, rfl, J2⟩) fun _ _ e => e
    have hu1 : X.A.in1.units < cLine := hr.in1.units0
    cases pz with
    | str zz =>
      obtain ⟨t, rfl⟩ := ru
      refine eqB_str (turned_K (T := "str") hu1 hFr J.ok.mod.kin IA (typeIs_str _ _ _) PySem.F.slot_str_eq rfl bh.s (fun k => str_declines IA.at_ rfl k) ec.eq ec.fn (wpAny_mono run (fun v s2 k => ?_) fun _ _ e => e))
      obtain ⟨r, rfl, e, J2⟩ := k
      exact ⟨r, rfl, r, rfl, e, J2⟩
    | non =>
      cases ru
      refine eqB_non (turned_K (T := "NoneType") hu1 hFr J.ok.mod.kin IA (typeIs_none _) PySem.F.slot_NoneType_eq rfl bh.n (fun k => none_declines k) ec.eq ec.fn (wpAny_mono run (fun v s2 k => ?_) fun _ _ e => e))
      obtain ⟨r, rfl, e, J2⟩ := k
      exact ⟨r, rfl, r, rfl, e, J2⟩
    | @tup b ys hb =>
      cases ru
      obtain ⟨its2, r2, ht2, hz2⟩ := J.tuple (SqT.of hb)
      have ne : b ≠ a := by
        intro e
        subst e
        rw [ha] at hb
        cases hb
      obtain ⟨o2, ho2, hc2, _⟩ := id ht2
      refine GQ.eqBool_refG ne (turned_K (T := "tuple") hu1 hFr J.ok.mod.kin IA ⟨o2, ho2, hc2⟩ PySem.F.slot_tuple_eq (by first | rfl | simp [oneThing_ref]) bh.t (fun k => tup_declines J.kIn IA bh.t ht2 k) ec.eq ec.fn (wpAny_mono run (fun v s2 k => ?_) fun _ _ e => e))
      obtain ⟨r, rfl, e, J2⟩ := k
      exact ⟨r, rfl, r, rfl, e, J2⟩
  · obtain ⟨rfl, J⟩ := hv
    exact wpAny_truthy_bool (wpAny_pure ⟨.bl false, H, J, rfl, q⟩)
end
end V3

set_option Elab.async false
set_option linter.all false
set_option maxRecDepth 100000
namespace V3
open PySem L2
def top (i : Nat) : Stmt := PySem.Challenge.pw_contrabooks_k16_texts_of_houses.main.body.getD i (.Pass ⟨0, 0, 0, 0⟩)
abbrev sSeed : Stmt := top 28
abbrev sChoose : Stmt := top 29
abbrev sOneOf : Stmt := top 30
/-- the box of draws: two numbers -/
def BoxOk (u v : Int) : Prop := 0 ≤ u ∧ 1 ≤ v ∧ v ≤ 2147483629
def box (u v : Int) : HO := .lst [.int u, .int v]
def BoxAt (H : Hp) (b : Addr) : Prop := ∃ u v, BoxOk u v ∧ H b = some (box u v)
def spSeed (K : PySem.W.Frag) : Sp := fun vs H Q _ => ∃ (a : Addr) (ns : List Int) (k : Int), vs = [.ref a, .int k] ∧ SqL K H a (ns.map V.int) ∧ ns.length ≤ 63 ∧ 0 ≤ k ∧ k ≤ 100 ∧
  ∀ (p : Addr) (u v : Int), H p = none → BoxOk u v → Q (.ref p) (upd H p (box u v))
def spChoose : Sp := fun vs H Q _ => ∃ (b : Addr) (u v m : Int), vs = [.ref b, .int m] ∧ H b = some (box u v) ∧ BoxOk u v ∧ 1 ≤ m ∧ m ≤ 1000000000000 ∧
  ∀ d u' v' : Int, 0 ≤ d → d < m → BoxOk u' v' → Q (.int d) (upd H b (box u' v'))
def spOneOf (K : PySem.W.Frag) : Sp := fun vs H Q _ => ∃ (b l : Addr) (u v : Int) (xs : List V), vs = [.ref b, .ref l] ∧ H b = some (box u v) ∧ BoxOk u v ∧ l ≠ b ∧ SqL K H l xs ∧ 1 ≤ xs.length ∧ xs.length ≤ 1000 ∧
  ∀ (x : V) (u' v' : Int), x ∈ xs → BoxOk u' v' → Q x (upd H b (box u' v'))
structure Blt (mg : Str → Option Value) : Prop where
  len : mg "len" = none
  abs : mg "abs" = none
  int : mg "int" = none
/-- a def that stands at a name of the module -/
def Cal (P : Program) (w : World) (K : PySem.W.Frag) (mg : Str → Option Value) (base : Heap) (CX : CXT) (name : Str) (k : Nat) (ps : List Str) (sp : Sp) : Prop :=
  ∃ (f : Addr) (fd : FuncData), FnOk P w K mg base CX k f fd ps sp ∧ mg name = some (.ref f) ∧ PySem.W.keepIn K (.ref f) = true ∧ Binds K fd ps []
theorem seqL_ne {K : PySem.W.Frag} {H : Hp} {l b : Addr} {o : HO} {xs : List V} (ne : l ≠ b) (h : SqL K H l xs) : SqL K (upd H b o) l xs := by
  rcases h with (h | ⟨o, h⟩) | h
  · exact .inl (.inl (by rw [upd_ne ne]; exact h))
  · exact .inl (.inr ⟨o, by rw [upd_ne ne]; exact h⟩)
  · exact .inr h
theorem atI_ints {ns : List Int} {i : Int} (h0 : 0 ≤ i) (hj : i.toNat < ns.length) : atI (ns.map V.int) i = some (.int ns[i.toNat]) := by
  have e : ixN (ns.map V.int).length i = some i.toNat := by
    unfold ixN
    rw [if_pos h0, if_pos (by rw [List.length_map]; omega)]
  show (ixN (ns.map V.int).length i).bind (fun j => (ns.map V.int)[j]?) = some (.int ns[i.toNat])
  rw [e]
  show (ns.map V.int)[i.toNat]? = some (.int ns[i.toNat])
  rw [List.getElem?_map, List.getElem?_eq_getElem hj]
  rfl
section
variable {P : Program} {w : World} {K : PySem.W.Frag} {mg : Str → Option Value} {base : Heap}
theorem scSeed : FnScope ["_law_script", "_law_k", "_law_cell"] ["_law_script", "_law_k"] (defScope sSeed) := ⟨rfl, rfl, rfl, by decide +kernel, rfl, by decide +kernel, by decide +kernel⟩
theorem scChoose : FnScope ["_law_box", "_law_many", "_law_digit", "_law_first"] ["_law_box", "_law_many"] (defScope sChoose) := ⟨rfl, rfl, rfl, by decide +kernel, rfl, by decide +kernel, by decide +kernel⟩
theorem scOneOf : FnScope ["_law_box", "_law_some"] ["_law_box", "_law_some"] (defScope sOneOf) := ⟨rfl, rfl, rfl, by decide +kernel, rfl, by decide +kernel, by decide +kernel⟩
theorem ok_choose {f : Addr} {fd : FuncData} (F : Fun K "_law_choose" "_law_choose" sChoose f fd) (T : Blt mg) : FnOk P w K mg base CX0 1 f fd ["_law_box", "_law_many"] spChoose := by
  refine F.ok scChoose (fun vs H Q E h => ?_) (fun cdv A outer s H vs Q E hr h => ?_)
  · obtain ⟨b, u, v, m, rfl, _⟩ := h
    rfl
  · obtain ⟨b, u, v, m, rfl, hb, ok, m1, m2, k⟩ := h
    refine ⟨_, pss_cons (ps_if (pt_cmpR op_gt (pe_ix ix_list (pv 0) pe_int (fun _ _ => rfl)) pe_int (nomark _))
        (pss_cons (ps_set (i := 2) scChoose.nd rfl (Or.inl rfl) (pe_op op_mod (pe_callTy call_int1 (by rfl) T.int (by decide +kernel) (pa_cons (pe_ix ix_list (pv 0) pe_int (fun _ _ => rfl)) pa_nil)) (pv 1)))
        (pss_cons (ps_asg (pe_op op_fdivW (pe_ix ix_list (pv 0) pe_int (fun _ _ => rfl)) (pv 1)) (pg_sub (pv 0) pe_int set_list))
        (pss_one (ps_ret (pv 2))))) pss_nil)
      (pss_cons (ps_set (i := 3) scChoose.nd rfl (Or.inl rfl) (pe_op op_mod (pe_callTy call_int1 (by rfl) T.int (by decide +kernel) (pa_cons (pe_op op_add (pe_op op_mul (pe_ix ix_list (pv 0) pe_int (fun _ _ => rfl)) pe_int) pe_int) pa_nil)) pe_int))
      (pss_cons (ps_asg (pe_op op_add (pe_op op_mod (pe_callTy call_int1 (by rfl) T.int (by decide +kernel) (pa_cons (pe_op op_add (pe_op op_mul (pv 3) pe_int) pe_int) pa_nil)) pe_int) pe_int) (pg_sub (pv 0) pe_int set_list))
      (pss_one (ps_ret (pe_op op_mod (pe_callTy call_int1 (by rfl) T.int (by decide +kernel) (pa_cons (pe_op op_fdivW (pe_op op_add (pe_op op_mul (pv 3) pe_int) (pe_ix ix_list (pv 0) pe_int (fun _ _ => rfl))) pe_int) pa_nil)) (pv 1)))))), ?_⟩
    obtain ⟨u0, v1, v2⟩ := ok
    have hm : (0 : Int) < m := by omega
    have hw : m.natAbs < 2 ^ 40 := by
      have : (2 : Nat) ^ 40 = 1099511627776 := by decide
      omega
    refine ⟨_, rfl, b, _, 0, _, rfl, rfl, SqL.of hb, rfl, _, _, rfl, rfl, _, rfl, ?_⟩
    refine ite2 (fun c => ?_) (fun c => ?_)
    · refine ⟨_, rfl, b, _, 0, _, rfl, rfl, SqL.of hb, rfl, .inl ⟨_, rfl, _, rfl, _, _, rfl, rfl, hm, ?_⟩⟩
      refine ⟨_, rfl, b, _, 0, _, rfl, rfl, SqL.of hb, rfl, _, rfl, _, _, rfl, rfl, wide_div hm hw (by decide) (by decide), ?_⟩
      refine ⟨_, rfl, b, _, 0, 0, rfl, rfl, hb, rfl, _, rfl, ?_⟩
      exact k _ _ _ (Int.emod_nonneg _ (by omega)) (Int.emod_lt_of_pos _ hm) ⟨Int.ediv_nonneg u0 (by omega), v1, v2⟩
    · refine ⟨_, rfl, b, _, 1, _, rfl, rfl, SqL.of hb, rfl, _, _, rfl, rfl, .inl (by constructor <;> omega), _, _, rfl, rfl, .inl ⟨_, rfl, _, _, rfl, rfl, (by show (0 : Int) < 2147483563; decide), ?_⟩⟩
      have a1 := Int.emod_nonneg (v * 40014 + 11) (by decide : (2147483563 : Int) ≠ 0)
      have a2 := Int.emod_lt_of_pos (v * 40014 + 11) (by decide : (0 : Int) < 2147483563)
      refine ⟨_, rfl, _, _, rfl, rfl, .inl (by constructor <;> omega), _, _, rfl, rfl, .inl ⟨_, rfl, _, _, rfl, rfl, (by show (0 : Int) < 2147483629; decide), _, _, rfl, rfl, ?_⟩⟩
      refine ⟨_, rfl, b, _, 1, 1, rfl, rfl, hb, rfl, ?_⟩
      have b1 := Int.emod_nonneg ((v * 40014 + 11) % 2147483563 * 40692 + 2903) (by decide : (2147483629 : Int) ≠ 0)
      have b2 := Int.emod_lt_of_pos ((v * 40014 + 11) % 2147483563 * 40692 + 2903) (by decide : (0 : Int) < 2147483629)
      refine ⟨_, rfl, _, _, rfl, rfl, .inl (by constructor <;> omega), _, rfl, b, _, 1, _, rfl, rfl, SqL.of upd_same, rfl, _, _, rfl, rfl, _, _, rfl, rfl, wide_div (b := 14) (by decide) (by decide) (by decide) (by decide), .inl ⟨_, rfl, _, rfl, _, _, rfl, rfl, hm, ?_⟩⟩
      exact k _ _ _ (Int.emod_nonneg _ (by omega)) (Int.emod_lt_of_pos _ hm) ⟨u0, by omega, by omega⟩
theorem ok_oneOf {f : Addr} {fd : FuncData} (F : Fun K "_law_one_of" "_law_one_of" sOneOf f fd) (T : Blt mg) (c : Cal P w K mg base CX0 "_law_choose" 1 ["_law_box", "_law_many"] spChoose) : FnOk P w K mg base CX0 2 f fd ["_law_box", "_law_some"] (spOneOf K) := by
  obtain ⟨fC, fdC, GC, mC, kC, bC⟩ := c
  refine F.ok scOneOf (fun vs H Q E h => ?_) (fun cdv A outer s H vs Q E hr h => ?_)
  · obtain ⟨b, l, u, v, xs, rfl, _⟩ := h
    rfl
  · obtain ⟨b, l, u, v, xs, rfl, hb, ok, ne, hS, x1, x2, k⟩ := h
    refine ⟨_, pss_one (ps_ret (pe_ix ix_list (pv 1) (pe_call GC hr rfl mC kC bC .nil pass0 (pa_cons (pv 0) (pa_cons (pe_callB call_len_seq (by rfl) T.len PySem.boot_len (pa_cons (pv 1) pa_nil)) pa_nil))) (fun _ _ => rfl))), ?_⟩
    refine ⟨_, rfl, _, rfl, _, rfl, l, _, rfl, .inl hS, b, u, v, _, rfl, hb, ok, (by omega), (by omega), fun d u' v' d0 d1 ok' => ?_⟩
    have hj : d.toNat < xs.length := by omega
    refine ⟨l, xs, d, xs[d.toNat], rfl, rfl, ?_, ?_, k _ _ _ (List.getElem_mem hj) ok'⟩
    · exact seqL_ne ne hS
    · have e : ixN xs.length d = some d.toNat := by
        unfold ixN
        rw [if_pos d0, if_pos (by omega)]
      show (ixN xs.length d).bind (fun j => xs[j]?) = some xs[d.toNat]
      rw [e]
      exact List.getElem?_eq_getElem hj
theorem ok_seed {f : Addr} {fd : FuncData} (F : Fun K "_law_seed" "_law_seed" sSeed f fd) (T : Blt mg) : FnOk P w K mg base CX0 1 f fd ["_law_script", "_law_k"] (spSeed K) := by
  refine F.ok scSeed (fun vs H Q E h => ?_) (fun cdv A outer s H vs Q E hr h => ?_)
  · obtain ⟨a, ns, k, rfl, _⟩ := h
    rfl
  · obtain ⟨a, ns, k, rfl, hS, hl, k0, k1, go⟩ := h
    refine ⟨_, pss_cons (ps_set (i := 2) scSeed.nd rfl (Or.inl rfl) (pe_op op_add (pe_op op_mul pe_int (pv 1)) pe_int))
      (pss_cons (ps_if (pt_cmpR op_lt (pv 1) (pe_callB call_len_seq (by rfl) T.len PySem.boot_len (pa_cons (pv 0) pa_nil)) (nomark _))
        (pss_one (ps_set (i := 2) scSeed.nd rfl (Or.inl rfl) (pe_callB call_abs (by rfl) T.abs (by decide +kernel) (pa_cons (pe_ix ix_list (pv 0) (pv 1) (fun _ _ => rfl)) pa_nil))))
        (pss_one (ps_if (pt_cmpR op_gt (pe_callB call_len_seq (by rfl) T.len PySem.boot_len (pa_cons (pv 0) pa_nil)) pe_int (nomark _))
          (pss_one (ps_set (i := 2) scSeed.nd rfl (Or.inl rfl) (pe_op op_add (pv 2) (pe_op op_mul (pe_op op_mod (pe_callTy call_int1 (by rfl) T.int (by decide +kernel) (pa_cons (pe_callB call_abs (by rfl) T.abs (by decide +kernel) (pa_cons (pe_ix ix_list (pv 0) (pe_op op_mod (pe_callTy call_int1 (by rfl) T.int (by decide +kernel) (pa_cons (pv 1) pa_nil)) (pe_callB call_len_seq (by rfl) T.len PySem.boot_len (pa_cons (pv 0) pa_nil))) (fun _ _ => rfl)) pa_nil)) pa_nil)) pe_int) pe_int))))
          pss_nil)))
      (pss_one (ps_ret (pe_lst (pa_cons (pe_ifExp (pt_cmpR op_ge (pv 2) (pe_op op_pow pe_int pe_int) (nomark _)) (pv 2) pe_int)
        (pa_cons (pe_op op_add (pe_op op_mod (pe_callTy call_int1 (by rfl) T.int (by decide +kernel) (pa_cons (pe_op op_add (pe_op op_mul (pe_op op_mod (pe_callTy call_int1 (by rfl) T.int (by decide +kernel) (pa_cons (pv 2) pa_nil)) pe_int) pe_int) (pe_op op_mul pe_int (pv 1))) pa_nil)) pe_int) pe_int) pa_nil)))))), ?_⟩
    have hk1 : -(2 ^ 64) < (7411 : Int) ∧ (7411 : Int) < 2 ^ 64 := by constructor <;> decide
    refine ⟨_, rfl, _, _, rfl, rfl, .inl hk1, _, _, rfl, rfl, ?_⟩
    refine ⟨_, rfl, _, rfl, a, _, rfl, .inl hS, _, _, rfl, rfl, _, rfl, ?_⟩
    rw [List.length_map]
    refine ite2 (fun c => ?wayA) (fun c => ?wayB)
    case' wayA =>
      have c' : k < (ns.length : Int) := of_decide_eq_true c
      have hj : k.toNat < ns.length := by omega
      refine ⟨_, rfl, _, rfl, a, _, k, .int ns[k.toNat], rfl, rfl, hS, atI_ints k0 hj, _, rfl, ?_⟩
      have hc : 0 ≤ (if ns[k.toNat] < 0 then -ns[k.toNat] else ns[k.toNat]) := by split <;> omega
      generalize (if ns[k.toNat] < 0 then -ns[k.toNat] else ns[k.toNat]) = cell at hc
    case' wayB =>
      refine ⟨_, rfl, a, _, rfl, .inl hS, _, _, rfl, rfl, _, rfl, ?_⟩
      rw [List.length_map]
      refine ite2 (fun c2 => ?wayC) (fun c2 => ?wayD)
    case' wayC =>
      have c' : (0 : Int) < (ns.length : Int) := of_decide_eq_true c2
      have r0 := Int.emod_nonneg k (show (ns.length : Int) ≠ 0 by omega)
      have r1 := Int.emod_lt_of_pos k c'
      have hj : (k % (ns.length : Int)).toNat < ns.length := by omega
      refine ⟨_, rfl, _, rfl, _, rfl, .inl ⟨_, rfl, _, rfl, a, _, rfl, .inl hS, _, _, rfl, rfl, (by rw [List.length_map]; exact c'), ?_⟩⟩
      rw [List.length_map]
      refine ⟨a, _, k % (ns.length : Int), .int ns[(k % (ns.length : Int)).toNat], rfl, rfl, hS, atI_ints r0 hj, _, rfl, .inl ⟨_, rfl, _, _, rfl, rfl, (by show (0 : Int) < 2147483629; decide), _, _, rfl, rfl, .inr (by constructor <;> decide), _, _, rfl, rfl, ?_⟩⟩
      generalize (if ns[(k % (ns.length : Int)).toNat] < 0 then -ns[(k % (ns.length : Int)).toNat] else ns[(k % (ns.length : Int)).toNat]) = z
      have z0 := Int.emod_nonneg z (by decide : (2147483629 : Int) ≠ 0)
      have hc : 0 ≤ 7411 * k + 29 + z % 2147483629 * 40093 := by omega
      generalize 7411 * k + 29 + z % 2147483629 * 40093 = cell at hc
    case' wayD =>
      have hc : 0 ≤ 7411 * k + 29 := by omega
      generalize 7411 * k + 29 = cell at hc
    all_goals (
      refine ⟨_, rfl, _, _, rfl, rfl, ⟨by decide, by decide, by decide⟩, _, _, rfl, rfl, _, rfl, ?_⟩
      have e1 := Int.emod_nonneg cell (by decide : (2147483629 : Int) ≠ 0)
      have e2 := Int.emod_lt_of_pos cell (by decide : (0 : Int) < 2147483629)
      have f1 := Int.emod_nonneg (cell % 2147483629 * 48271 + 20021 * k) (by decide : (2147483629 : Int) ≠ 0)
      have f2 := Int.emod_lt_of_pos (cell % 2147483629 * 48271 + 20021 * k) (by decide : (0 : Int) < 2147483629)
      refine ite2 (fun _ => ⟨_, rfl, ?_⟩) (fun _ => ?_)
      all_goals (
        refine ⟨_, rfl, .inl ⟨_, rfl, _, _, rfl, rfl, (by show (0 : Int) < 2147483629; decide), _, _, rfl, rfl, .inl (by constructor <;> omega), _, rfl, _, _, rfl, rfl, .inl (by constructor <;> decide), _, _, rfl, rfl, .inl ⟨_, rfl, _, _, rfl, rfl, (by show (0 : Int) < 2147483629; decide), _, _, rfl, rfl, (by show 2 ≤ sizeLine; decide), fun p hp => ?_⟩⟩⟩
        exact go p _ _ hp ⟨by omega, by omega, by omega⟩))
end
end V3

set_option Elab.async false
set_option linter.all false
set_option maxRecDepth 100000
namespace V3
open PySem L2 TL
def num (i : Int) : Str := Str.ofString (toString i)
def Am (i : Int) : Prop := i.natAbs ≤ 1000000000000
theorem am_log {i : Int} (h : Am i) : i.natAbs.log2 < 1920 := Nat.lt_of_lt_of_le (PySem.Flt.log2_lt_of (k := 40) (by decide) (by
  have : (2 : Nat) ^ 40 = 1099511627776 := by decide
  unfold Am at h
  omega)) (by decide)
theorem num_len {i : Int} (h : Am i) : (num i).length ≤ 1921 := PyProof.Rows.int_text_len_1921 (am_log h)
theorem app_len (x y : Str) : (x ++ y).length = x.length + y.length := PySem.Str.length_append x y
theorem small {n : Nat} (h : n ≤ 10000) : n ≤ sizeLine := Nat.le_trans h (by decide)
def sp1 : Str := " "
theorem tl_num' {t : Int} (h : 0 ≤ t) : tl (num t) = numL t.toNat := by
  have e : ((t.toNat : Nat) : Int) = t := by omega
  have z := tl_num t.toNat
  rw [e] at z
  exact z
theorem num_free {t : Int} {s : Nat} (h : 0 ≤ t) (hs : s < 48 ∨ 57 < s) : s ∉ tl (num t) := by
  rw [tl_num' h]
  exact numL_free hs
theorem sp_tl : tl sp1 = [32] := by decide +kernel
theorem Same.new {p : Addr} {H : Hp} {o : HO} (hp : H p = none) : Same H (upd H p o) := fun c u h => by rw [upd_ne (ne_of_none h hp)]; exact h
theorem made_same {H : Hp} {y dy : Addr} {o1 o2 : HO} (ny : H y = none) (ndy : H dy = none) : Same H (upd (upd H dy o1) y o2) := fun b o e => by
  rw [upd_ne (ne_of_none e ny), upd_ne (ne_of_none e ndy)]
  exact e
theorem made_same2 {H : Hp} {y dy : Addr} {o1 o2 o3 : HO} (ny : H y = none) (ndy : H dy = none) : Same H (upd (upd (upd H dy o1) y o2) y o3) := fun b o e => by
  rw [upd_ne (ne_of_none e ny), upd_ne (ne_of_none e ny), upd_ne (ne_of_none e ndy)]
  exact e
def SameX (b : Addr) (H H' : Hp) : Prop := ∀ c o, c ≠ b → H c = some o → H' c = some o
theorem SameX.refl {b : Addr} {H : Hp} : SameX b H H := fun _ _ _ h => h
theorem SameX.trans {b : Addr} {H H1 H2 : Hp} (s : SameX b H H1) (t : SameX b H1 H2) : SameX b H H2 := fun c o n h => t c o n (s c o n h)
theorem SameX.of {b : Addr} {H H' : Hp} (s : Same H H') : SameX b H H' := fun c o _ h => s c o h
theorem SameX.box {b : Addr} {H : Hp} {o : HO} : SameX b H (upd H b o) := fun c _ n h => by rw [upd_ne n]; exact h
def Pre (b : Addr) (H H' : Hp) : Prop := SameX b H H' ∧ ∃ u v, BoxOk u v ∧ H' b = some (box u v)
theorem Pre.trans {b : Addr} {H H1 H2 : Hp} (s : Pre b H H1) (t : Pre b H1 H2) : Pre b H H2 := ⟨s.1.trans t.1, t.2⟩
theorem Pre.then {b : Addr} {H H1 H2 : Hp} (s : Pre b H H1) (t : Same H1 H2) : Pre b H H2 := by
  obtain ⟨h, u, v, ok, e⟩ := s
  exact ⟨h.trans (SameX.of t), u, v, ok, t _ _ e⟩
theorem Pre.box {b : Addr} {H : Hp} {u v : Int} (ok : BoxOk u v) : Pre b H (upd H b (box u v)) := ⟨SameX.box, u, v, ok, upd_same⟩
theorem Pre.start {b : Addr} {H : Hp} {u v : Int} (ok : BoxOk u v) (h : H b = some (V3.box u v)) : Pre b H H := ⟨SameX.refl, u, v, ok, h⟩
def Keep (H H' : Hp) : Prop := ∀ c o, (∀ xs, o ≠ .lst xs) → H c = some o → H' c = some o
theorem Keep.of {H H' : Hp} (s : Same H H') : Keep H H' := fun c o _ h => s c o h
theorem Keep.lst {H : Hp} {D : Addr} {xs : List V} {o : HO} (hD : H D = some (.lst xs)) : Keep H (upd H D o) := fun c u n h => by
  have nc : c ≠ D := fun e => by
    subst e
    rw [hD] at h
    injection h with h
    exact n _ h.symm
  rw [upd_ne nc]
  exact h
theorem Keep.pre {H H' : Hp} {b : Addr} {xs : List V} (hb : H b = some (.lst xs)) (s : SameX b H H') : Keep H H' := fun c u n h => by
  have nc : c ≠ b := fun e => by
    subst e
    rw [hb] at h
    injection h with h
    exact n _ h.symm
  exact s c u nc h
theorem at_end {α : Type} {xs : List α} {x y : α} {i : Nat} (h : (xs ++ [x])[i]? = some y) : (i < xs.length ∧ xs[i]? = some y) ∨ (i = xs.length ∧ y = x) := by
  by_cases c : i < xs.length
  · exact .inl ⟨c, by rw [List.getElem?_append_left c] at h; exact h⟩
  · rw [List.getElem?_append_right (by omega)] at h
    obtain ⟨l, e⟩ := List.getElem?_eq_some_iff.mp h
    have z : i - xs.length = 0 := by simpa using l
    exact .inr ⟨by omega, by simp [z] at e; exact e.symm⟩
theorem at_old {α : Type} {xs : List α} {x y : α} {i : Nat} (h : xs[i]? = some y) : (xs ++ [x])[i]? = some y := by
  have l := (List.getElem?_eq_some_iff.mp h).1
  rw [List.getElem?_append_left l]
  exact h
theorem at_new {α : Type} {xs : List α} {x : α} {n : Nat} (h : xs.length = n) : (xs ++ [x])[n]? = some x := by
  subst h
  simp
theorem take_next {α : Type} {ms : List α} {m : α} {i : Nat} (h : ms[i]? = some m) : ms.take (i + 1) = ms.take i ++ [m] := by
  rw [List.take_add_one, h]
  rfl
theorem Same.upn {H H1 : Hp} {b : Addr} {o : HO} (s : Same H H1) (nb : H b = none) : Same H (upd H1 b o) := fun c u e => by
  rw [upd_ne (ne_of_none e nb)]
  exact s c u e
theorem Pre.all {b : Addr} {H H' : Hp} (p : Pre b H H') (n : H b = none) : Same H H' := fun c o h => p.1 c o (ne_of_none h n) h
end V3

set_option Elab.async false
set_option linter.all false
set_option maxRecDepth 100000
namespace V3
open PySem L2 TL
/-! rows of houses and of reports: their words and texts -/
def kindL : List Str := ["first", "new", "minus", "plus"]
def stateL : List Str := ["open", "shut"]
def deedL : List Str := ["whole", "part", "right"]
def placeL : List Str := ["now", "there"]
def whoseL : List Str := ["own", "target", "top", "deed"]
inductive Rw where
  | lt (k s d p : Str)
  | ct (k : Str) (w : Int) (o : Str)
  deriving DecidableEq
def Wt (w : Int) : Prop := w = -1 ∨ w = 0 ∨ w = 1
def Rw.ok : Rw → Prop
  | .lt k s d p => k ∈ kindL ∧ s ∈ stateL ∧ d ∈ deedL ∧ p ∈ placeL ∧ (d = "right" → k = "first" ∨ k = "new")
  | .ct k w o => k ∈ kindL ∧ Wt w ∧ o ∈ whoseL
def Rw.words : Rw → List Str
  | .lt k s d p => [k, s, d, p]
  | .ct k w o => [k, num w, o]
def Rw.text (m : Rw) : Str := Str.join sp1 m.words
def Rw.kind : Rw → Nat
  | .lt _ _ _ _ => 0
  | .ct _ _ _ => 1
theorem all_free : ∀ p ∈ kindL ++ stateL ++ deedL ++ placeL ++ whoseL ++ [num (-1), num 0, num 1], (32 ∉ tl p ∧ 10 ∉ tl p) ∧ p.length ≤ 6 := by decide +kernel
theorem wt_word {w : Int} (h : Wt w) : num w ∈ [num (-1), num 0, num 1] := by
  rcases h with rfl | rfl | rfl <;> simp
theorem word_ok {m : Rw} (h : m.ok) : ∀ p ∈ m.words, (32 ∉ tl p ∧ 10 ∉ tl p) ∧ p.length ≤ 6 := by
  intro p hp
  refine all_free p ?_
  cases m with
  | lt k s d q =>
    obtain ⟨a, b, c, e, _⟩ := h
    simp only [Rw.words, List.mem_cons, List.not_mem_nil, or_false] at hp
    simp only [List.mem_append]
    rcases hp with rfl | rfl | rfl | rfl
    · exact .inl (.inl (.inl (.inl (.inl a))))
    · exact .inl (.inl (.inl (.inl (.inr b))))
    · exact .inl (.inl (.inl (.inr c)))
    · exact .inl (.inl (.inr e))
  | ct k w o =>
    obtain ⟨a, b, c⟩ := h
    simp only [Rw.words, List.mem_cons, List.not_mem_nil, or_false] at hp
    simp only [List.mem_append]
    rcases hp with rfl | rfl | rfl
    · exact .inl (.inl (.inl (.inl (.inl a))))
    · exact .inr (wt_word b)
    · exact .inl (.inr c)
theorem rw_ne (m : Rw) : m.words ≠ [] := by cases m <;> exact (fun z => nomatch z)
theorem rw_split {m : Rw} (h : m.ok) : Txt.split m.text sp1 = m.words := by
  unfold Rw.text
  have z := split_join sp_tl (by decide +kernel) (rw_ne m) fun p hp => (word_ok h p hp).1.1
  rw [join_eq] at z
  exact z
theorem wt_inj {v w : Int} (hv : Wt v) (hw : Wt w) (e : num v = num w) : v = w := by
  have d1 : num (-1) ≠ num 0 := by decide +kernel
  have d2 : num (-1) ≠ num 1 := by decide +kernel
  have d3 : num 0 ≠ num 1 := by decide +kernel
  rcases hv with rfl | rfl | rfl <;> rcases hw with rfl | rfl | rfl <;> first | rfl | exact absurd e d1 | exact absurd e d2 | exact absurd e d3 | exact absurd e.symm d1 | exact absurd e.symm d2 | exact absurd e.symm d3
theorem rw_inj {m n : Rw} (hm : m.ok) (hn : n.ok) (h : m.text = n.text) : m = n := by
  have e : m.words = n.words := by rw [← rw_split hm, ← rw_split hn, h]
  cases m with
  | lt k s d p =>
    cases n with
    | lt k' s' d' p' =>
      simp only [Rw.words, List.cons.injEq, and_true] at e
      obtain ⟨rfl, rfl, rfl, rfl⟩ := e
      rfl
    | ct k' w' o' => simp [Rw.words] at e
  | ct k w o =>
    cases n with
    | lt k' s' d' p' => simp [Rw.words] at e
    | ct k' w' o' =>
      simp only [Rw.words, List.cons.injEq, and_true] at e
      obtain ⟨rfl, ew, rfl⟩ := e
      rw [wt_inj hm.2.1 hn.2.1 ew]
theorem rw_dec {m n : Rw} (hm : m.ok) (hn : n.ok) : decide (m.text = n.text) = decide (m = n) := by
  by_cases h : m = n
  · rw [h, decide_eq_true rfl, decide_eq_true rfl]
  · rw [decide_eq_false h, decide_eq_false (fun e => h (rw_inj hm hn e))]
/-- what the two classes write -/
theorem let_text (k s d p : Str) : Str.empty ++ k ++ " " ++ s ++ " " ++ d ++ " " ++ p = (Rw.lt k s d p).text := ext_tl (by
  unfold Rw.text
  rw [tl_join]
  have e : tl (" " : Str) = [32] := by decide +kernel
  simp only [tl_append, Rw.words, List.map, joinL, sp_tl, e]
  simp [Str.empty, tl])
theorem cnt_text (k : Str) (w : Int) (o : Str) : Str.empty ++ k ++ " " ++ num w ++ " " ++ o = (Rw.ct k w o).text := ext_tl (by
  unfold Rw.text
  rw [tl_join]
  have e : tl (" " : Str) = [32] := by decide +kernel
  simp only [tl_append, Rw.words, List.map, joinL, sp_tl, e]
  simp [Str.empty, tl])
theorem inV_str {k : Str} {L : List Str} : inV (.str k) (L.map V.str) = decide (k ∈ L) := by
  induction L with
  | nil => rfl
  | cons a r ih =>
    have e : inV (.str k) ((a :: r).map V.str) = (a == k || inV (.str k) (r.map V.str)) := rfl
    rw [e, ih]
    by_cases q : k = a
    · subst q
      simp
    · have z : (a == k) = false := Bool.eq_false_iff.mpr fun w => q (eq_of_beq w).symm
      rw [z]
      simp [q]
theorem flat_strs (L : List Str) : (L.map V.str).all flatV = true := by
  induction L with
  | nil => rfl
  | cons a r ih => simpa [flatV] using ih
/-- fields -/
theorem putF_ne {f g : Str} {v x : V} {r : List (Str × V)} (h : g ≠ f) : putF f v ((g, x) :: r) = (g, x) :: putF f v r := by
  show (if g = f then _ else _) = _
  rw [if_neg h]
theorem lk_ne {f g : Str} {v : V} {r : List (Str × V)} (h : (g == f) = false) : List.lookup g ((f, v) :: r) = List.lookup g r := by
  simp [List.lookup, h]
structure Rc where
  L : Addr
  C : Addr
def Rc.at (c : Rc) : Nat → Addr
  | 0 => c.L
  | _ => c.C
def letF (k s d p : V) : List (Str × V) := [("kind", k), ("state", s), ("deed", d), ("place", p)]
def cntF (k w o : V) : List (Str × V) := [("kind", k), ("weight", w), ("whose", o)]
def Rw.fs : Rw → List (Str × V)
  | .lt k s d p => letF (.str k) (.str s) (.str d) (.str p)
  | .ct k w o => cntF (.str k) (.int w) (.str o)
def Rw.obj (c : Rc) (dx : Addr) (m : Rw) : HO := .ins (c.at m.kind) dx m.fs
def RwAt (c : Rc) (H : Hp) (v : V) (m : Rw) : Prop := ∃ x dx, v = .ref x ∧ H x = some (m.obj c dx)
theorem RwAt.keep {c : Rc} {H H' : Hp} {v : V} {m : Rw} (h : RwAt c H v m) (s : Keep H H') : RwAt c H' v m := by
  obtain ⟨x, dx, e, hx⟩ := h
  exact ⟨x, dx, e, s _ _ (fun _ z => by cases z) hx⟩
theorem RwAt.same {c : Rc} {H H' : Hp} {v : V} {m : Rw} (h : RwAt c H v m) (s : Same H H') : RwAt c H' v m := h.keep (Keep.of s)
theorem rkind_lt (m : Rw) : m.kind < 2 := by cases m <;> (simp only [Rw.kind]; omega)
theorem let_put (k s d p : V) : putF "place" p (putF "deed" d (putF "state" s (putF "kind" k []))) = letF k s d p := by
  have a1 : ("kind" : Str) ≠ "state" := by decide +kernel
  have a2 : ("kind" : Str) ≠ "deed" := by decide +kernel
  have a3 : ("kind" : Str) ≠ "place" := by decide +kernel
  have a4 : ("state" : Str) ≠ "deed" := by decide +kernel
  have a5 : ("state" : Str) ≠ "place" := by decide +kernel
  have a6 : ("deed" : Str) ≠ "place" := by decide +kernel
  show putF "place" p (putF "deed" d (putF "state" s [("kind", k)])) = _
  rw [putF_ne a1]
  show putF "place" p (putF "deed" d [("kind", k), ("state", s)]) = _
  rw [putF_ne a2, putF_ne a4]
  show putF "place" p [("kind", k), ("state", s), ("deed", d)] = _
  rw [putF_ne a3, putF_ne a5, putF_ne a6]
  rfl
theorem cnt_put (k w o : V) : putF "whose" o (putF "weight" w (putF "kind" k [])) = cntF k w o := by
  have a1 : ("kind" : Str) ≠ "weight" := by decide +kernel
  have a2 : ("kind" : Str) ≠ "whose" := by decide +kernel
  have a3 : ("weight" : Str) ≠ "whose" := by decide +kernel
  show putF "whose" o (putF "weight" w [("kind", k)]) = _
  rw [putF_ne a1]
  show putF "whose" o [("kind", k), ("weight", w)] = _
  rw [putF_ne a2, putF_ne a3]
  rfl
theorem let_kind (k s d p : V) : (letF k s d p).lookup ("kind" : Str) = some k := rfl
theorem let_state (k s d p : V) : (letF k s d p).lookup ("state" : Str) = some s := by
  unfold letF
  rw [lk_ne (by decide +kernel)]
  rfl
theorem let_deed (k s d p : V) : (letF k s d p).lookup ("deed" : Str) = some d := by
  unfold letF
  rw [lk_ne (by decide +kernel), lk_ne (by decide +kernel)]
  rfl
theorem let_place (k s d p : V) : (letF k s d p).lookup ("place" : Str) = some p := by
  unfold letF
  rw [lk_ne (by decide +kernel), lk_ne (by decide +kernel), lk_ne (by decide +kernel)]
  rfl
theorem cnt_kind (k w o : V) : (cntF k w o).lookup ("kind" : Str) = some k := rfl
theorem cnt_weight (k w o : V) : (cntF k w o).lookup ("weight" : Str) = some w := by
  unfold cntF
  rw [lk_ne (by decide +kernel)]
  rfl
theorem cnt_whose (k w o : V) : (cntF k w o).lookup ("whose" : Str) = some o := by
  unfold cntF
  rw [lk_ne (by decide +kernel), lk_ne (by decide +kernel)]
  rfl
end V3

set_option Elab.async false
set_option linter.all false
set_option maxRecDepth 100000
namespace V3
open PySem L2 TL
abbrev sWrongWord : Stmt := top 20
abbrev sLInit : Stmt := inClass (top 18) 0
abbrev sLStr : Stmt := inClass (top 18) 2
/-! the rows of houses alone -/
structure RowH (K : PySem.W.Frag) (mg : Str → Option Value) (KA SA DA PA : Addr) : Prop where
  kinds : mg "KINDS" = some (.ref KA)
  states : mg "STATES" = some (.ref SA)
  deeds : mg "DEEDS" = some (.ref DA)
  places : mg "PLACES" = some (.ref PA)
  tK : ∀ H, SqT K H KA (kindL.map V.str)
  tS : ∀ H, SqT K H SA (stateL.map V.str)
  tD : ∀ H, SqT K H DA (deedL.map V.str)
  tP : ∀ H, SqT K H PA (placeL.map V.str)
structure BltR (mg : Str → Option Value) : Prop where
  isi : mg "isinstance" = none
  int : mg "int" = none
  bool : mg "bool" = none
  str : mg "str" = none
def spIntI : Sp := fun vs H Q _ => ∃ i : Int, vs = [.int i] ∧ Q (.bl true) H
def spWord : Sp := fun vs H Q _ => ∃ k s d p, vs = [.str k, .str s, .str d, .str p] ∧ (Rw.lt k s d p).ok ∧ ∀ H', Same H H' → Q .non H'
def spLInit (c : Rc) : Sp := fun vs H Q _ => ∃ x dx k s d p, vs = [.ref x, .str k, .str s, .str d, .str p] ∧ H x = some (.ins c.L dx []) ∧ (Rw.lt k s d p).ok ∧ ∀ H', SameX x H H' → H' x = some ((Rw.lt k s d p).obj c dx) → Q .non H'
def spRS (c : Rc) (k : Nat) : Sp := fun vs H Q _ => ∃ (x dx : Addr) (m : Rw), vs = [.ref x] ∧ H x = some (m.obj c dx) ∧ m.kind = k ∧ m.ok ∧ Q (.str m.text) H
theorem lt_put {f : Str} {v : V} {n : Nat} : ∀ {fs : List (Str × V)}, fs.length < n → (putF f v fs).length < n + 1
  | [], h => by
    show 1 < n + 1
    have : 0 < n := h
    omega
  | (g, x) :: r, h => by
    show (if g = f then (g, v) :: r else (g, x) :: putF f v r).length < n + 1
    have l : r.length + 1 < n := h
    split
    · show r.length + 1 < n + 1
      omega
    · have z := lt_put (f := f) (v := v) (n := n - 1) (fs := r) (by omega)
      show (putF f v r).length + 1 < n + 1
      omega
theorem SameX.upd {x : Addr} {H H' : Hp} {o : HO} (s : SameX x H H') : SameX x H (upd H' x o) := fun c u n h => by
  rw [upd_ne n]
  exact s c u n h
/-- what an object's class must have of its fields -/
structure LetC (K : PySem.W.Frag) (c : Rc) : Prop where
  cl : Cls K c.L
  k : NoAttr K c.L "kind"
  s : NoAttr K c.L "state"
  d : NoAttr K c.L "deed"
  p : NoAttr K c.L "place"
section
variable {P : Program} {w : World} {K : PySem.W.Frag} {mg : Str → Option Value} {base : Heap} {KA SA DA PA : Addr}
theorem scWord : FnScope ["kind", "state", "deed", "place"] ["kind", "state", "deed", "place"] (defScope sWrongWord) := ⟨rfl, rfl, rfl, by decide +kernel, rfl, by decide +kernel, by decide +kernel⟩
theorem scLInit : FnScope ["self", "kind", "state", "deed", "place", "wrong"] ["self", "kind", "state", "deed", "place"] (defScope sLInit) := ⟨rfl, rfl, rfl, by decide +kernel, rfl, by decide +kernel, by decide +kernel⟩
theorem scLStr : FnScope ["self"] ["self"] (defScope sLStr) := ⟨rfl, rfl, rfl, by decide +kernel, rfl, by decide +kernel, by decide +kernel⟩
theorem ok_word {f : Addr} {fd : FuncData} (F : Fun K "wrong_word" "wrong_word" sWrongWord f fd) (T : RowH K mg KA SA DA PA) : FnOk P w K mg base CX0 1 f fd ["kind", "state", "deed", "place"] spWord := by
  refine F.ok scWord (fun vs H Q E h => ?_) (fun cdv A outer s H vs Q E hr h => ?_)
  · obtain ⟨k, s, d, p, rfl, _⟩ := h
    rfl
  · obtain ⟨k, s, d, p, rfl, ⟨k1, s1, d1, p1, r1⟩, q⟩ := h
    refine ⟨_, pss_cons (ps_if (pt_cmpR op_notIn_seq (pv 0) (pe_glob (v := .ref KA) rfl T.kinds rfl) rfl) (pss_one (ps_ret pe_str)) pss_nil)
      (pss_cons (ps_if (pt_cmpR op_notIn_seq (pv 1) (pe_glob (v := .ref SA) rfl T.states rfl) rfl) (pss_one (ps_ret pe_str)) pss_nil)
      (pss_cons (ps_if (PW.pt (pw_or (pt_cmpR op_notIn_seq (pv 2) (pe_glob (v := .ref DA) rfl T.deeds rfl) rfl) (pw_or1 (PW.pt (pw_and (pt_cmpR op_eq (pv 2) pe_str (nomark _)) (pw_and1 (pt_cmpR op_in_seq (pv 0) (pe_tup (pa_cons pe_str (pa_cons pe_str pa_nil))) rfl))))))) (pss_one (ps_ret pe_str)) pss_nil)
      (pss_cons (ps_if (pt_cmpR op_notIn_seq (pv 3) (pe_glob (v := .ref PA) rfl T.places rfl) rfl) (pss_one (ps_ret pe_str)) pss_nil)
      (pss_one (ps_ret pe_non))))), ?_⟩
    refine ⟨_, rfl, KA, _, rfl, .inr (T.tK _), rfl, flat_strs _, _, rfl, ?_⟩
    rw [inV_str, decide_eq_true k1]
    refine iteF ⟨_, rfl, SA, _, rfl, .inr (T.tS _), rfl, flat_strs _, _, rfl, ?_⟩
    rw [inV_str, decide_eq_true s1]
    refine iteF ⟨_, rfl, DA, _, rfl, .inr (T.tD _), rfl, flat_strs _, _, rfl, ?_⟩
    rw [inV_str, decide_eq_true d1]
    refine iteF ⟨_, rfl, rfl, _, rfl, ?_⟩
    have last : ∀ H', Same H H' → Q .non H' := q
    by_cases e : d = "right"
    · subst e
      rw [decide_eq_true rfl]
      refine iteT ⟨_, rfl, (by show 2 ≤ sizeLine; decide), fun t nt => ⟨t, _, rfl, .inr (SqT.of upd_same), rfl, rfl, _, rfl, ?_⟩⟩
      have z : inV (.str k) [.str "minus", .str "plus"] = false := by
        rcases r1 rfl with rfl | rfl <;> decide +kernel
      have z2 : (if false = true then !inV (V.str k) [.str "minus", .str "plus"] else inV (V.str k) [.str "minus", .str "plus"]) = false := by rw [if_neg Bool.false_ne_true, z]
      rw [z2]
      refine iteF ⟨_, rfl, PA, _, rfl, .inr (T.tP _), rfl, flat_strs _, _, rfl, ?_⟩
      rw [inV_str, decide_eq_true p1]
      exact iteF (last _ (Same.new nt))
    · have e2 : decide (V.str d = V.str "right") = false := decide_eq_false (fun z => e (by injection z))
      rw [e2]
      refine iteF ⟨_, rfl, PA, _, rfl, .inr (T.tP _), rfl, flat_strs _, _, rfl, ?_⟩
      rw [inV_str, decide_eq_true p1]
      exact iteF (last _ (Same.refl H))
theorem ok_lInit {f : Addr} {c : Rc} {fd : FuncData} (F : Fun K "__init__" "Let.__init__" sLInit f fd) (L : LetC K c) (cW : Cal P w K mg base CX0 "wrong_word" 1 ["kind", "state", "deed", "place"] spWord) : FnOk P w K mg base CX0 2 f fd ["self", "kind", "state", "deed", "place"] (spLInit c) := by
  obtain ⟨fW, fdW, GW, mW, kW, bW⟩ := cW
  refine F.ok scLInit (fun vs H Q E h => ?_) (fun cdv A outer s H vs Q E hr h => ?_)
  · obtain ⟨x, dx, k, s, d, p, rfl, _⟩ := h
    rfl
  · obtain ⟨x, dx, k, s, d, p, rfl, hx, ok, q⟩ := h
    refine ⟨_, pss_cons (ps_set (i := 5) scLInit.nd rfl (Or.inl rfl) (pe_call GW hr rfl mW kW bW .nil pass0 (pa_cons (pv 1) (pa_cons (pv 2) (pa_cons (pv 3) (pa_cons (pv 4) pa_nil))))))
      (pss_cons (ps_if (pt_cmpR op_notN (pv 5) pe_non (nomark _)) (pss_one ps_never) pss_nil)
      (pss_cons (ps_fld (pv 0) (pv 1) rfl)
      (pss_cons (ps_fld (pv 0) (pv 2) rfl)
      (pss_cons (ps_fld (pv 0) (pv 3) rfl)
      (pss_one (ps_fld (pv 0) (pv 4) rfl)))))), ?_⟩
    refine ⟨_, rfl, _, rfl, _, rfl, _, rfl, k, s, d, p, rfl, ok, fun H1 s1 => ?_⟩
    refine ⟨_, rfl, rfl, _, rfl, iteF ?_⟩
    have hx1 := s1 _ _ hx
    refine ⟨_, rfl, _, rfl, x, c.L, dx, _, rfl, hx1, L.cl, L.k, (by show 0 < 1000; decide), ?_⟩
    refine ⟨_, rfl, _, rfl, x, c.L, dx, _, rfl, upd_same, L.cl, L.s, (by show 1 < 1000; decide), ?_⟩
    rw [upd_upd]
    refine ⟨_, rfl, _, rfl, x, c.L, dx, _, rfl, upd_same, L.cl, L.d, (lt_put (n := 999) (lt_put (n := 998) (by show 0 < 998; decide))), ?_⟩
    rw [upd_upd]
    refine ⟨_, rfl, _, rfl, x, c.L, dx, _, rfl, upd_same, L.cl, L.p, (lt_put (n := 999) (lt_put (n := 998) (lt_put (n := 997) (by show 0 < 997; decide)))), ?_⟩
    rw [upd_upd, let_put]
    exact q _ (SameX.of s1).upd upd_same
theorem ok_lStr {f : Addr} {c : Rc} {fd : FuncData} (F : Fun K "__str__" "Let.__str__" sLStr f fd) (L : LetC K c) : FnOk P w K mg base CX0 1 f fd ["self"] (spRS c 0) := by
  refine F.ok scLStr (fun vs H Q E h => ?_) (fun cdv A outer s H vs Q E hr h => ?_)
  · obtain ⟨x, dx, m, rfl, _⟩ := h
    rfl
  · obtain ⟨x, dx, m, rfl, hx, hk, ok, q⟩ := h
    cases m with
    | ct k w o => cases hk
    | lt k s d p =>
      have l : ∀ z ∈ (Rw.lt k s d p).words, z.length ≤ 6 := fun z hz => (word_ok ok z hz).2
      simp only [Rw.words, List.mem_cons, List.not_mem_nil, or_false, forall_eq_or_imp, forall_eq] at l
      obtain ⟨l1, l2, l3, l4⟩ := l
      have l0 : (Str.empty).length = 0 := rfl
      have lb : (" " : Str).length = 1 := by decide +kernel
      refine ⟨_, (pss_one (ps_ret (pe_joined (.cons (pe_fmt (pe_fld (pv 0) rfl)) (.cons pe_str (.cons (pe_fmt (pe_fld (pv 0) rfl)) (.cons pe_str (.cons (pe_fmt (pe_fld (pv 0) rfl)) (.cons pe_str (.cons (pe_fmt (pe_fld (pv 0) rfl)) .nil)))))))))), ?_⟩
      refine ⟨_, rfl, x, c.L, dx, _, _, rfl, hx, L.cl, L.k, let_kind .., .inl ⟨k, rfl, small (by omega), _, rfl, small (by rw [app_len]; omega), ?_⟩⟩
      refine ⟨_, rfl, small (by simp only [app_len]; omega), ?_⟩
      refine ⟨_, rfl, x, c.L, dx, _, _, rfl, hx, L.cl, L.s, let_state .., .inl ⟨s, rfl, small (by omega), _, rfl, small (by simp only [app_len]; omega), ?_⟩⟩
      refine ⟨_, rfl, small (by simp only [app_len]; omega), ?_⟩
      refine ⟨_, rfl, x, c.L, dx, _, _, rfl, hx, L.cl, L.d, let_deed .., .inl ⟨d, rfl, small (by omega), _, rfl, small (by simp only [app_len]; omega), ?_⟩⟩
      refine ⟨_, rfl, small (by simp only [app_len]; omega), ?_⟩
      refine ⟨_, rfl, x, c.L, dx, _, _, rfl, hx, L.cl, L.p, let_place .., .inl ⟨p, rfl, small (by omega), _, rfl, small (by simp only [app_len]; omega), ?_⟩⟩
      rw [← let_text] at q
      exact q
end
end V3

set_option Elab.async false
set_option linter.all false
set_option maxRecDepth 100000
namespace V3
open PySem L2 TL
abbrev sRows : Stmt := top 31
abbrev sLetOf : Stmt := top 34
section
variable {X : Cx} {e : Expr} {o : Expr} {to te : TE}
def rJoinK (K : PySem.W.Frag) : V → List V → Hp → VK → Prop := fun x xs H Q => ∃ a p, ∃ ys : List Str, x = .str a ∧ xs = [.ref p] ∧ (SqL K H p (ys.map V.str) ∨ SqT K H p (ys.map V.str)) ∧
  (ys.map (·.length)).sum + ys.length * a.length ≤ 16777216 ∧ Q (.str (Txt.join a ys)) H
/-- the same rules, K said -/
theorem pe_joinK {K : PySem.W.Frag} {apos pos : Pos} (ho : PE X o to) (he : PE X e te) (hK : X.K = K := by rfl) (hs : starEach [e] X.env = [(false, eval e X.env)] := by rfl) (hbase : attributeBase o "join" X.env (eval o X.env) = eval o X.env := by rfl) (hline : (apos.endLine == pos.line) = true := by rfl) :
    PE X (.Call (.Attribute o "join" apos) [e] [] pos) (tM1 (rJoinK K) to te) := by
  subst hK
  exact pe_join ho he hs hbase hline
theorem pe_ixT {K : PySem.W.Frag} {a b : Expr} {ta tb : TE} {pos : Pos} (ha : PE X a ta) (hb : PE X b tb) (hs : PlainIx b) (hK : X.K = K := by rfl) : PE X (.Subscript a b pos) (tOp (rIxT K) ta tb) := by
  subst hK
  exact pe_ix ix_tup ha hb hs
theorem pe_ixL {K : PySem.W.Frag} {a b : Expr} {ta tb : TE} {pos : Pos} (ha : PE X a ta) (hb : PE X b tb) (hs : PlainIx b) (hK : X.K = K := by rfl) : PE X (.Subscript a b pos) (tOp (rIxL K) ta tb) := by
  subst hK
  exact pe_ix ix_list ha hb hs
end
/-- a list of values that stand for those of another list -/
def Ls {α : Type} (R : V → α → Prop) (vs : List V) (ms : List α) : Prop := vs.length = ms.length ∧ ∀ (i : Nat) (m : α), ms[i]? = some m → ∃ v, vs[i]? = some v ∧ R v m
theorem Ls.nil {α : Type} {R : V → α → Prop} : Ls R [] [] := ⟨rfl, fun i m h => by simp at h⟩
theorem Ls.imp {α : Type} {R R' : V → α → Prop} {vs : List V} {ms : List α} (d : Ls R vs ms) (h : ∀ v m, R v m → R' v m) : Ls R' vs ms := ⟨d.1, fun i m e => by
  obtain ⟨v, e', r⟩ := d.2 i m e
  exact ⟨v, e', h _ _ r⟩⟩
theorem Ls.push {α : Type} {R : V → α → Prop} {vs : List V} {ms : List α} {v : V} {m : α} (d : Ls R vs ms) (t : R v m) : Ls R (vs ++ [v]) (ms ++ [m]) := by
  refine ⟨by simp [d.1], fun i n hn => ?_⟩
  rcases at_end hn with ⟨_, q⟩ | ⟨rfl, rfl⟩
  · obtain ⟨w, e, t'⟩ := d.2 i n q
    exact ⟨w, at_old e, t'⟩
  · exact ⟨v, at_new d.1, t⟩
theorem Ls.get {α : Type} {R : V → α → Prop} {vs : List V} {ms : List α} {v : V} {i : Nat} (d : Ls R vs ms) (h : vs[i]? = some v) : ∃ m, ms[i]? = some m ∧ R v m := by
  have l := (List.getElem?_eq_some_iff.mp h).1
  have e := List.getElem?_eq_getElem (l := ms) (i := i) (by rw [← d.1]; exact l)
  obtain ⟨w, q, t⟩ := d.2 i _ e
  rw [h] at q
  injection q with q
  subst q
  exact ⟨_, e, t⟩
theorem Ls.get2 {α : Type} {R : V → α → Prop} {vs : List V} {ms : List α} {v : V} {i : Nat} {m : α} (d : Ls R vs ms) (h : vs[i]? = some v) (hm : ms[i]? = some m) : R v m := by
  obtain ⟨w, q, t⟩ := d.2 i _ hm
  rw [h] at q
  injection q with q
  subst q
  exact t
/-- the tuple of a row -/
def Rw.tupV : Rw → List V
  | .lt k s d p => [.str k, .str s, .str d, .str p]
  | .ct k w o => [.str k, .int w, .str o]
def TpAt (H : Hp) (v : V) (m : Rw) : Prop := ∃ p, v = .ref p ∧ H p = some (.tup m.tupV)
theorem TpAt.keep {H H' : Hp} {v : V} {m : Rw} (h : TpAt H v m) (s : Keep H H') : TpAt H' v m := by
  obtain ⟨p, e, hp⟩ := h
  exact ⟨p, e, s _ _ (fun _ z => by cases z) hp⟩
theorem TpAt.same {H H' : Hp} {v : V} {m : Rw} (h : TpAt H v m) (s : Same H H') : TpAt H' v m := h.keep (Keep.of s)
/-- tuples of rows, each of them a row of a kind -/
def RowLs (kd : Nat) (H : Hp) (vs : List V) (ms : List Rw) : Prop := Ls (fun v m => TpAt H v m ∧ m.ok ∧ m.kind = kd) vs ms
theorem RowLs.keep {kd : Nat} {H H' : Hp} {vs : List V} {ms : List Rw} (d : RowLs kd H vs ms) (s : Keep H H') : RowLs kd H' vs ms := d.imp fun _ _ h => ⟨h.1.keep s, h.2⟩
def spRows : Sp := fun vs H Q _ => ∃ (b : Addr) (u v : Int) (n : Int), vs = [.ref b, .int n] ∧ H b = some (box u v) ∧ BoxOk u v ∧ 0 ≤ n ∧ n ≤ 100 ∧
  ∀ (D : Addr) (xs : List V) (ms : List Rw) (H' : Hp), Pre b H H' → H' D = some (.lst xs) → D ≠ b → (∀ c o, c ≠ b → H c = some o → c ≠ D) → RowLs 0 H' xs ms → (ms.length : Int) = n → Q (.ref D) H'
def spLetOf (c : Rc) : Sp := fun vs H Q _ => ∃ (v : V) (m : Rw), vs = [v] ∧ TpAt H v m ∧ m.ok ∧ m.kind = 0 ∧ ∀ (x : V) (H' : Hp), Same H H' → RwAt c H' x m → Q x H'
structure MkR (P : Program) (w : World) (K : PySem.W.Frag) (mg : Str → Option Value) (base : Heap) (name : Str) (ps : List Str) (C : Addr) (k : Nat) (spI : Sp) : Prop where
  g : mg name = some (.ref C)
  ini : ∃ (f : Addr) (fd : FuncData), FnOk P w K mg base CX0 k f fd ps spI ∧ Mk K C f ∧ Binds K fd ps []
structure BltG (mg : Str → Option Value) : Prop where
  range : mg "range" = none
  str : mg "str" = none
theorem mk_let {c : Rc} {x dx : Addr} {H : Hp} {k s d p : Str} {R : VK} {E : XK} (ok : (Rw.lt k s d p).ok) (nx : H x = none) (ndx : H dx = none) (q : ∀ H', Same H H' → RwAt c H' (.ref x) (.lt k s d p) → R .non H') :
    spLInit c [.ref x, .str k, .str s, .str d, .str p] (upd (upd H dx (.own x)) x (.ins c.L dx [])) R E :=
  ⟨x, dx, k, s, d, p, rfl, upd_same, ok, fun H' s' hx => q H' (fun a o e => s' a o (ne_of_none e nx) (made_same nx ndx a o e)) ⟨x, dx, rfl, hx⟩⟩
theorem oneOf_at {K : PySem.W.Frag} {b l : Addr} {u v : Int} {H : Hp} {xs : List V} {Q : VK} (hb : H b = some (box u v)) (ok : BoxOk u v) (ne : l ≠ b) (hl : H l = some (.lst xs)) (h1 : 1 ≤ xs.length) (h2 : xs.length ≤ 1000)
    (k : ∀ x H', x ∈ xs → Pre b H H' → Q x H') : spOneOf K [.ref b, .ref l] H Q E :=
  ⟨b, l, u, v, xs, rfl, hb, ok, ne, SqL.of hl, h1, h2, fun x _ _ hx ok' => k x _ hx (Pre.box ok')⟩
theorem oneOf_new {K : PySem.W.Frag} {b l : Addr} {u v : Int} {H : Hp} {xs : List V} {Q : VK} (hb : H b = some (box u v)) (ok : BoxOk u v) (nl : H l = none) (h1 : 1 ≤ xs.length) (h2 : xs.length ≤ 1000)
    (k : ∀ x H', x ∈ xs → Pre b H H' → Q x H') : spOneOf K [.ref b, .ref l] (upd H l (.lst xs)) Q E0 := by
  have nbl : b ≠ l := ne_of_none hb nl
  refine oneOf_at (by rw [upd_ne nbl]; exact hb) ok (Ne.symm nbl) upd_same h1 h2 fun x H' hx p => k x H' hx ⟨fun c o n e => p.1 c o n (by rw [upd_ne (ne_of_none e nl)]; exact e), p.2⟩
section
variable {P : Program} {w : World} {K : PySem.W.Frag} {mg : Str → Option Value} {base : Heap}
abbrev CalOne (P : Program) (w : World) (K : PySem.W.Frag) (mg : Str → Option Value) (base : Heap) : Prop := Cal P w K mg base CX0 "_law_one_of" 2 ["_law_box", "_law_some"] (spOneOf K)
theorem scRows : FnScope ["_law_box", "_law_many", "_law_found", "_law_turn", "_law_kind", "_law_deeds", "_law_state"] ["_law_box", "_law_many"] (defScope sRows) := ⟨rfl, rfl, rfl, by decide +kernel, rfl, by decide +kernel, by decide +kernel⟩
theorem scLetOf : FnScope ["_law_row"] ["_law_row"] (defScope sLetOf) := ⟨rfl, rfl, rfl, by decide +kernel, rfl, by decide +kernel, by decide +kernel⟩
theorem ok_letOf {f : Addr} {c : Rc} {fd : FuncData} (F : Fun K "_law_let_of" "_law_let_of" sLetOf f fd) (ML : MkR P w K mg base "Let" ["self", "kind", "state", "deed", "place"] c.L 3 (spLInit c)) : FnOk P w K mg base CX0 5 f fd ["_law_row"] (spLetOf c) := by
  obtain ⟨f1, fd1, G1, M1, b1⟩ := ML.ini
  refine F.ok scLetOf (fun vs H Q E h => ?_) (fun cdv A outer s H vs Q E hr h => ?_)
  · obtain ⟨v, m, rfl, _⟩ := h
    rfl
  · obtain ⟨v, m, rfl, ⟨p, rfl, hp⟩, ok, ek, q⟩ := h
    cases m with
    | ct _ _ _ => cases ek
    | lt k s d pl =>
      refine ⟨_, pss_one (ps_ret (pe_make (E := fun _ _ _ => False) M1 G1 hr rfl ML.g b1 .nil pass0 (pa_cons (pe_ix ix_tup (pv 0) pe_int (fun _ _ => rfl)) (pa_cons (pe_ix ix_tup (pv 0) pe_int (fun _ _ => rfl)) (pa_cons (pe_ix ix_tup (pv 0) pe_int (fun _ _ => rfl)) (pa_cons (pe_ix ix_tup (pv 0) pe_int (fun _ _ => rfl)) pa_nil)))))), ?_⟩
      refine ⟨_, rfl, p, _, 0, .str k, rfl, rfl, SqT.of hp, rfl, _, rfl, p, _, 1, .str s, rfl, rfl, SqT.of hp, rfl, _, rfl, p, _, 2, .str d, rfl, rfl, SqT.of hp, rfl, _, rfl, p, _, 3, .str pl, rfl, rfl, SqT.of hp, rfl, ?_⟩
      exact fun x dx nx ndx _ => mk_let ok nx ndx fun H' s' a => ⟨rfl, q _ _ s' a⟩
theorem ok_rows {f : Addr} {fd : FuncData} (F : Fun K "_law_rows" "_law_rows" sRows f fd) (T : BltG mg) (cO : CalOne P w K mg base) : FnOk P w K mg base CX0 3 f fd ["_law_box", "_law_many"] spRows := by
  obtain ⟨fO, fdO, GO, mO, kO, bO⟩ := cO
  refine F.ok scRows (fun vs H Q E h => ?_) (fun cdv A outer s H vs Q E hr h => ?_)
  · obtain ⟨b, u, v, n, rfl, _⟩ := h
    rfl
  · obtain ⟨b, u, v, n, rfl, hb, bk, n0, n1, k⟩ := h
    refine ⟨_, pss_cons (ps_set (i := 2) scRows.nd rfl (Or.inl rfl) (pe_lst pa_nil))
      (pss_cons (ps_for PassesOwn.never rfl (pi_range1 (by rfl) T.range (pa_cons (pv 1) pa_nil)) (pg_name (i := 3) scRows.nd rfl (Or.inl rfl))
      (pss_cons (ps_set (i := 4) scRows.nd rfl (Or.inl rfl) (pe_call GO hr rfl mO kO bO .nil pass0 (pa_cons (pv 0) (pa_cons (pe_lst (pa_cons pe_str (pa_cons pe_str (pa_cons pe_str (pa_cons pe_str (pa_cons pe_str (pa_cons pe_str pa_nil))))))) pa_nil))))
      (pss_cons (ps_set (i := 5) scRows.nd rfl (Or.inl rfl) (pe_ifExp (pt_cmpR op_in_seq (pv 4) (pe_tup (pa_cons pe_str (pa_cons pe_str pa_nil))) rfl) (pe_lst (pa_cons pe_str (pa_cons pe_str pa_nil))) (pe_lst (pa_cons pe_str (pa_cons pe_str (pa_cons pe_str pa_nil))))))
      (pss_cons (ps_set (i := 6) scRows.nd rfl (Or.inl rfl) (pe_call GO hr rfl mO kO bO .nil pass0 (pa_cons (pv 0) (pa_cons (pe_lst (pa_cons pe_str (pa_cons pe_str (pa_cons pe_str pa_nil)))) pa_nil))))
      (pss_one (ps_expr (pe_bm PySem.F.plainAttrs_list PySem.F.slot_list_append PySem.F.type_list_append mt_append (pv 2) (pa_cons (pe_tup (pa_cons (pv 4) (pa_cons (pv 6) (pa_cons (pe_call GO hr rfl mO kO bO .nil pass0 (pa_cons (pv 0) (pa_cons (pv 5) pa_nil))) (pa_cons (pe_call GO hr rfl mO kO bO .nil pass0 (pa_cons (pv 0) (pa_cons (pe_lst (pa_cons pe_str (pa_cons pe_str (pa_cons pe_str (pa_cons pe_str pa_nil))))) pa_nil))) pa_nil))))) pa_nil))))))))
      (pss_one (ps_ret (pv 2)))), ?_⟩
    refine ⟨(by show 0 ≤ sizeLine; decide), fun D nD => ?_⟩
    have nbD : b ≠ D := ne_of_none hb nD
    have nD0 : ∀ c o, c ≠ b → H c = some o → c ≠ D := fun c o _ e => ne_of_none e nD
    refine ⟨_, rfl, n, rfl, by omega, by omega, for_range (lo := 0) (n := n.toNat) (fun i σ H' => (∃ o3 o4 o5 o6 : Option V, σ = [some (.ref b), some (.int n), some (.ref D), o3, o4, o5, o6]) ∧ ∃ xs ms, Pre b H H' ∧ H' D = some (.lst xs) ∧ RowLs 0 H' xs ms ∧ ms.length = i) ?_ ?_ ?_⟩
    · exact ⟨⟨_, _, _, _, rfl⟩, [], [], ⟨SameX.of (Same.new nD), u, v, bk, by rw [upd_ne nbD]; exact hb⟩, upd_same, Ls.nil, rfl⟩
    · rintro i σ H0 hi ⟨⟨o3, o4, o5, o6, rfl⟩, xs, ms, p0, hD, rl, lm⟩
      obtain ⟨_, u0, v0, bk0, hb0⟩ := id p0
      refine ⟨_, rfl, (by show 6 ≤ sizeLine; decide), fun l1 n1 => oneOf_new hb0 bk0 n1 (by decide) (by decide) fun x1 H1 i1 p1 => ?_⟩
      have hx1 : ∃ k, x1 = .str k ∧ k ∈ kindL := by
        simp only [List.mem_cons, List.not_mem_nil, or_false] at i1
        rcases i1 with rfl | rfl | rfl | rfl | rfl | rfl <;> exact ⟨_, rfl, by decide +kernel⟩
      obtain ⟨kd, rfl, hk⟩ := hx1
      obtain ⟨_, u1, v1, bk1, hb1⟩ := id p1
      refine ⟨_, rfl, (by show 2 ≤ sizeLine; decide), fun t1 nt1 => ⟨t1, _, rfl, .inr (SqT.of upd_same), rfl, rfl, _, rfl, ?_⟩⟩
      have p2 : Pre b H1 (upd H1 t1 (.tup [.str "minus", .str "plus"])) := ⟨SameX.of (Same.new nt1), u1, v1, bk1, by rw [upd_ne (ne_of_none hb1 nt1)]; exact hb1⟩
      generalize upd H1 t1 (.tup [.str "minus", .str "plus"]) = H2 at p2
      obtain ⟨_, u2, v2, bk2, hb2⟩ := id p2
      have e0 : (if false = true then !inV (V.str kd) [.str "minus", .str "plus"] else inV (V.str kd) [.str "minus", .str "plus"]) = inV (V.str kd) [.str "minus", .str "plus"] := if_neg Bool.false_ne_true
      rw [e0]
      refine ite2 (fun c => ⟨(by show 2 ≤ sizeLine; decide), fun l2 n2 => ?wayA⟩) (fun c => ⟨(by show 3 ≤ sizeLine; decide), fun l2 n2 => ?wayB⟩)
      case' wayA =>
        have dl : ∀ z ∈ [V.str "whole", .str "part"], ∃ d, z = .str d ∧ d ∈ deedL ∧ (d = "right" → kd = "first" ∨ kd = "new") := by
          intro z hz
          simp only [List.mem_cons, List.not_mem_nil, or_false] at hz
          rcases hz with rfl | rfl
          · exact ⟨_, rfl, by decide +kernel, fun e => absurd e (by decide +kernel)⟩
          · exact ⟨_, rfl, by decide +kernel, fun e => absurd e (by decide +kernel)⟩
        have ll : 1 ≤ [V.str "whole", .str "part"].length ∧ [V.str "whole", .str "part"].length ≤ 1000 := by decide
        generalize [V.str "whole", .str "part"] = deeds at dl ll
      case' wayB =>
        have kf : kd = "first" ∨ kd = "new" := by
          have q : ∀ z ∈ kindL, inV (.str z) [.str "minus", .str "plus"] = false → z = "first" ∨ z = "new" := by decide +kernel
          exact q kd hk (Bool.eq_false_iff.mpr c)
        have dl : ∀ z ∈ [V.str "whole", .str "part", .str "right"], ∃ d, z = .str d ∧ d ∈ deedL ∧ (d = "right" → kd = "first" ∨ kd = "new") := by
          intro z hz
          simp only [List.mem_cons, List.not_mem_nil, or_false] at hz
          rcases hz with rfl | rfl | rfl <;> exact ⟨_, rfl, by decide +kernel, fun _ => kf⟩
        have ll : 1 ≤ [V.str "whole", .str "part", .str "right"].length ∧ [V.str "whole", .str "part", .str "right"].length ≤ 1000 := by decide
        generalize [V.str "whole", .str "part", .str "right"] = deeds at dl ll
      all_goals
        have p3 : Pre b H2 (upd H2 l2 (.lst deeds)) := ⟨SameX.of (Same.new n2), u2, v2, bk2, by rw [upd_ne (ne_of_none hb2 n2)]; exact hb2⟩
        have hl2 : upd H2 l2 (.lst deeds) l2 = some (.lst deeds) := upd_same
        have nlb : l2 ≠ b := Ne.symm (ne_of_none hb2 n2)
        have nlD : D ≠ l2 := ne_of_none ((p1.trans p2).1 D _ (Ne.symm nbD) hD) n2
        generalize upd H2 l2 (.lst deeds) = H3 at p3 hl2
        obtain ⟨_, u3, v3, bk3, hb3⟩ := id p3
        refine ⟨_, rfl, (by show 3 ≤ sizeLine; decide), fun l4 n4 => oneOf_new hb3 bk3 n4 (by decide) (by decide) fun x4 H4 i4 p4 => ?_⟩
        have hx4 : ∃ s, x4 = .str s ∧ s ∈ stateL := by
          simp only [List.mem_cons, List.not_mem_nil, or_false] at i4
          rcases i4 with rfl | rfl | rfl <;> exact ⟨_, rfl, by decide +kernel⟩
        obtain ⟨st, rfl, hs⟩ := hx4
        obtain ⟨_, u4, v4, bk4, hb4⟩ := id p4
        have pD4 : Pre b H0 H4 := ((p1.trans p2).trans p3).trans p4
        have hD4 := pD4.1 D _ (Ne.symm nbD) hD
        refine ⟨_, rfl, .inl ⟨rfl, _, SqL.of hD4⟩, _, rfl, _, rfl, _, rfl, _, rfl, ?_⟩
        dsimp only [tNil]
        refine oneOf_at hb4 bk4 nlb (p4.1 _ _ nlb hl2) ll.1 ll.2 fun x5 H5 i5 p5 => ?_
        obtain ⟨dd, rfl, hd, hdr⟩ := dl _ i5
        obtain ⟨_, u5, v5, bk5, hb5⟩ := id p5
        refine ⟨_, rfl, (by show 4 ≤ sizeLine; decide), fun l6 n6 => ?_⟩
        dsimp only [tNil]
        refine oneOf_new hb5 bk5 n6 (by decide) (by decide) fun x6 H6 i6 p6 => ?_
        have hx6 : ∃ s, x6 = .str s ∧ s ∈ placeL := by
          simp only [List.mem_cons, List.not_mem_nil, or_false] at i6
          rcases i6 with rfl | rfl | rfl | rfl <;> exact ⟨_, rfl, by decide +kernel⟩
        obtain ⟨pl, rfl, hp⟩ := hx6
        refine ⟨(by show 4 ≤ sizeLine; decide), fun t7 n7 => ?_⟩
        have p7 : Pre b H0 (upd H6 t7 (.tup [.str kd, .str st, .str dd, .str pl])) := ((pD4.trans p5).trans p6).then (Same.new n7)
        have t7a : TpAt (upd H6 t7 (.tup [.str kd, .str st, .str dd, .str pl])) (.ref t7) (.lt kd st dd pl) := ⟨t7, rfl, upd_same⟩
        generalize upd H6 t7 (.tup [.str kd, .str st, .str dd, .str pl]) = H7 at p7 t7a
        have hD7 := p7.1 D _ (Ne.symm nbD) hD
        have pA := p0.trans p7
        obtain ⟨sa, ua, va, bka, hba⟩ := id pA
        refine ⟨D, xs, _, rfl, rfl, hD7, small1000 (by rw [rl.1]; omega), ⟨_, _, _, _, rfl⟩, xs ++ [.ref t7], ms ++ [.lt kd st dd pl], ⟨fun c o n e => by rw [upd_ne (nD0 c o n e)]; exact sa c o n e, ua, va, bka, by rw [upd_ne nbD]; exact hba⟩, upd_same, ?_, by simp [lm]⟩
        exact RowLs.keep (kd := 0) (Ls.push (rl.keep (Keep.pre hb0 p7.1)) ⟨t7a, ⟨hk, hs, hd, hp, hdr⟩, rfl⟩) (Keep.lst hD7)
    · rintro σ H' ⟨⟨o3, o4, o5, o6, rfl⟩, xs, ms, p0, hD, rl, lm⟩
      exact ⟨_, rfl, k D xs ms H' p0 hD (Ne.symm nbD) nD0 rl (by rw [lm]; omega)⟩
end
end V3

set_option Elab.async false
set_option linter.all false
set_option maxRecDepth 100000
namespace V3
open PySem PySem.Spec PyProof.Rows L2
/-! enumerate over a tuple -/
set_option maxHeartbeats 1000000 in
theorem new_enumT (a : Addr) (its : Array Value) :
    Meets (Builtin.«enumerate.__new__» ⟨[.type "enumerate", .ref a], []⟩) (fun _ R s => s.heap.IsTuple a its ∧
      R (.ok (.ret (.ref (s.heap.push { cls := .type "tuple_iterator", data := .fields #[.ref a, .int 0 0] }).objs.size)))
        { s with heap := (s.heap.push { cls := .type "tuple_iterator", data := .fields #[.ref a, .int 0 0] }).push { cls := .type "enumerate", data := .fields #[.none, .bool false, .ref s.heap.objs.size, rawInt 0, .none, .none] } }) :=
  .of_wp fun prog w A R s h => by
    obtain ⟨hp, g, d, tk, os⟩ := s
    obtain ⟨h1, h⟩ := h
    have sb := sub_enumerate
    have q1 : ∀ {A' : Around} {E : Value → Shared → Prop} {Q : Value → Shared → Prop}, Q (.ref hp.objs.size) ⟨hp.push { cls := .type "tuple_iterator", data := .fields #[.ref a, .int 0 0] }, g, d, tk, os⟩ → wpAny (model prog w) A' (pyIter (.ref a)) Q E ⟨hp, g, d, tk, os⟩ :=
      fun q => (begins_tuple a its).iter prog w _ _ ⟨hp, g, d, tk, os⟩ _ h1 q
    wp_walk using q1
    refine wpAny_stack_any fun st => wpAny_pure ?_
    split
    · rename_i c _ _ _ _ _
      cases (c == Value.type "enumerate") <;> (wp_walk using q1; exact ⟨_, rfl, h⟩)
    · wp_walk using q1
      exact ⟨_, rfl, h⟩
theorem call_enumT {prog : Program} {w : World} {A : Around} {E : Value → Shared → Prop} {s : Shared} {a : Addr} {its : Array Value} {Q : Value → Shared → Prop} (ha : s.heap.IsTuple a its)
    (k : ∀ h', IsEnum h' (s.heap.objs.size + 1) s.heap.objs.size 0 .none → h'.IsTupleIter s.heap.objs.size a 0 → (∀ b o, s.heap.get? b = some o → h'.get? b = some o) → Q (.ref (s.heap.objs.size + 1)) { s with heap := h' }) :
    wpAny (model prog w) A (call (.type "enumerate") [.ref a]) Q E s := by
  refine callType_new F.called_enumerate (by decide) (F.typeCall_enumerate_1 _) (F.newCall_enumerate_1 _) (fun obj => F.args_object_init_2 obj _) F.entry_enumerate_new (new_enumT a its) ⟨ha, ?_⟩
  have sz : (s.heap.push { cls := .type "tuple_iterator", data := .fields #[.ref a, .int 0 0] }).objs.size = s.heap.objs.size + 1 := Heap.size_push ..
  show _ ∧ _
  rw [sz]
  have e1 : IsEnum ((s.heap.push { cls := .type "tuple_iterator", data := .fields #[.ref a, .int 0 0] }).push { cls := .type "enumerate", data := .fields #[.none, .bool false, .ref s.heap.objs.size, rawInt 0, .none, .none] }) (s.heap.objs.size + 1) s.heap.objs.size 0 .none := by
    have z := Heap.get?_push_size (s.heap.push { cls := .type "tuple_iterator", data := .fields #[.ref a, .int 0 0] }) (o := { cls := .type "enumerate", data := .fields #[.none, .bool false, .ref s.heap.objs.size, rawInt 0, .none, .none] }) rfl
    rw [sz] at z
    exact z
  exact ⟨⟨_, e1, rfl⟩, k _ e1 ⟨_, Heap.get?_push_of_some _ (Heap.get?_push_size _ rfl), rfl, rfl⟩ fun b o x => Heap.get?_push_of_some _ (Heap.get?_push_of_some _ x)⟩
/-- the tuple at a, each item in a new pair with its number -/
def Iet (K : PySem.W.Frag) (a : Addr) : It :=
  ⟨fun i H => ∃ xs x, SqT K H a xs ∧ xs[i]? = some x, fun i H v H' => ∃ T x, v = .ref T ∧ H T = none ∧ H' = upd H T (.tup [.int (i : Nat), x]) ∧ ∀ xs, SqT K H a xs → xs[i]? = some x, fun i H => ∃ xs, SqT K H a xs ∧ xs.length = i⟩
theorem turn_enumT {P : Program} {w : World} {K : PySem.W.Frag} {elts : List Expr} {kk : Nat} {tpos : Pos} (a e it : Addr) :
    Turn P w K (.Tuple elts kk tpos) (Iet K a) [e, it] e (fun i h => (∃ old, IsEnum h e it ((i : Nat) : Int) old) ∧ h.IsTupleIter it a i ∧ e ≠ it ∧ a ≠ it ∧ e ≠ a) where
  mem := by simp
  obj := fun i h st b hb => by
    obtain ⟨⟨old, g1⟩, ⟨o, ho, hc, hd⟩, _⟩ := st
    have z0 : b = e ∨ b = it := by simpa using hb
    rcases z0 with z | z
    · rw [z]
      exact ⟨_, g1, fun v q => nomatch q⟩
    · rw [z]
      exact ⟨o, ho, fun v q => by rw [hd] at q; cases q⟩
  keep := fun i h h' st k => let ⟨⟨old, g1⟩, g2, g3⟩ := st; ⟨⟨old, k e (by simp) _ g1⟩, g2.at fun o q => k it (by simp) o q, g3⟩
  item := by
    intro X hP hw hK hc i pins s σ H E I hf st hg
    subst hP hw hK
    obtain ⟨⟨old, g1⟩, g2, n1, n2, n3⟩ := st
    obtain ⟨xs, x, hq, hx⟩ := hg
    obtain ⟨its, rv, p, hz⟩ := I.tuple hq
    obtain ⟨u, hu, ru⟩ := rv.get hx
    have el : e < s.heap.objs.size := Heap.lt_size g1
    have il : it < s.heap.objs.size := by
      obtain ⟨_, q, _⟩ := g2
      exact Heap.lt_size q
    have lt : i < its.toArray.size := by
      have z := (List.getElem?_eq_some_iff.mp hu).1
      simpa using z
    refine wpAny_pyNext_enum_itemD (Draws.tuple (A := X.A.in1) (show X.A.in1.handled = none from I.ok.hd hc) it a n2 its.toArray) g1 ⟨g2, p⟩ lt n1 (by simp only [List.mem_cons, List.not_mem_nil, or_false, not_or]; exact ⟨n1, n3⟩) fun y h' tk hP ho st' hT hsz hk => ?_
    obtain rfl : y = u := by
      have z : its.toArray[i]? = some y := hP
      have z2 : its.toArray[i]? = some u := by simpa using hu
      rw [z2] at z
      exact (Option.some.inj z).symm
    refine ⟨_, rfl, wpAny_letOwnedTupleGo_enum (s := { s with heap := h', toks := tk + 1 }) ho fun h'' g1' sb => ?_⟩
    have T2 : h''.get? s.heap.objs.size = some { cls := .type "tuple", data := .seq #[.int i tk, y] } := (sb.2 _ (Nat.ne_of_gt el)).trans hT
    have new : ObjOk X.prog X.w (upd H s.heap.objs.size (.tup [.int (i : Nat), x])) h'' s.heap.objs.size (.tup [.int (i : Nat), x]) :=
      ⟨by show 2 ≤ sizeLine; decide, [.int i tk, y], .cons ⟨_, rfl⟩ (.cons ru .nil), ⟨_, T2, rfl, _, rfl⟩⟩
    have J : Inv X pins σ (upd H s.heap.objs.size (.tup [.int (i : Nat), x])) { s with heap := h'', toks := tk + 1 } :=
      I.turnedNew (ch := [e, it]) (fun b ob hb q => (sb.2 b (fun z => hb (by simp [z]))).trans (hk b ob (fun z => hb (by simp [z])) (fun z => hb (by simp [z])) q)) hf (Nat.le_refl _) new
    refine ⟨.ref s.heap.objs.size, _, J, rfl, ⟨_, x, rfl, I.hok.fresh (Nat.le_refl _), rfl, fun ys hy => by rw [I.tuple_inj hy hq]; exact hx⟩, ⟨⟨y, ?_⟩, st'.1.at fun o q => (sb.2 it (Ne.symm n1)).trans q, n1, n2, n3⟩, fun b hb => ?_⟩
    · have e1 : ((i + 1 : Nat) : Int) = (i : Int) + 1 := by omega
      rw [e1]
      exact g1'
    · have lb : b < s.heap.objs.size := by
        have z0 : b = e ∨ b = it := by simpa using hb
        rcases z0 with z | z
        · rw [z]
          exact el
        · rw [z]
          exact il
      rw [upd_ne (Nat.ne_of_lt lb)]
      exact (hf b hb).1
  done := by
    intro X hP hw hK hc i pins s σ H E I hf st hg
    subst hP hw hK
    obtain ⟨⟨old, g1⟩, g2, n1, n2, n3⟩ := st
    obtain ⟨xs, hq, hx⟩ := hg
    obtain ⟨its, rv, p, hz⟩ := I.tuple hq
    obtain ⟨f0, f1, f2, f3, f4, f5⟩ := hf it (by simp)
    have ei : i = its.toArray.size := by
      have z := rv.length
      simp only [List.size_toArray]
      omega
    exact wpAny_pyNext_enum_endD (Draws.tuple (A := X.A.in1) (show X.A.in1.handled = none from I.ok.hd hc) it a n2 its.toArray) g1 (by rw [← ei]; exact ⟨g2, p⟩) fun h' eb => ⟨rfl, I.turned (t' := s.toks) (fun b o hb q => eb b o hb q) f0 f1 f3 f4 f5⟩
  self := fun A i s Q E st h => let ⟨⟨_, g1⟩, _⟩ := st; wpAny_pyIter_enum g1 h
def iEnumT (K : PySem.W.Frag) (ta : TA) : TI := fun σ H R => ta σ H fun vs H1 => ∃ a xs, vs = [.ref a] ∧ SqT K H1 a xs ∧ R (Iet K a) H1
theorem pi_enumT {X : Cx} {e : Expr} {ta : TA} {p pos tpos : Pos} {elts : List Expr} {kk : Nat} (hg : Gl X "enumerate") (hm : X.mg "enumerate" = none) (ha : PA X [e] ta) (hs : starEach [e] X.env = [(false, eval e X.env)] := by rfl) :
    PI X (.Tuple elts kk tpos) (.Call (.Name "enumerate" p) [e] [] pos) (iEnumT X.K ta) := by
  refine ⟨fun pins s σ H R I h => ?_⟩
  refine Call_ (ld_blt I hg hm boot_enumerate (PyProof.Rows.callWith_type1 (thn (ha.run pos pins s σ H _ I h) fun us s1 ⟨vs, H1, I1, r1, a, xs, ex, hq, q⟩ => ?_) hs rfl))
  subst ex
  cases r1 with
  | cons r rr =>
    cases rr
    cases r
    obtain ⟨its, rv, p', hz⟩ := I1.tuple hq
    have al : a < s1.heap.objs.size := IsTup.lt p'
    refine call_enumT (its := its.toArray) p' fun h' he hit hk => wpAny_pyIter_enum he ?_
    have I2 : Inv X pins σ H1 { s1 with heap := h' } := I1.kept (t' := s1.toks) hk
    refine ⟨s1.heap.objs.size + 1, [s1.heap.objs.size + 1, s1.heap.objs.size], _, _, H1, rfl, I2, turn_enumT a (s1.heap.objs.size + 1) s1.heap.objs.size, ⟨⟨.none, he⟩, hit, Nat.succ_ne_self _, Nat.ne_of_lt al, Nat.ne_of_gt (Nat.lt_succ_of_lt al)⟩, fun b hb => ?_, q⟩
    have z0 : b = s1.heap.objs.size + 1 ∨ b = s1.heap.objs.size := by simpa using hb
    have le : s1.heap.objs.size ≤ b := by
      rcases z0 with z | z
      · rw [z]
        exact Nat.le_add_right _ _
      · rw [z]
        exact Nat.le_refl _
    exact I1.fpOk le (I1.hok.fresh le)
theorem walk_enumT {K : PySem.W.Frag} {a : Addr} {xs : List V} : Walk (Iet K a) xs.length (fun H => SqT K H a xs) (YPair (fun i => some (.int (i : Nat))) (fun i => xs[i]?)) := by
  refine ⟨fun i _ hi q => ⟨xs, xs[i], q, by simp [hi]⟩, fun _ q => ⟨xs, q, rfl⟩, fun i H v H' _ q y => ?_⟩
  obtain ⟨T, x, h1, h2, h3, h4⟩ := y
  exact ⟨T, .int (i : Nat), x, h1, h2, h3, rfl, h4 xs q⟩
end V3

set_option Elab.async false
set_option linter.all false
set_option maxRecDepth 100000
namespace V3
open PySem L2 TL
abbrev sIsInt : Stmt := top 2
abbrev sIsNum : Stmt := top 3
abbrev sIsRows : Stmt := top 21
abbrev sHasRow : Stmt := top 22
abbrev sHsInit : Stmt := inClass (top 19) 0
abbrev sHsLen : Stmt := inClass (top 19) 4
/-! houses -/
def checkL : List Str := ["left", "all"]
def depthL : List Str := ["depth 0", "depth 1", "depth 2", "depth 3", "depth 4"]
structure Hs where
  d : Int
  ch : Str
  rs : List Rw
  deriving DecidableEq
def Hs.ok (h : Hs) : Prop := 0 ≤ h.d ∧ h.d ≤ 4 ∧ h.ch ∈ checkL ∧ (∀ m ∈ h.rs, m.ok ∧ m.kind = 0) ∧ h.rs.length ≤ 100
def hsF (d ch q : V) : List (Str × V) := [("depth", d), ("check", ch), ("rows", q)]
theorem hs_put (d ch q : V) : putF "rows" q (putF "check" ch (putF "depth" d [])) = hsF d ch q := by
  have a1 : ("depth" : Str) ≠ "check" := by decide +kernel
  have a2 : ("depth" : Str) ≠ "rows" := by decide +kernel
  have a3 : ("check" : Str) ≠ "rows" := by decide +kernel
  show putF "rows" q (putF "check" ch [("depth", d)]) = _
  rw [putF_ne a1]
  show putF "rows" q [("depth", d), ("check", ch)] = _
  rw [putF_ne a2, putF_ne a3]
  rfl
theorem hs_d (d ch q : V) : (hsF d ch q).lookup ("depth" : Str) = some d := rfl
theorem hs_ch (d ch q : V) : (hsF d ch q).lookup ("check" : Str) = some ch := by
  unfold hsF
  rw [lk_ne (by decide +kernel)]
  rfl
theorem hs_rs (d ch q : V) : (hsF d ch q).lookup ("rows" : Str) = some q := by
  unfold hsF
  rw [lk_ne (by decide +kernel), lk_ne (by decide +kernel)]
  rfl
/-- objects of rows, one after another -/
def RwLs (c : Rc) (H : Hp) (us : List V) (ms : List Rw) : Prop := Ls (RwAt c H) us ms
theorem RwLs.keep {c : Rc} {H H' : Hp} {us : List V} {ms : List Rw} (d : RwLs c H us ms) (s : Keep H H') : RwLs c H' us ms := d.imp fun _ _ h => h.keep s
theorem RwLs.same {c : Rc} {H H' : Hp} {us : List V} {ms : List Rw} (d : RwLs c H us ms) (s : Same H H') : RwLs c H' us ms := d.keep (Keep.of s)
/-- a tuple, tracked or written -/
def TupK (K : PySem.W.Frag) (H : Hp) (q : Addr) (us : List V) : Prop := H q = some (.tup us) ∨ ∀ H', SqT K H' q us
theorem TupK.sq {K : PySem.W.Frag} {H : Hp} {q : Addr} {us : List V} (h : TupK K H q us) : SqT K H q us := h.elim SqT.of fun z => z H
theorem TupK.keep {K : PySem.W.Frag} {H H' : Hp} {q : Addr} {us : List V} (h : TupK K H q us) (s : Keep H H') : TupK K H' q us := h.elim (fun z => .inl (s _ _ (fun _ y => by cases y) z)) .inr
theorem TupK.same {K : PySem.W.Frag} {H H' : Hp} {q : Addr} {us : List V} (h : TupK K H q us) (s : Same H H') : TupK K H' q us := h.keep (Keep.of s)
def HsAt (K : PySem.W.Frag) (c : Rc) (C : Addr) (H : Hp) (v : V) (h : Hs) : Prop := ∃ x dx q us, v = .ref x ∧ H x = some (.ins C dx (hsF (.int h.d) (.str h.ch) (.ref q))) ∧ TupK K H q us ∧ RwLs c H us h.rs
theorem HsAt.keep {K : PySem.W.Frag} {c : Rc} {C : Addr} {H H' : Hp} {v : V} {h : Hs} (a : HsAt K c C H v h) (s : Keep H H') : HsAt K c C H' v h := by
  obtain ⟨x, dx, q, us, e, hx, hq, r⟩ := a
  exact ⟨x, dx, q, us, e, s _ _ (fun _ z => by cases z) hx, hq.keep s, r.keep s⟩
theorem HsAt.same {K : PySem.W.Frag} {c : Rc} {C : Addr} {H H' : Hp} {v : V} {h : Hs} (a : HsAt K c C H v h) (s : Same H H') : HsAt K c C H' v h := a.keep (Keep.of s)
structure BltK (mg : Str → Option Value) : Prop where
  isi : mg "isinstance" = none
  int : mg "int" = none
  bool : mg "bool" = none
  list : mg "list" = none
  tuple : mg "tuple" = none
  all : mg "all" = none
  len : mg "len" = none
  str : mg "str" = none
/-- the written tuples and lists of the module -/
structure HsT (K : PySem.W.Frag) (mg : Str → Option Value) (CA DA : Addr) : Prop where
  checks : mg "CHECKS" = some (.ref CA)
  depths : mg "DEPTH_LINES" = some (.ref DA)
  tC : ∀ H, SqT K H CA (checkL.map V.str)
  tD : ∀ H, SqT K H DA (depthL.map V.str)
/-- what House's class must have -/
structure HsC (K : PySem.W.Frag) (C : Addr) : Prop where
  cl : Cls K C
  d : NoAttr K C "depth"
  ch : NoAttr K C "check"
  rs : NoAttr K C "rows"
/-- what Let's class must be to isinstance -/
structure LetI (K : PySem.W.Frag) (c : Rc) : Prop where
  cl : Cls K c.L
  ca : PySem.W.findIn K (.ref c.L) "__class__" = some (some (.builtin "object.__class__"))
  mr : PySem.W.mroIn K c.L (.type "object") = some true
  gn : PySem.W.specialIn K (.builtin "object.__class__") "__get__" = some (some (.builtin "getset_descriptor.__get__"))
  tk : PySem.W.takesIn K (.builtin "object.__class__") = some true
  ki : PySem.W.kitOne K (.ref c.L) (.ref c.L) = some true
def spNumI : Sp := fun vs H Q _ => ∃ i : Int, vs = [.int i] ∧ Q (.bl (decide (0 ≤ i))) H
def spIsRows (c : Rc) : Sp := fun vs H Q _ => ∃ (a : Addr) (us : List V) (ms : List Rw), vs = [.ref a] ∧ H a = some (.lst us) ∧ RwLs c H us ms ∧ (∀ m ∈ ms, m.kind = 0) ∧ ms.length ≤ 1000 ∧ ∀ H', Same H H' → Q (.bl true) H'
def spHsInit (K : PySem.W.Frag) (c : Rc) (C : Addr) : Sp := fun vs H Q _ => ∃ (x dx l : Addr) (us : List V) (h : Hs), vs = [.ref x, .int h.d, .str h.ch, .ref l] ∧ H x = some (.ins C dx []) ∧ H l = some (.lst us) ∧ RwLs c H us h.rs ∧ h.ok ∧
  ∀ H', SameX x H H' → HsAt K c C H' (.ref x) h → Q .non H'
def spHsLen (K : PySem.W.Frag) (c : Rc) (C : Addr) : Sp := fun vs H Q _ => ∃ (v : V) (h : Hs), vs = [v] ∧ HsAt K c C H v h ∧ Q (.int (h.rs.length : Int)) H
/-- whether a whole number is the number of a row -/
def hasRow (h : Hs) (i : Int) : Bool := decide (0 ≤ i) && decide (i < (h.rs.length : Int))
def spHasRow (K : PySem.W.Frag) (c : Rc) (C : Addr) : Sp := fun vs H Q _ => ∃ (v : V) (h : Hs) (i : Int), vs = [v, .int i] ∧ HsAt K c C H v h ∧ Q (.bl (hasRow h i)) H
theorem kit_lt {K : PySem.W.Frag} : PySem.W.kitAny K (.type "list") [.type "list", .type "tuple"] = some true :=
  kitAny_cons (show PySem.W.kitOne K (.type "list") (.type "list") = some true from kit_ty (by decide +kernel)) (fun z => nomatch z) (fun z => rfl)
theorem repl_bl (n : Nat) : List.replicate n (V.bl true) = (List.replicate n true).map V.bl := by
  rw [List.map_replicate]
section
variable {P : Program} {w : World} {K : PySem.W.Frag} {mg : Str → Option Value} {base : Heap}
theorem scIsInt : FnScope ["value"] ["value"] (defScope sIsInt) := ⟨rfl, rfl, rfl, by decide +kernel, rfl, by decide +kernel, by decide +kernel⟩
theorem scIsNum : FnScope ["value"] ["value"] (defScope sIsNum) := ⟨rfl, rfl, rfl, by decide +kernel, rfl, by decide +kernel, by decide +kernel⟩
theorem scIsRows : FnScope ["value", "item"] ["value"] (defScope sIsRows) := ⟨rfl, rfl, rfl, by decide +kernel, rfl, by decide +kernel, by decide +kernel⟩
theorem scHasRow : FnScope ["house", "at"] ["house", "at"] (defScope sHasRow) := ⟨rfl, rfl, rfl, by decide +kernel, rfl, by decide +kernel, by decide +kernel⟩
theorem scHsInit : FnScope ["self", "depth", "check", "rows"] ["self", "depth", "check", "rows"] (defScope sHsInit) := ⟨rfl, rfl, rfl, by decide +kernel, rfl, by decide +kernel, by decide +kernel⟩
theorem scHsLen : FnScope ["self"] ["self"] (defScope sHsLen) := ⟨rfl, rfl, rfl, by decide +kernel, rfl, by decide +kernel, by decide +kernel⟩
theorem ok_intK {f : Addr} {fd : FuncData} (F : Fun K "is_integer" "is_integer" sIsInt f fd) (T : BltK mg) : FnOk P w K mg base CX0 1 f fd ["value"] spIntI := by
  refine F.ok scIsInt (fun vs H Q E h => ?_) (fun cdv A outer s H vs Q E hr h => ?_)
  · obtain ⟨v, rfl, _⟩ := h
    rfl
  · obtain ⟨i, rfl, q⟩ := h
    refine ⟨_, pss_one (ps_ret (pe_and (pe_callB call_isi (by rfl) T.isi (by decide +kernel) (pa_cons (pv 0) (pa_cons (pe_bltn (v := .ty "int") (by rfl) T.int (by decide +kernel) rfl) pa_nil)))
      (pe_one (pe_not (pe_callB call_isi (by rfl) T.isi (by decide +kernel) (pa_cons (pv 0) (pa_cons (pe_bltn (v := .ty "bool") (by rfl) T.bool (by decide +kernel) rfl) pa_nil))))))), ?_⟩
    refine ⟨_, rfl, _, _, _, _, _, rfl, .ty "int", .base (.int i), (show PySem.W.kitOne K (.type "int") (.type "int") = some true from kit_ty (by decide +kernel)), _, rfl, iteT ?_⟩
    exact ⟨_, rfl, _, _, _, _, _, rfl, .ty "bool", .base (.int i), (show PySem.W.kitOne K (.type "int") (.type "bool") = some false from kit_ty (by decide +kernel)), _, rfl, q⟩
theorem ok_numK {f : Addr} {fd : FuncData} (F : Fun K "is_number" "is_number" sIsNum f fd) (cI : Cal P w K mg base CX0 "is_integer" 1 ["value"] spIntI) : FnOk P w K mg base CX0 2 f fd ["value"] spNumI := by
  obtain ⟨fI, fdI, GI, mI, kI, bI⟩ := cI
  refine F.ok scIsNum (fun vs H Q E h => ?_) (fun cdv A outer s H vs Q E hr h => ?_)
  · obtain ⟨v, rfl, _⟩ := h
    rfl
  · obtain ⟨i, rfl, q⟩ := h
    refine ⟨_, pss_one (ps_ret (pe_and (pe_call GI hr rfl mI kI bI .nil pass0 (pa_cons (pv 0) pa_nil)) (pe_one (pe_cmpR op_ge (pv 0) pe_int (nomark _))))), ?_⟩
    exact ⟨_, rfl, i, rfl, _, rfl, iteT ⟨_, rfl, _, _, rfl, rfl, q⟩⟩
theorem ok_isRows {f : Addr} {c : Rc} {fd : FuncData} (F : Fun K "is_rows" "is_rows" sIsRows f fd) (T : BltK mg) (C : LetI K c) (gL : mg "Let" = some (.ref c.L)) : FnOk P w K mg base CX0 1 f fd ["value"] (spIsRows c) := by
  refine F.ok scIsRows (fun vs H Q E h => ?_) (fun cdv A outer s H vs Q E hr h => ?_)
  · obtain ⟨a, us, ms, rfl, _⟩ := h
    rfl
  · obtain ⟨a, us, ms, rfl, ha, rl, kd, n, k⟩ := h
    refine ⟨_, pss_one (ps_ret (pe_and (pe_callB call_isiT (by rfl) T.isi (by decide +kernel) (pa_cons (pv 0) (pa_cons (pe_tup (pa_cons (pe_bltn (v := .ty "list") (by rfl) T.list (by decide +kernel) rfl) (pa_cons (pe_bltn (v := .ty "tuple") (by rfl) T.tuple (by decide +kernel) rfl) pa_nil))) pa_nil)))
        (pe_one (pe_callB (cr_all rfl) (by rfl) T.all (by decide +kernel) (pa_cons (pe_lc (own := [("item", 1)]) (g := gName 1) (tt := tYes) (te := tCB (rIsi K) (tCons (tVar 1) (tCons (tC (.ref c.L)) tNil))) (by rfl) scIsRows.nd (pi_list (pv 0)) (blkOk_by (own := [("item", 1)]) (N := ["value", "item"]) (sc := defScope sIsRows) (by decide +kernel)) (fun _ _ _ _ _ => pg_name (i := 1) scIsRows.nd rfl (Or.inl rfl)) (fun _ _ _ _ _ => pts_nil)
          (fun _ _ _ _ _ => pe_callB call_isi (by rfl) T.isi (by decide +kernel) (pa_cons (pv 1) (pa_cons (pe_glob (v := .ref c.L) rfl gL rfl) pa_nil)))) pa_nil))))), ?_⟩
    refine ⟨_, rfl, (by show 2 ≤ sizeLine; decide), fun tp ntp => ?_⟩
    have s1 : Same H (upd H tp (.tup [.ty "list", .ty "tuple"])) := Same.new ntp
    have ht : upd H tp (.tup [.ty "list", .ty "tuple"]) tp = some (.tup [.ty "list", .ty "tuple"]) := upd_same
    generalize upd H tp (.tup [.ty "list", .ty "tuple"]) = H1 at s1 ht ⊢
    have ha1 := s1 _ _ ha
    have rl1 := rl.same s1
    have lx : us.length = ms.length := rl.1
    refine ⟨_, tp, _, _, _, _, rfl, ht, .cons (.ty "list") (.cons (.ty "tuple") .nil), .base (.lst ha1), kit_lt, _, rfl, iteT ?_⟩
    refine ⟨_, rfl, a, rfl, ⟨us, SqL.of ha1⟩, fun D nD => ?_⟩
    refine lc_list (K := K) (a := a) (xs := us) (fun i Hh => Same H1 Hh ∧ H1 D = none ∧ Hh D = some (.lst (List.replicate i (V.bl true)))) ⟨Same.new nD, nD, upd_same⟩ (fun i Hh _ p => SqL.of (p.1 _ _ ha1)) ?_ ?_
    · intro i z Hh hi p
      have il : i < us.length := (List.getElem?_eq_some_iff.mp hi).1
      obtain ⟨m, em, mz⟩ := Ls.get rl1 hi
      obtain ⟨y, dy, rfl, hy⟩ := mz.same p.1
      have km := kd m (List.mem_of_getElem? em)
      refine ⟨rfl, ?_⟩
      unfold tYes
      dsimp only
      have hy2 : Hh y = some (.ins c.L dy m.fs) := by
        rw [hy]
        show some (HO.ins (c.at m.kind) dy m.fs) = _
        rw [km]
        rfl
      refine iteT ⟨_, rfl, _, _, _, _, _, rfl, .own c.L, .base (.ins hy2 C.cl C.ca C.gn C.tk C.mr), C.ki, _, p.2.2, ?_, fun d o h => ?_, p.2.1, ?_⟩
      · rw [List.length_replicate]
        exact Nat.lt_of_lt_of_le (m := 1001) (by omega) (by decide)
      · rw [upd_ne (ne_of_none h p.2.1)]
        exact p.1 d o h
      · rw [upd_same, List.replicate_succ']
    · intro Hh p
      obtain ⟨s2, _, e⟩ := p
      refine ⟨D, List.replicate us.length true, rfl, SqL.of (by rw [e, repl_bl]), ?_⟩
      have z : (List.replicate us.length true).all id = true := by
        rw [List.all_eq_true]
        intro x hx
        rw [List.eq_of_mem_replicate hx]
        rfl
      rw [z]
      exact k _ (s1.trans s2)
theorem ok_hsInit {f CA DA C : Addr} {c : Rc} {fd : FuncData} {dvs : List V} (F : FunD K "__init__" "House.__init__" (defArgs sHsInit) (defBody sHsInit) (defScope sHsInit) dvs [] f fd) (T : BltK mg) (X : HsT K mg CA DA) (L : HsC K C)
    (cN : Cal P w K mg base CX0 "is_number" 2 ["value"] spNumI) (cR : Cal P w K mg base CX0 "is_rows" 1 ["value"] (spIsRows c)) : FnOk P w K mg base CX0 4 f fd ["self", "depth", "check", "rows"] (spHsInit K c C) := by
  obtain ⟨fN, fdN, GN, mN, kN, bN⟩ := cN
  obtain ⟨fR, fdR, GR, mR, kR, bR⟩ := cR
  refine F.ok scHsInit (fun vs H Q E h => ?_) (fun cdv A outer s H vs Q E hr h => ?_)
  · obtain ⟨x, dx, l, us, h, rfl, _⟩ := h
    rfl
  · obtain ⟨x, dx, l, us, h, rfl, hx, hl, rl, ok, q⟩ := h
    obtain ⟨d0, d4, hc, hm, hn⟩ := ok
    refine ⟨_, pss_cons (ps_if (pt_not (PW.pt (pw_and (pt_val (pe_call GN (hr.mono (by decide)) rfl mN kN bN .nil pass0 (pa_cons (pv 1) pa_nil))) (pw_and1 (pt_cmpR op_lt (pv 1) (pe_callB call_len_seq (by rfl) T.len PySem.boot_len (pa_cons (pe_glob (v := .ref DA) rfl X.depths rfl) pa_nil)) (nomark _)))))) (pss_one ps_never) pss_nil)
      (pss_cons (ps_if (pt_cmpR op_notIn_seq (pv 2) (pe_glob (v := .ref CA) rfl X.checks rfl) rfl) (pss_one ps_never) pss_nil)
      (pss_cons (ps_if (pt_not (pt_val (pe_call GR (hr.mono (by decide)) rfl mR kR bR .nil pass0 (pa_cons (pv 3) pa_nil)))) (pss_one ps_never) pss_nil)
      (pss_cons (ps_fld (pv 0) (pv 1) rfl)
      (pss_cons (ps_fld (pv 0) (pv 2) rfl)
      (pss_one (ps_fld (pv 0) (pe_callTy call_tuple_of (by rfl) T.tuple (by decide +kernel) (pa_cons (pv 3) pa_nil)) rfl)))))), ?_⟩
    refine ⟨_, rfl, h.d, rfl, _, rfl, ?_⟩
    rw [decide_eq_true d0]
    refine iteT ⟨_, rfl, DA, _, rfl, .inr (X.tD _), _, _, rfl, rfl, _, rfl, ?_⟩
    rw [decide_eq_true (show h.d < ((depthL.map V.str).length : Int) by show h.d < 5; omega)]
    refine iteF ⟨_, rfl, CA, _, rfl, .inr (X.tC _), rfl, flat_strs _, _, rfl, ?_⟩
    rw [inV_str, decide_eq_true hc]
    refine iteF ⟨_, rfl, l, us, h.rs, rfl, hl, rl, fun m z => (hm m z).2, by omega, fun H1 s1 => ⟨_, rfl, iteF ?_⟩⟩
    have hx1 := s1 _ _ hx
    have hl1 := s1 _ _ hl
    have nlx : l ≠ x := fun z => by rw [z, hx] at hl; cases hl
    refine ⟨_, rfl, _, rfl, x, C, dx, _, rfl, hx1, L.cl, L.d, (by show 0 < 1000; decide), ?_⟩
    refine ⟨_, rfl, _, rfl, x, C, dx, _, rfl, upd_same, L.cl, L.ch, (by show 1 < 1000; decide), ?_⟩
    rw [upd_upd]
    refine ⟨_, rfl, l, us, rfl, .inl ⟨SqL.of (by rw [upd_ne nlx]; exact hl1), fun t nt => ?_⟩⟩
    have ntx : x ≠ t := ne_of_none upd_same nt
    refine ⟨_, rfl, x, C, dx, _, rfl, (by rw [upd_ne ntx]; exact upd_same), L.cl, L.rs, (lt_put (n := 999) (lt_put (n := 998) (by show 0 < 998; decide))), ?_⟩
    rw [hs_put]
    have nt1 : H1 t = none := by
      rw [upd_ne (Ne.symm ntx)] at nt
      exact nt
    have sx : ∀ b o, b ≠ x → H b = some o → (upd (upd (upd H1 x (HO.ins C dx (putF "check" (V.str h.ch) (putF "depth" (V.int h.d) [])))) t (.tup us)) x (.ins C dx (hsF (.int h.d) (.str h.ch) (.ref t)))) b = some o := fun b o nb e => by
      rw [upd_ne nb, upd_ne (ne_of_none (s1 _ _ e) nt1), upd_ne nb]
      exact s1 _ _ e
    refine q _ (fun b o nb e => sx b o nb e) ⟨x, dx, t, us, rfl, upd_same, .inl (by rw [upd_ne (Ne.symm ntx)]; exact upd_same), ?_⟩
    refine Ls.imp rl fun v m a => ?_
    obtain ⟨y, dy, rfl, hy⟩ := a
    have nyx : y ≠ x := fun z => by
      rw [z, hx] at hy
      have e := Option.some.inj hy
      cases m <;> cases e
    exact ⟨y, dy, rfl, sx y _ nyx hy⟩
theorem ok_hsLen {f C : Addr} {c : Rc} {fd : FuncData} (F : Fun K "__len__" "House.__len__" sHsLen f fd) (T : BltK mg) (L : HsC K C) : FnOk P w K mg base CX0 1 f fd ["self"] (spHsLen K c C) := by
  refine F.ok scHsLen (fun vs H Q E h => ?_) (fun cdv A outer s H vs Q E hr h => ?_)
  · obtain ⟨v, h, rfl, _⟩ := h
    rfl
  · obtain ⟨v, h, rfl, ⟨x, dx, q, us, rfl, hx, hq, rl⟩, k⟩ := h
    refine ⟨_, pss_one (ps_ret (pe_callB call_len_seq (by rfl) T.len PySem.boot_len (pa_cons (pe_fld (pv 0) rfl) pa_nil))), ?_⟩
    rw [← rl.1] at k
    exact ⟨_, rfl, x, C, dx, _, _, rfl, hx, L.cl, L.rs, hs_rs .., q, us, rfl, .inr hq.sq, k⟩
theorem ok_hasRow {f C : Addr} {c : Rc} {fd : FuncData} (F : Fun K "has_row" "has_row" sHasRow f fd) (T : BltK mg) (L : HsC K C) : FnOk P w K mg base CX0 1 f fd ["house", "at"] (spHasRow K c C) := by
  refine F.ok scHasRow (fun vs H Q E h => ?_) (fun cdv A outer s H vs Q E hr h => ?_)
  · obtain ⟨v, h, i, rfl, _⟩ := h
    rfl
  · obtain ⟨v, h, i, rfl, ⟨x, dx, q, us, rfl, hx, hq, rl⟩, k⟩ := h
    refine ⟨_, pss_one (ps_ret (pe_chain op_le op_lt pe_int (pv 1) (pe_callB call_len_seq (by rfl) T.len PySem.boot_len (pa_cons (pe_fld (pv 0) rfl) pa_nil)))), ?_⟩
    refine ⟨_, rfl, _, _, rfl, rfl, _, rfl, ?_⟩
    by_cases i0 : 0 ≤ i
    · rw [decide_eq_true i0]
      refine iteT ⟨_, rfl, x, C, dx, _, _, rfl, hx, L.cl, L.rs, hs_rs .., q, us, rfl, .inr hq.sq, _, _, rfl, rfl, ?_⟩
      unfold hasRow at k
      rw [decide_eq_true i0, Bool.true_and, ← rl.1] at k
      exact k
    · rw [decide_eq_false i0]
      refine iteF ?_
      unfold hasRow at k
      rw [decide_eq_false i0, Bool.false_and] at k
      exact k
end
end V3

set_option Elab.async false
set_option linter.all false
set_option maxRecDepth 100000
namespace V3
open PySem L2 TL
abbrev sHsStr : Stmt := inClass (top 19) 11
abbrev sHsEq : Stmt := inClass (top 19) 10
abbrev sPlaced : Stmt := inClass (top 19) 2
/-! houses: their texts, ==, the place that a house tells -/
def nlS : Str := "\n"
def Hs.lines (h : Hs) : List Str := (Str.empty ++ "depth " ++ num h.d) :: (Str.empty ++ "check " ++ h.ch) :: h.rs.map Rw.text
def Hs.text (h : Hs) : Str := Str.join nlS h.lines
theorem lt_len {m : Rw} (ok : m.ok) (kd : m.kind = 0) : m.text.length ≤ 27 := by
  cases m with
  | ct k w o => cases kd
  | lt k s d p =>
    have l : ∀ z ∈ (Rw.lt k s d p).words, z.length ≤ 6 := fun z hz => (word_ok ok z hz).2
    simp only [Rw.words, List.mem_cons, List.not_mem_nil, or_false, forall_eq_or_imp, forall_eq] at l
    obtain ⟨l1, l2, l3, l4⟩ := l
    have l0 : (Str.empty).length = 0 := rfl
    have lb : (" " : Str).length = 1 := by decide +kernel
    rw [← let_text]
    simp only [app_len]
    omega
theorem num_dep {d : Int} (a : 0 ≤ d) (b : d ≤ 4) : (num d).length = 1 := by
  have h : d = 0 ∨ d = 1 ∨ d = 2 ∨ d = 3 ∨ d = 4 := by omega
  rcases h with rfl | rfl | rfl | rfl | rfl <;> decide +kernel
theorem ch_len {z : Str} (h : z ∈ checkL) : z.length ≤ 4 := by
  have q : ∀ z ∈ checkL, z.length ≤ 4 := by decide +kernel
  exact q z h
theorem sum_le {n : Nat} : ∀ l : List Str, (∀ z ∈ l, z.length ≤ n) → (l.map (·.length)).sum ≤ n * l.length
  | [], _ => by simp
  | a :: r, h => by
    have h1 := h a (by simp)
    have h2 := sum_le r fun z hz => h z (by simp [hz])
    simp only [List.map_cons, List.sum_cons, List.length_cons]
    have e : n * (r.length + 1) = n * r.length + n := by rw [Nat.mul_add, Nat.mul_one]
    omega
theorem lines_len {h : Hs} (ok : h.ok) : ∀ z ∈ h.lines, z.length ≤ 30 := by
  obtain ⟨d0, d4, hc, hm, hn⟩ := ok
  intro z hz
  have e1 : ("depth " : Str).length = 6 := by decide +kernel
  have e2 : ("check " : Str).length = 6 := by decide +kernel
  have l0 : (Str.empty).length = 0 := rfl
  simp only [Hs.lines, List.mem_cons, List.mem_map] at hz
  rcases hz with rfl | rfl | ⟨m, mm, rfl⟩
  · have := num_dep d0 d4
    simp only [app_len]
    omega
  · have := ch_len hc
    simp only [app_len]
    omega
  · have := lt_len (hm m mm).1 (hm m mm).2
    omega
theorem lines_n {h : Hs} (ok : h.ok) : h.lines.length ≤ 102 := by
  have := ok.2.2.2.2
  simp only [Hs.lines, List.length_cons, List.length_map]
  omega
def spHsStr (K : PySem.W.Frag) (c : Rc) (C : Addr) : Sp := fun vs H Q _ => ∃ (v : V) (h : Hs), vs = [v] ∧ HsAt K c C H v h ∧ h.ok ∧ ∀ H', Same H H' → Q (.str h.text) H'
structure StrH (P : Program) (w : World) (K : PySem.W.Frag) (mg : Str → Option Value) (base : Heap) (c : Rc) : Prop where
  s : ∃ (f : Addr) (fd : FuncData), FnOk P w K mg base CX0 1 f fd ["self"] (spRS c 0) ∧ PySem.W.findIn K (.ref c.L) "__str__" = some (some (.ref f)) ∧ PySem.W.isFn K (.ref f) = true ∧ Binds K fd ["self"] []
def rStrH (c : Rc) : List V → Hp → VK → Prop := fun xs H Q => ∃ v m, xs = [v] ∧ RwAt c H v m ∧ m.ok ∧ m.kind = 0 ∧ Q (.str m.text) H
theorem call_strH {X : Cx} {c : Rc} (T : StrH X.prog X.w X.K X.mg X.base c) (room : Room 3 X.A) : CallR X (.type "str") (rStrH c) := by
  intro pins s σ H xs us Q I r h
  obtain ⟨v, m, rfl, ⟨x, dx, rfl, hx⟩, ok, kd, q⟩ := h
  obtain ⟨f, fd, G, at_, isf, bi⟩ := T.s
  have hx2 : H x = some (.ins c.L dx m.fs) := by
    rw [hx]
    show some (HO.ins (c.at m.kind) dx m.fs) = _
    rw [kd]
    rfl
  refine call_strO (E := fun _ _ _ => False) G at_ isf bi pass0 room pins s σ H _ us Q I r ⟨x, dx, m.fs, rfl, hx2, x, dx, m, rfl, hx, kd, ok, _, rfl, q⟩
theorem take_nxt {α : Type} {l : List α} {i : Nat} {x : α} (h : l[i]? = some x) : l.take (i + 1) = l.take i ++ [x] := by
  rw [List.take_add_one, h]
  rfl
/-- the first fitting row's place -/
def placeIn (k s d : Str) : List Rw → Option Str
  | [] => none
  | .lt k' s' d' p :: r => if k' = k ∧ s' = s ∧ d' = d then some p else placeIn k s d r
  | .ct _ _ _ :: r => placeIn k s d r
def optV : Option Str → V
  | some p => .str p
  | none => .non
def spPlaced (K : PySem.W.Frag) (c : Rc) (C : Addr) : Sp := fun vs H Q _ => ∃ (v : V) (h : Hs) (k s d : Str), vs = [v, .str k, .str s, .str d] ∧ HsAt K c C H v h ∧ h.ok ∧ k ∈ kindL ∧ s ∈ stateL ∧ d ∈ deedL ∧ ∀ H', Same H H' → Q (optV (placeIn k s d h.rs)) H'
theorem word_lay : ∀ z ∈ kindL ++ stateL ++ deedL ++ placeL, PyData.canLay0 (.str z) = true := by decide +kernel
theorem lay_k {z : Str} (h : z ∈ kindL) : PyData.canLay0 (.str z) = true := word_lay z (by simp [h])
theorem lay_s {z : Str} (h : z ∈ stateL) : PyData.canLay0 (.str z) = true := word_lay z (by simp [h])
theorem lay_d {z : Str} (h : z ∈ deedL) : PyData.canLay0 (.str z) = true := word_lay z (by simp [h])
theorem tri_shaped {a b c : Str} (ha : a ∈ kindL) (hb : b ∈ stateL) (hc : c ∈ deedL) : SeqAt.shaped (.tuple [.str a, .str b, .str c]) = true := by
  have kt : ∀ xs : List PyData, PyData.canLay0 (.tuple xs) = PyData.canLayAll0 xs := fun xs => by simp [PyData.canLay0]
  simp [SeqAt.shaped, kt, PyData.canLayAll0, lay_k ha, lay_s hb, lay_d hc, PyData.depth, PyData.depthAll]
theorem str_beq (a b : Str) : (a == b) = decide (a = b) := by
  by_cases h : a = b
  · rw [decide_eq_true h, h]
    simp
  · rw [decide_eq_false h]
    simpa using h
theorem tri_eqv (a b c a' b' c' : Str) : PyData.eqv (.tuple [.str a, .str b, .str c]) (.tuple [.str a', .str b', .str c']) = decide (a = a' ∧ b = b' ∧ c = c') := by
  simp [PyData.eqv, PyData.eqvAll, str_beq, Bool.decide_and]
/-- the two notes of a House object's own str and == -/
structure HsStr (P : Program) (w : World) (K : PySem.W.Frag) (mg : Str → Option Value) (base : Heap) (c : Rc) (C : Addr) : Prop where
  s : ∃ (f : Addr) (fd : FuncData), FnOk P w K mg base CX0 4 f fd ["self"] (spHsStr K c C) ∧ PySem.W.findIn K (.ref C) "__str__" = some (some (.ref f)) ∧ PySem.W.isFn K (.ref f) = true ∧ Binds K fd ["self"] []
def rStrK (K : PySem.W.Frag) (c : Rc) (C : Addr) : List V → Hp → VK → Prop := fun xs H Q => ∃ v h, xs = [v] ∧ HsAt K c C H v h ∧ h.ok ∧ ∀ H', Same H H' → Q (.str h.text) H'
theorem call_strK {X : Cx} {c : Rc} {C : Addr} (T : HsStr X.prog X.w X.K X.mg X.base c C) (room : Room 6 X.A) : CallR X (.type "str") (rStrK X.K c C) := by
  intro pins s σ H xs us Q I r h
  obtain ⟨v, h, rfl, a, ok, q⟩ := h
  obtain ⟨f, fd, G, at_, isf, bi⟩ := T.s
  obtain ⟨x, dx, q1, us1, rfl, hx, hq, rl⟩ := id a
  exact call_strO (E := fun _ _ _ => False) G at_ isf bi pass0 room pins s σ H _ us Q I r ⟨x, dx, _, rfl, hx, _, h, rfl, a, ok, fun H' sm => ⟨_, rfl, q H' sm⟩⟩
/-- what House's class must be to isinstance -/
structure HsI (K : PySem.W.Frag) (C : Addr) : Prop where
  cl : Cls K C
  ca : PySem.W.findIn K (.ref C) "__class__" = some (some (.builtin "object.__class__"))
  mr : PySem.W.mroIn K C (.type "object") = some true
  gn : PySem.W.specialIn K (.builtin "object.__class__") "__get__" = some (some (.builtin "getset_descriptor.__get__"))
  tk : PySem.W.takesIn K (.builtin "object.__class__") = some true
  ki : PySem.W.kitOne K (.ref C) (.ref C) = some true
def spHsEq (K : PySem.W.Frag) (c : Rc) (C : Addr) : Sp := fun vs H Q _ => ∃ (u v : V) (h g : Hs), vs = [u, v] ∧ HsAt K c C H u h ∧ HsAt K c C H v g ∧ h.ok ∧ g.ok ∧ ∀ H', Same H H' → Q (.bl (decide (h.text = g.text))) H'
section
variable {P : Program} {w : World} {K : PySem.W.Frag} {mg : Str → Option Value} {base : Heap}
theorem scHsStr : FnScope ["self", "row"] ["self"] (defScope sHsStr) := ⟨rfl, rfl, rfl, by decide +kernel, rfl, by decide +kernel, by decide +kernel⟩
theorem scHsEq : FnScope ["self", "other"] ["self", "other"] (defScope sHsEq) := ⟨rfl, rfl, rfl, by decide +kernel, rfl, by decide +kernel, by decide +kernel⟩
theorem scPlaced : FnScope ["self", "kind", "state", "deed", "row"] ["self", "kind", "state", "deed"] (defScope sPlaced) := ⟨rfl, rfl, rfl, by decide +kernel, rfl, by decide +kernel, by decide +kernel⟩
theorem ok_hsStr {f C : Addr} {c : Rc} {fd : FuncData} (F : Fun K "__str__" "House.__str__" sHsStr f fd) (T : BltK mg) (S : StrH P w K mg base c) (L : HsC K C) : FnOk P w K mg base CX0 4 f fd ["self"] (spHsStr K c C) := by
  refine F.ok scHsStr (fun vs H Q E h => ?_) (fun cdv A outer s H vs Q E hr h => ?_)
  · obtain ⟨v, h, rfl, _⟩ := h
    rfl
  · obtain ⟨v, h, rfl, ⟨x, dx, q, us, rfl, hx, hq, rl⟩, ok, k⟩ := h
    have lall := lines_len ok
    have ln := lines_n ok
    obtain ⟨d0, d4, hc, hm, hn⟩ := id ok
    have e1 : ("depth " : Str).length = 6 := by decide +kernel
    have e2 : ("check " : Str).length = 6 := by decide +kernel
    have l0 : (Str.empty).length = 0 := rfl
    have l1 := num_dep d0 d4
    have l2 := ch_len hc
    refine ⟨_, pss_one (ps_ret (pe_joinK pe_str (pe_lst (pa_cons (pe_joined (.cons pe_str (.cons (pe_fmt (pe_fld (pv 0) rfl)) .nil))) (pa_cons (pe_joined (.cons pe_str (.cons (pe_fmt (pe_fld (pv 0) rfl)) .nil)))
      (StX.pa_star (pe_lc (own := [("row", 1)]) (g := gName 1) (tt := tYes) (te := tCB (rStrH c) (tCons (tVar 1) tNil)) (by rfl) scHsStr.nd (pi_tup (pe_fld (pv 0) rfl)) (blkOk_by (own := [("row", 1)]) (N := ["self", "row"]) (sc := defScope sHsStr) (by decide +kernel)) (fun _ _ _ _ _ => pg_name (i := 1) scHsStr.nd rfl (Or.inl rfl)) (fun _ _ _ _ _ => pts_nil)
          (fun _ _ _ _ _ => pe_callTy (call_strH S hr) (by rfl) T.str (by decide +kernel) (pa_cons (pv 1) pa_nil))) pa_nil)))))), ?_⟩
    have am : Am h.d := by
      have z : h.d = 0 ∨ h.d = 1 ∨ h.d = 2 ∨ h.d = 3 ∨ h.d = 4 := by omega
      rcases z with z | z | z | z | z <;> (rw [z]; unfold Am; decide)
    refine ⟨⟨_, rfl⟩, _, rfl, small (by rw [app_len]; omega), ?_⟩
    refine ⟨_, rfl, x, C, dx, _, _, rfl, hx, L.cl, L.d, hs_d .., .inr ⟨h.d, rfl, am_log am, num h.d, rfl, small (by simp only [app_len]; omega), ?_⟩⟩
    refine ⟨_, rfl, small (by rw [app_len]; omega), ?_⟩
    refine ⟨_, rfl, x, C, dx, _, _, rfl, hx, L.cl, L.ch, hs_ch .., .inl ⟨h.ch, rfl, small (by omega), _, rfl, small (by simp only [app_len]; omega), ?_⟩⟩
    refine ⟨_, rfl, x, C, dx, _, _, rfl, hx, L.cl, L.rs, hs_rs .., q, rfl, ⟨us, hq.sq⟩, fun D nD => ?_⟩
    have lx : us.length = h.rs.length := rl.1
    refine lc_tup (K := K) (a := q) (xs := us) (fun i Hh => Same H Hh ∧ H D = none ∧ Hh D = some (.lst (((h.rs.take i).map Rw.text).map V.str))) ⟨Same.new nD, nD, upd_same⟩ (fun i Hh _ p => (hq.same p.1).sq) ?_ ?_
    · intro i z Hh hi p
      have il : i < us.length := (List.getElem?_eq_some_iff.mp hi).1
      obtain ⟨m, em, mz⟩ := Ls.get rl hi
      obtain ⟨mo, mk⟩ := hm m (List.mem_of_getElem? em)
      refine ⟨rfl, ?_⟩
      unfold tYes
      dsimp only
      refine iteT ⟨_, rfl, z, m, rfl, mz.same p.1, mo, mk, _, p.2.2, ?_, fun d o e => ?_, p.2.1, ?_⟩
      · rw [List.length_map, List.length_map, List.length_take]
        exact Nat.lt_of_lt_of_le (m := 1001) (by omega) (by decide)
      · rw [upd_ne (ne_of_none e p.2.1)]
        exact p.1 d o e
      · rw [upd_same, take_nxt em, List.map_append, List.map_append]
        rfl
    · intro Hh p
      obtain ⟨s2, _, e⟩ := p
      rw [lx, List.take_length] at e
      refine ⟨D, _, rfl, .inr (SqL.of e), ?_, fun t nt => ?_⟩
      · simp only [List.append_nil, List.length_cons, List.length_map]
        exact Nat.le_trans (m := 1001) (by omega) (by decide)
      refine ⟨_, t, h.lines, rfl, rfl, .inl (SqL.of ?_), ?_, ?_⟩
      · rw [upd_same, List.append_nil]
        rfl
      · have z := sum_le h.lines lall
        have e3 : ("\n" : Str).length = 1 := by decide +kernel
        rw [e3]
        omega
      · rw [join_eq]
        exact k _ (s2.trans (Same.new nt))
theorem ok_hsEq {f C : Addr} {c : Rc} {fd : FuncData} (F : Fun K "__eq__" "House.__eq__" sHsEq f fd) (T : BltK mg) (S : HsStr P w K mg base c C) (I : HsI K C) (gH : mg "House" = some (.ref C)) : FnOk P w K mg base CX0 7 f fd ["self", "other"] (spHsEq K c C) := by
  refine F.ok scHsEq (fun vs H Q E h => ?_) (fun cdv A outer s H vs Q E hr h => ?_)
  · obtain ⟨u, v, h, g, rfl, _⟩ := h
    rfl
  · obtain ⟨u, v, h, g, rfl, hu, hv, ho, go, k⟩ := h
    obtain ⟨y, dy, q2, us2, rfl, hy, hq2, rl2⟩ := id hv
    refine ⟨_, pss_one (ps_ret (pe_and (pe_callB call_isi (by rfl) T.isi (by decide +kernel) (pa_cons (pv 1) (pa_cons (pe_glob (v := .ref C) rfl gH rfl) pa_nil)))
      (pe_one (pe_cmpR op_eq (pe_callTy (call_strK S hr) (by rfl) T.str (by decide +kernel) (pa_cons (pv 0) pa_nil)) (pe_callTy (call_strK S hr) (by rfl) T.str (by decide +kernel) (pa_cons (pv 1) pa_nil)) (nomark _))))), ?_⟩
    refine ⟨_, rfl, _, _, _, _, _, rfl, .own C, .base (.ins hy I.cl I.ca I.gn I.tk I.mr), I.ki, _, rfl, iteT ?_⟩
    refine ⟨_, rfl, u, h, rfl, hu, ho, fun H1 s1 => ⟨_, rfl, _, g, rfl, hv.same s1, go, fun H2 s2 => ⟨rfl, ?_⟩⟩⟩
    have e : decide (V.str h.text = V.str g.text) = decide (h.text = g.text) := by
      by_cases z : h.text = g.text
      · rw [z, decide_eq_true rfl, decide_eq_true rfl]
      · rw [decide_eq_false z, decide_eq_false (fun y => z (by injection y))]
    rw [e]
    exact k _ (s1.trans s2)
theorem ok_placed {f C : Addr} {c : Rc} {fd : FuncData} (F : Fun K "placed" "House.placed" sPlaced f fd) (L : HsC K C) (R : LetC K c) : FnOk P w K mg base CX0 2 f fd ["self", "kind", "state", "deed"] (spPlaced K c C) := by
  refine F.ok scPlaced (fun vs H Q E h => ?_) (fun cdv A outer s H vs Q E hr h => ?_)
  · obtain ⟨v, h, k, s, d, rfl, _⟩ := h
    rfl
  · obtain ⟨v, h, kd, st, de, rfl, ⟨x, dx, q, us, rfl, hx, hq, rl⟩, ok, hk, hs, hd, k⟩ := h
    obtain ⟨d0, d4, hc, hm, hn⟩ := id ok
    refine ⟨_, pss_cons (ps_for PassesOwn.never rfl (pi_tup (pe_fld (pv 0) rfl)) (pg_name (i := 4) scPlaced.nd rfl (Or.inl rfl))
      (pss_one (ps_if (pt_cmpR (op_eqD hr.units) (pe_tup (pa_cons (pe_fld (pv 4) rfl) (pa_cons (pe_fld (pv 4) rfl) (pa_cons (pe_fld (pv 4) rfl) pa_nil)))) (pe_tup (pa_cons (pv 1) (pa_cons (pv 2) (pa_cons (pv 3) pa_nil)))) (nomark _)) (pss_one (ps_ret (pe_fld (pv 4) rfl))) pss_nil)))
      (pss_one (ps_ret pe_non)), ?_⟩
    refine ⟨_, rfl, x, C, dx, _, _, rfl, hx, L.cl, L.rs, hs_rs .., q, rfl, ⟨us, hq.sq⟩, ?_⟩
    refine for_tup (K := K) (a := q) (xs := us) (fun i σ H' => (∃ o, σ = [some (.ref x), some (.str kd), some (.str st), some (.str de), o]) ∧ Same H H' ∧ placeIn kd st de h.rs = placeIn kd st de (h.rs.drop i)) ?_ ?_ ?_ ?_
    · exact ⟨⟨_, rfl⟩, Same.refl H, rfl⟩
    · rintro i σ H' _ ⟨_, s1, _⟩
      exact (hq.same s1).sq
    · rintro i z σ H' hi ⟨⟨o, rfl⟩, s1, pl⟩
      obtain ⟨m, em, mz⟩ := Ls.get rl hi
      obtain ⟨mo, mk⟩ := hm m (List.mem_of_getElem? em)
      have il : i < h.rs.length := (List.getElem?_eq_some_iff.mp em).1
      have dr : h.rs.drop i = m :: h.rs.drop (i + 1) := by
        rw [List.drop_eq_getElem_cons il]
        have z := (List.getElem?_eq_some_iff.mp em).2
        rw [z]
      cases m with
      | ct _ _ _ => cases mk
      | lt k' s' d' p' =>
        obtain ⟨y, dy, rfl, hy0⟩ := mz.same s1
        have hy : H' y = some (.ins c.L dy (letF (.str k') (.str s') (.str d') (.str p'))) := hy0
        obtain ⟨k1, k2, k3, k4, _⟩ := id mo
        refine ⟨_, rfl, y, c.L, dy, _, _, rfl, hy, R.cl, R.k, let_kind .., _, rfl, y, c.L, dy, _, _, rfl, hy, R.cl, R.s, let_state .., _, rfl, y, c.L, dy, _, _, rfl, hy, R.cl, R.d, let_deed .., (by show 3 ≤ sizeLine; decide), fun t1 n1 => ?_⟩
        have s2 : Same H' (upd H' t1 (.tup [.str k', .str s', .str d'])) := Same.new n1
        have ht1 : upd H' t1 (.tup [.str k', .str s', .str d']) t1 = some (.tup [.str k', .str s', .str d']) := upd_same
        dsimp only [tNil]
        generalize upd H' t1 (.tup [.str k', .str s', .str d']) = H1 at s2 ht1 ⊢
        refine ⟨_, rfl, _, rfl, _, rfl, (by show 3 ≤ sizeLine; decide), fun t2 n2 => ?_⟩
        have s3 : Same H1 (upd H1 t2 (.tup [.str kd, .str st, .str de])) := Same.new n2
        have ht2 : upd H1 t2 (.tup [.str kd, .str st, .str de]) t2 = some (.tup [.str kd, .str st, .str de]) := upd_same
        dsimp only [tNil]
        generalize upd H1 t2 (.tup [.str kd, .str st, .str de]) = H2 at s3 ht2 ⊢
        have S := (s1.trans s2).trans s3
        refine ⟨.tuple [.str k', .str s', .str d'], .tuple [.str kd, .str st, .str de], .tup (SqT.of (s3 _ _ ht1)) (.cons (.str _) (.cons (.str _) (.cons (.str _) .nil))), .tup (SqT.of ht2) (.cons (.str _) (.cons (.str _) (.cons (.str _) .nil))), tri_shaped k1 k2 k3, tri_shaped hk hs hd, _, rfl, ?_⟩
        rw [tri_eqv]
        rw [dr, show placeIn kd st de (Rw.lt k' s' d' p' :: h.rs.drop (i + 1)) = if k' = kd ∧ s' = st ∧ d' = de then some p' else placeIn kd st de (h.rs.drop (i + 1)) from rfl] at pl
        by_cases e : k' = kd ∧ s' = st ∧ d' = de
        · rw [decide_eq_true e]
          rw [if_pos e] at pl
          refine iteT ⟨_, rfl, y, c.L, dy, _, _, rfl, (s2.trans s3) _ _ hy, R.cl, R.p, let_place .., ?_⟩
          have z := k _ S
          have pl2 : placeIn kd st de h.rs = some p' := pl
          rw [pl2] at z
          exact z
        · rw [decide_eq_false e]
          rw [if_neg e] at pl
          exact iteF ⟨⟨_, rfl⟩, S, pl⟩
    · rintro σ H' ⟨⟨o, rfl⟩, s1, pl⟩
      have z := k _ s1
      rw [rl.1, List.drop_length] at pl
      rw [pl] at z
      exact z
end
end V3

set_option Elab.async false
set_option linter.all false
set_option maxRecDepth 100000
namespace V3
open PySem PySem.Spec PyProof.Rows L2
/-! own exception classes over IndexError whose init is a def -/
abbrev ieTail : List Value := [.type "IndexError", .type "LookupError", .type "Exception", .type "BaseException", .type "object"]
/-- own classes, and then IndexError's line -/
def lineI : List Value → Bool
  | .ref _ :: r => lineI r
  | l => l == ieTail
theorem lineI_or (l : List Value) (e : lineI l = true) : (∃ c r, l = .ref c :: r ∧ lineI r = true) ∨ l = ieTail := by
  cases l with
  | nil => exact .inr (beq_iff_eq.mp e)
  | cons v r => cases v with
    | ref c => exact .inl ⟨c, r, rfl, e⟩
    | _ => exact .inr (beq_iff_eq.mp e)
theorem lineI_pass (me : Value) : ∀ l : List Value, lineI l = true → refuseLoop me "__setattr__" l = pure ()
  | [], e => absurd e (by decide)
  | v :: r, e => by
    rcases lineI_or (v :: r) e with ⟨c, r', q, h⟩ | q
    · obtain ⟨rfl, rfl⟩ := List.cons.inj q
      rw [refuseLoop_ref]
      exact lineI_pass me r h
    · rw [q]
      exact PySem.F.store_IndexError.passes me
theorem lineI_has (Y : String) : ∀ l : List Value, lineI l = true → l.contains (.type Y) = ieTail.contains (.type Y)
  | [], e => absurd e (by decide)
  | v :: r, e => by
    rcases lineI_or (v :: r) e with ⟨c, r', q, h⟩ | q
    · obtain ⟨rfl, rfl⟩ := List.cons.inj q
      rw [List.contains_cons, lineI_has Y r h]
      rfl
    · rw [q]
theorem lineI_ne {l : List Value} (e : lineI l = true) : l.isEmpty = false := by
  cases l with
  | nil => exact absurd e (by decide)
  | cons _ _ => rfl
section
open Builtin Builtin.ObjectAttr PySem.W PySem.Calls PySem.HandSPX
variable {prog : Program} {w : World} {A : Around} {E : Value → Shared → Prop} {R : Result → Shared → Prop} {hp : Heap} {g : Array GenState} {d : Drawn} {t : Nat} {os : OsState}
/-- a first field of an instance without a dict, by object's own way -/
theorem osaI {K : W.Frag} {n : Str} {tk : Tok} {v : Value} {x C : Addr} {fv : Array Value} {cd : ClassData} (Y : K.In hp) (gx : hp.get? x = some { cls := .ref C, data := .fields fv }) (gc : W.clsIn K C = some cd) (gm : lineI cd.mro = true) (gh : cd.hasDict = true) (ga : W.findIn K (.ref C) n = some none)
    (q : ∀ h' tk' dx, (∀ b o, b ≠ x → hp.get? b = some o → h'.get? b = some o) → hp.objs.size ≤ dx → dx ≠ x → h'.get? x = some { cls := .ref C, dict := some dx, data := .fields fv } → h'.Ns1 dx (fun y => if y = n then some v else none) → R (.ok (.ret .none)) ⟨h', g, d, tk', os⟩) :
    codeAny (model prog w) A (.call (.builtin "object.__setattr__") ⟨[.ref x, .str n tk, v], []⟩) R ⟨hp, g, d, t, os⟩ := by
  have J : W.InstAt hp x { cls := .ref C, data := .fields fv } C none := ⟨gx, rfl, rfl, trivial⟩
  have S := F.store_object
  have nem := lineI_ne gm
  have hasO : cd.mro.contains (.type "object") = true := (lineI_has "object" _ gm).trans (by decide +kernel)
  have xs : x ≠ hp.objs.size := Nat.ne_of_lt (Heap.lt_size gx)
  have sb : W.Looks (model prog w) hp (isInstance (.ref x) (.type "object")) true := J.type.andThen (W.looks_mroIn Y (by unfold W.mroIn; rw [gc, Option.bind_some, if_neg (by rw [nem]; decide), hasO]))
  refine codeAny_call_builtin S.slot.plain S.entry (@W.check_slot (model prog w) _ _ ⟨hp, g, d, t, os⟩ "object.__setattr__" "object" "__setattr__" (.ref x) [.str n tk, v] [] _ S.kind S.split sb (S.args (.ref x) (.str n tk) v) ?_)
  have lm : W.Looks (model prog w) hp (mroOf (.ref C)) cd.mro := (W.looks_clsIn Y gc).andThen .now
  have l3 : W.Looks (model prog w) hp (storeTaker? none) none := .now
  have lc : W.Looks (model prog w) hp (classData C) cd := W.looks_clsIn Y gc
  rw [W.osa_eq, refuse_eq]
  refine wpAny_bind (wpAny_bind (J.type.at (wpAny_bind (lm.at ?_))))
  rw [lineI_pass _ _ gm]
  refine wpAny_pure (wpAny_bind (J.type.at (wpAny_bind ((W.looks_findIn Y ga).at (wpAny_bind (l3.at ?_))))))
  show wpAny _ _ (storeInOwnDict (.ref x) (.ref C) (.str n tk) n v false) _ _ _
  obtain ⟨nm, bs, mro, ns, qn, hd, sn, sb', ab, col, del⟩ := cd
  dsimp only at gh
  subst gh
  unfold storeInOwnDict ownDictForStores
  repeat (first | with_reducible refine store_in_new ?_ ?_ | with_reducible refine wpAny_loadPart_at gx ?_ | with_reducible refine lc.at ?_ | wp_step)
  · exact ⟨_, #[], _, (Heap.get?_update_ne _ _ _ _ xs.symm).trans (Heap.get?_push_at rfl rfl), rfl, fun e he => absurd he (by simp), fun _ => rfl⟩
  · intro h' tk' hn' hs
    have gx1 : (hp.push { cls := .type "dict", data := .dict #[] }).get? x = some { cls := .ref C, data := .fields fv } := Heap.get?_push_of_some _ gx
    refine q h' tk' hp.objs.size (fun b o hb ho => ?_) (Nat.le_refl _) xs.symm ?_ hn'
    · exact (hs.2 b (Nat.ne_of_lt (Heap.lt_size ho))).trans ((Heap.get?_update_ne _ _ _ _ hb).trans (Heap.get?_push_of_some _ ho))
    · exact (hs.2 x xs).trans (Heap.get?_update_self _ gx1 rfl)
end
/-- what the written part says of such a class -/
structure OexI (K : PySem.W.Frag) (C : Addr) : Prop where
  cls : ∃ nm q N bs bm sn sub ab col dd k0 k1 k2 k3 k5, K.lookup C = some (excClassObj nm q C N bs bm true sn sub ab col dd k0 k1 k2 k3 k5 "IndexError.__new__") ∧ lineI bm = true
  sa : PySem.W.findIn K (.ref C) "__setattr__" = some (some (.builtin "object.__setattr__"))
  exC : PySem.W.subIn K (.ref C) (.type "BaseException") = some true
  tyC : PySem.W.typeIn K (.ref C) = some (.type "type")
  kC : PySem.W.keepIn K (.ref C) = true
section
variable {X : Cx} {pins : List (Addr × Obj)} {σ : L2.St} {H : Hp} {s : Shared} {a C dx : Addr} {f : Str} {y : V} {u : Value} {fs : List (Str × V)} {Q : Unit → Shared → Prop} {E : Value → Shared → Prop} {A : Around}
theorem ostI_new (T : OexI X.K C) (I : Inv X pins σ H s) (e : H a = some (exo a C none)) (no : PySem.W.findIn X.K (.ref C) f = some none) (ry : RelV y u)
    (k : ∀ dx s', H dx = none → dx ≠ a → Inv X pins σ (upd (upd H dx (exd dx [(f, y)])) a (exo a C (some dx))) s' → Q () s') : wpAny (model X.prog X.w) A (setAttr (.ref a) f u) Q E s := by
  obtain ⟨nm, q, N, bs, bm, sn, sub, ab, col, dd, k0, k1, k2, k3, k5, gC, gm⟩ := T.cls
  have gl : PySem.W.clsIn X.K C = some { name := nm, bases := bs, mro := .ref C :: bm, ns := N, qualname := q, hasDict := true, slotNames := sn, subclasses := sub, abstract := ab, collection := col, hasDel := false } := by
    unfold PySem.W.clsIn
    rw [gC] <;> rfl
  obtain ⟨t1, ho⟩ := exo_at I.hok e
  obtain ⟨hp, g, d, t, os⟩ := s
  refine PySem.W.set_plain I.kIn (ox := { cls := .ref C, dict := none, data := .fields #[.ref t1, .none, .none, .none, .bool false, .none] }) (od := none) ⟨ho, rfl, rfl, trivial⟩ T.sa ?_
  refine osaI I.kIn ho gl (show lineI (.ref C :: bm) = true from gm) rfl no (fun h' tk' dx kk dn dne hx hn => ?_)
  have fd : H dx = none := I.hok.fresh dn
  have nd : ∀ {b : Addr} {o : Obj}, hp.get? b = some o → b ≠ dx := fun {b o} z => Nat.ne_of_lt (Nat.lt_of_lt_of_le (Heap.lt_size z) dn)
  have na : ∀ {b : Addr}, H b = none → b ≠ a := fun {b} n z => by
    rw [z, e] at n
    cases n
  have U : Un X.fs [] H (upd (upd H dx (exd dx [(f, y)])) a (exo a C (some dx))) hp h' := {
    keep := fun b o z n _ _ => kk b o (na n) z
    slot := fun b o z n _ _ => ⟨o.slots, kk b o (na n) z⟩
    free := fun b o z n _ => by rw [upd_ne (na n), upd_ne (nd z)] <;> exact n
    there := fun b o z _ => by
      by_cases eb : b = a
      · exact ⟨_, by rw [eb] <;> exact hx⟩
      · exact ⟨o, kk b o eb z⟩
    tups := fun b xs z => by rw [upd_ne (at_ne e z exo_tup), upd_ne (ne_of_none z fd)] <;> exact z
    frzs := fun b o v z => by rw [upd_ne (at_ne e z exo_frz), upd_ne (ne_of_none z fd)] <;> exact z
    tbls := fun b ps z => ⟨#[], by rw [upd_ne (at_ne e z exo_tbl), upd_ne (ne_of_none z fd), z] <;> simp⟩ }
  refine k dx _ fd dne (I.un (t' := tk') U fun b o z => ?_)
  by_cases eb : b = a
  · subst eb
    rw [upd_same] at z
    cases z
    exact exo_ok hx
  · rw [upd_ne eb] at z
    by_cases ed : b = dx
    · subst ed
      rw [upd_same] at z
      cases z
      exact exd_ok hn (relO_put (f := f) (fs := []) ry fun _ => True.intro)
    · rw [upd_ne ed] at z
      refine (I.hok b o z).stay (fun c v hc y2 => ?_) (fun c hc => by rw [upd_ne (at_ne e hc exo_own), upd_ne (ne_of_none hc fd)] <;> exact hc) (fun c xs hc => by rw [upd_ne (at_ne e hc exo_tup), upd_ne (ne_of_none hc fd)] <;> exact hc)
      refine kk c v ?_ y2
      rcases hc with hc | hc
      · rw [hc]
        exact eb
      · exact at_ne e hc exo_own
end
/-- self.f = y, the first field of an instance that is being made -/
def tOstI (K : PySem.W.Frag) (f : Str) (to te : TE) : TS := fun D σ H => te σ H fun y H1 => to σ H1 fun x H2 => ∃ a C : Addr, x = .ref a ∧ OexI K C ∧ PySem.W.findIn K (.ref C) f = some none ∧
  H2 a = some (exo a C none) ∧ ∀ dx, H2 dx = none → dx ≠ a → D.nx σ (upd (upd H2 dx (exd dx [(f, y)])) a (exo a C (some dx)))
section
variable {X : Cx} {o e : Expr} {es : List Expr} {to te : TE} {ta : TA} {f : Str} {p p' pos : Pos}
theorem ps_ostI (ho : PE X o to) (he : PE X e te) (hs : swapsWith e (some (.Attribute o f p')) pos.line X.env = pure false := by rfl) : PS X (.Assign [.Attribute o f p'] e pos) (tOstI X.K f to te) := by
  refine ⟨fun pins s σ H D I h => ?_⟩
  refine plainObj_wpAny_Assign_Attribute (thn (he.run pins s σ H _ I h) fun v s1 ⟨y, H1, I1, r1, q1⟩ => thn (ho.run pins s1 σ H1 _ I1 q1) fun u s2 ⟨x, H2, I2, r2, a, C, ex, T, no, ea, q⟩ => ?_) hs
  subst ex
  obtain rfl : u = Value.ref a := r2
  exact ostI_new T I2 ea no r1 fun dx s' n ne J => ⟨σ, _, J, q dx n ne⟩
/-- C(e, ..) by its own init, C's line ending in IndexError's -/
theorem pmk_oexI {CX : CXT} {x : Str} {C fI : Addr} {k : Nat} {fd : FuncData} {ps : List Str} {sp : Sp} (T : OexI X.K C) (iC : PySem.W.findIn X.K (.ref C) "__init__" = some (some (.ref fI))) (tI : PySem.W.typeIn X.K (.ref fI) = some (.type "function"))
    (F1 : FnOk X.prog X.w X.K X.mg X.base CX k fI fd ps sp) (room : Room (k + 1) X.A) (bi : Binds X.K fd ps []) (ps' : Passes CX X (fun _ _ _ => False)) (hg : Gl X x) (hm : X.mg x = some (.ref C)) (ha : PA X (e :: es) ta)
    (nd : (x == ("__debug__" : Str)) = false := by decide) (st : starEach (e :: es) X.env = (false, eval e X.env) :: starEach es X.env := by rfl) (pl : (backTo pos (starEach es X.env)).any (·.1) = false := by rfl) :
    PMk X (.Call (.Name x p) (e :: es) [] pos) (tMkO C sp [] ta) := by
  intro pins s σ H Q I h
  obtain ⟨nm, q, N, bs, bm, sn, sub, ab, col, dd, k0, k1, k2, k3, k5, gC, gm⟩ := T.cls
  refine wpAny_Call_Name_kw (ld_glob I hg hm ?_ nd)
  refine PySem.W.callWith_K (h₀ := X.base) I.ok.mod.kin T.kC (thn (ha.run pos pins s σ H _ I h) fun us s1 ⟨vs, H1, I1, r1, hz, q1⟩ => ⟨I1.kIn, ?_⟩) st pl
  show wpAny _ _ (call (.ref C) us) _ _ _
  obtain ⟨hp, g, dr, tk, os⟩ := s1
  have sz : hp.objs.size ≤ hp.objs.size + 1 := Nat.le_succ _
  have fr : H1 (hp.objs.size + 1) = none := I1.hok.fresh sz
  have sp1 := q1 (hp.objs.size + 1) fr
  have keep2 : ∀ b o, hp.get? b = some o → ((hp.push (PySem.W.kdv_tup us)).push (PySem.HandSPX.excO C hp.objs.size)).get? b = some o := fun b o z => Heap.get?_push_of_some _ (Heap.get?_push_of_some _ z)
  have at2 : ((hp.push (PySem.W.kdv_tup us)).push (PySem.HandSPX.excO C hp.objs.size)).get? (hp.objs.size + 1) = some (PySem.HandSPX.excO C hp.objs.size) := by heap_get
  have J : Inv X pins σ (upd H1 (hp.objs.size + 1) (exo (hp.objs.size + 1) C none)) ⟨(hp.push (PySem.W.kdv_tup us)).push (PySem.HandSPX.excO C hp.objs.size), g, dr, tk, os⟩ :=
    I1.laid (t' := tk) (a := hp.objs.size + 1) (o := exo (hp.objs.size + 1) C none) (h' := (hp.push (PySem.W.kdv_tup us)).push (PySem.HandSPX.excO C hp.objs.size)) keep2 sz (exo_ok at2)
  rw [List.append_nil] at sp1
  have r2 : Vals (V.ref (hp.objs.size + 1) :: vs) (Value.ref (hp.objs.size + 1) :: us) := .cons rfl r1
  have len2 : (Value.ref (hp.objs.size + 1) :: us ++ []).length = ps.length := by
    have z := r2.length
    rw [F1.len _ _ _ _ sp1] at z
    rw [List.append_nil]
    exact z.symm
  have few : us.length ≤ sizeLine := by
    rw [← Paired.length r1, sizeLine_eq] <;> omega
  have b2 := bi _ (Value.ref (hp.objs.size + 1) :: us) J.kIn len2
  rw [List.append_nil] at b2
  refine wpAny_call (PySem.HandSPX.call_own PySem.F.excBase_IndexError (fun Y => lineI_has Y bm gm) (I1.kIn _ _ gC) (PySem.W.looks_findIn I1.kIn iC) (fun self => PySem.W.bind_fn I1.kIn self tI) few
    (codeAny_mono (F1.run _ X.stack _ _ ⟨Value.ref (hp.objs.size + 1) :: us, []⟩ (Value.ref (hp.objs.size + 1) :: us) _ _ (fun _ _ _ => False) (room.make C us []) (J.env0.make C us []) b2 r2 sp1) fun r s' z => ?_))
  cases r with
  | error er => exact ps' pins σ _ _ er s' J z
  | ok fl =>
    cases fl with
    | ret u =>
      obtain ⟨v, H2, os2, bare2, un2, ok2, rv, ev, d, fs, ea, ed, nd1, q2⟩ := z
      subst ev
      obtain ⟨h2, g2, d2, t2, os'⟩ := s'
      exact ⟨rv, mk_end (raises_own T.exC T.tyC) I1 sz keep2 un2 ok2 os2 bare2 ea ed nd1 q2⟩
    | next => exact z.elim
    | brk => exact z.elim
    | cont => exact z.elim
end
end V3

set_option Elab.async false
set_option linter.all false
set_option maxRecDepth 100000
namespace V3
open PySem L2 TL
abbrev sNrInit : Stmt := inClass (top 9) 0
/-! NoRow; a house without some rows -/
def spIX (C : Addr) : Sp := fun vs H Q _ => ∃ (a : Addr) (y : V), vs = [.ref a, y] ∧ H a = some (exo a C none) ∧
  ∀ d, H d = none → d ≠ a → Q .non (upd (upd H d (exd d [("at", y)])) a (exo a C (some d)))
structure NrTxt (P : Program) (w : World) (K : PySem.W.Frag) (mg : Str → Option Value) (base : Heap) (C : Addr) : Prop where
  g : mg "NoRow" = some (.ref C)
  o : OexI K C
  no : PySem.W.findIn K (.ref C) "at" = some none
  ini : ∃ (f : Addr) (fd : FuncData), FnOk P w K mg base CX0 1 f fd ["self", "at"] (spIX C) ∧ PySem.W.findIn K (.ref C) "__init__" = some (some (.ref f)) ∧ PySem.W.typeIn K (.ref f) = some (.type "function") ∧ Binds K fd ["self", "at"] []
/-- behind a raise: an error with the number, all else as it was -/
def ErI (C : Addr) (H : Hp) (E : XK) (i : Int) : Prop := ∀ (d : Addr) (H' : Hp), Same H H' → H' d = some (.xd [("at", .int i)]) → E (.ref C) (some d) H'
theorem raise_sameI {H : Hp} {a d : Addr} {o1 o2 o3 o4 : HO} (na : H a = none) (nd : upd H a o1 d = none) (ne : d ≠ a) : Same H (upd (del (upd (upd (upd H a o1) d o2) a o3) a) d o4) := by
  intro b o e
  have ba : b ≠ a := ne_of_none e na
  have hd : H d = none := by
    rw [upd_ne ne] at nd
    exact nd
  have bd : b ≠ d := ne_of_none e hd
  rw [upd_ne bd, del_ne ba, upd_ne ba, upd_ne bd, upd_ne ba]
  exact e
theorem er_readI {C : Addr} {H : Hp} {E : XK} {i : Int} (h : ErI C H E i) : ∀ a, H a = none → spIX C (.ref a :: ([V.int i] ++ [])) (upd H a (exo a C none))
    (fun v H2 => v = .non ∧ ∃ (d : Addr) (fs : List (Str × V)), H2 a = some (exo a C (some d)) ∧ H2 d = some (exd d fs) ∧ H d = none ∧ E (.ref C) (some d) (upd (del H2 a) d (.xd fs))) (fun _ _ _ => False) := by
  intro a na
  refine ⟨a, _, rfl, upd_same, fun d nd ne => ⟨rfl, d, [("at", .int i)], upd_same, ?_, ?_, ?_⟩⟩
  · rw [upd_ne ne]
    exact upd_same
  · rw [upd_ne ne] at nd
    exact nd
  · exact h d _ (raise_sameI na nd ne) upd_same
/-- walking a list or a tuple -/
def iSeq (K : PySem.W.Frag) (tl : TE) : TI := fun σ H R => tl σ H fun x H1 => ∃ a, x = .ref a ∧ (((∃ xs, SqL K H1 a xs) ∧ R (Itl K a) H1) ∨ ((∃ xs, SqT K H1 a xs) ∧ R (Itt K a) H1))
theorem pi_seq {X : Cx} {tg l : Expr} {tl : TE} (hl : PE X l tl) : PI X tg l (iSeq X.K tl) := by
  refine ⟨fun pins s σ H R J h => ?_⟩
  have nw : ∀ {s1 : Shared} {H1 : Hp} {o : Obj}, Inv X pins σ H1 s1 → Inv X pins σ H1 { s1 with heap := s1.heap.push o } := fun {s1 H1 o} I1 => I1.kept (t' := s1.toks) fun b o e => PySem.Heap.get?_push_of_some _ e
  refine thn (hl.run pins s σ H _ J h) fun v s1 ⟨x, H1, I1, r1, a, ea, q1⟩ => ?_
  subst ea
  cases r1
  have fp : ∀ b ∈ [s1.heap.objs.size], FpOk X pins H1 b := fun b hb => by
    rw [List.mem_singleton.mp hb]
    exact I1.fpOk (Nat.le_refl _) (I1.hok.fresh (Nat.le_refl _))
  rcases q1 with ⟨⟨xs, hq⟩, q⟩ | ⟨⟨xs, hq⟩, q⟩
  · obtain ⟨its, rv, p, hz⟩ := I1.list hq
    exact wpAny_pyIter_list p.isList ⟨s1.heap.objs.size, [s1.heap.objs.size], _, _, H1, rfl, nw I1, turn_list a _, ⟨_, PySem.Heap.get?_push_size _ rfl, rfl, rfl⟩, fp, q⟩
  · obtain ⟨its, rv, p, hz⟩ := I1.tuple hq
    exact wpAny_pyIter_tuple (show s1.heap.IsTuple a its.toArray from p) ⟨s1.heap.objs.size, [s1.heap.objs.size], _, _, H1, rfl, nw I1, turn_tuple a _, ⟨_, PySem.Heap.get?_push_size _ rfl, rfl, rfl⟩, fp, q⟩
theorem for_seq {K : PySem.W.Frag} {a : Addr} {xs : List V} {g : TG} {tb : TS} {D : Ends} {σ : L2.St} {H : Hp} (Pv : Nat → L2.St → Hp → Prop) (h : H a = some (.lst xs) ∨ H a = some (.tup xs)) (h0 : Pv 0 σ H) (hl : ∀ i σ H', Pv i σ H' → Same H H')
    (hs : ∀ i x σ H, xs[i]? = some x → Pv i σ H → g x σ H fun σ2 H2 => tb { D with nx := Pv (i + 1), ct := Pv (i + 1), bk := D.nx } σ2 H2) (hd : ∀ σ H, Pv xs.length σ H → D.nx σ H) :
    ((∃ xs, SqL K H a xs) ∧ ∃ W : Nat → Nat → L2.St → Hp → Prop, (∃ m, W 0 m σ H) ∧ ∀ i m σ H, W i m σ H →
      ((Itl K a).stop i H ∧ D.nx σ H) ∨ ((Itl K a).go i H ∧ ∃ N : L2.St → Hp → Prop, (∀ σ' H', N σ' H' → ∃ m', m' < m ∧ W (i + 1) m' σ' H') ∧ ∀ x H', (Itl K a).yld i H x H' → g x σ H' fun σ2 H2 => tb { D with nx := N, ct := N, bk := D.nx } σ2 H2)) ∨
    ((∃ xs, SqT K H a xs) ∧ ∃ W : Nat → Nat → L2.St → Hp → Prop, (∃ m, W 0 m σ H) ∧ ∀ i m σ H, W i m σ H →
      ((Itt K a).stop i H ∧ D.nx σ H) ∨ ((Itt K a).go i H ∧ ∃ N : L2.St → Hp → Prop, (∀ σ' H', N σ' H' → ∃ m', m' < m ∧ W (i + 1) m' σ' H') ∧ ∀ x H', (Itt K a).yld i H x H' → g x σ H' fun σ2 H2 => tb { D with nx := N, ct := N, bk := D.nx } σ2 H2)) := by
  rcases h with h | h
  · exact .inl ⟨⟨xs, SqL.of h⟩, for_list Pv h0 (fun i σ H' _ z => SqL.of (hl i σ H' z _ _ h)) hs hd⟩
  · exact .inr ⟨⟨xs, SqT.of h⟩, for_tup Pv h0 (fun i σ H' _ z => SqT.of (hl i σ H' z _ _ h)) hs hd⟩
/-- the rows whose numbers, from j on, are none of these -/
def keepFrom (ns : List Int) : Nat → List Rw → List Rw
  | _, [] => []
  | j, m :: r => if ((j : Nat) : Int) ∈ ns then keepFrom ns (j + 1) r else m :: keepFrom ns (j + 1) r
theorem keep_snoc (ns : List Int) (m : Rw) : ∀ (l : List Rw) (j : Nat), keepFrom ns j (l ++ [m]) = keepFrom ns j l ++ (if ((j + l.length : Nat) : Int) ∈ ns then [] else [m])
  | [], j => by
    show (if ((j : Nat) : Int) ∈ ns then keepFrom ns (j + 1) [] else m :: keepFrom ns (j + 1) []) = [] ++ (if ((j + 0 : Nat) : Int) ∈ ns then [] else [m])
    rfl
  | a :: l, j => by
    have ih := keep_snoc ns m l (j + 1)
    have e : j + 1 + l.length = j + (a :: l).length := by
      rw [List.length_cons]
      omega
    rw [e] at ih
    show (if ((j : Nat) : Int) ∈ ns then keepFrom ns (j + 1) (l ++ [m]) else a :: keepFrom ns (j + 1) (l ++ [m])) = (if ((j : Nat) : Int) ∈ ns then keepFrom ns (j + 1) l else a :: keepFrom ns (j + 1) l) ++ _
    by_cases h : ((j : Nat) : Int) ∈ ns
    · rw [if_pos h, if_pos h, ih]
    · rw [if_neg h, if_neg h, ih, List.cons_append]
theorem keep_sub (ns : List Int) : ∀ (l : List Rw) (j : Nat), (keepFrom ns j l).length ≤ l.length ∧ ∀ m ∈ keepFrom ns j l, m ∈ l
  | [], _ => ⟨Nat.le_refl _, fun m h => by cases h⟩
  | a :: l, j => by
    obtain ⟨h1, h2⟩ := keep_sub ns l (j + 1)
    show (if ((j : Nat) : Int) ∈ ns then keepFrom ns (j + 1) l else a :: keepFrom ns (j + 1) l).length ≤ _ ∧ ∀ m ∈ (if ((j : Nat) : Int) ∈ ns then keepFrom ns (j + 1) l else a :: keepFrom ns (j + 1) l), _
    by_cases h : ((j : Nat) : Int) ∈ ns
    · rw [if_pos h]
      exact ⟨by rw [List.length_cons]; omega, fun m z => List.mem_cons_of_mem _ (h2 m z)⟩
    · rw [if_neg h]
      refine ⟨by simp only [List.length_cons]; omega, fun m z => ?_⟩
      rcases List.mem_cons.mp z with z | z
      · rw [z]
        exact List.mem_cons_self
      · exact List.mem_cons_of_mem _ (h2 m z)
def Hs.less (h : Hs) (ns : List Int) : Hs := ⟨h.d, h.ch, keepFrom ns 0 h.rs⟩
theorem less_ok {h : Hs} (ok : h.ok) (ns : List Int) : (h.less ns).ok := by
  obtain ⟨d0, d4, hc, hm, hn⟩ := ok
  obtain ⟨h1, h2⟩ := keep_sub ns h.rs 0
  exact ⟨d0, d4, hc, fun m z => hm m (h2 m z), Nat.le_trans h1 hn⟩
def badRow (h : Hs) (ns : List Int) : Option Int := ns.find? fun i => !hasRow h i
def NumsAt (K : PySem.W.Frag) (H : Hp) (p : Addr) (ns : List Int) : Prop := SqL K H p (ns.map V.int) ∨ SqT K H p (ns.map V.int)
/-- a list or a tuple of whole numbers that stays -/
def NumsIn (H : Hp) (p : Addr) (ns : List Int) : Prop := H p = some (.lst (ns.map V.int)) ∨ H p = some (.tup (ns.map V.int))
theorem NumsIn.same {H H' : Hp} {p : Addr} {ns : List Int} (h : NumsIn H p ns) (s : Same H H') : NumsIn H' p ns := h.elim (fun z => .inl (s _ _ z)) (fun z => .inr (s _ _ z))
theorem NumsIn.sq {K : PySem.W.Frag} {H : Hp} {p : Addr} {ns : List Int} (h : NumsIn H p ns) : SqL K H p (ns.map V.int) ∨ SqT K H p (ns.map V.int) := h.elim (fun z => .inl (SqL.of z)) (fun z => .inr (SqT.of z))
def spWithout (K : PySem.W.Frag) (c : Rc) (C CN : Addr) : Sp := fun vs H Q E => ∃ (v : V) (p : Addr) (h : Hs) (ns : List Int), vs = [v, .ref p] ∧ HsAt K c C H v h ∧ h.ok ∧ NumsIn H p ns ∧
  (badRow h ns = none → ∀ w H', Same H H' → HsAt K c C H' w (h.less ns) → Q w H') ∧ ∀ i, badRow h ns = some i → ErI CN H E i
theorem flat_ints (L : List Int) : (L.map V.int).all flatV = true := by
  induction L with
  | nil => rfl
  | cons a r ih => simpa [flatV] using ih
theorem inV_int {i : Int} {L : List Int} : inV (.int i) (L.map V.int) = decide (i ∈ L) := by
  induction L with
  | nil => rfl
  | cons a r ih =>
    have e : inV (.int i) ((a :: r).map V.int) = (a == i || inV (.int i) (r.map V.int)) := rfl
    rw [e, ih]
    by_cases q : i = a
    · subst q
      simp
    · have z : (a == i) = false := Bool.eq_false_iff.mpr fun w => q (eq_of_beq w).symm
      rw [z]
      simp [q]
/-- House, how it is made -/
structure MkH (P : Program) (w : World) (K : PySem.W.Frag) (mg : Str → Option Value) (base : Heap) (c : Rc) (C : Addr) : Prop where
  g : mg "House" = some (.ref C)
  ini : ∃ (f : Addr) (fd : FuncData), FnOk P w K mg base CX0 4 f fd ["self", "depth", "check", "rows"] (spHsInit K c C) ∧ Mk K C f ∧ Binds K fd ["self", "depth", "check", "rows"] []
theorem mk_house {K : PySem.W.Frag} {c : Rc} {C x dx l : Addr} {H : Hp} {us : List V} {h : Hs} {R : VK} {E : XK} (hl : H l = some (.lst us)) (rl : RwLs c H us h.rs) (ok : h.ok) (nx : H x = none) (ndx : H dx = none) (q : ∀ H', Same H H' → HsAt K c C H' (.ref x) h → R .non H') :
    spHsInit K c C [.ref x, .int h.d, .str h.ch, .ref l] (upd (upd H dx (.own x)) x (.ins C dx [])) R E := by
  have s0 : Same H (upd (upd H dx (.own x)) x (.ins C dx [])) := made_same nx ndx
  exact ⟨x, dx, l, us, h, rfl, upd_same, s0 _ _ hl, rl.same s0, ok, fun H' s' a => q H' (fun b o e => s' b o (ne_of_none e nx) (s0 b o e)) a⟩
section
variable {P : Program} {w : World} {K : PySem.W.Frag} {mg : Str → Option Value} {base : Heap}
theorem scNrInit : FnScope ["self", "at"] ["self", "at"] (defScope sNrInit) := ⟨rfl, rfl, rfl, by decide +kernel, rfl, by decide +kernel, by decide +kernel⟩
theorem ok_nrInit {f C : Addr} {fd : FuncData} (F : Fun K "__init__" "NoRow.__init__" sNrInit f fd) (o : OexI K C) (no : PySem.W.findIn K (.ref C) "at" = some none) : FnOk P w K mg base CX0 1 f fd ["self", "at"] (spIX C) := by
  refine F.ok scNrInit (fun vs H Q E h => ?_) (fun cdv A outer s H vs Q E hr h => ?_)
  · obtain ⟨a, y, rfl, _⟩ := h
    rfl
  · obtain ⟨a, y, rfl, ha, q⟩ := h
    exact ⟨_, pss_one (ps_ostI (pv 0) (pv 1)), _, rfl, _, rfl, a, C, rfl, o, no, ha, fun dx h1 h2 => q dx h1 h2⟩
end
end V3

set_option Elab.async false
set_option linter.all false
set_option maxRecDepth 100000
/-! texts taken apart: words, lines, rows; the lines of a house -/
namespace V3
open PySem L2 TL
theorem sp_eq : sp1 = (⟨#[32]⟩ : Str) := by decide +kernel
theorem nl_eq : nlS = (⟨#[10]⟩ : Str) := by decide +kernel
theorem nl_tl : tl nlS = [10] := by decide +kernel
theorem words_no {x : Str} : ∀ p ∈ Txt.split x sp1, 32 ∉ tl p := by
  rw [sp_eq]
  exact StrLaws.split_free x 32
theorem lines_no {x : Str} : ∀ p ∈ Txt.split x nlS, 10 ∉ tl p := by
  rw [nl_eq]
  exact StrLaws.split_free x 10
theorem split_ne (x y : Str) : Txt.split x y ≠ [] := fun e => by
  have z := PyProof.Rows.split_pos x y
  rw [e] at z
  exact absurd z (by decide)
theorem mem_joinL {S : List Nat} {s : Nat} : ∀ {ps : List (List Nat)} {p : List Nat}, p ∈ ps → s ∈ p → s ∈ joinL S ps
  | [], _, h, _ => by cases h
  | [a], p, h, q => by
    rw [List.mem_singleton.mp h] at q
    exact q
  | a :: b :: r, p, h, q => by
    show s ∈ a ++ (S ++ joinL S (b :: r))
    rcases List.mem_cons.mp h with rfl | h
    · exact List.mem_append_left _ q
    · exact List.mem_append_right _ (List.mem_append_right _ (mem_joinL h q))
theorem free_joinL {S : List Nat} {s : Nat} (hS : s ∉ S) : ∀ {ps : List (List Nat)}, (∀ p ∈ ps, s ∉ p) → s ∉ joinL S ps
  | [], _ => fun z => nomatch z
  | [a], h => h a (List.mem_cons_self ..)
  | a :: b :: r, h => by
    show s ∉ a ++ (S ++ joinL S (b :: r))
    intro z
    rcases List.mem_append.mp z with z | z
    · exact h a (List.mem_cons_self ..) z
    · rcases List.mem_append.mp z with z | z
      · exact hS z
      · exact free_joinL hS (fun p hp => h p (List.mem_cons_of_mem _ hp)) z
theorem part_no {x y : Str} {s : Nat} (h : s ∉ tl x) : ∀ p ∈ Txt.split x y, s ∉ tl p := fun p hp q => h (by
  have e := congrArg tl (StrLaws.join_split x y)
  rw [tl_join] at e
  rw [← e]
  exact mem_joinL (List.mem_map.mpr ⟨p, hp, rfl⟩) q)
theorem join_no {y : Str} {ps : List Str} {s : Nat} (hy : s ∉ tl y) (h : ∀ p ∈ ps, s ∉ tl p) : s ∉ tl (Str.join y ps) := by
  rw [tl_join]
  refine free_joinL hy fun p hp => ?_
  obtain ⟨z, hz, rfl⟩ := List.mem_map.mp hp
  exact h z hz
theorem split_lines {L : List Str} (h : L ≠ []) (f : ∀ p ∈ L, 10 ∉ tl p) : Txt.split (Str.join nlS L) nlS = L := by
  have z := split_join nl_tl (by decide +kernel) h f
  rw [join_eq] at z
  exact z
/-! a row -/
def rowB (k s d p : Str) : Bool := decide (k ∈ kindL) && (decide (s ∈ stateL) && (decide (d ∈ deedL) && (decide (p ∈ placeL) && (!decide (d = "right") || (decide (k = "first") || decide (k = "new"))))))
theorem rowB_iff {k s d p : Str} : rowB k s d p = true ↔ (Rw.lt k s d p).ok := by
  unfold rowB Rw.ok
  simp only [Bool.and_eq_true, decide_eq_true_eq, Bool.or_eq_true, Bool.not_eq_true', decide_eq_false_iff_not]
  constructor
  · rintro ⟨a, b, c, e, f⟩
    exact ⟨a, b, c, e, fun z => f.resolve_left fun y => y z⟩
  · rintro ⟨a, b, c, e, f⟩
    refine ⟨a, b, c, e, ?_⟩
    by_cases z : d = "right"
    · exact .inr (f z)
    · exact .inl z
def rowW : List Str → Option Rw
  | [k, s, d, p] => if rowB k s d p = true then some (.lt k s d p) else none
  | _ => none
def rowOf (x : Str) : Option Rw := rowW (Txt.split x sp1)
theorem rowW_some {ws : List Str} {m : Rw} (h : rowW ws = some m) : m.ok ∧ m.kind = 0 ∧ m.words = ws := by
  match ws, h with
  | [k, s, d, p], h =>
    have h : (if rowB k s d p = true then some (Rw.lt k s d p) else none) = some m := h
    by_cases c : rowB k s d p = true
    · rw [if_pos c] at h
      cases h
      exact ⟨rowB_iff.mp c, rfl, rfl⟩
    · rw [if_neg c] at h
      cases h
  | [], h => cases h
  | [_], h => cases h
  | [_, _], h => cases h
  | [_, _, _], h => cases h
  | _ :: _ :: _ :: _ :: _ :: _, h => cases h
theorem rowOf_some {x : Str} {m : Rw} (h : rowOf x = some m) : m.ok ∧ m.kind = 0 ∧ m.text = x := by
  obtain ⟨a, b, e⟩ := rowW_some h
  refine ⟨a, b, ?_⟩
  unfold Rw.text
  rw [e]
  exact StrLaws.join_split x sp1
theorem rowOf_text {m : Rw} (ok : m.ok) (kd : m.kind = 0) : rowOf m.text = some m := by
  unfold rowOf
  rw [rw_split ok]
  cases m with
  | ct _ _ _ => cases kd
  | lt k s d p =>
    show (if rowB k s d p = true then some (Rw.lt k s d p) else none) = _
    rw [if_pos (rowB_iff.mpr ok)]
/-! lines -/
def checkLn : List Str := ["check left", "check all"]
def standB (j : Nat) (x : Str) : Bool := if j = 0 then decide (x ∈ depthL) else if j = 1 then decide (x ∈ checkLn) else (rowOf x).isSome
def badFrom : Nat → List Str → Option Nat
  | _, [] => none
  | j, x :: r => if standB j x = true then badFrom (j + 1) r else some j
def badLine (L : List Str) : Option Nat := match badFrom 0 L with
  | some i => some i
  | none => if L.length < 2 then some L.length else none
theorem bad_none : ∀ {L : List Str} {j : Nat}, badFrom j L = none → ∀ i x, L[i]? = some x → standB (j + i) x = true
  | [], _, _, i, x, e => by simp at e
  | y :: r, j, h, i, x, e => by
    have h' : (if standB j y = true then badFrom (j + 1) r else some j) = none := h
    by_cases c : standB j y = true
    · rw [if_pos c] at h'
      cases i with
      | zero =>
        have e : y = x := by simpa using e
        subst e
        exact c
      | succ i =>
        have z := bad_none h' i x (by simpa using e)
        have e2 : j + 1 + i = j + (i + 1) := by omega
        rw [e2] at z
        exact z
    · rw [if_neg c] at h'
      cases h'
theorem bad_all : ∀ {L : List Str} {j : Nat}, (∀ i x, L[i]? = some x → standB (j + i) x = true) → badFrom j L = none
  | [], _, _ => rfl
  | y :: r, j, h => by
    show (if standB j y = true then badFrom (j + 1) r else some j) = none
    have h0 : standB j y = true := h 0 y rfl
    rw [if_pos h0]
    refine bad_all fun i x e => ?_
    have z := h (i + 1) x (by simpa using e)
    have e2 : j + 1 + i = j + (i + 1) := by omega
    rw [e2]
    exact z
theorem badFrom_step {j i : Nat} : ∀ {L : List Str} {x : Str}, badFrom j L = badFrom (j + i) (L.drop i) → L[i]? = some x → standB (j + i) x = true → badFrom j L = badFrom (j + (i + 1)) (L.drop (i + 1)) := by
  intro L x h e s
  have il : i < L.length := (List.getElem?_eq_some_iff.mp e).1
  have ex := (List.getElem?_eq_some_iff.mp e).2
  rw [List.drop_eq_getElem_cons il, ex] at h
  rw [h]
  show (if standB (j + i) x = true then badFrom (j + i + 1) (L.drop (i + 1)) else some (j + i)) = _
  rw [if_pos s]
  rfl
theorem badFrom_hit {j i : Nat} {L : List Str} {x : Str} (h : badFrom j L = badFrom (j + i) (L.drop i)) (e : L[i]? = some x) (s : standB (j + i) x = false) : badFrom j L = some (j + i) := by
  have il : i < L.length := (List.getElem?_eq_some_iff.mp e).1
  have ex := (List.getElem?_eq_some_iff.mp e).2
  rw [List.drop_eq_getElem_cons il, ex] at h
  rw [h]
  show (if standB (j + i) x = true then badFrom (j + i + 1) (L.drop (i + 1)) else some (j + i)) = _
  rw [if_neg (by rw [s]; exact Bool.false_ne_true)]
/-- the rows that some lines are -/
theorem rows_of : ∀ {L : List Str}, (∀ x ∈ L, (rowOf x).isSome = true) → ∃ ms : List Rw, ms.map Rw.text = L ∧ (∀ m ∈ ms, m.ok ∧ m.kind = 0) ∧ L.map rowOf = ms.map some
  | [], _ => ⟨[], rfl, (fun m h => by cases h), rfl⟩
  | x :: r, h => by
    obtain ⟨ms, e, k, q⟩ := rows_of (L := r) fun y hy => h y (List.mem_cons_of_mem _ hy)
    have z := h x (List.mem_cons_self ..)
    cases em : rowOf x with
    | none => rw [em] at z; cases z
    | some m =>
      obtain ⟨a, b, c⟩ := rowOf_some em
      refine ⟨m :: ms, by rw [List.map_cons, c, e], fun n hn => ?_, by rw [List.map_cons, List.map_cons, em, q]⟩
      rcases List.mem_cons.mp hn with rfl | hn
      · exact ⟨a, b⟩
      · exact k n hn
theorem depth_at : ∀ j : Nat, j < 5 → depthL[j]? = some (Str.empty ++ "depth " ++ num (j : Int)) := by decide +kernel
theorem check_at : ∀ j : Nat, j < 2 → ∃ c, checkL[j]? = some c ∧ checkLn[j]? = some (Str.empty ++ "check " ++ c) := by decide +kernel
theorem first_at : ∀ j : Nat, j < 5 → ∀ i : Nat, i < j → depthL[i]? ≠ depthL[j]? := by decide +kernel
theorem firstC_at : ∀ j : Nat, j < 2 → ∀ i : Nat, i < j → checkLn[i]? ≠ checkLn[j]? := by decide +kernel
/-- lines that can stand are those of a house; where its first two stand in the tables -/
theorem house_of {L : List Str} (h : badLine L = none) (n : L.length ≤ 102) : ∃ (g : Hs) (j i : Nat) (a b : Str), g.ok ∧ g.lines = L ∧ g.d = (j : Int) ∧ L[0]? = some a ∧ L[1]? = some b ∧ depthL[j]? = some a ∧ (∀ m, m < j → depthL[m]? ≠ some a) ∧
    checkLn[i]? = some b ∧ (∀ m, m < i → checkLn[m]? ≠ some b) ∧ checkL[i]? = some g.ch ∧ (L.drop 2).map rowOf = g.rs.map some := by
  unfold badLine at h
  cases e : badFrom 0 L with
  | some i => rw [e] at h; cases h
  | none =>
    rw [e] at h
    have h : (if L.length < 2 then some L.length else none) = none := h
    have l2 : ¬ L.length < 2 := fun c => by rw [if_pos c] at h; cases h
    have all := bad_none e
    match L, l2, n, all with
    | a :: b :: r, _, n, all =>
      have sa := all 0 a rfl
      have sb := all 1 b rfl
      have sa : decide (a ∈ depthL) = true := sa
      have sb : decide (b ∈ checkLn) = true := sb
      have sr : ∀ x ∈ r, (rowOf x).isSome = true := fun x hx => by
        obtain ⟨i, hi, ei⟩ := List.mem_iff_getElem.mp hx
        have z := all (i + 2) x (by simp [hi, ei])
        unfold standB at z
        rw [if_neg (by omega), if_neg (by omega)] at z
        exact z
      obtain ⟨j, hj, ej⟩ := List.mem_iff_getElem.mp (of_decide_eq_true sa)
      obtain ⟨i, hi, ei⟩ := List.mem_iff_getElem.mp (of_decide_eq_true sb)
      have j5 : j < 5 := hj
      have i2 : i < 2 := hi
      have ej : depthL[j]? = some a := by rw [List.getElem?_eq_getElem hj, ej]
      have ei : checkLn[i]? = some b := by rw [List.getElem?_eq_getElem hi, ei]
      obtain ⟨c, ec, eb⟩ := check_at i i2
      have eb : b = Str.empty ++ "check " ++ c := by rw [ei] at eb; exact Option.some.inj eb
      have ea : a = Str.empty ++ "depth " ++ num (j : Int) := by rw [depth_at j j5] at ej; exact (Option.some.inj ej).symm
      obtain ⟨ms, em, km, qm⟩ := rows_of sr
      have lm : ms.length = r.length := by rw [← em, List.length_map]
      refine ⟨⟨(j : Int), c, ms⟩, j, i, a, b, ⟨by show (0 : Int) ≤ (j : Int); omega, by show (j : Int) ≤ 4; omega, List.mem_of_getElem? ec, km, by show ms.length ≤ 100; simp only [List.length_cons] at n; omega⟩, ?_, rfl, rfl, rfl, ej, fun m hm z => ?_, ei, fun m hm z => ?_, ec, qm⟩
      · show (Str.empty ++ Str.ofString "depth " ++ num (j : Int)) :: (Str.empty ++ Str.ofString "check " ++ c) :: ms.map Rw.text = a :: b :: r
        rw [em, ea, eb]
      · exact first_at j j5 m hm (z.trans ej.symm)
      · exact firstC_at i i2 m hm (z.trans ei.symm)
    | [], l2, _, _ => exact absurd (by decide) l2
    | [_], l2, _, _ => exact absurd (by show 1 < 2; decide) l2
theorem num5 {d : Int} (a : 0 ≤ d) (b : d ≤ 4) : ∃ j : Nat, j < 5 ∧ d = (j : Int) := ⟨d.toNat, by omega, by omega⟩
/-- the lines of a house can stand -/
theorem lines_ok {g : Hs} (ok : g.ok) : badLine g.lines = none := by
  obtain ⟨d0, d4, hc, hm, hn⟩ := ok
  have z : badFrom 0 g.lines = none := bad_all fun i x e => by
    rw [Nat.zero_add]
    match i, e with
    | 0, e =>
      have e : Str.empty ++ "depth " ++ num g.d = x := by simpa [Hs.lines] using e
      obtain ⟨j, j5, ej⟩ := num5 d0 d4
      rw [ej] at e
      show decide (x ∈ depthL) = true
      rw [← e]
      exact decide_eq_true (List.mem_of_getElem? (depth_at j j5))
    | 1, e =>
      have e : Str.empty ++ "check " ++ g.ch = x := by simpa [Hs.lines] using e
      have q : ∀ c ∈ checkL, Str.empty ++ "check " ++ c ∈ checkLn := by decide +kernel
      show decide (x ∈ checkLn) = true
      rw [← e]
      exact decide_eq_true (q _ hc)
    | i + 2, e =>
      have e : (g.rs.map Rw.text)[i]? = some x := by simpa [Hs.lines] using e
      unfold standB
      rw [if_neg (by omega), if_neg (by omega)]
      rw [List.getElem?_map] at e
      cases em : g.rs[i]? with
      | none => rw [em] at e; cases e
      | some m =>
        rw [em] at e
        have e : m.text = x := Option.some.inj e
        obtain ⟨a, b⟩ := hm m (List.mem_of_getElem? em)
        rw [← e, rowOf_text a b]
        rfl
  unfold badLine
  rw [z]
  show (if g.lines.length < 2 then some g.lines.length else none) = none
  rw [if_neg (by simp only [Hs.lines, List.length_cons]; omega)]
theorem lines_no10 {g : Hs} (ok : g.ok) : ∀ p ∈ g.lines, 10 ∉ tl p := by
  obtain ⟨d0, d4, hc, hm, hn⟩ := ok
  intro p hp
  simp only [Hs.lines, List.mem_cons, List.mem_map] at hp
  rcases hp with rfl | rfl | ⟨m, mm, rfl⟩
  · obtain ⟨j, j5, ej⟩ := num5 d0 d4
    have q : ∀ x ∈ depthL, 10 ∉ tl x := by decide +kernel
    rw [ej]
    exact q _ (List.mem_of_getElem? (depth_at j j5))
  · have q : ∀ c ∈ checkL, 10 ∉ tl (Str.empty ++ "check " ++ c) := by decide +kernel
    exact q _ hc
  · unfold Rw.text
    exact join_no (by decide +kernel) fun w hw => (word_ok (hm m mm).1 w hw).1.2
theorem text_split {g : Hs} (ok : g.ok) : Txt.split g.text nlS = g.lines := split_lines (by simp [Hs.lines]) (lines_no10 ok)
theorem lines_inj {g h : Hs} (go : g.ok) (ho : h.ok) (e : g.lines = h.lines) : g = h := by
  have q : ∀ a ∈ [(0 : Int), 1, 2, 3, 4], ∀ b ∈ [(0 : Int), 1, 2, 3, 4], Str.empty ++ "depth " ++ num a = Str.empty ++ "depth " ++ num b → a = b := by decide +kernel
  have q2 : ∀ a ∈ checkL, ∀ b ∈ checkL, Str.empty ++ "check " ++ a = Str.empty ++ "check " ++ b → a = b := by decide +kernel
  have m : ∀ d : Int, 0 ≤ d → d ≤ 4 → d ∈ [(0 : Int), 1, 2, 3, 4] := fun d a b => by
    have : d = 0 ∨ d = 1 ∨ d = 2 ∨ d = 3 ∨ d = 4 := by omega
    simpa using this
  obtain ⟨d, c, rs⟩ := g
  obtain ⟨d', c', rs'⟩ := h
  simp only [Hs.lines, List.cons.injEq] at e
  obtain ⟨e1, e2, e3⟩ := e
  have e1 := q d (m _ go.1 go.2.1) d' (m _ ho.1 ho.2.1) e1
  have e2 := q2 c go.2.2.1 c' ho.2.2.1 e2
  have e4 : ∀ {rs rs' : List Rw}, (∀ m ∈ rs, m.ok ∧ m.kind = 0) → (∀ m ∈ rs', m.ok ∧ m.kind = 0) → rs.map Rw.text = rs'.map Rw.text → rs = rs' := by
    intro rs
    induction rs with
    | nil => intro rs' _ _ e; cases rs' with
      | nil => rfl
      | cons _ _ => cases e
    | cons a r ih => intro rs' ka kb e; cases rs' with
      | nil => cases e
      | cons b r' =>
        simp only [List.map_cons, List.cons.injEq] at e
        rw [rw_inj (ka a (List.mem_cons_self ..)).1 (kb b (List.mem_cons_self ..)).1 e.1, ih (fun m hm => ka m (List.mem_cons_of_mem _ hm)) (fun m hm => kb m (List.mem_cons_of_mem _ hm)) e.2]
  have e5 : rs = rs' := e4 go.2.2.2.1 ho.2.2.2.1 e3
  rw [e1, e2, e5]
/-! weights -/
def wgt (L : List Str) : Nat := (L.map (·.length)).sum + L.length
theorem wgt_app (a b : List Str) : wgt (a ++ b) = wgt a + wgt b := by
  unfold wgt
  simp only [List.map_append, List.sum_append, List.length_append]
  omega
theorem wgt_cut (a : List Str) (n : Nat) : wgt (a.take n) + wgt (a.drop n) = wgt a := by rw [← wgt_app, List.take_append_drop]
theorem wgt_take (a : List Str) (n : Nat) : wgt (a.take n) ≤ wgt a := by have := wgt_cut a n; omega
theorem wgt_drop (a : List Str) (n : Nat) : wgt (a.drop n) ≤ wgt a := by have := wgt_cut a n; omega
theorem wgt_rev (a : List Str) : wgt a.reverse = wgt a := by
  unfold wgt
  rw [List.map_reverse, List.sum_reverse, List.length_reverse]
theorem wgt_mem {a : List Str} {x : Str} (h : x ∈ a) : x.length + 1 ≤ wgt a := by
  obtain ⟨i, hi, e⟩ := List.mem_iff_getElem.mp h
  have z := wgt_cut a i
  rw [List.drop_eq_getElem_cons hi, e] at z
  have y : wgt (x :: a.drop (i + 1)) = x.length + 1 + wgt (a.drop (i + 1)) := by
    unfold wgt
    simp only [List.map_cons, List.sum_cons, List.length_cons]
    omega
  omega
theorem wgt_split (x y : Str) (hy : 1 ≤ y.length) : wgt (Txt.split x y) ≤ x.length + 1 := PyProof.Rows.split_weight x y hy
theorem len_join1 {y : Str} (hy : y.length = 1) (L : List Str) : (Str.join y L).length ≤ wgt L := by
  cases L with
  | nil => show (Str.join y []).length ≤ 0; exact Nat.le_of_eq rfl
  | cons a l =>
    rw [PyProof.Rows.len_join_cons, hy]
    unfold wgt
    simp only [List.length_cons]
    omega
end V3

set_option Elab.async false
set_option linter.all false
set_option maxRecDepth 100000
/-! InvalidText -/
namespace V3
open PySem L2 TL
abbrev sItInit : Stmt := inClass (top 8) 0
structure ItTxt (P : Program) (w : World) (K : PySem.W.Frag) (mg : Str → Option Value) (base : Heap) (C : Addr) : Prop where
  g : mg "InvalidText" = some (.ref C)
  o : OexC K C
  no : PySem.W.findIn K (.ref C) "at" = some none
  ini : ∃ (f : Addr) (fd : FuncData), FnOk P w K mg base CX0 1 f fd ["self", "at"] (spIX C) ∧ PySem.W.findIn K (.ref C) "__init__" = some (some (.ref f)) ∧ PySem.W.typeIn K (.ref f) = some (.type "function") ∧ Binds K fd ["self", "at"] []
section
variable {P : Program} {w : World} {K : PySem.W.Frag} {mg : Str → Option Value} {base : Heap}
theorem scItInit : FnScope ["self", "at"] ["self", "at"] (defScope sItInit) := ⟨rfl, rfl, rfl, by decide +kernel, rfl, by decide +kernel, by decide +kernel⟩
theorem ok_itInit {f C : Addr} {fd : FuncData} (F : Fun K "__init__" "InvalidText.__init__" sItInit f fd) (o : OexC K C) (no : PySem.W.findIn K (.ref C) "at" = some none) : FnOk P w K mg base CX0 1 f fd ["self", "at"] (spIX C) := by
  refine F.ok scItInit (fun vs H Q E h => ?_) (fun cdv A outer s H vs Q E hr h => ?_)
  · obtain ⟨a, y, rfl, _⟩ := h
    rfl
  · obtain ⟨a, y, rfl, ha, q⟩ := h
    exact ⟨_, pss_one (ps_ost (pv 0) (pv 1)), _, rfl, _, rfl, a, C, rfl, o, no, .inl ⟨ha, fun dx h1 h2 => q dx h1 h2⟩⟩
end
end V3

set_option Elab.async false
set_option linter.all false
set_option maxRecDepth 100000
/-! x + y by an own __add__; x[i], x[a:b:c] by an own __getitem__. -/
namespace V3
open PySem PySem.Spec PyProof.Rows L2
section
variable {X : Cx} {n : Nat}
theorem vals_back {z : V} {u : Value} {Q : Value → Shared → Prop} {s' : Shared} (r : RelV z u) (q : Q u s') : PySem.W.CmpBack Q u s' := by
  cases z with
  | non => cases r; exact q
  | bl b => cases r; exact q
  | int i => obtain ⟨t, rfl⟩ := r; exact q
  | str i => obtain ⟨t, rfl⟩ := r; exact q
  | byt i => obtain ⟨t, rfl⟩ := r; exact q
  | flt i => obtain ⟨t, rfl⟩ := r; exact q
  | ref a => cases r; exact q
  | ty a => cases r; exact q
/-- a class with an own method at f for a binary operator -/
structure BinCls (K : PySem.W.Frag) (C f : Addr) (op : Operator) : Prop where
  sf : PySem.W.selfFirst K C = true
  at_ : PySem.W.findIn K (.ref C) (PySem.dunder op.info.2) = some (some (.ref f))
  fn : PySem.W.isFn K (.ref f) = true
/-- x op y, both of one class -/
def rBinS (FF : Addr → Sp → XK → Prop) : R2 := fun x y H Q => ∃ (a C dx : Addr) (fs : List (Str × V)) (b dy : Addr) (gs : List (Str × V)) (sp : Sp) (E : XK), x = .ref a ∧ y = .ref b ∧ H a = some (.ins C dx fs) ∧ H b = some (.ins C dy gs) ∧
  FF C sp E ∧ sp [x, y] H Q E
theorem op_binS {op : Operator} {FF : Addr → Sp → XK → Prop} (hF : ∀ C sp E, FF C sp E → ∃ (CX : CXT) (f : Addr) (fd : FuncData) (ps : List Str), FnOk X.prog X.w X.K X.mg X.base CX n f fd ps sp ∧ BinCls X.K C f op ∧ Binds X.K fd ps [] ∧ Passes CX X E) (hr : Room n X.A) :
    OpR X (binaryOp op) (rBinS FF) := by
  intro pins s σ H x y v u Q I rx ry hq
  obtain ⟨a, C, dx, fs, b, dy, gs, sp, E, rfl, rfl, ha, hb, ff, hsp⟩ := hq
  obtain ⟨CX, f, fd, ps, F, ec, bi, hx⟩ := hF C sp E ff
  cases rx
  cases ry
  obtain ⟨mA, J, _⟩ := ins_get I.hok ha
  obtain ⟨mB, J', _⟩ := ins_get I.hok hb
  obtain ⟨od, J, _⟩ := J.look
  obtain ⟨od', J', _⟩ := J'.look
  obtain ⟨m, hF⟩ := I.fr
  refine PySem.W.binop_K hF I.ok.mod.kin J J'.type ec.sf ec.at_ ec.fn ?_
  refine wpAny_mono (run_own (x := .ref a) (y := .ref b) ⟨hr, rfl⟩ F bi hx I rfl rfl hsp) (fun w s' q => ?_) fun _ _ e => e
  obtain ⟨z, H', I', rz, q⟩ := q
  exact vals_back rz ⟨z, H', I', rz, q⟩
/-- a class with an own __getitem__ at f -/
structure GetCls (K : PySem.W.Frag) (C f : Addr) : Prop where
  at_ : PySem.W.findIn K (.ref C) "__getitem__" = some (some (.ref f))
  fn : PySem.W.isFn K (.ref f) = true
  fi : PySem.W.fnIn K f = true
def rIxO (FF : Addr → Sp → XK → Prop) : R2 := fun x y H Q => ∃ (a C dx : Addr) (fs : List (Str × V)) (sp : Sp) (E : XK), x = .ref a ∧ H a = some (.ins C dx fs) ∧ FF C sp E ∧ sp [x, y] H Q E
/-- the call that x[i] makes -/
theorem sub_own {FF : Addr → Sp → XK → Prop} (hF : ∀ C sp E, FF C sp E → ∃ (CX : CXT) (f : Addr) (fd : FuncData) (ps : List Str), FnOk X.prog X.w X.K X.mg X.base CX n f fd ps sp ∧ GetCls X.K C f ∧ Binds X.K fd ps [] ∧ Passes CX X E) (hr : Room (n + 1) X.A)
    {value slice : Expr} {pins : List (Addr × Obj)} {s : Shared} {σ : L2.St} {H : Hp} {x y : V} {v u : Value} {Q : VK} (I : Inv X pins σ H s) (rx : RelV x v) (ry : RelV y u) (hq : rIxO FF x y H Q)
    (hsl : ∀ a : Addr, subscripted slice true (.ref a) u = runValue (.builtin "lifetime.subscript" ⟨[.ref a, u], []⟩)) : wpAny (model X.prog X.w) X.A (subscriptTail value slice v u) (EP X pins σ Q) X.xe s := by
  obtain ⟨a, C, dx, fs, sp, E, rfl, ha, ff, hsp⟩ := hq
  obtain ⟨CX, f, fd, ps, F, ec, bi, hx⟩ := hF C sp E ff
  cases rx
  obtain ⟨mA, J, _⟩ := ins_get I.hok ha
  obtain ⟨od, J, _⟩ := J.look
  obtain ⟨m, hF⟩ := I.fr
  refine PySem.W.sub_K hF I.ok.mod.kin J ec.at_ ec.fi ec.fn ?_ (hsl a)
  exact run_own (x := .ref a) (y := y) (A := X.A.in1) ⟨hr.in1, rfl⟩ F bi hx I rfl ry hsp
/-- x[i] -/
theorem pe_ixO {FF : Addr → Sp → XK → Prop} (hF : ∀ C sp E, FF C sp E → ∃ (CX : CXT) (f : Addr) (fd : FuncData) (ps : List Str), FnOk X.prog X.w X.K X.mg X.base CX n f fd ps sp ∧ GetCls X.K C f ∧ Binds X.K fd ps [] ∧ Passes CX X E) (hr : Room (n + 1) X.A)
    {a b : Expr} {ta tb : TE} {pos : Pos} (ha : PE X a ta) (hb : PE X b tb)
    (hsl : ∀ (o : Addr) (u : Value), subscripted b true (.ref o) u = runValue (.builtin "lifetime.subscript" ⟨[.ref o, u], []⟩) := by intro _ _; with_unfolding_all rfl) : PE X (.Subscript a b pos) (tOp (rIxO FF) ta tb) := by
  refine ⟨fun pins s σ H Q I h => ?_⟩
  exact Subscript_ (binT ha hb I h fun v u s2 x y H2 I2 rx ry q => sub_own hF hr I2 rx ry q fun o => hsl o u)
/-- a slice object -/
def SlH (p : Addr) (lo hi st : Option Int) : HO := .ext fun h => ∃ vl vu vk, h.IsSliceOf p vl vu vk ∧ IsPart vl lo ∧ IsPart vu hi ∧ IsPart vk st
def tSlO (FF : Addr → Sp → XK → Prop) (te : TE) (tl th ts : TO) : TE := fun σ H Q => te σ H fun x H1 => tl σ H1 fun l H2 => th σ H2 fun u H3 => ts σ H3 fun k H4 =>
  ∀ p, H4 p = none → rIxO FF x (.ref p) (upd H4 p (SlH p l u k)) Q
theorem po_no : PO X none tNoPart := ⟨fun pins s σ H Q I h => by
  rw [evalPart_none]
  exact wpAny_pure ⟨none, H, I, .none, h⟩⟩
/-- x[a:b:c] -/
theorem pe_slO {FF : Addr → Sp → XK → Prop} (hF : ∀ C sp E, FF C sp E → ∃ (CX : CXT) (f : Addr) (fd : FuncData) (ps : List Str), FnOk X.prog X.w X.K X.mg X.base CX n f fd ps sp ∧ GetCls X.K C f ∧ Binds X.K fd ps [] ∧ Passes CX X E) (hr : Room (n + 1) X.A)
    {e : Expr} {te : TE} {lo hi st : Option Expr} {tl th ts : TO} {p2 pos : Pos} (he : PE X e te) (hl : PO X lo tl) (hu : PO X hi th) (hk : PO X st ts)
    (hsl : ∀ (o : Addr) (u : Value), subscripted (.Slice lo hi st p2) true (.ref o) u = runValue (.builtin "lifetime.subscript" ⟨[.ref o, u], []⟩) := by intro _ _; with_unfolding_all rfl) :
    PE X (.Subscript e (.Slice lo hi st p2) pos) (tSlO FF te tl th ts) := by
  refine ⟨fun pins s σ H Q I h => ?_⟩
  refine Subscript_ (thn (he.run pins s σ H _ I h) fun v s1 ⟨x, H1, I1, r1, q1⟩ => ?_)
  refine wpAny_Slice (thn (hl.run pins s1 σ H1 _ I1 q1) fun vl s2 ⟨l, H2, I2, pl, q2⟩ =>
    thn (hu.run pins s2 σ H2 _ I2 q2) fun vu s3 ⟨u, H3, I3, pu, q3⟩ =>
    thn (hk.run pins s3 σ H3 _ I3 q3) fun vk s4 ⟨k, H4, I4, pk, q4⟩ => ?_)
  have J : Inv X pins σ (upd H4 s4.heap.objs.size (SlH s4.heap.objs.size l u k)) { s4 with heap := s4.heap.push { cls := .type "slice", data := .fields #[vl, vu, vk] } } :=
    I4.laid (t' := s4.toks) (o := SlH s4.heap.objs.size l u k) (fun b ob q => Heap.get?_push_of_some _ q) (Nat.le_refl _)
      ⟨⟨vl, vu, vk, Heap.IsSliceOf.new .., pl, pu, pk⟩, ⟨_, Heap.get?_push_size _ rfl⟩, fun h1 h2 ⟨a, b, c, ⟨o, ho, hc, hd⟩, p1, p2, p3⟩ kp => ⟨a, b, c, ⟨o, kp o ho, hc, hd⟩, p1, p2, p3⟩⟩
  exact sub_own (y := .ref s4.heap.objs.size) hF hr J r1 rfl (q4 _ (I4.hok.fresh (Nat.le_refl _))) fun o => hsl o _
end
end V3

set_option Elab.async false
set_option linter.all false
set_option maxRecDepth 100000
/-! slices of tuples, with any step. -/
namespace HT
open PySem PySem.Spec PyProof.Rows
section
variable {prog : Program} {w : World} {A : Around} {E : Value → Shared → Prop} {s : Shared}
theorem sliceApplied_any {sl : Addr} {vl vu vk : Value} {lo hi st : Option Int} {n : Nat} {Q : Int × Int × Nat → Shared → Prop} (hs : s.heap.IsSliceOf sl vl vu vk) (pl : IsPart vl lo) (pu : IsPart vu hi) (pk : IsPart vk st) (h0 : st ≠ some 0)
    (h : Q ((Builtin.Slice.sliceAdjust lo hi (st.getD 1) (n : Int)).1, st.getD 1, Builtin.Slice.slicePlaces (Builtin.Slice.sliceAdjust lo hi (st.getD 1) (n : Int)).1 (Builtin.Slice.sliceAdjust lo hi (st.getD 1) (n : Int)).2 (st.getD 1)) s) : wpAny (model prog w) A (Builtin.Slice.sliceApplied (.ref sl) (pure (n : Int))) Q E s := by
  obtain ⟨os, hos, hcs, hds⟩ := id hs
  unfold Builtin.Slice.sliceApplied Builtin.Slice.sliceFields
  refine wpAny_bind (wpAny_bind (wpAny_field hos hds (x := vl) rfl (wpAny_bind (wpAny_field hos hds (x := vu) rfl (wpAny_bind (wpAny_field hos hds (x := vk) rfl (wpAny_pure ?_)))))))
  refine wpAny_bind (slicePart_ pk ?_)
  have hc : ¬ ((st.getD 1 == 0) = true) := by
    cases st with
    | none => decide
    | some c =>
      intro q
      exact h0 (by rw [show c = 0 from eq_of_beq q])
  show wpAny _ _ (if (st.getD 1 == 0) = true then _ else _) _ _ s
  rw [if_neg hc]
  refine wpAny_bind (slicePart_ pl (wpAny_bind (slicePart_ pu (wpAny_bind (wpAny_pure ?_)))))
  exact wpAny_pure h
/-- the places of a slice -/
def idxT (lo hi st : Option Int) (n : Nat) : List Nat :=
  (List.range (Builtin.Slice.slicePlaces (Builtin.Slice.sliceAdjust lo hi (st.getD 1) (n : Int)).1 (Builtin.Slice.sliceAdjust lo hi (st.getD 1) (n : Int)).2 (st.getD 1))).map fun (k : Nat) => ((Builtin.Slice.sliceAdjust lo hi (st.getD 1) (n : Int)).1 + (k : Int) * st.getD 1).toNat
theorem getItem_tuple_any {t sl : Addr} {items : Array Value} {vl vu vk : Value} {lo hi st : Option Int} {Q : Value → Shared → Prop} (ht : IsTup s.heap t items) (hs : s.heap.IsSliceOf sl vl vu vk) (pl : IsPart vl lo) (pu : IsPart vu hi) (pk : IsPart vk st) (h0 : st ≠ some 0)
    (hsz : ((idxT lo hi st items.size).filterMap fun i => items[i]?).length ≤ sizeLine)
    (hw : (idxT lo hi st items.size) = List.range items.size → Q (.ref t) s)
    (h : Q (.ref s.heap.objs.size) { s with heap := s.heap.push { cls := .type "tuple", data := .seq ((idxT lo hi st items.size).filterMap fun i => items[i]?).toArray } })
    : wpAny (model prog w) A (getItem (.ref t) (.ref sl)) Q E s := by
  obtain ⟨os, hos, hcs, hds⟩ := id hs
  have hTs : s.TypeIs (.ref sl) "slice" := ⟨os, hos, hcs⟩
  unfold getItem
  try with_reducible refine wpAny_holding ?_
  first | refine wpAny_bind (wpAny_pure ?_) | skip
  refine wpAny_bind (wpAny_sequenceKey ht.typeIs (by decide) ?_)
  refine wpAny_bind (wpAny_callSpecial?_slot (name := Str.ofString "__getitem__") ht.typeIs PyProof.Rows.slot_tuple_getitem
    (wpAny_call_entry PyProof.Rows.slot_tuple_getitem ht.typeIs entry_tuple_getitem ?_ (args_tuple_getitem _ _)))
  show wpAny _ _ (Builtin.Tuple.tupleItemsOf (.ref t) >>= _) _ _ s
  refine wpAny_bind (tupleItemsOf_ ht ?_)
  refine wpAny_bind (wpAny_typeOf hTs ?_)
  rw [if_pos (by decide)]
  refine wpAny_bind (sliceApplied_any hs pl pu pk h0 ?_)
  unfold idxT at hsz hw h
  rw [List.filterMap_map] at hsz h
  generalize (Builtin.Slice.sliceAdjust lo hi (st.getD 1) ((items.size : Nat) : Int)).1 = a at hsz hw h ⊢
  generalize (Builtin.Slice.sliceAdjust lo hi (st.getD 1) ((items.size : Nat) : Int)).2 = b at hsz hw h ⊢
  generalize st.getD 1 = c at hsz hw h ⊢
  generalize Builtin.Slice.slicePlaces a b c = n at hsz hw h ⊢
  show wpAny _ _ (if (a == 0 && c == 1 && n == items.size) = true then _ else _) _ _ s
  by_cases q : (a == 0 && c == 1 && n == items.size) = true
  · rw [if_pos q]
    rw [Bool.and_eq_true, Bool.and_eq_true] at q
    have q1 : a = 0 := eq_of_beq q.1.1
    have q2 : c = 1 := eq_of_beq q.1.2
    have q3 : n = items.size := eq_of_beq q.2
    subst q1 q2 q3
    have hQ := hw (by
      have e : (fun (k : Nat) => ((0 : Int) + (k : Int) * 1).toNat) = id := by
        funext k
        show ((0 : Int) + (k : Int) * 1).toNat = k
        omega
      rw [e, List.map_id])
    refine wpAny_bind ?_
    show wpAny _ _ (typeOf (.ref t) >>= fun T => pure (T == .type "tuple")) _ _ s
    refine wpAny_bind (wpAny_typeOf ht.typeIs (wpAny_pure ?_))
    first
      | rw [if_pos (by decide)]
      | simp only [beq_self_eq_true, if_true]
    first
      | exact wpAny_bind (wpAny_rule (wpAny_pure ⟨_, rfl, wpAny_pure hQ⟩))
      | exact wpAny_bind (wpAny_rule (wpAny_bind (wpAny_pure (wpAny_pure ⟨_, rfl, wpAny_pure hQ⟩))))
  · rw [if_neg q]
    have htake : sizeOk (.seq (((List.range n).filterMap ((fun i => items[i]?) ∘ fun (k : Nat) => (a + (k : Int) * c).toNat))).toArray) := by
      show ((List.range n).filterMap ((fun i => items[i]?) ∘ fun (k : Nat) => (a + (k : Int) * c).toNat)).toArray.size ≤ sizeLine
      rw [List.size_toArray]
      exact hsz
    first
      | exact wpAny_bind (m := Builtin.Tuple.tupleExact _) (wpAny_newObj_type (wpAny_pure ⟨_, rfl, wpAny_pure h⟩) htake)
      | exact wpAny_bind (m := Builtin.Tuple.tupleExact _) (wpAny_newObj_type (wpAny_bind (wpAny_pure (wpAny_pure ⟨_, rfl, wpAny_pure h⟩))) htake)
      | exact wpAny_bind (wpAny_bind (m := Builtin.Tuple.tupleExact _) (wpAny_newObj_type (wpAny_pure (wpAny_pure ⟨_, rfl, wpAny_pure h⟩)) htake))
      | exact wpAny_bind (wpAny_bind (m := Builtin.Tuple.tupleExact _) (wpAny_newObj_type (wpAny_pure ⟨_, rfl, wpAny_pure h⟩) htake))
end
end HT

set_option Elab.async false
set_option linter.all false
set_option maxRecDepth 100000
/-! slices of tuples, at the level of values -/
namespace V3
open PySem PySem.Spec PyProof.Rows L2
/-- what a slice picks -/
def stepL {α : Type} (xs : List α) (lo hi st : Option Int) : List α := (HT.idxT lo hi st xs.length).filterMap fun i => xs[i]?
theorem pick_self {α : Type} (xs : List α) : (List.range xs.length).filterMap (fun i => xs[i]?) = xs := by
  have z := pick_run xs.toArray 0 xs.length
  rw [List.filterMap_map] at z
  have e : ((fun x => xs.toArray[x]?) ∘ fun x => 0 + x) = fun i => xs[i]? := by
    funext i
    simp
  rw [e] at z
  simpa using z
theorem fm_congr {α β : Type} {f g : α → Option β} : ∀ {xs : List α}, (∀ x ∈ xs, f x = g x) → xs.filterMap f = xs.filterMap g
  | [], _ => rfl
  | x :: r, h => by
    have e := h x (List.mem_cons_self ..)
    have ih := fm_congr (xs := r) fun y hy => h y (List.mem_cons_of_mem _ hy)
    rw [List.filterMap_cons, List.filterMap_cons, e, ih]
theorem step_len {α : Type} (xs : List α) {lo hi st : Option Int} : (stepL xs lo hi st).length ≤ (HT.idxT lo hi st xs.length).length := List.length_filterMap_le ..
theorem step_one {α : Type} (xs : List α) (lo hi : Option Int) : stepL xs lo hi none = (xs.drop (HT.sIx xs.length 0 lo)).take (HT.sIx xs.length xs.length hi - HT.sIx xs.length 0 lo) := by
  unfold stepL HT.idxT
  show List.filterMap (fun i => xs[i]?) (List.map (fun (k : Nat) => ((Builtin.Slice.sliceAdjust lo hi 1 (xs.length : Int)).1 + (k : Int) * 1).toNat) (List.range (Builtin.Slice.slicePlaces (Builtin.Slice.sliceAdjust lo hi 1 (xs.length : Int)).1 (Builtin.Slice.sliceAdjust lo hi 1 (xs.length : Int)).2 1))) = _
  rw [HT.adjust_gen lo hi xs.length]
  show List.filterMap (fun i => xs[i]?) (List.map (fun (k : Nat) => (((HT.sIx xs.length 0 lo : Nat) : Int) + (k : Int) * 1).toNat) (List.range (Builtin.Slice.slicePlaces ((HT.sIx xs.length 0 lo : Nat) : Int) ((HT.sIx xs.length xs.length hi : Nat) : Int) 1))) = _
  rw [HT.places_gen]
  generalize HT.sIx xs.length 0 lo = i
  generalize HT.sIx xs.length xs.length hi - i = k
  have z := pick_run xs.toArray i k
  have e : (fun (k : Nat) => ((i : Int) + (k : Int) * 1).toNat) = fun x => i + x := by
    funext m
    omega
  rw [e]
  simpa using z
theorem step_to {α : Type} (xs : List α) {k : Nat} (h : k ≤ xs.length) : stepL xs none (some (k : Int)) none = xs.take k := by
  rw [step_one, HT.sIx_nat, HT.sIx_none, Nat.min_eq_left h]
  simp
theorem step_from {α : Type} (xs : List α) {k : Nat} (h : k ≤ xs.length) : stepL xs (some (k : Int)) none none = xs.drop k := by
  rw [step_one, HT.sIx_nat, HT.sIx_none, Nat.min_eq_left h]
  exact List.take_of_length_le (by rw [List.length_drop]; exact Nat.le_refl _)
theorem step_back {α : Type} (xs : List α) : stepL xs none none (some (-1)) = xs.reverse := by
  unfold stepL HT.idxT
  have a1 : Builtin.Slice.sliceAdjust none none ((some (-1 : Int)).getD 1) (xs.length : Int) = ((xs.length : Int) - 1, -1) := by
    simp [Builtin.Slice.sliceAdjust]
  have a2 : Builtin.Slice.slicePlaces ((xs.length : Int) - 1) (-1) ((some (-1 : Int)).getD 1) = xs.length := by
    unfold Builtin.Slice.slicePlaces
    simp
    omega
  rw [a1]
  show List.filterMap (fun i => xs[i]?) (List.map (fun (k : Nat) => ((xs.length : Int) - 1 + (k : Int) * (some (-1 : Int)).getD 1).toNat) (List.range (Builtin.Slice.slicePlaces ((xs.length : Int) - 1) (-1) ((some (-1 : Int)).getD 1)))) = _
  rw [a2, List.filterMap_map]
  have z := pick_self xs.reverse
  rw [List.length_reverse] at z
  refine Eq.trans (fm_congr fun k hk => ?_) z
  have lt : k < xs.length := List.mem_range.mp hk
  rw [List.getElem?_reverse lt]
  have e : ((xs.length : Int) - 1 + (k : Int) * (some (-1 : Int)).getD 1).toNat = xs.length - 1 - k := by
    show ((xs.length : Int) - 1 + (k : Int) * (-1)).toNat = _
    omega
  show xs[((xs.length : Int) - 1 + (k : Int) * (some (-1 : Int)).getD 1).toNat]? = _
  rw [e]
theorem vals_idx {xs : List V} {us : List Value} (r : Vals xs us) : ∀ idx : List Nat, Vals (idx.filterMap fun i => xs[i]?) (idx.filterMap fun i => us.toArray[i]?) := vals_pick r
section
variable {X : Cx}
/-- what t[slice] wants -/
def wSl (K : PySem.W.Frag) (p : Addr) (xs : List V) (lo hi st : Option Int) (H : Hp) (Q : VK) : Prop := SqT K H p xs ∧ st ≠ some 0 ∧ (stepL xs lo hi st).length ≤ sizeLine ∧
  (HT.idxT lo hi st xs.length = List.range xs.length → Q (.ref p) H) ∧ ∀ r, H r = none → Q (.ref r) (upd H r (.tup (stepL xs lo hi st)))
theorem run_sl {pins : List (Addr × Obj)} {s : Shared} {σ : L2.St} {H : Hp} {p sl : Addr} {xs : List V} {vl vu vk : Value} {lo hi st : Option Int} {Q : VK} (I : Inv X pins σ H s) (hs : s.heap.IsSliceOf sl vl vu vk) (pl : IsPart vl lo) (pu : IsPart vu hi) (pk : IsPart vk st)
    (h : wSl X.K p xs lo hi st H Q) : ∃ items : Array Value, IsTup s.heap p items ∧ wpAny (model X.prog X.w) X.A (getItem (.ref p) (.ref sl)) (EP X pins σ Q) X.xe s := by
  obtain ⟨hx, h0, hz, hw, hq⟩ := h
  obtain ⟨its, r, ht, hsz⟩ := I.tuple hx
  have ln : xs.length = its.toArray.size := by rw [List.size_toArray]; exact r.length
  refine ⟨its.toArray, ht, HT.getItem_tuple_any ht hs pl pu pk h0 ?_ (fun e => ?_) ?_⟩
  · unfold stepL at hz
    rw [ln] at hz
    rw [← (vals_idx r _).length]
    exact hz
  · exact ⟨.ref p, H, I, rfl, hw (by rw [ln]; exact e)⟩
  · have v := vals_idx r (HT.idxT lo hi st its.toArray.size)
    rw [← ln] at v ⊢
    refine ⟨.ref s.heap.objs.size, _, I.laid (t' := s.toks) (o := .tup (stepL xs lo hi st)) (fun b ob q => Heap.get?_push_of_some _ q) (Nat.le_refl _) ?_, rfl, hq _ (I.hok.fresh (Nat.le_refl _))⟩
    exact ⟨hz, _, v, ⟨_, Heap.get?_push_size _ rfl, rfl, _, rfl⟩⟩
/-- t[a:b:c] -/
def tStepT (K : PySem.W.Frag) (te : TE) (tl th ts : TO) : TE := fun σ H Q => te σ H fun x H1 => tl σ H1 fun l H2 => th σ H2 fun u H3 => ts σ H3 fun k H4 => ∃ p xs, x = .ref p ∧ wSl K p xs l u k H4 Q
theorem pe_stepT {e : Expr} {te : TE} {lo hi st : Option Expr} {tl th ts : TO} {p2 pos : Pos} (he : PE X e te) (hl : PO X lo tl) (hu : PO X hi th) (hk : PO X st ts)
    (hop : ∀ (o : Value) (n : Addr), subscripted (.Slice lo hi st p2) false o (.ref n) = operate [o, .ref n] (getItem o (.ref n)) := by intro _ _; with_unfolding_all rfl) :
    PE X (.Subscript e (.Slice lo hi st p2) pos) (tStepT X.K te tl th ts) := by
  refine ⟨fun pins s σ H Q I h => ?_⟩
  refine Subscript_ (thn (he.run pins s σ H _ I h) fun v s1 ⟨x, H1, I1, r1, q1⟩ => ?_)
  refine wpAny_Slice (thn (hl.run pins s1 σ H1 _ I1 q1) fun vl s2 ⟨l, H2, I2, pl, q2⟩ =>
    thn (hu.run pins s2 σ H2 _ I2 q2) fun vu s3 ⟨u, H3, I3, pu, q3⟩ =>
    thn (hk.run pins s3 σ H3 _ I3 q3) fun vk s4 ⟨k, H4, I4, pk, q4⟩ => ?_)
  obtain ⟨p, xs, rfl, w⟩ := q4
  have J : Inv X pins σ H4 { s4 with heap := s4.heap.push { cls := .type "slice", data := .fields #[vl, vu, vk] } } := I4.kept (t' := s4.toks) fun b ob q => Heap.get?_push_of_some _ q
  cases r1
  obtain ⟨items, ht, got⟩ := run_sl J (Heap.IsSliceOf.new ..) pl pu pk w
  exact tail_any (ops := [.ref p, .ref s4.heap.objs.size]) ht.typeIs slot_tuple_getitem.lookup got (hop _ _)
/-- t[s], s a slice -/
def rIxSl (K : PySem.W.Frag) : R2 := fun x y H Q => ∃ p q xs lo hi st, x = .ref p ∧ y = .ref q ∧ H q = some (SlH q lo hi st) ∧ wSl K p xs lo hi st H Q
theorem ix_slice : IxR X (rIxSl X.K) := by
  intro value slice pins s σ H x y v u Q I rx ry h hs
  obtain ⟨p, q, xs, lo, hi, st, rfl, rfl, hq, w⟩ := h
  cases rx
  cases ry
  obtain ⟨⟨vl, vu, vk, so, pl, pu, pk⟩, _, _⟩ := I.hok _ _ hq
  obtain ⟨items, ht, got⟩ := run_sl I so pl pu pk w
  exact tail_any (ops := [.ref p, .ref q]) ht.typeIs slot_tuple_getitem.lookup got hs
end
end V3

set_option Elab.async false
set_option linter.all false
set_option maxRecDepth 100000
/-! readings that leave all as it was: what they answer -/
namespace V3
open PySem L2
def EvV (W : Hp → Prop) (σ : L2.St) (te : TE) (R : V → Hp → Prop) : Prop := ∀ H Q, W H → (∀ v H', Same H H' → W H' → R v H' → Q v H') → te σ H Q
def EvB (W : Hp → Prop) (σ : L2.St) (tt : TT) (b : Bool) : Prop := ∀ H Q, W H → (∀ H', Same H H' → W H' → Q b H') → tt σ H Q
def EvO (W : Hp → Prop) (σ : L2.St) (tO : TO) (o : Option Int) : Prop := ∀ H Q, W H → (∀ H', Same H H' → W H' → Q o H') → tO σ H Q
def StV (R : V → Hp → Prop) : Prop := ∀ v H H', Same H H' → R v H → R v H'
def isIv (i : Int) : V → Hp → Prop := fun v _ => v = .int i
def isSv (s : Str) : V → Hp → Prop := fun v _ => v = .str s
def isBv (b : Bool) : V → Hp → Prop := fun v _ => v = .bl b
def isVv (u : V) : V → Hp → Prop := fun v _ => v = u
theorem st_i {i : Int} : StV (isIv i) := fun _ _ _ _ h => h
theorem st_s {i : Str} : StV (isSv i) := fun _ _ _ _ h => h
theorem st_b {i : Bool} : StV (isBv i) := fun _ _ _ _ h => h
theorem st_v {u : V} : StV (isVv u) := fun _ _ _ _ h => h
section
variable {W : Hp → Prop} {σ : L2.St} {ta tb te : TE} {R Ra Rb : V → Hp → Prop}
theorem ev_var {i : Nat} {v : V} (e : σ[i]? = some (some v)) (h : ∀ H, W H → R v H) : EvV W σ (tVar i) R := fun H Q w k => ⟨v, e, k v H (Same.refl H) w (h H w)⟩
theorem ev_c {v : V} : EvV W σ (tC v) (isVv v) := fun H Q w k => k v H (Same.refl H) w rfl
theorem ev_int {i : Int} : EvV W σ (tC (.int i)) (isIv i) := fun H Q w k => k _ H (Same.refl H) w rfl
theorem ev_str {s : Str} : EvV W σ (tC (.str s)) (isSv s) := fun H Q w k => k _ H (Same.refl H) w rfl
/-- a two-place operation -/
theorem ev_op {r : R2} (sa : StV Ra) (ha : EvV W σ ta Ra) (hb : EvV W σ tb Rb) (h : ∀ x y H Q, W H → Ra x H → Rb y H → (∀ v H', Same H H' → W H' → R v H' → Q v H') → r x y H Q) : EvV W σ (tOp r ta tb) R := fun H Q w k =>
  ha H _ w fun x H1 s1 w1 rx => hb H1 _ w1 fun y H2 s2 w2 ry => h x y H2 Q w2 (sa _ _ _ s2 rx) ry fun v H' s w' rv => k v H' ((s1.trans s2).trans s) w' rv
/-- a call with one argument -/
theorem ev_cb1 {r : List V → Hp → VK → Prop} (ha : EvV W σ ta Ra) (h : ∀ x H Q, W H → Ra x H → (∀ v H', Same H H' → W H' → R v H' → Q v H') → r [x] H Q) : EvV W σ (tCB r (tCons ta tNil)) R := fun H Q w k =>
  ha H _ w fun x H1 s1 w1 rx => h x H1 Q w1 rx fun v H' s w' rv => k v H' (s1.trans s) w' rv
theorem ev_test {b : Bool} (h : EvV W σ te (isBv b)) : EvB W σ (tTest te) b := fun H Q w k => h H _ w fun v H' s w' e => ⟨b, e, k H' s w'⟩
theorem ev_or {t u : TT} {b : Bool} (h : EvB W σ t false) (h2 : EvB W σ u b) : EvB W σ (tOr t u) b := fun H Q w k =>
  h H _ w fun H1 s1 w1 => iteF (h2 H1 _ w1 fun H2 s2 w2 => k H2 (s1.trans s2) w2)
theorem evo_none : EvO W σ tNoPart none := fun H Q w k => k H (Same.refl H) w
theorem evo_some {i : Int} (h : EvV W σ te (isIv i)) : EvO W σ (tPart te) (some i) := fun H Q w k => h H _ w fun v H' s w' e => ⟨i, e, k H' s w'⟩
theorem ev_add {i j : Int} (ha : EvV W σ ta (isIv i)) (hb : EvV W σ tb (isIv j)) : EvV W σ (tOp (rI0 fun i j => .int (i + j)) ta tb) (isIv (i + j)) :=
  ev_op st_i ha hb fun x y H Q w ex ey k => ⟨i, j, ex, ey, k _ H (Same.refl H) w rfl⟩
/-- != and == of flat values -/
theorem ev_neI {i j : Int} (ha : EvV W σ ta (isIv i)) (hb : EvV W σ tb (isIv j)) : EvV W σ (tOp rNe ta tb) (isBv (!decide (i = j))) :=
  ev_op st_i ha hb fun x y H Q w ex ey k => by
    cases ex
    cases ey
    refine ⟨rfl, k _ H (Same.refl H) w ?_⟩
    have e : (V.int i = V.int j) ↔ (i = j) := ⟨fun z => by injection z, fun z => by rw [z]⟩
    show V.bl (!decide (V.int i = V.int j)) = V.bl (!decide (i = j))
    by_cases h : i = j
    · rw [decide_eq_true h, decide_eq_true (e.mpr h)]
    · rw [decide_eq_false h, decide_eq_false (fun z => h (e.mp z))]
theorem dec_str {i j : Str} : decide (V.str i = V.str j) = decide (i = j) := by
  have e : (V.str i = V.str j) ↔ (i = j) := ⟨fun z => by injection z, fun z => by rw [z]⟩
  by_cases h : i = j
  · rw [decide_eq_true h, decide_eq_true (e.mpr h)]
  · rw [decide_eq_false h, decide_eq_false (fun z => h (e.mp z))]
theorem dec_bl {i j : Bool} : decide (V.bl i = V.bl j) = decide (i = j) := by
  have e : (V.bl i = V.bl j) ↔ (i = j) := ⟨fun z => by injection z, fun z => by rw [z]⟩
  by_cases h : i = j
  · rw [decide_eq_true h, decide_eq_true (e.mpr h)]
  · rw [decide_eq_false h, decide_eq_false (fun z => h (e.mp z))]
theorem ev_neS {i j : Str} (ha : EvV W σ ta (isSv i)) (hb : EvV W σ tb (isSv j)) : EvV W σ (tOp rNe ta tb) (isBv (!decide (i = j))) :=
  ev_op st_s ha hb fun x y H Q w ex ey k => by
    cases ex
    cases ey
    exact ⟨rfl, k _ H (Same.refl H) w (congrArg (fun b => V.bl (!b)) dec_str)⟩
theorem ev_eqS {i j : Str} (ha : EvV W σ ta (isSv i)) (hb : EvV W σ tb (isSv j)) : EvV W σ (tOp rEq ta tb) (isBv (decide (i = j))) :=
  ev_op st_s ha hb fun x y H Q w ex ey k => by
    cases ex
    cases ey
    exact ⟨rfl, k _ H (Same.refl H) w (congrArg V.bl dec_str)⟩
theorem ev_neB {i j : Bool} (ha : EvV W σ ta (isBv i)) (hb : EvV W σ tb (isBv j)) : EvV W σ (tOp rNe ta tb) (isBv (!decide (i = j))) :=
  ev_op st_b ha hb fun x y H Q w ex ey k => by
    cases ex
    cases ey
    exact ⟨rfl, k _ H (Same.refl H) w (congrArg (fun b => V.bl (!b)) dec_bl)⟩
theorem ev_eqB {i j : Bool} (ha : EvV W σ ta (isBv i)) (hb : EvV W σ tb (isBv j)) : EvV W σ (tOp rEq ta tb) (isBv (decide (i = j))) :=
  ev_op st_b ha hb fun x y H Q w ex ey k => by
    cases ex
    cases ey
    exact ⟨rfl, k _ H (Same.refl H) w (congrArg V.bl dec_bl)⟩
theorem ev_to {R' : V → Hp → Prop} (h : EvV W σ te R) (e : ∀ v H, R v H → R' v H) : EvV W σ te R' := fun H Q w k => h H Q w fun v H' s w' r => k v H' s w' (e v H' r)
theorem ev_bool {b b' : Bool} (h : EvB W σ t b) (e : b = b') : EvB W σ t b' := e ▸ h
/-- an if whose test fails -/
theorem if_no {c : TT} {t u : TS} {D : Ends} {H : Hp} (h : EvB W σ c false) (w : W H) (k : ∀ H', Same H H' → W H' → u D σ H') : tIfS c t u D σ H := h H _ w fun H' s w' => iteF (k H' s w')
end
end V3

set_option Elab.async false
set_option linter.all false
set_option maxRecDepth 100000
/-! readings that leave all as it was, from a heap on: what they answer, by classes of stable things -/
namespace V3
open PySem L2 TL
class St (R : V → Hp → Prop) : Prop where
  st : ∀ v H H', Same H H' → R v H → R v H'
/-- all but the lists may go on -/
class StL (R : V → Hp → Prop) : Prop where
  st : ∀ v H H', Keep H H' → R v H → R v H'
instance {R : V → Hp → Prop} [i : StL R] : St R := ⟨fun v H H' s h => i.st v H H' (Keep.of s) h⟩
theorem upL {R : V → Hp → Prop} [i : StL R] {v : V} {H H' : Hp} (s : Keep H H') (h : R v H) : R v H' := i.st _ _ _ s h
class StA (R : List V → Hp → Prop) : Prop where
  st : ∀ v H H', Same H H' → R v H → R v H'
theorem up {R : V → Hp → Prop} [i : St R] {v : V} {H H' : Hp} (s : Same H H') (h : R v H) : R v H' := i.st _ _ _ s h
theorem stv {R : V → Hp → Prop} [i : St R] : StV R := i.st
instance {i : Int} : StL (isIv i) := ⟨fun _ _ _ _ h => h⟩
instance {i : Str} : StL (isSv i) := ⟨fun _ _ _ _ h => h⟩
instance {i : Bool} : StL (isBv i) := ⟨fun _ _ _ _ h => h⟩
instance {u : V} : StL (isVv u) := ⟨fun _ _ _ _ h => h⟩
/-- a tracked list, a tracked tuple of such things -/
def isL {α : Type} (S : α → V → Hp → Prop) (as : List α) : V → Hp → Prop := fun v H => ∃ D us, v = .ref D ∧ H D = some (.lst us) ∧ Ls (fun u a => S a u H) us as
def isU {α : Type} (S : α → V → Hp → Prop) (as : List α) : V → Hp → Prop := fun v H => ∃ D us, v = .ref D ∧ H D = some (.tup us) ∧ Ls (fun u a => S a u H) us as
instance {α : Type} {S : α → V → Hp → Prop} {as : List α} [∀ a, St (S a)] : St (isL S as) := ⟨fun _ _ _ s ⟨D, us, e, h, l⟩ => ⟨D, us, e, s _ _ h, l.imp fun _ _ r => up s r⟩⟩
instance {α : Type} {S : α → V → Hp → Prop} {as : List α} [∀ a, St (S a)] : St (isU S as) := ⟨fun _ _ _ s ⟨D, us, e, h, l⟩ => ⟨D, us, e, s _ _ h, l.imp fun _ _ r => up s r⟩⟩
instance {α : Type} {S : α → V → Hp → Prop} {as : List α} [∀ a, StL (S a)] : StL (isU S as) := ⟨fun _ _ _ s ⟨D, us, e, h, l⟩ => ⟨D, us, e, s _ _ (fun _ z => by cases z) h, l.imp fun _ _ r => upL s r⟩⟩
theorem Ls.upL {α : Type} {S : α → V → Hp → Prop} [∀ a, StL (S a)] {us : List V} {as : List α} {H H' : Hp} (l : Ls (fun u a => S a u H) us as) (s : Keep H H') : Ls (fun u a => S a u H') us as := l.imp fun _ _ r => V3.upL s r
theorem Ls.up {α : Type} {S : α → V → Hp → Prop} [∀ a, St (S a)] {us : List V} {as : List α} {H H' : Hp} (l : Ls (fun u a => S a u H) us as) (s : Same H H') : Ls (fun u a => S a u H') us as := l.imp fun _ _ r => V3.up s r
abbrev isIs : List Int → V → Hp → Prop := isL isIv
abbrev isSs : List Str → V → Hp → Prop := isL isSv
abbrev isBs : List Bool → V → Hp → Prop := isL isBv
/-- arguments -/
def A0 : List V → Hp → Prop := fun vs _ => vs = []
def AC (R : V → Hp → Prop) (Rs : List V → Hp → Prop) : List V → Hp → Prop := fun vs H => ∃ v r, vs = v :: r ∧ R v H ∧ Rs r H
instance : StA A0 := ⟨fun _ _ _ _ h => h⟩
instance {R : V → Hp → Prop} {Rs : List V → Hp → Prop} [St R] [i : StA Rs] : StA (AC R Rs) := ⟨fun _ _ _ s ⟨v, r, e, h, t⟩ => ⟨v, r, e, up s h, i.st _ _ _ s t⟩⟩
def EvA (W : Hp → Prop) (σ : L2.St) (ta : TA) (Rs : List V → Hp → Prop) : Prop := ∀ H Q, W H → (∀ vs H', Same H H' → W H' → Rs vs H' → Q vs H') → ta σ H Q
section
variable {σ : L2.St} {ta tb te : TE} {ts : TA} {t u : TT} {H0 : Hp} {R Ra Rb : V → Hp → Prop} {Rs : List V → Hp → Prop}
theorem ev_v [St R] {i : Nat} {v : V} (e : σ[i]? = some (some v)) (h : R v H0) : EvV (Same H0) σ (tVar i) R := ev_var e fun _ s => up s h
theorem eva_nil : EvA (Same H0) σ tNil A0 := fun H Q w k => k [] H (Same.refl H) w rfl
theorem eva_cons [St Ra] (ha : EvV (Same H0) σ ta Ra) (hs : EvA (Same H0) σ ts Rs) : EvA (Same H0) σ (tCons ta ts) (AC Ra Rs) := fun H Q w k =>
  ha H _ w fun x H1 s1 w1 r => hs H1 _ w1 fun xs H2 s2 w2 rs => k (x :: xs) H2 (s1.trans s2) w2 ⟨x, xs, rfl, up s2 r, rs⟩
theorem ev_call {sp : Sp} {dvs : List V} {E : XK} (ha : EvA (Same H0) σ ts Rs) (h : ∀ vs H Q, Same H0 H → Rs vs H → (∀ v H', Same H H' → R v H' → Q v H') → sp (vs ++ dvs) H Q E) : EvV (Same H0) σ (tCall sp dvs E ts) R := fun H Q w k =>
  ha H _ w fun vs H1 s1 w1 r => h vs H1 Q w1 r fun v H' s r' => k v H' (s1.trans s) (w1.trans s) r'
theorem ev_cb {r : List V → Hp → VK → Prop} (ha : EvA (Same H0) σ ts Rs) (h : ∀ vs H Q, Same H0 H → Rs vs H → (∀ v H', Same H H' → R v H' → Q v H') → r vs H Q) : EvV (Same H0) σ (tCB r ts) R := fun H Q w k =>
  ha H _ w fun vs H1 s1 w1 r => h vs H1 Q w1 r fun v H' s r' => k v H' (s1.trans s) (w1.trans s) r'
theorem ev_o {r : R2} [St Ra] (ha : EvV (Same H0) σ ta Ra) (hb : EvV (Same H0) σ tb Rb) (h : ∀ x y H Q, Same H0 H → Ra x H → Rb y H → (∀ v H', Same H H' → R v H' → Q v H') → r x y H Q) : EvV (Same H0) σ (tOp r ta tb) R :=
  ev_op stv ha hb fun x y H Q w a b k => h x y H Q w a b fun v H' s r => k v H' s (w.trans s) r
theorem ev_make {C : Addr} {sp : Sp} {dvs : List V} {E : XK} (ha : EvA (Same H0) σ ts Rs) (h : ∀ vs H x dx (Q : VK), Same H0 H → Rs vs H → H x = none → H dx = none → dx ≠ x → (∀ H', Same H H' → R (.ref x) H' → Q .non H') →
    sp (.ref x :: (vs ++ dvs)) (upd (upd H dx (.own x)) x (.ins C dx [])) Q E) : EvV (Same H0) σ (tMake C sp dvs E ts) R := fun H Q w k =>
  ha H _ w fun vs H1 s1 w1 r x dx nx ndx ne => h vs H1 x dx _ w1 r nx ndx ne fun H' s r' => ⟨rfl, k _ H' (s1.trans s) (w1.trans s) r'⟩
theorem ev_meth {C : Addr} {m : Str} {sp : Sp} {dvs : List V} {E : XK} [St Ra] (hx : EvV (Same H0) σ ta Ra) (ho : ∀ x H, Ra x H → ∃ a dx fs, x = .ref a ∧ H a = some (.ins C dx fs) ∧ fs.lookup m = none) (ha : EvA (Same H0) σ ts Rs)
    (h : ∀ x vs H Q, Same H0 H → Ra x H → Rs vs H → (∀ v H', Same H H' → R v H' → Q v H') → sp (x :: (vs ++ dvs)) H Q E) : EvV (Same H0) σ (tMeth C m sp dvs E ta ts) R := fun H Q w k =>
  hx H _ w fun x H1 s1 w1 rx => by
    obtain ⟨a, dx, fs, e, hh, l⟩ := ho x H1 rx
    exact ⟨a, dx, fs, e, hh, l, ha H1 _ w1 fun vs H2 s2 w2 r => h x vs H2 Q w2 (up s2 rx) r fun v H' s r' => k v H' ((s1.trans s2).trans s) (w2.trans s) r'⟩
theorem ev_fld {K : PySem.W.Frag} {f : Str} (ha : EvV (Same H0) σ ta Ra) (h : ∀ x H, Same H0 H → Ra x H → ∃ a C dx fs v, x = .ref a ∧ H a = some (.ins C dx fs) ∧ Cls K C ∧ NoAttr K C f ∧ fs.lookup f = some v ∧ R v H) : EvV (Same H0) σ (tFld K ta f) R := fun H Q w k =>
  ha H _ w fun x H1 s1 w1 rx => by
    obtain ⟨a, C, dx, fs, v, e, hh, c, n, l, r⟩ := h x H1 w1 rx
    exact ⟨a, C, dx, fs, v, e, hh, c, n, l, k v H1 s1 w1 r⟩
theorem ev_tup [i : StA Rs] (ha : EvA (Same H0) σ ts Rs) (n : ∀ vs H, Rs vs H → vs.length ≤ 1000) : EvV (Same H0) σ (tTup ts) (fun v H => ∃ p xs, v = .ref p ∧ H p = some (.tup xs) ∧ Rs xs H) := fun H Q w k =>
  ha H _ w fun vs H1 s1 w1 r => ⟨Nat.le_trans (n _ _ r) (by decide), fun p np => by
    have s2 : Same H1 (upd H1 p (.tup vs)) := Same.new np
    exact k _ _ (s1.trans s2) (w1.trans s2) ⟨p, vs, rfl, upd_same, i.st _ _ _ s2 r⟩⟩
/-- the arguments of a display, all of a sort -/
def EvL {α : Type} (H0 : Hp) (σ : L2.St) (ts : TA) (S : α → V → Hp → Prop) (as : List α) : Prop := EvA (Same H0) σ ts (fun vs H => Ls (fun u a => S a u H) vs as)
theorem Ls.cons {α : Type} {R : V → α → Prop} {vs : List V} {ms : List α} {v : V} {m : α} (t : R v m) (d : Ls R vs ms) : Ls R (v :: vs) (m :: ms) := by
  refine ⟨by simp [d.1], fun i n hn => ?_⟩
  cases i with
  | zero =>
    have e : m = n := by simpa using hn
    subst e
    exact ⟨v, rfl, t⟩
  | succ i =>
    obtain ⟨w, e, r⟩ := d.2 i n (by simpa using hn)
    exact ⟨w, by simpa using e, r⟩
theorem evl_nil {α : Type} {S : α → V → Hp → Prop} : EvL H0 σ tNil S [] := fun H Q w k => k [] H (Same.refl H) w Ls.nil
theorem evl_cons {α : Type} {S : α → V → Hp → Prop} [∀ a, St (S a)] {a : α} {as : List α} (ha : EvV (Same H0) σ ta (S a)) (hs : EvL H0 σ ts S as) : EvL H0 σ (tCons ta ts) S (a :: as) := fun H Q w k =>
  ha H _ w fun x H1 s1 w1 r => hs H1 _ w1 fun xs H2 s2 w2 rs => k (x :: xs) H2 (s1.trans s2) w2 (Ls.cons (up s2 r) rs)
theorem ev_lst {α : Type} {S : α → V → Hp → Prop} [∀ a, St (S a)] {as : List α} (h : EvL H0 σ ts S as) (n : as.length ≤ 1000) : EvV (Same H0) σ (tLst ts) (isL S as) := fun H Q w k =>
  h H _ w fun vs H1 s1 w1 r => ⟨Nat.le_trans (by rw [r.1]; exact n) (by decide), fun p np => by
    have s2 : Same H1 (upd H1 p (.lst vs)) := Same.new np
    exact k _ _ (s1.trans s2) (w1.trans s2) ⟨p, vs, rfl, upd_same, Ls.up r s2⟩⟩
theorem ev_tupU {α : Type} {S : α → V → Hp → Prop} [∀ a, St (S a)] {as : List α} (h : EvL H0 σ ts S as) (n : as.length ≤ 1000) : EvV (Same H0) σ (tTup ts) (isU S as) := fun H Q w k =>
  h H _ w fun vs H1 s1 w1 r => ⟨Nat.le_trans (by rw [r.1]; exact n) (by decide), fun p np => by
    have s2 : Same H1 (upd H1 p (.tup vs)) := Same.new np
    exact k _ _ (s1.trans s2) (w1.trans s2) ⟨p, vs, rfl, upd_same, Ls.up r s2⟩⟩
/-- tests -/
theorem ev_orB {p q : Bool} (h : EvB (Same H0) σ t p) (h2 : p = false → EvB (Same H0) σ u q) : EvB (Same H0) σ (tOr t u) (p || q) := fun H Q w k =>
  h H _ w fun H1 s1 w1 => by
    cases p with
    | true => exact iteT (k H1 s1 w1)
    | false => exact iteF (h2 rfl H1 _ w1 fun H2 s2 w2 => k H2 (s1.trans s2) w2)
theorem ev_andB {p q : Bool} (h : EvB (Same H0) σ t p) (h2 : p = true → EvB (Same H0) σ u q) : EvB (Same H0) σ (tAnd t u) (p && q) := fun H Q w k =>
  h H _ w fun H1 s1 w1 => by
    cases p with
    | false => exact iteF (k H1 s1 w1)
    | true => exact iteT (h2 rfl H1 _ w1 fun H2 s2 w2 => k H2 (s1.trans s2) w2)
theorem ev_notB {p : Bool} (h : EvB (Same H0) σ t p) : EvB (Same H0) σ (tNot t) (!p) := fun H Q w k => h H _ w k
theorem ev_valB {p : Bool} (h : EvV (Same H0) σ te (isBv p)) : EvB (Same H0) σ (tB te) p := fun H Q w k => h H _ w fun v H' s w' e => ⟨p, e, k H' s w'⟩
theorem ev_if {b : Bool} (c : EvB (Same H0) σ t b) (h1 : b = true → EvV (Same H0) σ ta R) (h2 : b = false → EvV (Same H0) σ tb R) : EvV (Same H0) σ (tIf t ta tb) R := fun H Q w k =>
  c H _ w fun H1 s1 w1 => by
    cases b with
    | true => exact iteT (h1 rfl H1 _ w1 fun v H2 s2 w2 r => k v H2 (s1.trans s2) w2 r)
    | false => exact iteF (h2 rfl H1 _ w1 fun v H2 s2 w2 r => k v H2 (s1.trans s2) w2 r)
/-- an if whose test is known -/
theorem if_f {c : TT} {t u : TS} {D : Ends} {H : Hp} (w : Same H0 H) (h : EvB (Same H0) σ c false) (k : ∀ H', Same H H' → u D σ H') : tIfS c t u D σ H := h H _ w fun H' s _ => iteF (k H' s)
theorem if_t {c : TT} {t u : TS} {D : Ends} {H : Hp} (w : Same H0 H) (h : EvB (Same H0) σ c true) (k : ∀ H', Same H H' → t D σ H') : tIfS c t u D σ H := h H _ w fun H' s _ => iteT (k H' s)
/-- what is walked: item by item something that stands for those of a list -/
def EvI {α : Type} (H0 : Hp) (σ : L2.St) (wi : TI) (as : List α) (S : α → V → Hp → Prop) : Prop := ∀ H (Rk : It → Hp → Prop), Same H0 H → (∀ J H1, Same H H1 → (∃ (G : Hp → Prop) (Y : Nat → Hp → V → Hp → Prop), Walk J as.length G Y ∧ (∀ H2, Same H1 H2 → G H2) ∧
  ∀ i H2 x H3, i < as.length → Same H1 H2 → Y i H2 x H3 → Same H2 H3 ∧ ∃ a, as[i]? = some a ∧ S a x H3) → Rk J H1) → wi σ H Rk
theorem evi_list {K : PySem.W.Frag} {α : Type} {S : α → V → Hp → Prop} [∀ a, St (S a)] {as : List α} (h : EvV (Same H0) σ te (isL S as)) : EvI H0 σ (iList K te) as S := fun H Rk w k =>
  h H _ w fun v H1 s1 w1 ⟨D, us, e, hD, l⟩ => ⟨D, e, ⟨us, SqL.of hD⟩, k (Itl K D) H1 s1 ⟨_, _, l.1 ▸ walk_list (K := K) (a := D) (xs := us), fun H2 s => SqL.of (s _ _ hD), fun i H2 x H3 hi s y => by
    obtain ⟨rfl, hx⟩ := y
    obtain ⟨a, ea, r⟩ := Ls.get l hx
    exact ⟨Same.refl _, a, ea, up s r⟩⟩⟩
theorem evi_tup {K : PySem.W.Frag} {α : Type} {S : α → V → Hp → Prop} [∀ a, St (S a)] {as : List α} (h : EvV (Same H0) σ te (fun v H => ∃ D us, v = .ref D ∧ (∀ H', Same H H' → SqT K H' D us) ∧ Ls (fun u a => S a u H) us as)) : EvI H0 σ (iTup K te) as S := fun H Rk w k =>
  h H _ w fun v H1 s1 w1 ⟨D, us, e, hD, l⟩ => ⟨D, e, ⟨us, hD _ (Same.refl _)⟩, k (Itt K D) H1 s1 ⟨_, _, l.1 ▸ walk_tup (K := K) (a := D) (xs := us), fun H2 s => hD _ s, fun i H2 x H3 hi s y => by
    obtain ⟨rfl, hx⟩ := y
    obtain ⟨a, ea, r⟩ := Ls.get l hx
    exact ⟨Same.refl _, a, ea, up s r⟩⟩⟩
/-- the whole numbers from lo on, so many -/
def rgI (lo : Int) (n : Nat) : List Int := (List.range n).map fun i => lo + (i : Nat)
theorem rgI_len {lo : Int} {n : Nat} : (rgI lo n).length = n := by simp [rgI]
theorem rgI_at {lo : Int} {n i : Nat} (h : i < n) : (rgI lo n)[i]? = some (lo + (i : Nat)) := by simp [rgI, h]
theorem evi_rng1 {n : Int} (n0 : 0 ≤ n) (h : EvV (Same H0) σ te (isIv n)) (n1 : n < 2 ^ 62) : EvI H0 σ (iRng1 (tCons te tNil)) (rgI 0 n.toNat) isIv := fun H Rk w k =>
  h H _ w fun v H1 s1 w1 e => by
    cases e
    refine ⟨n, rfl, by omega, n1, k _ H1 s1 ⟨_, _, by rw [rgI_len]; exact walk_range (lo := 0) (n := n.toNat), fun _ _ => trivial, fun i H2 x H3 hi s y => ?_⟩⟩
    obtain ⟨rfl, rfl⟩ := y
    rw [rgI_len] at hi
    exact ⟨Same.refl _, _, rgI_at hi, rfl⟩
/-- a new list of such things -/
def EvNL {α : Type} (H0 : Hp) (σ : L2.St) (te : TE) (S : α → V → Hp → Prop) (as : List α) : Prop := ∀ H Q, Same H0 H → (∀ D us H', H D = none → Same H H' → H' D = some (.lst us) → Ls (fun u a => S a u H') us as → Q (.ref D) H') → te σ H Q
theorem EvNL.ev {α : Type} {S : α → V → Hp → Prop} {as : List α} (h : EvNL H0 σ te S as) : EvV (Same H0) σ te (isL S as) := fun H Q w k => h H Q w fun D us H' _ s hD l => k _ H' s (w.trans s) ⟨D, us, rfl, hD, l⟩
theorem evn_lst {α : Type} {S : α → V → Hp → Prop} [∀ a, St (S a)] {as : List α} (h : EvL H0 σ ts S as) (n : as.length ≤ 1000) : EvNL H0 σ (tLst ts) S as := fun H Q w k =>
  h H _ w fun vs H1 s1 w1 r => ⟨Nat.le_trans (by rw [r.1]; exact n) (by decide), fun p np => by
    have s2 : Same H1 (upd H1 p (.lst vs)) := Same.new np
    exact k p vs _ (s1.free np) (s1.trans s2) upd_same (Ls.up r s2)⟩
/-- a list comprehension -/
theorem evn_lc {α β : Type} {wi : TI} {g : TG} {tt : TT} {vs : List Nat} {as : List α} {S : α → V → Hp → Prop} {S' : β → V → Hp → Prop} [∀ b, StL (S' b)] (p : α → Bool) (f : α → β) (hi : EvI H0 σ wi as S) (hn : as.length ≤ 1000)
    (hb : ∀ a ∈ as, ∀ x H, Same H0 H → S a x H → ∀ K2 : L2.St → Hp → Prop, (∀ σ2 H2, Same H H2 → wipe σ2 vs = wipe σ vs → EvB (Same H2) σ2 tt (p a) → (p a = true → EvV (Same H2) σ2 te (S' (f a))) → K2 σ2 H2) → g x (wipe σ vs) H K2) :
    EvNL H0 σ (tLc wi g tt te vs) S' ((as.filter p).map f) := fun H Q w k => by
  refine hi H _ w fun J H1 s1 ⟨G, Y, wk, hG, hY⟩ D nD => ?_
  refine lc_it wk (fun i Hh => Same H1 Hh ∧ ∃ acc, Hh D = some (.lst acc) ∧ Ls (fun u b => S' b u Hh) acc (((as.take i).filter p).map f)) ⟨Same.new nD, [], upd_same, Ls.nil⟩ (fun i Hh _ z => hG _ z.1) ?_ ?_
  · rintro i x Hh H' hi ⟨s2, acc, hD, ra⟩ y
    obtain ⟨s3, a, ea, rx⟩ := hY i Hh x H' hi s2 y
    have tk : as.take (i + 1) = as.take i ++ [a] := by
      rw [List.take_succ, ea]
      rfl
    have la : acc.length ≤ 1000 := by
      rw [ra.1, List.length_map]
      have z := List.length_filter_le p (as.take i)
      rw [List.length_take] at z
      omega
    refine hb a (List.mem_of_getElem? ea) x H' (w.trans (s1.trans (s2.trans s3))) rx _ fun σ2 H2 s4 ew et ee => ⟨ew, et H2 _ (Same.refl _) fun H3 s5 _ => ?_⟩
    have S5 := (s3.trans s4).trans s5
    cases e : p a with
    | false =>
      refine iteF ⟨s2.trans S5, acc, S5 _ _ hD, ?_⟩
      rw [tk, List.filter_append, List.map_append, List.filter_cons_of_neg (by rw [e]; exact Bool.false_ne_true), List.filter_nil, List.map_nil, List.append_nil]
      exact ra.up S5
    | true =>
      refine iteT (ee e H3 _ s5 fun v H4 s6 _ r => ?_)
      have S6 := S5.trans s6
      have hD4 := S6 _ _ hD
      have nD1 : H1 D = none := nD
      refine ⟨acc, hD4, Nat.lt_of_le_of_lt la (by decide), fun c o h => ?_, acc ++ [v], upd_same, ?_⟩
      · rw [upd_ne (ne_of_none h nD1)]
        exact (s2.trans S6) _ _ h
      · rw [tk, List.filter_append, List.map_append, List.filter_cons_of_pos e, List.filter_nil, List.map_cons, List.map_nil]
        exact Ls.push ((ra.up S6).upL (Keep.lst hD4)) (upL (Keep.lst hD4) r)
  · rintro Hh ⟨s2, acc, hD, ra⟩
    rw [List.take_length] at ra
    exact k D acc Hh (s1.free nD) (s1.trans s2) hD ra
theorem ev_lc {α β : Type} {wi : TI} {g : TG} {tt : TT} {vs : List Nat} {as : List α} {S : α → V → Hp → Prop} {S' : β → V → Hp → Prop} [∀ b, StL (S' b)] (p : α → Bool) (f : α → β) (hi : EvI H0 σ wi as S) (hn : as.length ≤ 1000)
    (hb : ∀ a ∈ as, ∀ x H, Same H0 H → S a x H → ∀ K2 : L2.St → Hp → Prop, (∀ σ2 H2, Same H H2 → wipe σ2 vs = wipe σ vs → EvB (Same H2) σ2 tt (p a) → (p a = true → EvV (Same H2) σ2 te (S' (f a))) → K2 σ2 H2) → g x (wipe σ vs) H K2) :
    EvV (Same H0) σ (tLc wi g tt te vs) (isL S' ((as.filter p).map f)) := (evn_lc p f hi hn hb).ev
end
end V3

set_option Elab.async false
set_option linter.all false
set_option maxRecDepth 100000
/-! == and != of plain data, by classes -/
namespace V3
open PySem L2 TL
/-- what a thing is as plain data -/
class Dt (K : PySem.W.Frag) {α : Type} (S : α → V → Hp → Prop) where
  d : α → PyData
  ok : α → Prop
  n : Nat
  dp : ∀ a v H, S a v H → Dp K H v (d a)
  lay : ∀ a, ok a → (d a).canLay0 = true
  dep : ∀ a, (d a).depth ≤ n
  inj : ∀ a b, ok a → ok b → (PyData.eqv (d a) (d b) = true ↔ a = b)
variable {K : PySem.W.Frag}
instance : Dt K isIv where
  d := .int
  ok := fun _ => True
  n := 0
  dp := fun a v H h => by cases h; exact .int a
  lay := fun a _ => by simp [PyData.canLay0]
  dep := fun a => by simp [PyData.depth]
  inj := fun a b _ _ => by simp [PyData.eqv]
instance : Dt K isBv where
  d := .bool
  ok := fun _ => True
  n := 0
  dp := fun a v H h => by cases h; exact .bl a
  lay := fun a _ => by simp [PyData.canLay0]
  dep := fun a => by simp [PyData.depth]
  inj := fun a b _ _ => by simp [PyData.eqv]
instance : Dt K isSv where
  d := .str
  ok := fun s => PyData.strOk s = true
  n := 0
  dp := fun a v H h => by cases h; exact .str a
  lay := fun a h => by simp [PyData.canLay0, h]
  dep := fun a => by simp [PyData.depth]
  inj := fun a b _ _ => by simp [PyData.eqv]
theorem eqvAll_map {α : Type} {d : α → PyData} : ∀ {as bs : List α}, (∀ a ∈ as, ∀ b ∈ bs, (PyData.eqv (d a) (d b) = true ↔ a = b)) → (PyData.eqvAll (as.map d) (bs.map d) = true ↔ as = bs)
  | [], [], _ => by simp [PyData.eqvAll]
  | [], _ :: _, _ => by simp [PyData.eqvAll]
  | _ :: _, [], _ => by simp [PyData.eqvAll]
  | a :: as, b :: bs, h => by
    have h1 := h a (by simp) b (by simp)
    have h2 := eqvAll_map (as := as) (bs := bs) fun x hx y hy => h x (by simp [hx]) y (by simp [hy])
    simp only [List.map_cons, PyData.eqvAll, Bool.and_eq_true, h1, h2, List.cons.injEq]
theorem lay_map {α : Type} {d : α → PyData} : ∀ {as : List α}, (∀ a ∈ as, (d a).canLay0 = true) → PyData.canLayAll0 (as.map d) = true
  | [], _ => by simp [PyData.canLayAll0]
  | a :: as, h => by
    have z := lay_map (as := as) fun x hx => h x (by simp [hx])
    simp [PyData.canLayAll0, h a (by simp), z]
theorem dep_map {α : Type} {d : α → PyData} {n : Nat} (h : ∀ a, (d a).depth ≤ n) : ∀ as : List α, PyData.depthAll (as.map d) ≤ n
  | [] => by simp [PyData.depthAll]
  | a :: as => by
    have z := dep_map h as
    have y := h a
    simp only [List.map_cons, PyData.depthAll]
    omega
theorem Ls.nil' {α : Type} {R : V → α → Prop} {us : List V} (h : Ls R us []) : us = [] := List.length_eq_zero_iff.mp h.1
theorem Ls.uncons {α : Type} {R : V → α → Prop} {us : List V} {a : α} {as : List α} (h : Ls R us (a :: as)) : ∃ u r, us = u :: r ∧ R u a ∧ Ls R r as := by
  cases us with
  | nil => cases h.1
  | cons u r =>
    obtain ⟨w, e, t⟩ := h.2 0 a rfl
    have e : u = w := by simpa using e
    subst e
    exact ⟨u, r, rfl, t, by simpa using h.1, fun i m hm => by simpa using h.2 (i + 1) m (by simpa using hm)⟩
theorem dpAll_map {α : Type} {S : α → V → Hp → Prop} {d : α → PyData} {H : Hp} (h : ∀ a v, S a v H → Dp K H v (d a)) : ∀ {as : List α} {us : List V}, Ls (fun u a => S a u H) us as → DpAll K H us (as.map d)
  | [], us, l => by
    rw [l.nil']
    exact .nil
  | a :: as, us, l => by
    obtain ⟨u, r, rfl, t, l2⟩ := l.uncons
    exact .cons (h a u t) (dpAll_map h l2)
instance {α : Type} {S : α → V → Hp → Prop} [i : Dt K S] : Dt K (isL S) where
  d := fun as => .list (as.map i.d)
  ok := fun as => ∀ a ∈ as, i.ok a
  n := i.n + 1
  dp := fun as v H ⟨D, us, e, hD, l⟩ => by
    subst e
    exact .lst (SqL.of hD) (dpAll_map (fun a v h => i.dp a v H h) l)
  lay := fun as h => by
    simp only [PyData.canLay0]
    exact lay_map fun a ha => i.lay a (h a ha)
  dep := fun as => by
    have z := dep_map i.dep as
    simp only [PyData.depth]
    omega
  inj := fun as bs ha hb => by
    simp only [PyData.eqv]
    rw [eqvAll_map fun a h1 b h2 => i.inj a b (ha a h1) (hb b h2)]
instance {α : Type} {S : α → V → Hp → Prop} [i : Dt K S] : Dt K (isU S) where
  d := fun as => .tuple (as.map i.d)
  ok := fun as => ∀ a ∈ as, i.ok a
  n := i.n + 1
  dp := fun as v H ⟨D, us, e, hD, l⟩ => by
    subst e
    exact .tup (SqT.of hD) (dpAll_map (fun a v h => i.dp a v H h) l)
  lay := fun as h => by
    simp only [PyData.canLay0]
    exact lay_map fun a ha => i.lay a (h a ha)
  dep := fun as => by
    have z := dep_map i.dep as
    simp only [PyData.depth]
    omega
  inj := fun as bs ha hb => by
    simp only [PyData.eqv]
    rw [eqvAll_map fun a h1 b h2 => i.inj a b (ha a h1) (hb b h2)]
/-- tuples of two, of three, of four -/
def isP2 {α β : Type} (S : α → V → Hp → Prop) (T : β → V → Hp → Prop) (p : α × β) : V → Hp → Prop := fun v H => ∃ D u w, v = .ref D ∧ H D = some (.tup [u, w]) ∧ S p.1 u H ∧ T p.2 w H
instance {α β : Type} {S : α → V → Hp → Prop} {T : β → V → Hp → Prop} [∀ a, St (S a)] [∀ a, St (T a)] {p : α × β} : St (isP2 S T p) := ⟨fun _ _ _ s ⟨D, u, w, e, h, a, b⟩ => ⟨D, u, w, e, s _ _ h, up s a, up s b⟩⟩
instance {α β : Type} {S : α → V → Hp → Prop} {T : β → V → Hp → Prop} [∀ a, StL (S a)] [∀ a, StL (T a)] {p : α × β} : StL (isP2 S T p) := ⟨fun _ _ _ s ⟨D, u, w, e, h, a, b⟩ => ⟨D, u, w, e, s _ _ (fun _ z => by cases z) h, upL s a, upL s b⟩⟩
instance {α β : Type} {S : α → V → Hp → Prop} {T : β → V → Hp → Prop} [i : Dt K S] [j : Dt K T] : Dt K (isP2 S T) where
  d := fun p => .tuple [i.d p.1, j.d p.2]
  ok := fun p => i.ok p.1 ∧ j.ok p.2
  n := max i.n j.n + 1
  dp := fun p v H ⟨D, u, w, e, h, a, b⟩ => by
    subst e
    exact .tup (SqT.of h) (.cons (i.dp _ _ _ a) (.cons (j.dp _ _ _ b) .nil))
  lay := fun p h => by simp [PyData.canLay0, PyData.canLayAll0, i.lay _ h.1, j.lay _ h.2]
  dep := fun p => by
    have a := i.dep p.1
    have b := j.dep p.2
    simp only [PyData.depth, PyData.depthAll]
    omega
  inj := fun p q hp hq => by
    obtain ⟨a, b⟩ := p
    obtain ⟨c, e⟩ := q
    simp only [PyData.eqv, PyData.eqvAll, Bool.and_eq_true, i.inj _ _ hp.1 hq.1, j.inj _ _ hp.2 hq.2, Prod.mk.injEq, and_true]
def isP3 {α β γ : Type} (S : α → V → Hp → Prop) (T : β → V → Hp → Prop) (U : γ → V → Hp → Prop) (p : α × β × γ) : V → Hp → Prop := fun v H => ∃ D u w x, v = .ref D ∧ H D = some (.tup [u, w, x]) ∧ S p.1 u H ∧ T p.2.1 w H ∧ U p.2.2 x H
instance {α β γ : Type} {S : α → V → Hp → Prop} {T : β → V → Hp → Prop} {U : γ → V → Hp → Prop} [∀ a, St (S a)] [∀ a, St (T a)] [∀ a, St (U a)] {p : α × β × γ} : St (isP3 S T U p) := ⟨fun _ _ _ s ⟨D, u, w, x, e, h, a, b, c⟩ => ⟨D, u, w, x, e, s _ _ h, up s a, up s b, up s c⟩⟩
instance {α β γ : Type} {S : α → V → Hp → Prop} {T : β → V → Hp → Prop} {U : γ → V → Hp → Prop} [∀ a, StL (S a)] [∀ a, StL (T a)] [∀ a, StL (U a)] {p : α × β × γ} : StL (isP3 S T U p) := ⟨fun _ _ _ s ⟨D, u, w, x, e, h, a, b, c⟩ => ⟨D, u, w, x, e, s _ _ (fun _ z => by cases z) h, upL s a, upL s b, upL s c⟩⟩
instance {α β γ : Type} {S : α → V → Hp → Prop} {T : β → V → Hp → Prop} {U : γ → V → Hp → Prop} [i : Dt K S] [j : Dt K T] [l : Dt K U] : Dt K (isP3 S T U) where
  d := fun p => .tuple [i.d p.1, j.d p.2.1, l.d p.2.2]
  ok := fun p => i.ok p.1 ∧ j.ok p.2.1 ∧ l.ok p.2.2
  n := max (max i.n j.n) l.n + 1
  dp := fun p v H ⟨D, u, w, x, e, h, a, b, c⟩ => by
    subst e
    exact .tup (SqT.of h) (.cons (i.dp _ _ _ a) (.cons (j.dp _ _ _ b) (.cons (l.dp _ _ _ c) .nil)))
  lay := fun p h => by simp [PyData.canLay0, PyData.canLayAll0, i.lay _ h.1, j.lay _ h.2.1, l.lay _ h.2.2]
  dep := fun p => by
    have a := i.dep p.1
    have b := j.dep p.2.1
    have c := l.dep p.2.2
    simp only [PyData.depth, PyData.depthAll]
    omega
  inj := fun p q hp hq => by
    obtain ⟨a, b, f⟩ := p
    obtain ⟨c, e, g⟩ := q
    simp only [PyData.eqv, PyData.eqvAll, Bool.and_eq_true, i.inj _ _ hp.1 hq.1, j.inj _ _ hp.2.1 hq.2.1, l.inj _ _ hp.2.2 hq.2.2, Prod.mk.injEq, and_true]
section
variable {σ : L2.St} {ta tb te : TE} {ts : TA} {H0 : Hp} {α β γ : Type} {S : α → V → Hp → Prop} {T : β → V → Hp → Prop} {U : γ → V → Hp → Prop} [∀ a, St (S a)] [∀ a, St (T a)] [∀ a, St (U a)] {a b : α} {c : β} {e : γ}
theorem shaped_dt [i : Dt K S] (n : i.n ≤ 64) (h : i.ok a) : SeqAt.shaped (i.d a) = true := by
  have z := i.dep a
  unfold SeqAt.shaped
  rw [i.lay a h, decide_eq_true (by omega)]
  rfl
theorem ev_neD [i : Dt K S] [Decidable (a = b)] (ha : EvV (Same H0) σ ta (S a)) (hb : EvV (Same H0) σ tb (S b)) (oa : i.ok a) (ob : i.ok b) (n : i.n ≤ 64 := by exact Nat.le_of_ble_eq_true rfl) : EvV (Same H0) σ (tOp (rNeD K) ta tb) (isBv (!decide (a = b))) :=
  ev_o ha hb fun x y H Q w hx hy k => ⟨_, _, i.dp _ _ _ hx, i.dp _ _ _ hy, shaped_dt n oa, shaped_dt n ob, k _ H (Same.refl H) (by
    have z := i.inj a b oa ob
    by_cases h : a = b
    · rw [z.mpr h, decide_eq_true h]
      rfl
    · rw [Bool.eq_false_iff.mpr fun q => h (z.mp q), decide_eq_false h]
      rfl)⟩
theorem ev_eqD [i : Dt K S] [Decidable (a = b)] (ha : EvV (Same H0) σ ta (S a)) (hb : EvV (Same H0) σ tb (S b)) (oa : i.ok a) (ob : i.ok b) (n : i.n ≤ 64 := by exact Nat.le_of_ble_eq_true rfl) : EvV (Same H0) σ (tOp (rEqD K) ta tb) (isBv (decide (a = b))) :=
  ev_o ha hb fun x y H Q w hx hy k => ⟨_, _, i.dp _ _ _ hx, i.dp _ _ _ hy, shaped_dt n oa, shaped_dt n ob, k _ H (Same.refl H) (by
    have z := i.inj a b oa ob
    by_cases h : a = b
    · rw [z.mpr h, decide_eq_true h]
      rfl
    · rw [Bool.eq_false_iff.mpr fun q => h (z.mp q), decide_eq_false h]
      rfl)⟩
theorem ev_p2 (ha : EvV (Same H0) σ ta (S a)) (hb : EvV (Same H0) σ tb (T c)) : EvV (Same H0) σ (tTup (tCons ta (tCons tb tNil))) (isP2 S T (a, c)) := fun H Q w k =>
  ha H _ w fun x H1 s1 w1 hx => hb H1 _ w1 fun y H2 s2 w2 hy => ⟨(by show 2 ≤ sizeLine; decide), fun p np => by
    have s3 : Same H2 (upd H2 p (.tup [x, y])) := Same.new np
    exact k _ _ ((s1.trans s2).trans s3) (w2.trans s3) ⟨p, x, y, rfl, upd_same, up (s2.trans s3) hx, up s3 hy⟩⟩
theorem ev_p3 (ha : EvV (Same H0) σ ta (S a)) (hb : EvV (Same H0) σ tb (T c)) (hc : EvV (Same H0) σ te (U e)) : EvV (Same H0) σ (tTup (tCons ta (tCons tb (tCons te tNil)))) (isP3 S T U (a, c, e)) := fun H Q w k =>
  ha H _ w fun x H1 s1 w1 hx => hb H1 _ w1 fun y H2 s2 w2 hy => hc H2 _ w2 fun z H3 s3 w3 hz => ⟨(by show 3 ≤ sizeLine; decide), fun p np => by
    have s4 : Same H3 (upd H3 p (.tup [x, y, z])) := Same.new np
    exact k _ _ (((s1.trans s2).trans s3).trans s4) (w3.trans s4) ⟨p, x, y, z, rfl, upd_same, up ((s2.trans s3).trans s4) hx, up (s3.trans s4) hy, up s4 hz⟩⟩
end
end V3

set_option Elab.async false
set_option linter.all false
set_option maxRecDepth 100000
/-! operators, answered -/
namespace V3
open PySem L2 TL
section
variable {K : PySem.W.Frag} {σ : L2.St} {ta tb te : TE} {t u : TT} {H0 : Hp} {R : V → Hp → Prop} {i j : Int} {b : Bool}
theorem ev_i0 {g : Int → Int → V} (ha : EvV (Same H0) σ ta (isIv i)) (hb : EvV (Same H0) σ tb (isIv j)) : EvV (Same H0) σ (tOp (rI0 g) ta tb) (isVv (g i j)) :=
  ev_o ha hb fun x y H Q w ex ey k => ⟨i, j, ex, ey, k _ H (Same.refl H) rfl⟩
theorem ev_i1 {C : Int → Int → Prop} {g : Int → Int → V} (c : C i j) (ha : EvV (Same H0) σ ta (isIv i)) (hb : EvV (Same H0) σ tb (isIv j)) : EvV (Same H0) σ (tOp (rI C g) ta tb) (isVv (g i j)) :=
  ev_o ha hb fun x y H Q w ex ey k => ⟨i, j, ex, ey, c, k _ H (Same.refl H) rfl⟩
theorem ev_ad (ha : EvV (Same H0) σ ta (isIv i)) (hb : EvV (Same H0) σ tb (isIv j)) : EvV (Same H0) σ (tOp (rI0 fun i j => .int (i + j)) ta tb) (isIv (i + j)) := ev_i0 (g := fun i j => .int (i + j)) ha hb
theorem ev_sb (ha : EvV (Same H0) σ ta (isIv i)) (hb : EvV (Same H0) σ tb (isIv j)) : EvV (Same H0) σ (tOp (rI0 fun i j => .int (i - j)) ta tb) (isIv (i - j)) := ev_i0 (g := fun i j => .int (i - j)) ha hb
theorem ev_lt (ha : EvV (Same H0) σ ta (isIv i)) (hb : EvV (Same H0) σ tb (isIv j)) : EvV (Same H0) σ (tOp (rI0 fun i j => .bl (decide (i < j))) ta tb) (isBv (decide (i < j))) := ev_i0 (g := fun i j => .bl (decide (i < j))) ha hb
theorem ev_le (ha : EvV (Same H0) σ ta (isIv i)) (hb : EvV (Same H0) σ tb (isIv j)) : EvV (Same H0) σ (tOp (rI0 fun i j => .bl (decide (i ≤ j))) ta tb) (isBv (decide (i ≤ j))) := ev_i0 (g := fun i j => .bl (decide (i ≤ j))) ha hb
theorem ev_gt (ha : EvV (Same H0) σ ta (isIv i)) (hb : EvV (Same H0) σ tb (isIv j)) : EvV (Same H0) σ (tOp (rI0 fun i j => .bl (decide (j < i))) ta tb) (isBv (decide (j < i))) := ev_i0 (g := fun i j => .bl (decide (j < i))) ha hb
theorem ev_ge (ha : EvV (Same H0) σ ta (isIv i)) (hb : EvV (Same H0) σ tb (isIv j)) : EvV (Same H0) σ (tOp (rI0 fun i j => .bl (decide (j ≤ i))) ta tb) (isBv (decide (j ≤ i))) := ev_i0 (g := fun i j => .bl (decide (j ≤ i))) ha hb
theorem ev_mod (c : 0 < j) (ha : EvV (Same H0) σ ta (isIv i)) (hb : EvV (Same H0) σ tb (isIv j)) : EvV (Same H0) σ (tOp (rI (fun _ j => 0 < j) fun i j => .int (i % j)) ta tb) (isIv (i % j)) := ev_i1 (g := fun i j => .int (i % j)) c ha hb
theorem ev_mul (c : CMul i j) (ha : EvV (Same H0) σ ta (isIv i)) (hb : EvV (Same H0) σ tb (isIv j)) : EvV (Same H0) σ (tOp (rI CMul fun i j => .int (i * j)) ta tb) (isIv (i * j)) := ev_i1 (g := fun i j => .int (i * j)) c ha hb
theorem ev_pow (c : CPow i j) (ha : EvV (Same H0) σ ta (isIv i)) (hb : EvV (Same H0) σ tb (isIv j)) : EvV (Same H0) σ (tOp (rI CPow fun i j => .int (i ^ j.toNat)) ta tb) (isIv (i ^ j.toNat)) := ev_i1 (g := fun i j => .int (i ^ j.toNat)) c ha hb
theorem ev_ng (ha : EvV (Same H0) σ ta (isIv i)) : EvV (Same H0) σ (tUn (rU fun i => .int (-i)) ta) (isIv (-i)) := fun H Q w k => ha H _ w fun v H' s w' e => ⟨i, e, k _ H' s w' rfl⟩
theorem ev_int1 (ha : EvV (Same H0) σ ta (isIv i)) : EvV (Same H0) σ (tCB (fun xs H Q => (∃ i, xs = [.int i] ∧ Q (.int i) H) ∨ ∃ k, xs = [.bl k] ∧ Q (.int (if k then 1 else 0)) H) (tCons ta tNil)) (isIv i) := fun H Q w k =>
  ha H _ w fun v H' s w' e => by
    cases e
    exact .inl ⟨i, rfl, k _ H' s w' rfl⟩
theorem ev_cat {x y : Str} (n : x.length + y.length ≤ 100000) (ha : EvV (Same H0) σ ta (isSv x)) (hb : EvV (Same H0) σ tb (isSv y)) : EvV (Same H0) σ (tOp (fun x y H Q => ∃ i j, x = .str i ∧ y = .str j ∧ i.length + j.length ≤ sizeLine ∧ Q (.str (i ++ j)) H) ta tb) (isSv (x ++ y)) :=
  ev_o ha hb fun _ _ H Q w ex ey k => ⟨x, y, ex, ey, Nat.le_trans n (by decide), k _ H (Same.refl H) rfl⟩
theorem ev_eqi (ha : EvV (Same H0) σ ta (isIv i)) (hb : EvV (Same H0) σ tb (isIv j)) : EvV (Same H0) σ (tOp rEq ta tb) (isBv (decide (i = j))) :=
  ev_o ha hb fun x y H Q w ex ey k => by
    cases ex
    cases ey
    refine ⟨rfl, k _ H (Same.refl H) ?_⟩
    have e : (V.int i = V.int j) ↔ (i = j) := ⟨fun z => by injection z, fun z => by rw [z]⟩
    show V.bl (decide (V.int i = V.int j)) = V.bl (decide (i = j))
    by_cases h : i = j
    · rw [decide_eq_true h, decide_eq_true (e.mpr h)]
    · rw [decide_eq_false h, decide_eq_false (fun z => h (e.mp z))]
theorem ev_is {b' : Bool} (h : EvV (Same H0) σ ta (isBv b)) (e : b = b') : EvV (Same H0) σ ta (isBv b') := e ▸ h
theorem ev_at (ha : EvV (Same H0) σ ta (isBv true)) (hb : EvV (Same H0) σ tb R) : EvV (Same H0) σ (tAndV ta tb) R := fun H Q w k => ha H _ w fun v H1 s1 w1 e => ⟨true, e, iteT (hb H1 _ w1 fun v H2 s2 w2 r => k v H2 (s1.trans s2) w2 r)⟩
theorem ev_af (ha : EvV (Same H0) σ ta (isBv false)) : EvV (Same H0) σ (tAndV ta tb) (isBv false) := fun H Q w k => ha H _ w fun v H1 s1 w1 e => ⟨false, e, iteF (k _ H1 s1 w1 rfl)⟩
theorem ev_av {p q : Bool} (ha : EvV (Same H0) σ ta (isBv p)) (hb : p = true → EvV (Same H0) σ tb (isBv q)) : EvV (Same H0) σ (tAndV ta tb) (isBv (p && q)) := by
  cases p with
  | true => exact ev_at ha (hb rfl)
  | false => exact ev_af ha
theorem ev_ov {p q : Bool} (ha : EvV (Same H0) σ ta (isBv p)) (hb : p = false → EvV (Same H0) σ tb (isBv q)) : EvV (Same H0) σ (tOrV ta tb) (isBv (p || q)) := fun H Q w k => ha H _ w fun v H1 s1 w1 e => by
  cases p with
  | true => exact ⟨true, e, iteT (k _ H1 s1 w1 rfl)⟩
  | false => exact ⟨false, e, iteF (hb rfl H1 _ w1 fun v H2 s2 w2 r => k v H2 (s1.trans s2) w2 r)⟩
theorem ev_nv {p : Bool} (ha : EvV (Same H0) σ ta (isBv p)) : EvV (Same H0) σ (tNotV ta) (isBv (!p)) := fun H Q w k => ha H _ w fun v H1 s1 w1 e => ⟨p, e, k _ H1 s1 w1 rfl⟩
/-- len of a list, of a tuple -/
theorem ev_lenL {α : Type} {S : α → V → Hp → Prop} {as : List α} (ha : EvV (Same H0) σ ta (isL S as)) : EvV (Same H0) σ (tCB (fun xs H Q => ∃ p ys, xs = [.ref p] ∧ (SqL K H p ys ∨ SqT K H p ys) ∧ Q (.int (ys.length : Int)) H) (tCons ta tNil)) (isIv (as.length : Int)) := fun H Q w k =>
  ha H _ w fun x H1 s1 w1 hx => by
    obtain ⟨D, us, rfl, hD, l⟩ := hx
    exact ⟨D, us, rfl, .inl (SqL.of hD), k _ H1 s1 w1 (by rw [l.1]; rfl)⟩
theorem ev_lenU {α : Type} {S : α → V → Hp → Prop} {as : List α} (ha : EvV (Same H0) σ ta (isU S as)) : EvV (Same H0) σ (tCB (fun xs H Q => ∃ p ys, xs = [.ref p] ∧ (SqL K H p ys ∨ SqT K H p ys) ∧ Q (.int (ys.length : Int)) H) (tCons ta tNil)) (isIv (as.length : Int)) := fun H Q w k =>
  ha H _ w fun x H1 s1 w1 hx => by
    obtain ⟨D, us, rfl, hD, l⟩ := hx
    exact ⟨D, us, rfl, .inr (SqT.of hD), k _ H1 s1 w1 (by rw [l.1]; rfl)⟩
theorem Ls.eqs {us ws : List V} {H : Hp} (h : Ls (fun u a => isVv a u H) us ws) : us = ws := by
  refine List.ext_getElem? fun i => ?_
  cases e : ws[i]? with
  | none =>
    have z : ws.length ≤ i := List.getElem?_eq_none_iff.mp e
    rw [List.getElem?_eq_none_iff, h.1]
    exact z
  | some m =>
    obtain ⟨v, ev, q⟩ := h.2 i m e
    have q : v = m := q
    rw [ev, q]
end
end V3

set_option Elab.async false
set_option linter.all false
set_option maxRecDepth 100000
/-! lists cut, joined, turned round; texts split and joined, answered -/
namespace V3
open PySem L2 TL
def cutA {α : Type} (xs : List α) (lo hi : Option Int) : List α := (xs.drop (HT.sIx xs.length 0 lo)).take (HT.sIx xs.length xs.length hi - HT.sIx xs.length 0 lo)
theorem cutA_all {α : Type} (xs : List α) : cutA xs none none = xs := by
  unfold cutA
  rw [HT.sIx_none, HT.sIx_none]
  simp
theorem cutA_from {α : Type} (xs : List α) (n : Nat) : cutA xs (some (n : Int)) none = xs.drop n := by
  unfold cutA
  rw [HT.sIx_nat, HT.sIx_none]
  by_cases h : n ≤ xs.length
  · rw [Nat.min_eq_left h]
    exact List.take_of_length_le (Nat.le_of_eq (List.length_drop ..))
  · rw [Nat.min_eq_right (by omega), List.drop_length, List.drop_eq_nil_of_le (by omega)]
    simp
theorem cutA_to {α : Type} (xs : List α) (n : Nat) : cutA xs none (some (n : Int)) = xs.take n := by
  unfold cutA
  rw [HT.sIx_nat, HT.sIx_none, List.drop_zero, Nat.sub_zero]
  by_cases h : n ≤ xs.length
  · rw [Nat.min_eq_left h]
  · rw [Nat.min_eq_right (by omega), List.take_length, List.take_of_length_le (by omega)]
theorem cutA_mid {α : Type} (xs : List α) (n m : Nat) : cutA xs (some (n : Int)) (some (m : Int)) = (xs.take m).drop n := by
  unfold cutA
  rw [HT.sIx_nat, HT.sIx_nat]
  by_cases h : n ≤ xs.length
  · rw [Nat.min_eq_left h, List.drop_take]
    by_cases k : m ≤ xs.length
    · rw [Nat.min_eq_left k]
    · rw [Nat.min_eq_right (by omega), List.take_of_length_le (Nat.le_of_eq (List.length_drop ..)), List.take_of_length_le (by rw [List.length_drop]; omega)]
  · rw [Nat.min_eq_right (a := n) (by omega), List.drop_length, List.drop_eq_nil_of_le (by rw [List.length_take]; omega)]
    simp
theorem Ls.drop {α : Type} {R : V → α → Prop} {us : List V} {as : List α} (l : Ls R us as) (n : Nat) : Ls R (us.drop n) (as.drop n) := ⟨by rw [List.length_drop, List.length_drop, l.1], fun i m h => by
  rw [List.getElem?_drop] at h ⊢
  exact l.2 _ _ h⟩
theorem Ls.take {α : Type} {R : V → α → Prop} {us : List V} {as : List α} (l : Ls R us as) (n : Nat) : Ls R (us.take n) (as.take n) := ⟨by rw [List.length_take, List.length_take, l.1], fun i m h => by
  rw [List.getElem?_take] at h ⊢
  by_cases c : i < n
  · rw [if_pos c] at h ⊢
    exact l.2 _ _ h
  · rw [if_neg c] at h
    cases h⟩
theorem Ls.app {α : Type} {R : V → α → Prop} {us vs : List V} {as bs : List α} (l : Ls R us as) (k : Ls R vs bs) : Ls R (us ++ vs) (as ++ bs) := ⟨by rw [List.length_append, List.length_append, l.1, k.1], fun i m h => by
  by_cases c : i < as.length
  · rw [List.getElem?_append_left c] at h
    rw [List.getElem?_append_left (by rw [l.1]; exact c)]
    exact l.2 _ _ h
  · rw [List.getElem?_append_right (by omega)] at h
    rw [List.getElem?_append_right (by rw [l.1]; omega), l.1]
    exact k.2 _ _ h⟩
theorem Ls.rev {α : Type} {R : V → α → Prop} {us : List V} {as : List α} (l : Ls R us as) : Ls R us.reverse as.reverse := ⟨by rw [List.length_reverse, List.length_reverse, l.1], fun i m h => by
  have lt : i < as.length := by
    have z := (List.getElem?_eq_some_iff.mp h).1
    rw [List.length_reverse] at z
    exact z
  rw [List.getElem?_reverse lt] at h
  rw [List.getElem?_reverse (by rw [l.1]; exact lt), l.1]
  exact l.2 _ _ h⟩
theorem Ls.put {α : Type} {R : V → α → Prop} {us : List V} {as : List α} {v : V} {a : α} (l : Ls R us as) (r : R v a) (j : Nat) : Ls R (us.set j v) (as.set j a) := ⟨by rw [List.length_set, List.length_set, l.1], fun i m h => by
  rw [List.getElem?_set] at h ⊢
  by_cases c : j = i
  · rw [if_pos c] at h ⊢
    by_cases q : j < as.length
    · rw [if_pos q] at h
      rw [if_pos (by rw [l.1]; exact q)]
      cases h
      exact ⟨v, rfl, r⟩
    · rw [if_neg q] at h
      cases h
  · rw [if_neg c] at h ⊢
    exact l.2 _ _ h⟩
theorem Ls.cut {α : Type} {R : V → α → Prop} {us : List V} {as : List α} (l : Ls R us as) (lo hi : Option Int) : Ls R (cutV us lo hi) (cutA as lo hi) := by
  unfold cutV cutA
  rw [l.1]
  exact (l.drop _).take _
theorem Ls.strs : ∀ {H : Hp} (as : List Str), Ls (fun u a => isSv a u H) (as.map V.str) as := fun as => ⟨by rw [List.length_map], fun i m h => ⟨.str m, by rw [List.getElem?_map, h]; rfl, rfl⟩⟩
theorem Ls.toStrs {H : Hp} {us : List V} {as : List Str} (l : Ls (fun u a => isSv a u H) us as) : us = as.map V.str := by
  refine List.ext_getElem? fun i => ?_
  cases e : as[i]? with
  | none =>
    have z : as.length ≤ i := List.getElem?_eq_none_iff.mp e
    rw [List.getElem?_map, e, List.getElem?_eq_none (by rw [l.1]; exact z)]
    rfl
  | some m =>
    obtain ⟨v, ev, q⟩ := l.2 i m e
    have q : v = .str m := q
    rw [ev, q, List.getElem?_map, e]
    rfl
section
variable {K : PySem.W.Frag} {σ : L2.St} {ta tb te : TE} {tl th : TO} {H0 : Hp} {α : Type} {S : α → V → Hp → Prop} {as bs : List α} {x y : Str}
theorem evn_cut [∀ a, St (S a)] {lo hi : Option Int} (ha : EvV (Same H0) σ ta (isL S as)) (hl : EvO (Same H0) σ tl lo) (hh : EvO (Same H0) σ th hi) : EvNL H0 σ (tSl (rSlL K) ta tl th) S (cutA as lo hi) := fun H Q w k =>
  ha H _ w fun v H1 s1 w1 hv => hl H1 _ w1 fun H2 s2 w2 => hh H2 _ w2 fun H3 s3 w3 => by
    obtain ⟨D, us, rfl, hD, l⟩ := up (s2.trans s3) hv
    refine ⟨D, us, rfl, SqL.of hD, fun p np => ?_⟩
    have s4 : Same H3 (upd H3 p (.lst (cutV us lo hi))) := Same.new np
    have S3 := (s1.trans s2).trans s3
    exact k p _ _ (S3.free np) (S3.trans s4) upd_same ((l.cut lo hi).up s4)
theorem evn_cat [∀ a, St (S a)] (ha : EvV (Same H0) σ ta (isL S as)) (hb : EvV (Same H0) σ tb (isL S bs)) (n : as.length + bs.length ≤ 1000) : EvNL H0 σ (tOp rCat ta tb) S (as ++ bs) := fun H Q w k =>
  ha H _ w fun v H1 s1 w1 hv => hb H1 _ w1 fun u H2 s2 w2 hu => by
    obtain ⟨D, us, rfl, hD, l⟩ := up s2 hv
    obtain ⟨B, vs, rfl, hB, m⟩ := hu
    refine ⟨D, B, us, vs, rfl, rfl, hD, hB, Nat.le_trans (by rw [l.1, m.1]; exact n) (by decide), fun p np => ?_⟩
    have s4 : Same H2 (upd H2 p (.lst (us ++ vs))) := Same.new np
    exact k p _ _ ((s1.trans s2).free np) ((s1.trans s2).trans s4) upd_same ((l.app m).up s4)
theorem evn_rev [∀ a, St (S a)] (ha : EvV (Same H0) σ ta (isL S as)) : EvNL H0 σ (tRevL K ta) S as.reverse := fun H Q w k =>
  ha H _ w fun v H1 s1 w1 hv => by
    obtain ⟨D, us, rfl, hD, l⟩ := hv
    refine ⟨D, us, rfl, SqL.of hD, fun p np => ?_⟩
    have s4 : Same H1 (upd H1 p (.lst us.reverse)) := Same.new np
    exact k p _ _ (s1.free np) (s1.trans s4) upd_same (l.rev.up s4)
/-- an item of a list, of a tuple, by its number -/
theorem ev_ixL [∀ a, St (S a)] {n : Nat} {a : α} (e : as[n]? = some a) (ha : EvV (Same H0) σ ta (isL S as)) (hb : EvV (Same H0) σ tb (isIv (n : Int))) : EvV (Same H0) σ (tOp (rIxL K) ta tb) (S a) :=
  ev_o ha hb fun v u H Q w hv hu k => by
    obtain ⟨D, us, rfl, hD, l⟩ := hv
    cases hu
    obtain ⟨z, ez, r⟩ := l.2 n a e
    have lt : n < us.length := (List.getElem?_eq_some_iff.mp ez).1
    refine ⟨D, us, (n : Int), z, rfl, rfl, SqL.of hD, ?_, k z H (Same.refl H) r⟩
    show (ixN us.length (n : Int)).bind (fun j => us[j]?) = _
    have ei : ixN us.length (n : Int) = some n := by
      unfold ixN
      rw [if_pos (by omega), if_pos (by omega)]
      rfl
    rw [ei]
    exact ez
theorem ev_ixU [∀ a, St (S a)] {n : Nat} {a : α} (e : as[n]? = some a) (ha : EvV (Same H0) σ ta (isU S as)) (hb : EvV (Same H0) σ tb (isIv (n : Int))) : EvV (Same H0) σ (tOp (rIxT K) ta tb) (S a) :=
  ev_o ha hb fun v u H Q w hv hu k => by
    obtain ⟨D, us, rfl, hD, l⟩ := hv
    cases hu
    obtain ⟨z, ez, r⟩ := l.2 n a e
    have lt : n < us.length := (List.getElem?_eq_some_iff.mp ez).1
    refine ⟨D, us, (n : Int), z, rfl, rfl, SqT.of hD, ?_, k z H (Same.refl H) r⟩
    show (ixN us.length (n : Int)).bind (fun j => us[j]?) = _
    have ei : ixN us.length (n : Int) = some n := by
      unfold ixN
      rw [if_pos (by omega), if_pos (by omega)]
      rfl
    rw [ei]
    exact ez
/-- text.split(sep) -/
theorem evn_split (n : x.length ≤ 100000) (hy : (y.length == 0) = false) (ha : EvV (Same H0) σ ta (isSv x)) (hb : EvV (Same H0) σ tb (isSv y)) :
    EvNL H0 σ (tM1 (fun x xs H Q => ∃ a b, x = .str a ∧ xs = [.str b] ∧ (b.length == 0) = false ∧ a.length + 2 ≤ sizeLine ∧ rNewStrs (Txt.split a b) H Q) ta tb) isSv (Txt.split x y) := fun H Q w k =>
  ha H _ w fun v H1 s1 w1 e => ⟨⟨x, e⟩, hb H1 _ w1 fun u H2 s2 w2 e2 => by
    cases e
    cases e2
    refine ⟨x, y, rfl, rfl, hy, Nat.le_trans (Nat.add_le_add_right n 2) (by decide), fun p np => ?_⟩
    have s4 : Same H2 (upd H2 p (.lst ((Txt.split x y).map V.str))) := Same.new np
    exact k p _ _ ((s1.trans s2).free np) ((s1.trans s2).trans s4) upd_same (Ls.strs _)⟩
/-- sep.join(texts) -/
theorem ev_joinLs {L : List Str} (hy : y.length ≤ 4) (n : (L.map (·.length)).sum + L.length ≤ 100000) (ha : EvV (Same H0) σ ta (isSv y)) (hb : EvV (Same H0) σ tb (isSs L)) : EvV (Same H0) σ (tM1 (rJoinK K) ta tb) (isSv (Str.join y L)) := fun H Q w k =>
  ha H _ w fun v H1 s1 w1 e => ⟨⟨y, e⟩, hb H1 _ w1 fun u H2 s2 w2 hu => by
    cases e
    obtain ⟨D, us, rfl, hD, l⟩ := hu
    have el := l.toStrs
    subst el
    refine ⟨y, D, L, rfl, rfl, .inl (SqL.of hD), ?_, k _ H2 (s1.trans s2) w2 (by rw [join_eq]; rfl)⟩
    have z : L.length * y.length ≤ L.length * 4 := Nat.mul_le_mul_left _ hy
    refine Nat.le_trans (m := 500000) ?_ (by decide)
    first | omega | (rw [Nat.mul_comm]; omega) | (simp only [List.length_map]; omega)⟩
theorem EvNL.isL {S : α → V → Hp → Prop} (h : EvNL H0 σ te S as) : EvV (Same H0) σ te (isL S as) := h.ev
end
end V3

set_option Elab.async false
set_option linter.all false
set_option maxRecDepth 100000
namespace V3
open PySem L2 TL
abbrev sHouse : Stmt := top 32
abbrev sHouseText : Stmt := top 33
/-! the law's own houses: depth, check, rows in a tuple -/
def HtAt (H : Hp) (v : V) (h : Hs) : Prop := ∃ p q us, v = .ref p ∧ H p = some (.tup [.int h.d, .str h.ch, .ref q]) ∧ H q = some (.tup us) ∧ RowLs 0 H us h.rs
theorem HtAt.keep {H H' : Hp} {v : V} {h : Hs} (a : HtAt H v h) (s : Keep H H') : HtAt H' v h := by
  obtain ⟨p, q, us, e, hp, hq, rl⟩ := a
  exact ⟨p, q, us, e, s _ _ (fun _ z => by cases z) hp, s _ _ (fun _ z => by cases z) hq, rl.keep s⟩
theorem HtAt.same {H H' : Hp} {v : V} {h : Hs} (a : HtAt H v h) (s : Same H H') : HtAt H' v h := a.keep (Keep.of s)
theorem Keep.preb {H H' : Hp} {b : Addr} {u v : Int} (hb : H b = some (box u v)) (s : Pre b H H') : Keep H H' := Keep.pre hb s.1
theorem emp_app (a : Str) : Str.empty ++ a = a := ext_tl (by
  rw [tl_append]
  simp [Str.empty, tl])
def spHouse : Sp := fun vs H Q _ => ∃ (b : Addr) (u v n : Int), vs = [.ref b, .int n] ∧ H b = some (box u v) ∧ BoxOk u v ∧ 1 ≤ n ∧ n ≤ 99 ∧ ∀ (x : V) (h : Hs) (H' : Hp), Pre b H H' → HtAt H' x h → h.ok → (h.rs.length : Int) ≤ n → Q x H'
def spHouseText : Sp := fun vs H Q _ => ∃ (v : V) (h : Hs), vs = [v] ∧ HtAt H v h ∧ h.ok ∧ ∀ H', Same H H' → Q (.str h.text) H'
def spPlace : Sp := fun vs H Q _ => ∃ (v : V) (h : Hs) (k s d : Str), vs = [v, .str k, .str s, .str d] ∧ HtAt H v h ∧ h.ok ∧ k ∈ kindL ∧ s ∈ stateL ∧ d ∈ deedL ∧ ∀ H', Same H H' → Q (.str ((placeIn k s d h.rs).getD Str.empty)) H'
def spHouseOf (K : PySem.W.Frag) (c : Rc) (C : Addr) : Sp := fun vs H Q _ => ∃ (v : V) (h : Hs), vs = [v] ∧ HtAt H v h ∧ h.ok ∧ ∀ (x : V) (H' : Hp), Same H H' → HsAt K c C H' x h → Q x H'
abbrev CalCho (P : Program) (w : World) (K : PySem.W.Frag) (mg : Str → Option Value) (base : Heap) : Prop := Cal P w K mg base CX0 "_law_choose" 1 ["_law_box", "_law_many"] spChoose
abbrev CalRws (P : Program) (w : World) (K : PySem.W.Frag) (mg : Str → Option Value) (base : Heap) : Prop := Cal P w K mg base CX0 "_law_rows" 3 ["_law_box", "_law_many"] spRows
section
variable {P : Program} {w : World} {K : PySem.W.Frag} {mg : Str → Option Value} {base : Heap}
theorem scHouse : FnScope ["_law_box", "_law_many", "_law_depth"] ["_law_box", "_law_many"] (defScope sHouse) := ⟨rfl, rfl, rfl, by decide +kernel, rfl, by decide +kernel, by decide +kernel⟩
theorem scHouseText : FnScope ["_law_house_here", "_law_lines", "_law_row"] ["_law_house_here"] (defScope sHouseText) := ⟨rfl, rfl, rfl, by decide +kernel, rfl, by decide +kernel, by decide +kernel⟩
theorem ok_house {f : Addr} {fd : FuncData} (F : Fun K "_law_house" "_law_house" sHouse f fd) (zt : mg "tuple" = none) (cO : CalOne P w K mg base) (cC : CalCho P w K mg base) (cR : CalRws P w K mg base) : FnOk P w K mg base CX0 4 f fd ["_law_box", "_law_many"] spHouse := by
  obtain ⟨fO, fdO, GO, mO, kO, bO⟩ := cO
  obtain ⟨fC, fdC, GC, mC, kC, bC⟩ := cC
  obtain ⟨fR, fdR, GR, mR, kR, bR⟩ := cR
  refine F.ok scHouse (fun vs H Q E h => ?_) (fun cdv A outer s H vs Q E hr h => ?_)
  · obtain ⟨b, u, v, n, rfl, _⟩ := h
    rfl
  · obtain ⟨b, u, v, n, rfl, hb, bk, n1, n2, k⟩ := h
    refine ⟨_, pss_cons (ps_set (i := 2) scHouse.nd rfl (Or.inl rfl) (pe_call GO (hr.mono (by decide)) rfl mO kO bO .nil pass0 (pa_cons (pv 0) (pa_cons (pe_lst (pa_cons pe_int (pa_cons pe_int (pa_cons pe_int (pa_cons pe_int (pa_cons pe_int (pa_cons pe_int pa_nil))))))) pa_nil))))
      (pss_one (ps_ret (pe_tup (pa_cons (pv 2) (pa_cons (pe_call GO (hr.mono (by decide)) rfl mO kO bO .nil pass0 (pa_cons (pv 0) (pa_cons (pe_lst (pa_cons pe_str (pa_cons pe_str (pa_cons pe_str pa_nil)))) pa_nil)))
        (pa_cons (pe_callTy call_tuple_of (by rfl) zt (by decide +kernel) (pa_cons (pe_call GR (hr.mono (by decide)) rfl mR kR bR .nil pass0 (pa_cons (pv 0) (pa_cons (pe_op op_add pe_int (pe_call GC (hr.mono (by decide)) rfl mC kC bC .nil pass0 (pa_cons (pv 0) (pa_cons (pv 1) pa_nil)))) pa_nil))) pa_nil)) pa_nil)))))), ?_⟩
    refine ⟨_, rfl, (by show 6 ≤ sizeLine; decide), fun l1 nl1 => oneOf_new hb bk nl1 (by decide) (by decide) fun x1 H1 i1 p1 => ?_⟩
    have hx1 : ∃ d : Int, x1 = .int d ∧ 0 ≤ d ∧ d ≤ 4 := by
      simp only [List.mem_cons, List.not_mem_nil, or_false] at i1
      rcases i1 with rfl | rfl | rfl | rfl | rfl | rfl <;> exact ⟨_, rfl, by decide, by decide⟩
    obtain ⟨d, rfl, d0, d4⟩ := hx1
    obtain ⟨_, u1, v1, bk1, hb1⟩ := id p1
    refine ⟨_, rfl, _, rfl, (by show 3 ≤ sizeLine; decide), fun l2 nl2 => ?_⟩
    dsimp only [tNil]
    refine oneOf_new hb1 bk1 nl2 (by decide) (by decide) fun x2 H2 i2 p2 => ?_
    have hx2 : ∃ z : Str, x2 = .str z ∧ z ∈ checkL := by
      simp only [List.mem_cons, List.not_mem_nil, or_false] at i2
      rcases i2 with rfl | rfl | rfl <;> exact ⟨_, rfl, by decide +kernel⟩
    obtain ⟨ch, rfl, hc⟩ := hx2
    obtain ⟨_, u2, v2, bk2, hb2⟩ := id p2
    refine ⟨_, rfl, _, rfl, _, rfl, b, u2, v2, n, rfl, hb2, bk2, n1, by omega, fun e u3 v3 e0 e1 bk3 => ?_⟩
    have p3 : Pre b H2 (upd H2 b (box u3 v3)) := Pre.box bk3
    have hb3 : upd H2 b (box u3 v3) b = some (box u3 v3) := upd_same
    dsimp only [tNil]
    generalize upd H2 b (box u3 v3) = H3 at p3 hb3 ⊢
    refine ⟨_, _, rfl, rfl, b, u3, v3, 1 + e, rfl, hb3, bk3, by omega, by omega, fun D xs ms H4 p4 hD nD hs rl lm => ?_⟩
    refine ⟨D, xs, rfl, .inl ⟨SqL.of hD, fun t nt => ?_⟩⟩
    obtain ⟨_, u4, v4, bk4, hb4⟩ := id p4
    have s5 : Same H4 (upd H4 t (.tup xs)) := Same.new nt
    have ht : upd H4 t (.tup xs) t = some (.tup xs) := upd_same
    generalize upd H4 t (.tup xs) = H5 at s5 ht ⊢
    refine ⟨(by show 3 ≤ sizeLine; decide), fun t2 nt2 => ?_⟩
    have s6 : Same H5 (upd H5 t2 (.tup [.int d, .str ch, .ref t])) := Same.new nt2
    refine k _ ⟨d, ch, ms⟩ _ (((((p1.trans p2).trans p3).trans p4).then s5).then s6) ⟨t2, t, xs, rfl, upd_same, s6 _ _ ht, (rl.keep (Keep.of s5)).keep (Keep.of s6)⟩ ⟨d0, d4, hc, fun m hm => ?_, by show ms.length ≤ 100; omega⟩ (by show (ms.length : Int) ≤ n; omega)
    obtain ⟨i, hi⟩ := List.getElem?_of_mem hm
    obtain ⟨_, _, z⟩ := rl.2 i m hi
    exact z.2
theorem ok_houseText {f : Addr} {fd : FuncData} (F : Fun K "_law_house_text" "_law_house_text" sHouseText f fd) (zs : mg "str" = none) : FnOk P w K mg base CX0 1 f fd ["_law_house_here"] spHouseText := by
  refine F.ok scHouseText (fun vs H Q E h => ?_) (fun cdv A outer s H vs Q E hr h => ?_)
  · obtain ⟨v, h, rfl, _⟩ := h
    rfl
  · obtain ⟨v, h, rfl, ⟨p, q, us, rfl, hp, hq, rl⟩, ok, k⟩ := h
    have lall := lines_len ok
    have ln := lines_n ok
    obtain ⟨d0, d4, hc, hm, hn⟩ := id ok
    refine ⟨_, pss_cons (ps_set (i := 1) scHouseText.nd rfl (Or.inl rfl) (pe_lst (pa_cons (pe_op op_add_str pe_str (pe_callTy call_str_int (by rfl) zs (by decide +kernel) (pa_cons (pe_ix ix_tup (pv 0) pe_int (fun _ _ => rfl)) pa_nil))) (pa_cons (pe_op op_add_str pe_str (pe_ix ix_tup (pv 0) pe_int (fun _ _ => rfl))) pa_nil))))
      (pss_one (ps_ret (pe_joinK pe_str (pe_op op_cat (pv 1) (pe_lc (own := [("_law_row", 2)]) (g := gName 2) (tt := tYes) (te := tM1 (rJoinK K) (tC (.str " ")) (tVar 2)) (by rfl) scHouseText.nd (pi_tup (pe_ix ix_tup (pv 0) pe_int (fun _ _ => rfl))) (blkOk_by (own := [("_law_row", 2)]) (N := ["_law_house_here", "_law_lines", "_law_row"]) (sc := defScope sHouseText) (by decide +kernel)) (fun _ _ _ _ _ => pg_name (i := 2) scHouseText.nd rfl (Or.inl rfl)) (fun _ _ _ _ _ => pts_nil)
          (fun _ _ _ _ _ => pe_joinK pe_str (pv 2))))))), ?_⟩
    have am : Am h.d := by
      have z : h.d = 0 ∨ h.d = 1 ∨ h.d = 2 ∨ h.d = 3 ∨ h.d = 4 := by omega
      rcases z with z | z | z | z | z <;> (rw [z]; unfold Am; decide)
    have e1 : ("depth " : Str).length = 6 := by decide +kernel
    have e2 : ("check " : Str).length = 6 := by decide +kernel
    have n1 := num_dep d0 d4
    have n2 := ch_len hc
    refine ⟨_, rfl, p, _, 0, _, rfl, rfl, SqT.of hp, rfl, h.d, rfl, am_log am, _, _, rfl, rfl, small ?_, ?_⟩
    · show ("depth " : Str).length + (num h.d).length ≤ 10000
      omega
    refine ⟨_, rfl, p, _, 1, _, rfl, rfl, SqT.of hp, rfl, _, _, rfl, rfl, small ?_, (by show 2 ≤ sizeLine; decide), fun l nl => ?_⟩
    · show ("check " : Str).length + h.ch.length ≤ 10000
      omega
    have s1 : Same H (upd H l (.lst [.str ("depth " ++ Str.ofString (toString h.d)), .str ("check " ++ h.ch)])) := Same.new nl
    have hl : upd H l (.lst [.str ("depth " ++ Str.ofString (toString h.d)), .str ("check " ++ h.ch)]) l = some (.lst [.str ("depth " ++ Str.ofString (toString h.d)), .str ("check " ++ h.ch)]) := upd_same
    dsimp only [gName]
    generalize upd H l (.lst [.str ("depth " ++ Str.ofString (toString h.d)), .str ("check " ++ h.ch)]) = H1 at s1 hl ⊢
    have hp1 := s1 _ _ hp
    have hq1 := s1 _ _ hq
    have rl1 : RowLs 0 H1 us h.rs := rl.keep (Keep.of s1)
    have lx : us.length = h.rs.length := rl.1
    refine ⟨⟨_, rfl⟩, _, rfl, _, rfl, p, _, 2, _, rfl, rfl, SqT.of hp1, rfl, q, rfl, ⟨us, SqT.of hq1⟩, fun D nD => ?_⟩
    refine lc_tup (K := K) (a := q) (xs := us) (fun i Hh => Same H1 Hh ∧ H1 D = none ∧ Hh D = some (.lst (((h.rs.take i).map Rw.text).map V.str))) ⟨Same.new nD, nD, upd_same⟩ (fun i Hh _ z => SqT.of (z.1 _ _ hq1)) ?_ ?_
    · rintro i z Hh hi ⟨s2, nD1, hD⟩
      have il : i < us.length := (List.getElem?_eq_some_iff.mp hi).1
      obtain ⟨m, em, tm, mo, mk⟩ := Ls.get rl1 hi
      obtain ⟨t, rfl, ht⟩ := tm.same s2
      have tl0 := lt_len mo mk
      refine ⟨rfl, ?_⟩
      unfold tYes
      dsimp only
      cases m with
      | ct _ _ _ => cases mk
      | lt k' s' d' p' =>
        have lw : ∀ z ∈ (Rw.lt k' s' d' p').words, z.length ≤ 6 := fun z hz => (word_ok mo z hz).2
        simp only [Rw.words, List.mem_cons, List.not_mem_nil, or_false, forall_eq_or_imp, forall_eq] at lw
        obtain ⟨l1, l2, l3, l4⟩ := lw
        have lb : (" " : Str).length = 1 := by decide +kernel
        refine iteT ⟨⟨_, rfl⟩, _, rfl, _, t, [k', s', d', p'], rfl, rfl, .inr (SqT.of ht), ?_, _, hD, ?_, fun b o e => ?_, nD1, ?_⟩
        · simp only [List.map, List.sum_cons, List.sum_nil, List.length_cons, List.length_nil, lb]
          omega
        · rw [List.length_map, List.length_map, List.length_take]
          exact Nat.lt_of_lt_of_le (m := 1001) (by omega) (by decide)
        · rw [upd_ne (ne_of_none e nD1)]
          exact s2 b o e
        · have e : Txt.join (" " : Str) [k', s', d', p'] = (Rw.lt k' s' d' p').text := join_eq _ _
          rw [upd_same, take_nxt em, List.map_append, List.map_append, e]
          rfl
    · rintro Hh ⟨s2, nD1, hD⟩
      rw [lx, List.take_length] at hD
      refine ⟨l, D, _, _, rfl, rfl, s2 _ _ hl, hD, ?_, fun t nt => ⟨_, t, h.lines, rfl, rfl, .inl (SqL.of ?_), ?_, ?_⟩⟩
      · simp only [List.length_map, List.length_cons, List.length_nil]
        exact Nat.le_trans (m := 1001) (by omega) (by decide)
      · rw [upd_same]
        unfold Hs.lines
        rw [emp_app, emp_app]
        rfl
      · have z := sum_le h.lines lall
        have e3 : ("\n" : Str).length = 1 := by decide +kernel
        rw [e3]
        omega
      · rw [join_eq]
        exact k _ ((s1.trans s2).trans (Same.new nt))
end
end V3

set_option Elab.async false
set_option linter.all false
set_option maxRecDepth 100000
/-! House.read -/
namespace V3
open PySem L2 TL
abbrev sReadRow : Stmt := top 24
abbrev sStand : Stmt := top 23
abbrev sHsRead : Stmt := inClass (top 19) 1
structure HsL (K : PySem.W.Frag) (mg : Str → Option Value) (EA LA : Addr) : Prop where
  lines : mg "CHECK_LINES" = some (.ref LA)
  oE : ∃ o, K.lookup EA = some o ∧ o.cls = .type "tuple" ∧ o.dict = none
  oL : ∃ o, K.lookup LA = some o ∧ o.cls = .type "tuple" ∧ o.dict = none
  tL : ∀ H, SqT K H LA (checkLn.map V.str)
def spWordA : Sp := fun vs H Q _ => ∃ k s d p : Str, vs = [.str k, .str s, .str d, .str p] ∧ ∀ v H', Same H H' → ((rowB k s d p = true ∧ v = .non) ∨ (rowB k s d p = false ∧ ∃ z, v = .str z)) → Q v H'
def spReadRow (c : Rc) : Sp := fun vs H Q _ => ∃ x : Str, vs = [.str x] ∧ x.length ≤ 100000 ∧ (rowOf x = none → ∀ H', Same H H' → Q .non H') ∧ ∀ m, rowOf x = some m → ∀ y H', Same H H' → RwAt c H' y m → Q y H'
def spStand : Sp := fun vs H Q _ => ∃ (x : Str) (j : Nat), vs = [.str x, .int (j : Int)] ∧ x.length ≤ 100000 ∧ ∀ H', Same H H' → Q (.bl (standB j x)) H'
def spHsRead (K : PySem.W.Frag) (c : Rc) (C CT : Addr) : Sp := fun vs H Q E => ∃ t : Str, vs = [.ref C, .str t] ∧ t.length ≤ 100000 ∧ (Txt.split t nlS).length ≤ 102 ∧
  (badLine (Txt.split t nlS) = none → ∀ g : Hs, g.ok → g.lines = Txt.split t nlS → ∀ x H', Same H H' → HsAt K c C H' x g → Q x H') ∧ ∀ i : Nat, badLine (Txt.split t nlS) = some i → ErI CT H E (i : Int)
section
variable {P : Program} {w : World} {K : PySem.W.Frag} {mg : Str → Option Value} {base : Heap} {KA SA DA PA CA EA LA : Addr}
theorem scReadRow : FnScope ["text", "words", "kind", "state", "deed", "place"] ["text"] (defScope sReadRow) := ⟨rfl, rfl, rfl, by decide +kernel, rfl, by decide +kernel, by decide +kernel⟩
theorem scStand : FnScope ["line", "at"] ["line", "at"] (defScope sStand) := ⟨rfl, rfl, rfl, by decide +kernel, rfl, by decide +kernel, by decide +kernel⟩
theorem scHsRead : FnScope ["cls", "text", "lines", "at", "line", "rows"] ["cls", "text"] (defScope sHsRead) := ⟨rfl, rfl, rfl, by decide +kernel, rfl, by decide +kernel, by decide +kernel⟩
theorem ok_wordA {f : Addr} {fd : FuncData} (F : Fun K "wrong_word" "wrong_word" sWrongWord f fd) (T : RowH K mg KA SA DA PA) : FnOk P w K mg base CX0 1 f fd ["kind", "state", "deed", "place"] spWordA := by
  refine F.ok scWord (fun vs H Q E h => ?_) (fun cdv A outer s H vs Q E hr h => ?_)
  · obtain ⟨k, s, d, p, rfl, _⟩ := h
    rfl
  · obtain ⟨k, s, d, p, rfl, q⟩ := h
    refine ⟨_, pss_cons (ps_if (pt_cmpR op_notIn_seq (pv 0) (pe_glob (v := .ref KA) rfl T.kinds rfl) rfl) (pss_one (ps_ret pe_str)) pss_nil)
      (pss_cons (ps_if (pt_cmpR op_notIn_seq (pv 1) (pe_glob (v := .ref SA) rfl T.states rfl) rfl) (pss_one (ps_ret pe_str)) pss_nil)
      (pss_cons (ps_if (PW.pt (pw_or (pt_cmpR op_notIn_seq (pv 2) (pe_glob (v := .ref DA) rfl T.deeds rfl) rfl) (pw_or1 (PW.pt (pw_and (pt_cmpR op_eq (pv 2) pe_str (nomark _)) (pw_and1 (pt_cmpR op_in_seq (pv 0) (pe_tup (pa_cons pe_str (pa_cons pe_str pa_nil))) rfl))))))) (pss_one (ps_ret pe_str)) pss_nil)
      (pss_cons (ps_if (pt_cmpR op_notIn_seq (pv 3) (pe_glob (v := .ref PA) rfl T.places rfl) rfl) (pss_one (ps_ret pe_str)) pss_nil)
      (pss_one (ps_ret pe_non))))), ?_⟩
    have bad : ∀ (z : Str) (H' : Hp), Same H H' → rowB k s d p = false → Q (.str z) H' := fun z H' sm e => q _ _ sm (.inr ⟨e, z, rfl⟩)
    refine ⟨_, rfl, KA, _, rfl, .inr (T.tK _), rfl, flat_strs _, _, rfl, ?_⟩
    rw [inV_str]
    by_cases k1 : k ∈ kindL
    case neg =>
      rw [decide_eq_false k1]
      exact iteT (bad _ _ (Same.refl H) (by unfold rowB; rw [decide_eq_false k1]; rfl))
    rw [decide_eq_true k1]
    refine iteF ⟨_, rfl, SA, _, rfl, .inr (T.tS _), rfl, flat_strs _, _, rfl, ?_⟩
    rw [inV_str]
    by_cases s1 : s ∈ stateL
    case neg =>
      rw [decide_eq_false s1]
      exact iteT (bad _ _ (Same.refl H) (by unfold rowB; rw [decide_eq_false s1, Bool.false_and, Bool.and_false]))
    rw [decide_eq_true s1]
    refine iteF ⟨_, rfl, DA, _, rfl, .inr (T.tD _), rfl, flat_strs _, _, rfl, ?_⟩
    rw [inV_str]
    by_cases d1 : d ∈ deedL
    case neg =>
      rw [decide_eq_false d1]
      exact iteT (bad _ _ (Same.refl H) (by unfold rowB; rw [decide_eq_false d1, Bool.false_and, Bool.and_false, Bool.and_false]))
    rw [decide_eq_true d1]
    refine iteF ⟨_, rfl, rfl, _, rfl, ?_⟩
    have last : ∀ H', Same H H' → (d = "right" → k = "first" ∨ k = "new") → (∃ b, V.bl (decide (p ∈ placeL)) = V.bl b ∧ True) → True := fun _ _ _ _ => trivial
    have fin : ∀ H', Same H H' → (!decide (d = "right") || (decide (k = "first") || decide (k = "new"))) = true → tIfS (tTest (tOp (rIn K true) (tVar 3) (tC (.ref PA)))) (tRet (tC (.str "place"))) tNext { nx := fun _ H' => Q .non H', rt := Q } [some (.str k), some (.str s), some (.str d), some (.str p)] H' → True := fun _ _ _ _ => trivial
    by_cases e : d = "right"
    · subst e
      rw [decide_eq_true rfl]
      refine iteT ⟨_, rfl, (by show 2 ≤ sizeLine; decide), fun t nt => ⟨t, _, rfl, .inr (SqT.of upd_same), rfl, rfl, _, rfl, ?_⟩⟩
      have sm : Same H (upd H t (.tup [.str "minus", .str "plus"])) := Same.new nt
      have z2 : (if false = true then !inV (V.str k) [.str "minus", .str "plus"] else inV (V.str k) [.str "minus", .str "plus"]) = !(decide (k = "first") || decide (k = "new")) := by
        rw [if_neg Bool.false_ne_true]
        have q : ∀ k ∈ kindL, inV (V.str k) [.str "minus", .str "plus"] = !(decide (k = "first") || decide (k = "new")) := by decide +kernel
        exact q k k1
      rw [z2]
      cases fk : (decide (k = "first") || decide (k = "new")) with
      | false => exact iteT (bad _ _ sm (by unfold rowB; rw [fk]; simp))
      | true =>
        refine iteF ⟨_, rfl, PA, _, rfl, .inr (T.tP _), rfl, flat_strs _, _, rfl, ?_⟩
        rw [inV_str]
        by_cases p1 : p ∈ placeL
        · rw [decide_eq_true p1]
          exact iteF (q _ _ sm (.inl ⟨by unfold rowB; rw [fk, decide_eq_true k1, decide_eq_true s1, decide_eq_true d1, decide_eq_true p1]; simp, rfl⟩))
        · rw [decide_eq_false p1]
          exact iteT (bad _ _ sm (by unfold rowB; rw [decide_eq_false p1]; simp))
    · have e2 : decide (V.str d = V.str "right") = false := decide_eq_false (fun z => e (by injection z))
      rw [e2]
      refine iteF ⟨_, rfl, PA, _, rfl, .inr (T.tP _), rfl, flat_strs _, _, rfl, ?_⟩
      rw [inV_str]
      by_cases p1 : p ∈ placeL
      · rw [decide_eq_true p1]
        exact iteF (q _ _ (Same.refl H) (.inl ⟨by unfold rowB; rw [decide_eq_true k1, decide_eq_true s1, decide_eq_true d1, decide_eq_true p1, decide_eq_false e]; rfl, rfl⟩))
      · rw [decide_eq_false p1]
        exact iteT (bad _ _ (Same.refl H) (by unfold rowB; rw [decide_eq_false p1]; simp))
theorem at_n {us : List V} {n : Nat} {u : V} (h : us[n]? = some u) : atI us (n : Int) = some u := by
  have l := (List.getElem?_eq_some_iff.mp h).1
  show (ixN us.length (n : Int)).bind (fun j => us[j]?) = _
  have e : ixN us.length (n : Int) = some n := by
    unfold ixN
    rw [if_pos (by omega), if_pos (by omega)]
    rfl
  rw [e]
  exact h
theorem take4 {α : Type} {l : List α} (h : l.length = 4) : ∃ a b c d, l = [a, b, c, d] := by
  match l, h with
  | [a, b, c, d], _ => exact ⟨a, b, c, d, rfl⟩
theorem rowW_ne {l : List Str} (h : l.length ≠ 4) : rowW l = none := by
  match l, h with
  | [], _ => rfl
  | [_], _ => rfl
  | [_, _], _ => rfl
  | [_, _, _], _ => rfl
  | [_, _, _, _], h => exact absurd rfl h
  | _ :: _ :: _ :: _ :: _ :: _, _ => rfl
theorem ok_readRow {f : Addr} {c : Rc} {fd : FuncData} (F : Fun K "read_row" "read_row" sReadRow f fd) (zl : mg "len" = none) (cW : Cal P w K mg base CX0 "wrong_word" 1 ["kind", "state", "deed", "place"] spWordA) (M : MkR P w K mg base "Let" ["self", "kind", "state", "deed", "place"] c.L 3 (spLInit c)) :
    FnOk P w K mg base CX0 5 f fd ["text"] (spReadRow c) := by
  obtain ⟨fW, fdW, GW, mW, kW, bW⟩ := cW
  obtain ⟨f1, fd1, G1, M1, b1⟩ := M.ini
  refine F.ok scReadRow (fun vs H Q E h => ?_) (fun cdv A outer s H vs Q E hr h => ?_)
  · obtain ⟨x, rfl, _⟩ := h
    rfl
  · obtain ⟨x, rfl, n, q0, q1⟩ := h
    refine ⟨_, pss_cons (ps_set (i := 1) scReadRow.nd rfl (Or.inl rfl) (pe_split (pv 0) pe_str))
      (pss_cons (ps_if (pt_cmpR op_ne (pe_callB call_len_seq (by rfl) zl PySem.boot_len (pa_cons (pv 1) pa_nil)) pe_int (nomark _)) (pss_one (ps_ret pe_non)) pss_nil)
      (pss_cons (ps_asg (pv 1) (pg_lst rfl (pgs_cons (pg_name (i := 2) scReadRow.nd rfl (Or.inl rfl)) (pgs_cons (pg_name (i := 3) scReadRow.nd rfl (Or.inl rfl)) (pgs_cons (pg_name (i := 4) scReadRow.nd rfl (Or.inl rfl)) (pgs_cons (pg_name (i := 5) scReadRow.nd rfl (Or.inl rfl)) pgs_nil))))))
      (pss_one (ps_ret (pe_ifExp (pt_cmpR op_isN (pe_call GW (hr.mono (by decide)) rfl mW kW bW .nil pass0 (pa_cons (pv 2) (pa_cons (pv 3) (pa_cons (pv 4) (pa_cons (pv 5) pa_nil))))) pe_non (nomark _))
        (pe_make (E := E0) M1 G1 hr rfl M.g b1 .nil pass0 (pa_cons (pv 2) (pa_cons (pv 3) (pa_cons (pv 4) (pa_cons (pv 5) pa_nil))))) pe_non))))), ?_⟩
    refine ⟨_, rfl, ⟨_, rfl⟩, x, sp1, rfl, rfl, by decide +kernel, Nat.le_trans (Nat.add_le_add_right n 2) (by decide), fun p np => ?_⟩
    have s1 : Same H (upd H p (.lst ((Txt.split x sp1).map V.str))) := Same.new np
    have hp : upd H p (.lst ((Txt.split x sp1).map V.str)) p = some (.lst ((Txt.split x sp1).map V.str)) := upd_same
    generalize upd H p (.lst ((Txt.split x sp1).map V.str)) = H1 at s1 hp ⊢
    refine ⟨_, rfl, p, _, rfl, .inl (SqL.of hp), rfl, _, rfl, ?_⟩
    rw [List.length_map]
    by_cases l4 : (Txt.split x sp1).length = 4
    · have e : decide (V.int ((Txt.split x sp1).length : Int) = V.int 4) = true := decide_eq_true (by rw [l4]; rfl)
      rw [e]
      obtain ⟨k, st, d, pl, ew⟩ := take4 l4
      rw [ew] at hp
      refine iteF ⟨_, rfl, p, _, rfl, SqL.of hp, rfl, _, _, rfl, _, _, rfl, _, _, rfl, _, _, rfl, rfl, ?_⟩
      refine ⟨_, rfl, _, rfl, _, rfl, _, rfl, k, st, d, pl, rfl, fun v H2 s2 hv => ?_⟩
      have er : rowOf x = if rowB k st d pl = true then some (.lt k st d pl) else none := by
        unfold rowOf
        rw [ew]
        rfl
      rcases hv with ⟨eb, rfl⟩ | ⟨eb, z, rfl⟩
      · rw [if_pos eb] at er
        refine ⟨rfl, _, rfl, iteT ?_⟩
        refine ⟨_, rfl, _, rfl, _, rfl, _, rfl, fun y dy ny ndy ne => ?_⟩
        exact mk_let (rowB_iff.mp eb) ny ndy fun H' s' a => ⟨rfl, q1 _ er _ _ ((s1.trans s2).trans s') a⟩
      · rw [if_neg (by rw [eb]; exact Bool.false_ne_true)] at er
        refine ⟨rfl, _, rfl, iteF ?_⟩
        exact q0 er _ (s1.trans s2)
    · have e : decide (V.int ((Txt.split x sp1).length : Int) = V.int 4) = false := decide_eq_false (fun z => l4 (by injection z with z; omega))
      rw [e]
      exact iteT (q0 (rowW_ne l4) _ s1)
theorem ok_stand {f : Addr} {c : Rc} {fd : FuncData} (F : Fun K "can_stand" "can_stand" sStand f fd) (X : HsT K mg CA EA) (L : HsL K mg EA LA) (cR : Cal P w K mg base CX0 "read_row" 5 ["text"] (spReadRow c)) : FnOk P w K mg base CX0 6 f fd ["line", "at"] spStand := by
  obtain ⟨fR, fdR, GR, mR, kR, bR⟩ := cR
  refine F.ok scStand (fun vs H Q E h => ?_) (fun cdv A outer s H vs Q E hr h => ?_)
  · obtain ⟨x, j, rfl, _⟩ := h
    rfl
  · obtain ⟨x, j, rfl, n, k⟩ := h
    refine ⟨_, pss_cons (ps_if (pt_cmpR op_eq (pv 1) pe_int (nomark _)) (pss_one (ps_ret (pe_cmpR op_in_seq (pv 0) (pe_glob (v := .ref EA) rfl X.depths rfl) rfl))) pss_nil)
      (pss_cons (ps_if (pt_cmpR op_eq (pv 1) pe_int (nomark _)) (pss_one (ps_ret (pe_cmpR op_in_seq (pv 0) (pe_glob (v := .ref LA) rfl L.lines rfl) rfl))) pss_nil)
      (pss_one (ps_ret (pe_cmpR op_notN (pe_call GR hr rfl mR kR bR .nil pass0 (pa_cons (pv 0) pa_nil)) pe_non (nomark _))))), ?_⟩
    have hk := k
    unfold standB at hk
    refine ⟨_, rfl, rfl, _, rfl, ?_⟩
    by_cases j0 : j = 0
    · subst j0
      rw [show decide (V.int ((0 : Nat) : Int) = V.int 0) = true from decide_eq_true rfl]
      refine iteT ⟨_, rfl, EA, _, rfl, .inr (X.tD _), rfl, flat_strs _, ?_⟩
      rw [inV_str]
      exact hk H (Same.refl H)
    · rw [show decide (V.int ((j : Nat) : Int) = V.int 0) = false from decide_eq_false (fun z => j0 (by injection z with z; omega))]
      refine iteF ⟨_, rfl, rfl, _, rfl, ?_⟩
      rw [if_neg j0] at hk
      by_cases j1 : j = 1
      · subst j1
        rw [show decide (V.int ((1 : Nat) : Int) = V.int 1) = true from decide_eq_true rfl]
        refine iteT ⟨_, rfl, LA, _, rfl, .inr (L.tL _), rfl, flat_strs _, ?_⟩
        rw [inV_str]
        exact hk H (Same.refl H)
      · rw [show decide (V.int ((j : Nat) : Int) = V.int 1) = false from decide_eq_false (fun z => j1 (by injection z with z; omega))]
        rw [if_neg j1] at hk
        refine iteF ⟨_, rfl, x, rfl, n, fun e H' s' => ⟨rfl, ?_⟩, fun m e y H' s' hy => ?_⟩
        · rw [e] at hk
          exact hk H' s'
        · obtain ⟨z, dz, rfl, _⟩ := hy
          rw [e] at hk
          exact ⟨rfl, hk H' s'⟩
theorem ok_hsRead {f C CT : Addr} {c : Rc} {fd : FuncData} (F : Fun K "read" "House.read" sHsRead f fd) (T : BltK mg) (ze : mg "enumerate" = none) (X : HsT K mg CA EA) (L : HsL K mg EA LA) (M : MkH P w K mg base c C) (N : ItTxt P w K mg base CT)
    (cS : Cal P w K mg base CX0 "can_stand" 6 ["line", "at"] spStand) (cR : Cal P w K mg base CX0 "read_row" 5 ["text"] (spReadRow c)) : FnOk P w K mg base (L2.CX P w) 7 f fd ["cls", "text"] (spHsRead K c C CT) := by
  obtain ⟨fS, fdS, GS, mS, kS, bS⟩ := cS
  obtain ⟨fR, fdR, GR, mR, kR, bR⟩ := cR
  obtain ⟨fH, fdH, GH, MH, bH⟩ := M.ini
  obtain ⟨fI, fdI, GI, iI, tI, bI⟩ := N.ini
  refine F.okX scHsRead (fun vs H Q E h => ?_) (fun cdv A outer s H vs Q E hr h => ?_)
  · obtain ⟨t, rfl, _⟩ := h
    rfl
  · obtain ⟨t, rfl, n, ln, q0, q1⟩ := h
    refine ⟨_, pss_cons (ps_set (i := 2) scHsRead.nd rfl (Or.inl rfl) (pe_split (pv 1) pe_str))
      (pss_cons (ps_for (passes_of rfl) rfl (pi_enum (by rfl) ze (pa_cons (pv 2) pa_nil)) (pg_tup rfl (pgs_cons (pg_name (i := 3) scHsRead.nd rfl (Or.inl rfl)) (pgs_cons (pg_name (i := 4) scHsRead.nd rfl (Or.inl rfl)) pgs_nil)))
        (pss_one (ps_if (pt_not (pt_val (pe_call GS hr rfl mS kS bS .nil pass0 (pa_cons (pv 4) (pa_cons (pv 3) pa_nil))))) (pss_one (ps_raise rfl (takes_of rfl rfl rfl rfl) (pmk_oex N.o iI tI GI (hr.mono (by decide)) bI .nil pass0 rfl N.g (by exact (pa_cons (pv 3) pa_nil))))) pss_nil)))
      (pss_cons (ps_if (pt_cmpR op_lt (pe_callB call_len_seq (by rfl) T.len PySem.boot_len (pa_cons (pv 2) pa_nil)) pe_int (nomark _)) (pss_one (ps_raise rfl (takes_of rfl rfl rfl rfl) (pmk_oex N.o iI tI GI (hr.mono (by decide)) bI .nil pass0 rfl N.g (by exact (pa_cons (pe_callB call_len_seq (by rfl) T.len PySem.boot_len (pa_cons (pv 2) pa_nil)) pa_nil))))) pss_nil)
      (pss_cons (ps_setLc (i := 5) (own := [("line", 4)]) (g := gName 4) (tt := tYes) (te := tCall (spReadRow c) [] E0 (tCons (tVar 4) tNil)) (by rfl) scHsRead.nd rfl rfl (sw_true rfl rfl rfl (by decide +kernel)) (pi_list (pe_slice sl_list (pv 2) (po_some pe_int) po_none))
          (blkOk_by (own := [("line", 4)]) (N := ["cls", "text", "lines", "at", "line", "rows"]) (sc := defScope sHsRead) (by decide +kernel)) (fun _ _ _ _ _ => pg_name (i := 4) scHsRead.nd rfl (Or.inl rfl)) (fun _ _ _ _ _ => pts_nil)
          (fun _ _ _ _ _ => pe_call GR (hr.mono (by decide)) rfl mR kR bR .nil pass0 (pa_cons (pv 4) pa_nil)))
      (pss_one (ps_ret (pe_makeL (E := E0) (i := 0) MH GH (hr.mono (by decide)) rfl (Or.inl rfl) bH .nil pass0 (pa_cons (pe_bm PySem.F.plainAttrs_tuple PySem.F.slot_tuple_index PySem.F.type_tuple_index mt_tup_index (pe_glob (v := .ref EA) rfl X.depths rfl) (pa_cons (pe_ix ix_list (pv 2) pe_int (fun _ _ => rfl)) pa_nil))
        (pa_cons (pe_ix ix_tup (pe_glob (v := .ref CA) rfl X.checks rfl) (pe_bm PySem.F.plainAttrs_tuple PySem.F.slot_tuple_index PySem.F.type_tuple_index mt_tup_index (pe_glob (v := .ref LA) rfl L.lines rfl) (pa_cons (pe_ix ix_list (pv 2) pe_int (fun _ _ => rfl)) pa_nil)) (fun _ _ => rfl)) (pa_cons (pv 5) pa_nil))))))))), ?_⟩
    have wl : ∀ x ∈ Txt.split t nlS, x.length ≤ 100000 := fun x hx => by
      have a := wgt_mem hx
      have b := wgt_split t nlS (by decide +kernel)
      omega
    refine ⟨_, rfl, ⟨_, rfl⟩, t, nlS, rfl, rfl, by decide +kernel, Nat.le_trans (Nat.add_le_add_right n 2) (by decide), fun p np => ?_⟩
    generalize Txt.split t nlS = LL at ln q0 q1 wl np ⊢
    have s1 : Same H (upd H p (.lst (LL.map V.str))) := Same.new np
    have hp : upd H p (.lst (LL.map V.str)) p = some (.lst (LL.map V.str)) := upd_same
    generalize upd H p (.lst (LL.map V.str)) = H1 at s1 hp ⊢
    refine ⟨_, rfl, p, _, rfl, SqL.of hp, ?_⟩
    have lm : (LL.map V.str).length = LL.length := List.length_map ..
    refine for_it (walk_enum (K := K) (a := p) (xs := LL.map V.str)) (fun i σ Hh => (∃ o3 o4 o5, σ = [some (.ref C), some (.str t), some (.ref p), o3, o4, o5]) ∧ Same H1 Hh ∧ badFrom 0 LL = badFrom i (LL.drop i)) ⟨⟨_, _, _, rfl⟩, Same.refl _, rfl⟩ (fun i σ Hh _ q => SqL.of (q.2.1 _ _ hp)) ?_ ?_
    · rintro i v σ1 Hh Hh' hi ⟨⟨o3, o4, o5, rfl⟩, s2, bf⟩ ⟨T, x, y, rfl, nT, rfl, ex, ey⟩
      obtain rfl := (Option.some.inj ex)
      rw [lm] at hi
      have hx : LL[i]? = some LL[i] := List.getElem?_eq_getElem hi
      have ey2 : y = .str LL[i] := by
        dsimp only at ey
        rw [List.getElem?_map, hx] at ey
        exact (Option.some.inj ey).symm
      subst ey2
      refine ⟨T, _, rfl, SqT.of upd_same, rfl, _, _, rfl, ⟨_, _, rfl, rfl, ?_⟩⟩
      have sT : Same Hh (upd Hh T (.tup [.int (i : Nat), .str LL[i]])) := Same.new nT
      generalize upd Hh T (.tup [.int (i : Nat), .str LL[i]]) = H3 at sT ⊢
      refine ⟨_, rfl, _, rfl, _, i, rfl, wl _ (List.getElem_mem hi), fun H4 s4 => ⟨_, rfl, ?_⟩⟩
      have S4 := (s2.trans sT).trans s4
      have bf0 : badFrom 0 LL = badFrom (0 + i) (LL.drop i) := by rw [Nat.zero_add]; exact bf
      cases e : standB i LL[i] with
      | true =>
        refine iteF ⟨⟨_, _, _, rfl⟩, S4, ?_⟩
        have z := badFrom_step bf0 hx (by rw [Nat.zero_add]; exact e)
        rw [Nat.zero_add] at z
        exact z
      | false =>
        have z := badFrom_hit bf0 hx (by rw [Nat.zero_add]; exact e)
        rw [Nat.zero_add] at z
        have zz : badLine LL = some i := by
          unfold badLine
          rw [z]
        exact iteT ⟨_, rfl, (by show 1 ≤ 1000; decide), er_readI (fun d H2 s5 hd => q1 i zz d H2 ((s1.trans S4).trans s5) hd)⟩
    · rintro σ1 H2 ⟨⟨o3, o4, o5, rfl⟩, s2, bf⟩
      rw [lm, List.drop_length] at bf
      have bf : badFrom 0 LL = none := bf
      have hp2 := s2 _ _ hp
      refine ⟨_, rfl, p, _, rfl, .inl (SqL.of hp2), _, _, rfl, rfl, _, rfl, ?_⟩
      rw [lm]
      by_cases l2 : LL.length < 2
      · rw [decide_eq_true (show (LL.length : Int) < 2 by omega)]
        have zz : badLine LL = some LL.length := by
          unfold badLine
          rw [bf]
          show (if LL.length < 2 then some LL.length else none) = _
          rw [if_pos l2]
        refine iteT ⟨_, rfl, p, _, rfl, .inl (SqL.of hp2), (by show 1 ≤ 1000; decide), ?_⟩
        rw [lm]
        exact er_readI (fun d H3 s5 hd => q1 _ zz d H3 ((s1.trans s2).trans s5) hd)
      · rw [decide_eq_false (show ¬ (LL.length : Int) < 2 by omega)]
        have zz : badLine LL = none := by
          unfold badLine
          rw [bf]
          show (if LL.length < 2 then some LL.length else none) = _
          rw [if_neg l2]
        obtain ⟨g, j, i, a, b, go, gl, gd, ea, eb, da, dn, cb, cn, cc, rw_⟩ := house_of zz ln
        refine iteF ⟨_, rfl, 2, rfl, p, _, rfl, SqL.of hp2, fun p2 np2 => ?_⟩
        have ec : cutV (LL.map V.str) (some 2) none = (LL.drop 2).map V.str := by
          have z := cutA_from (LL.map V.str) 2
          rw [List.map_drop]
          exact z
        rw [ec]
        have s3 : Same H2 (upd H2 p2 (.lst ((LL.drop 2).map V.str))) := Same.new np2
        have hp3 := s3 _ _ hp2
        have h2 : upd H2 p2 (.lst ((LL.drop 2).map V.str)) p2 = some (.lst ((LL.drop 2).map V.str)) := upd_same
        generalize upd H2 p2 (.lst ((LL.drop 2).map V.str)) = H3 at s3 hp3 h2 ⊢
        have lr : (LL.drop 2).length = g.rs.length := by
          have z := congrArg List.length rw_
          rw [List.length_map, List.length_map] at z
          exact z
        refine ⟨p2, rfl, ⟨_, SqL.of h2⟩, fun D nD => ?_⟩
        refine lc_list (K := K) (a := p2) (xs := (LL.drop 2).map V.str) (fun i Hh => Same H3 Hh ∧ H3 D = none ∧ ∃ acc, Hh D = some (.lst acc) ∧ RwLs c Hh acc (g.rs.take i)) ⟨Same.new nD, nD, [], upd_same, Ls.nil⟩ (fun i Hh _ q => SqL.of (q.1 _ _ h2)) ?_ ?_
        · rintro i z Hh hi ⟨s4, nD, acc, hD, ra⟩
          rw [List.getElem?_map] at hi
          obtain ⟨x, hx, rfl⟩ := Option.map_eq_some_iff.mp hi
          have er : ∃ m, g.rs[i]? = some m ∧ rowOf x = some m := by
            have z := congrArg (fun l => l[i]?) rw_
            rw [List.getElem?_map, List.getElem?_map, hx] at z
            cases em : g.rs[i]? with
            | none => rw [em] at z; cases z
            | some m =>
              rw [em] at z
              exact ⟨m, rfl, Option.some.inj z⟩
          obtain ⟨m, em, ex⟩ := er
          have xm : x ∈ LL := List.mem_of_mem_drop (List.mem_of_getElem? hx)
          have il : i < g.rs.length := (List.getElem?_eq_some_iff.mp em).1
          have rn := go.2.2.2.2
          refine ⟨rfl, ?_⟩
          unfold tYes
          dsimp only
          refine iteT ⟨_, rfl, x, rfl, wl _ xm, (fun e => by rw [ex] at e; cases e), fun m' e y H' s5 hy => ?_⟩
          rw [ex] at e
          obtain rfl := Option.some.inj e
          have hD5 := s5 _ _ hD
          have kl : Keep H' (upd H' D (.lst (acc ++ [y]))) := Keep.lst hD5
          refine ⟨acc, hD5, ?_, fun b o e => ?_, nD, _, upd_same, ?_⟩
          · have z1 : acc.length = (g.rs.take i).length := ra.1
            rw [List.length_take] at z1
            exact Nat.lt_of_lt_of_le (m := 101) (by omega) (by decide)
          · rw [upd_ne (ne_of_none e nD)]
            exact s5 b o (s4 b o e)
          · rw [take_nxt em]
            exact ((ra.same s5).keep kl).push (hy.keep kl)
        · rintro H4 ⟨s4, nD, acc, hD, ra⟩
          rw [List.length_map, lr, List.take_length] at ra
          have hp4 := s4 _ _ hp3
          have at0 : atI (LL.map V.str) 0 = some (.str a) := at_n (us := LL.map V.str) (n := 0) (by rw [List.getElem?_map, ea]; rfl)
          have at1 : atI (LL.map V.str) 1 = some (.str b) := at_n (us := LL.map V.str) (n := 1) (by rw [List.getElem?_map, eb]; rfl)
          have atc : atI (checkL.map V.str) (i : Int) = some (.str g.ch) := at_n (by rw [List.getElem?_map, cc]; rfl)
          refine ⟨rfl, .inr (.inl ⟨rfl, L.oE⟩), _, rfl, p, _, 0, _, rfl, rfl, SqL.of hp4, at0, EA, depthL, a, j, rfl, rfl, X.tD _, da, dn, .inr (.inl ⟨rfl, L.oL⟩), _, rfl, p, _, 1, _, rfl, rfl, SqL.of hp4, at1, LA, checkLn, b, i, rfl, rfl, L.tL _, cb, cn, CA, _, (i : Int), _, rfl, rfl, X.tC _, atc, _, rfl, fun y dy ny ndy _ => ?_⟩
          have z := mk_house (K := K) (c := c) (C := C) (h := g) (R := fun v H' => v = .non ∧ Q (.ref y) H') (E := E0) hD ra go ny ndy fun H' s' a => ⟨rfl, q0 zz g go gl _ _ ((((s1.trans s2).trans s3).trans s4).trans s') a⟩
          rw [gd] at z
          exact z
end
end V3

set_option Elab.async false
set_option linter.all false
set_option maxRecDepth 100000
/-! in, str of a number, enumerate, != of scalars, answered; a class method within a try -/
namespace V3
open PySem L2 TL
theorem inV_strE {k : Str} {L : List Str} : inV (.str k) (L.map V.str) = decide (k ∈ L) := by
  induction L with
  | nil => rfl
  | cons a r ih =>
    have e : inV (.str k) ((a :: r).map V.str) = (a == k || inV (.str k) (r.map V.str)) := rfl
    rw [e, ih]
    by_cases q : k = a
    · subst q
      simp
    · have z : (a == k) = false := Bool.eq_false_iff.mpr fun w => q (eq_of_beq w).symm
      rw [z]
      simp [q]
theorem flat_strE (L : List Str) : (L.map V.str).all flatV = true := by
  induction L with
  | nil => rfl
  | cons a r ih => simpa [flatV] using ih
def negB (neg b : Bool) : Bool := if neg then !b else b
section
variable {K : PySem.W.Frag} {σ : L2.St} {ta tb te : TE} {ts : TA} {H0 : Hp} {R : V → Hp → Prop} {x : Str} {L : List Str} {i : Int} {neg : Bool} {u v : V}
theorem ev_inL (ha : EvV (Same H0) σ ta (isSv x)) (hb : EvV (Same H0) σ tb (isSs L)) : EvV (Same H0) σ (tOp (rIn K neg) ta tb) (isBv (negB neg (decide (x ∈ L)))) :=
  ev_o ha hb fun a b H Q w ea hb k => by
    cases ea
    obtain ⟨D, us, rfl, hD, l⟩ := hb
    have e := l.toStrs
    subst e
    exact ⟨D, _, rfl, .inl (SqL.of hD), rfl, flat_strE _, k _ H (Same.refl H) (by rw [inV_strE]; rfl)⟩
theorem ev_inT (ha : EvV (Same H0) σ ta (isSv x)) (hb : EvV (Same H0) σ tb (isU isSv L)) : EvV (Same H0) σ (tOp (rIn K neg) ta tb) (isBv (negB neg (decide (x ∈ L)))) :=
  ev_o ha hb fun a b H Q w ea hb k => by
    cases ea
    obtain ⟨D, us, rfl, hD, l⟩ := hb
    have e := l.toStrs
    subst e
    exact ⟨D, _, rfl, .inr (SqT.of hD), rfl, flat_strE _, k _ H (Same.refl H) (by rw [inV_strE]; rfl)⟩
theorem ev_num (am : i.natAbs.log2 < 1920) (ha : EvV (Same H0) σ ta (isIv i)) : EvV (Same H0) σ (tCB (fun xs H Q => ∃ i, xs = [.int i] ∧ i.natAbs.log2 < 1920 ∧ Q (.str (toString i)) H) (tCons ta tNil)) (isSv (toString i)) := fun H Q w k =>
  ha H _ w fun y H1 s1 w1 e => by
    cases e
    exact ⟨i, rfl, am, k _ H1 s1 w1 rfl⟩
theorem ev_neV (sc : scal u v = true) (ha : EvV (Same H0) σ ta (isVv u)) (hb : EvV (Same H0) σ tb (isVv v)) : EvV (Same H0) σ (tOp rNe ta tb) (isBv (!decide (u = v))) :=
  ev_o ha hb fun a b H Q w ea eb k => by
    cases ea
    cases eb
    exact ⟨sc, k _ H (Same.refl H) rfl⟩
theorem ev_eqV (sc : scal u v = true) (ha : EvV (Same H0) σ ta (isVv u)) (hb : EvV (Same H0) σ tb (isVv v)) : EvV (Same H0) σ (tOp rEq ta tb) (isBv (decide (u = v))) :=
  ev_o ha hb fun a b H Q w ea eb k => by
    cases ea
    cases eb
    exact ⟨sc, k _ H (Same.refl H) rfl⟩
theorem ev_isN (ha : EvV (Same H0) σ ta (isVv u)) : EvV (Same H0) σ (tOp (fun x y H Q => y = V.non ∧ Q (.bl (decide (x = .non))) H) ta (tC .non)) (isBv (decide (u = .non))) :=
  ev_o (Ra := isVv u) (Rb := isVv .non) ha ev_c fun a b H Q w ea eb k => by
    cases ea
    cases eb
    exact ⟨rfl, k _ H (Same.refl H) rfl⟩
/-- an if, either way -/
theorem if_b {c : TT} {t u : TS} {D : Ends} {H : Hp} {b : Bool} (w : Same H0 H) (h : EvB (Same H0) σ c b) (kt : b = true → ∀ H', Same H H' → t D σ H') (kf : b = false → ∀ H', Same H H' → u D σ H') : tIfS c t u D σ H := h H _ w fun H' s _ => by
  cases b with
  | true => exact iteT (kt rfl H' s)
  | false => exact iteF (kf rfl H' s)
/-- pairs of places and items -/
def enumF {α : Type} : Nat → List α → List (Nat × α)
  | _, [] => []
  | j, x :: r => (j, x) :: enumF (j + 1) r
theorem enumF_len {α : Type} : ∀ {L : List α} {j : Nat}, (enumF j L).length = L.length
  | [], _ => rfl
  | _ :: r, j => by
    show (enumF (j + 1) r).length + 1 = r.length + 1
    rw [enumF_len]
theorem enumF_get {α : Type} : ∀ {L : List α} {j i : Nat}, (enumF j L)[i]? = L[i]?.map fun x => (j + i, x)
  | [], _, _ => by simp [enumF]
  | x :: r, j, 0 => rfl
  | x :: r, j, i + 1 => by
    show (enumF (j + 1) r)[i]? = r[i]?.map fun x => (j + (i + 1), x)
    rw [enumF_get]
    congr 1
    funext x
    rw [show j + 1 + i = j + (i + 1) by omega]
def isEn {α : Type} (S : α → V → Hp → Prop) (p : Nat × α) : V → Hp → Prop := isP2 (fun n => isIv ((n : Nat) : Int)) S p
instance {α : Type} {S : α → V → Hp → Prop} [∀ a, StL (S a)] {p : Nat × α} : StL (isEn S p) := by unfold isEn; infer_instance
theorem evi_enum {α : Type} {S : α → V → Hp → Prop} [∀ a, St (S a)] {as : List α} (h : EvV (Same H0) σ te (isL S as)) : EvI H0 σ (iEnum K (tCons te tNil)) (enumF 0 as) (isEn S) := fun H Rk w k =>
  h H _ w fun v H1 s1 w1 hv => by
    obtain ⟨D, us, rfl, hD, l⟩ := hv
    refine ⟨D, us, rfl, SqL.of hD, k (Ite K D) H1 s1 ⟨_, _, by rw [enumF_len, ← l.1]; exact walk_enum (K := K) (a := D) (xs := us), fun H2 s => SqL.of (s _ _ hD), fun i H2 x H3 hi s y => ?_⟩⟩
    obtain ⟨T, a, b, rfl, nT, rfl, ea, eb⟩ := y
    obtain rfl := Option.some.inj ea
    obtain ⟨m, em, r⟩ := Ls.get l eb
    refine ⟨Same.new nT, (0 + i, m), by rw [enumF_get, em]; rfl, T, _, b, rfl, upd_same, ?_, up (s.trans (Same.new nT)) r⟩
    show V.int (i : Nat) = V.int ((0 + i : Nat) : Int)
    rw [Nat.zero_add]
end
section
variable {X : Cx} {CX : CXT} {k : Nat} {C p g : Addr} {fd : FuncData} {ps : List Str} {mc : Value} {sp : Sp} {E : L2.St → XK} {o e : Expr} {es : List Expr} {m : Str} {pos apos : Pos} {ta : TE} {t : TA} {pl : Sem Bool}
/-- C.m(..) of a classmethod, what it raises wished for at the slots -/
def tCMethA (C : Addr) (sp : Sp) (E : L2.St → XK) (ta : TE) (t : TA) : TE := fun σ H Q => ta σ H fun x H1 => x = .ref C ∧ t σ H1 fun vs H2 => sp (.ref C :: vs) H2 Q (E σ)
theorem pe_cmethA (he : PE X o ta) (r : ClX.CRead X.K C mc) (c : ClX.CMet X.K C mc m p g) (F : FnOk X.prog X.w X.K X.mg X.base CX k g fd ps sp) (bi : Binds X.K fd ps []) (hr : Room k X.A) (out : ∀ σ, PassesAt CX X σ (E σ)) (ha : PA X (e :: es) t)
    (hst : starEach (e :: es) X.env = (false, eval e X.env) :: starEach es X.env := by rfl) (hpl : (backTo pos (starEach es X.env)).any (·.1) = false := by rfl)
    (ht : eval (.Call (.Attribute o m apos) (e :: es) [] pos) X.env = (do
      let ov ← eval o X.env
      standAt apos.atName
      let (f, first) ← holding [ov] (getMethod ov m pl)
      callWith pos f first (backTo pos (starEach (e :: es) X.env)) (backToKw pos (keywordEach [] X.env))) := by rfl) :
    PE X (.Call (.Attribute o m apos) (e :: es) [] pos) (tCMethA C sp E ta t) := by
  refine ⟨fun pins s σ H Q I h => ?_⟩
  refine PySem.W.methodCall_KW (pl := pl) (thn (he.run pins s σ H _ I h) fun u s1 ⟨x, H1, I1, rx, ex, q⟩ => ?_) ht
  subst ex
  obtain rfl : u = Value.ref C := rx
  refine ClX.getmethcm_ok I1 r c fun s2 I2 => ?_
  refine ClX.callwith_cm I2 (ClX.base_none I1 (Nat.le_refl _)) c.fi (thn (ha.run pos _ s2 σ H1 _ I2 q) fun us s3 ⟨vs, H2, I3, rv, q2⟩ => ⟨⟨ClX.pin_at I3, I3.kIn⟩, ?_⟩) hst hpl
  have rr : Vals (V.ref C :: vs) (Value.ref C :: us) := .cons rfl rv
  have hl : (Value.ref C :: us).length = ps.length := by rw [← rr.length]; exact F.len _ _ _ _ q2
  have b := bi s3 (Value.ref C :: us) I3.kIn (by rw [List.append_nil]; exact hl)
  rw [List.append_nil] at b
  have ran := F.run X.A X.stack s3 H2 ⟨Value.ref C :: us, []⟩ (Value.ref C :: us) (V.ref C :: vs) Q (E σ) hr I3.env0 b rr q2
  refine thn (Q := EP X ((s1.heap.objs.size, PySem.W.methodObj (.ref g) (.ref C)) :: pins) σ Q) (wpAny_call (PySem.W.method_call (ClX.pin_at I3) (codeAny_mono ran fun r s' hq => ?_))) fun _ _ y => ClX.unpinE y
  cases r with
  | error err => exact out σ _ H2 s3 err s' I3 hq
  | ok fl =>
    cases fl with
    | ret w => exact I3.after hq
    | next => exact False.elim hq
    | brk => exact False.elim hq
    | cont => exact False.elim hq
end
end V3

set_option Elab.async false
set_option linter.all false
set_option maxRecDepth 100000
/-! readings that draw: all but the box stays -/
namespace V3
open PySem L2 TL
theorem Pre.keep' {b : Addr} {H H' : Hp} (hb : ∃ u v, H b = some (V3.box u v)) (s : Pre b H H') : Keep H H' := by
  obtain ⟨u, v, hb⟩ := hb
  exact Keep.pre hb s.1
def isLb {α : Type} (b : Addr) (S : α → V → Hp → Prop) (as : List α) : V → Hp → Prop := fun v H => ∃ D us, v = .ref D ∧ D ≠ b ∧ H D = some (.lst us) ∧ Ls (fun u a => S a u H) us as
/-- stays where only the box at b changes -/
class StP (b : Addr) (R : V → Hp → Prop) : Prop where
  st : ∀ v H0 H H', Pre b H0 H → Pre b H H' → R v H → R v H'
theorem Pre.bx {b : Addr} {H H' : Hp} (s : Pre b H H') : ∃ u v, H' b = some (V3.box u v) := by
  obtain ⟨_, u, v, _, e⟩ := s
  exact ⟨u, v, e⟩
theorem Pre.same {b : Addr} {H0 H H' : Hp} (p : Pre b H0 H) (s : Same H H') : Pre b H H' := by
  obtain ⟨_, u, v, ok, e⟩ := p
  exact (Pre.start ok e).then s
theorem Pre.id {b : Addr} {H0 H : Hp} (p : Pre b H0 H) : Pre b H H := p.same (Same.refl H)
theorem Pre.ne {b D : Addr} {H0 H : Hp} (p : Pre b H0 H) (n : H D = none) : D ≠ b := fun e => by
  obtain ⟨u, v, hb⟩ := p.bx
  rw [e, hb] at n
  cases n
instance {b : Addr} {R : V → Hp → Prop} [i : StL R] : StP b R := ⟨fun v H0 H H' p s r => i.st v H H' (s.keep' p.bx) r⟩
instance {α : Type} {b : Addr} {S : α → V → Hp → Prop} {as : List α} [∀ a, StL (S a)] : StP b (isLb b S as) := ⟨fun v H0 H H' p s ⟨D, us, e, ne, h, l⟩ => ⟨D, us, e, ne, s.1 _ _ ne h, l.imp fun _ _ r => upL (s.keep' p.bx) r⟩⟩
theorem upP {b : Addr} {R : V → Hp → Prop} [i : StP b R] {v : V} {H0 H H' : Hp} (p : Pre b H0 H) (s : Pre b H H') (h : R v H) : R v H' := i.st v H0 H H' p s h
def EvP (b : Addr) (H0 : Hp) (σ : L2.St) (te : TE) (R : V → Hp → Prop) : Prop := ∀ H Q, Pre b H0 H → (∀ v H', Pre b H H' → R v H' → Q v H') → te σ H Q
/-- a number drawn -/
def isDr (m : Int) : V → Hp → Prop := fun v _ => ∃ d, v = .int d ∧ 0 ≤ d ∧ d < m
def isOne {α : Type} (S : α → V → Hp → Prop) (as : List α) : V → Hp → Prop := fun v H => ∃ a ∈ as, S a v H
instance {m : Int} : StL (isDr m) := ⟨fun _ _ _ _ h => h⟩
instance {α : Type} {S : α → V → Hp → Prop} {as : List α} [∀ a, StL (S a)] : StL (isOne S as) := ⟨fun _ _ _ s ⟨a, m, h⟩ => ⟨a, m, upL s h⟩⟩
section
variable {K : PySem.W.Frag} {σ : L2.St} {ta tb te tl : TE} {ts : TA} {H0 : Hp} {R Ra Rb : V → Hp → Prop} {b : Addr} {i : Nat} {m : Int}
theorem evp_pure (h : ∀ H, Pre b H0 H → EvV (Same H) σ te R) : EvP b H0 σ te R := fun H Q p k => h H p H Q (Same.refl H) fun v H' s _ r => k v H' (p.same s) r
theorem evp_choose (hi : σ[i]? = some (some (.ref b))) (m1 : 1 ≤ m) (m2 : m ≤ 1000000000000) (hm : EvP b H0 σ te (isIv m)) : EvP b H0 σ (tCall spChoose [] E0 (tCons (tVar i) (tCons te tNil))) (isDr m) := fun H Q p k =>
  ⟨_, hi, hm H _ p fun v H1 p1 e => by
    cases e
    obtain ⟨_, u, w, ok, hb⟩ := id p1
    exact ⟨b, u, w, m, rfl, hb, ok, m1, m2, fun d u' v' d0 d1 ok' => k _ _ (p1.trans (Pre.box ok')) ⟨d, rfl, d0, d1⟩⟩⟩
theorem evp_one {α : Type} {S : α → V → Hp → Prop} [∀ a, StL (S a)] {as : List α} (hi : σ[i]? = some (some (.ref b))) (n1 : 1 ≤ as.length) (n2 : as.length ≤ 1000) (hl : EvP b H0 σ tl (isLb b S as)) : EvP b H0 σ (tCall (spOneOf K) [] E0 (tCons (tVar i) (tCons tl tNil))) (isOne S as) := fun H Q p k =>
  ⟨_, hi, hl H _ p fun v H1 p1 hv => by
    obtain ⟨D, us, rfl, ne, hD, l⟩ := hv
    obtain ⟨_, u, w, ok, hb⟩ := id p1
    refine ⟨b, D, u, w, us, rfl, hb, ok, ne, SqL.of hD, by rw [l.1]; exact n1, by rw [l.1]; exact n2, fun x u' v' hx ok' => ?_⟩
    have p2 : Pre b H1 (upd H1 b (box u' v')) := Pre.box ok'
    obtain ⟨j, hj⟩ := List.getElem?_of_mem hx
    obtain ⟨a, ea, r⟩ := Ls.get l hj
    exact k x _ (p1.trans p2) ⟨a, List.mem_of_getElem? ea, upL (p2.keep' p1.bx) r⟩⟩
/-- a list display -/
theorem evp_lst {α : Type} {S : α → V → Hp → Prop} [∀ a, St (S a)] {as : List α} (h : ∀ H, Pre b H0 H → EvL H σ ts S as) (n : as.length ≤ 1000) : EvP b H0 σ (tLst ts) (isLb b S as) := fun H Q p k =>
  evn_lst (h H p) n H Q (Same.refl H) fun D us H' nD s hD l => k _ H' (p.same s) ⟨D, us, rfl, Pre.ne p nD, hD, l⟩
theorem evp_nl {α : Type} {S : α → V → Hp → Prop} {as : List α} (h : ∀ H, Pre b H0 H → EvNL H σ te S as) : EvP b H0 σ te (isLb b S as) := fun H Q p k =>
  h H p H Q (Same.refl H) fun D us H' nD s hD l => k _ H' (p.same s) ⟨D, us, rfl, Pre.ne p nD, hD, l⟩
theorem evp_o {r : R2} [i : StP b Ra] (ha : EvP b H0 σ ta Ra) (hb : EvP b H0 σ tb Rb) (h : ∀ x y H Q, Pre b H0 H → Ra x H → Rb y H → (∀ v H', Pre b H H' → R v H' → Q v H') → r x y H Q) : EvP b H0 σ (tOp r ta tb) R := fun H Q p k =>
  ha H _ p fun x H1 p1 rx => hb H1 _ (p.trans p1) fun y H2 p2 ry => h x y H2 Q ((p.trans p1).trans p2) (upP p1 p2 rx) ry fun v H' p3 rv => k v H' ((p1.trans p2).trans p3) rv
theorem evp_to {R' : V → Hp → Prop} (h : EvP b H0 σ te R) (e : ∀ v H, R v H → R' v H) : EvP b H0 σ te R' := fun H Q p k => h H Q p fun v H' s r => k v H' s (e v H' r)
theorem isLb.L {α : Type} {S : α → V → Hp → Prop} {as : List α} {v : V} {H : Hp} (h : isLb b S as v H) : isL S as v H := by
  obtain ⟨D, us, e, _, hD, l⟩ := h
  exact ⟨D, us, e, hD, l⟩
end
end V3

set_option Elab.async false
set_option linter.all false
set_option maxRecDepth 100000
namespace V3
open PySem PySem.Spec PyProof.Rows L2
/-! x[i] by an own subscript, within a try; House's own subscript -/
section
variable {X : Cx} {CX : CXT} {n : Nat} {f C : Addr} {fd : FuncData} {ps : List Str} {sp : Sp} {E : L2.St → XK}
/-- f called at a pair, somewhere below the running body; what it raises goes on -/
theorem run_ownA {A : Around} {pins : List (Addr × Obj)} {s : Shared} {σ : L2.St} {H : Hp} {x y : V} {u v : Value} {Q : VK} (sb : Sub X n A) (F : FnOk X.prog X.w X.K X.mg X.base CX n f fd ps sp) (bi : Binds X.K fd ps []) (out : PassesAt CX X σ (E σ))
    (J : L2.Inv X pins σ H s) (rx : L2.RelV x u) (ry : L2.RelV y v) (h : sp [x, y] H Q (E σ)) : wpAny (model X.prog X.w) A (call (.ref f) [u, v]) (EP X pins σ Q) X.xe s := by
  have e := J.env0
  have e0 : L2.Env0 X.prog X.w X.K X.mg X.base A X.stack s H := ⟨by rw [sb.fr] <;> exact e.frames, e.mod, e.bs, e.bsz, e.funs, e.frf, e.hok, e.bare⟩
  have len := F.len _ _ _ _ h
  have r2 : L2.Vals [x, y] [u, v] := .cons rx (.cons ry .nil)
  have b2 : BindsTo s fd ⟨[u, v], []⟩ (ps.zip [u, v]) := by
    have z := bi s [u, v] J.kIn (by simpa using len)
    simpa using z
  refine wpAny_call (codeAny_mono (F.run A X.stack s H ⟨[u, v], []⟩ [u, v] [x, y] _ (E σ) sb.room e0 b2 r2 h) fun r s' z => ?_)
  cases r with
  | error er => exact out pins H s er s' J z
  | ok fl =>
    cases fl with
    | ret w => exact J.after z
    | next => exact z.elim
    | brk => exact z.elim
    | cont => exact z.elim
/-- x[i] within a try: x of the class at C -/
def tIxA (C : Addr) (sp : Sp) (E : L2.St → XK) (ta tb : TE) : TE := fun σ H Q => ta σ H fun x H1 => tb σ H1 fun y H2 => ∃ (a dx : Addr) (fs : List (Str × V)), x = .ref a ∧ H2 a = some (.ins C dx fs) ∧ sp [x, y] H2 Q (E σ)
theorem pe_ixA {a b : Expr} {ta tb : TE} {pos : Pos} (F : FnOk X.prog X.w X.K X.mg X.base CX n f fd ps sp) (G : GetCls X.K C f) (bi : Binds X.K fd ps []) (out : ∀ σ, PassesAt CX X σ (E σ)) (room : Room (n + 1) X.A) (ha : PE X a ta) (hb : PE X b tb)
    (hsl : ∀ (o : Addr) (u : Value), subscripted b true (.ref o) u = runValue (.builtin "lifetime.subscript" ⟨[.ref o, u], []⟩) := by intro _ _; with_unfolding_all rfl) : PE X (.Subscript a b pos) (tIxA C sp E ta tb) := by
  refine ⟨fun pins s σ H Q J h => ?_⟩
  refine Subscript_ (binT (R := fun x y H2 => ∃ (a dx : Addr) (fs : List (Str × V)), x = .ref a ∧ H2 a = some (.ins C dx fs) ∧ sp [x, y] H2 Q (E σ)) ha hb J h fun v u s2 x y H2 I2 rx ry q => ?_)
  obtain ⟨o, dx, fs, rfl, ho, q⟩ := q
  cases rx
  obtain ⟨mA, O, _⟩ := ins_get I2.hok ho
  obtain ⟨od, O, _⟩ := O.look
  obtain ⟨m, fr⟩ := I2.fr
  refine PySem.W.sub_K fr I2.ok.mod.kin O G.at_ G.fi G.fn ?_ (hsl o _)
  exact run_ownA (x := .ref o) (y := y) (A := X.A.in1) ⟨room.in1, rfl⟩ F bi (out σ) I2 rfl ry q
end
end V3

set_option Elab.async false
set_option linter.all false
set_option maxRecDepth 100000
namespace V3
open PySem L2 TL
abbrev sHsGet : Stmt := inClass (top 19) 5
/-! House's own subscript -/
def spHsGet (K : PySem.W.Frag) (c : Rc) (C CN : Addr) : Sp := fun vs H Q E => ∃ (v : V) (h : Hs) (i : Int), vs = [v, .int i] ∧ HsAt K c C H v h ∧
  (∀ (m : Rw), 0 ≤ i → h.rs[i.toNat]? = some m → ∀ u, RwAt c H u m → Q u H) ∧ (hasRow h i = false → ErI CN H E i)
section
variable {P : Program} {w : World} {K : PySem.W.Frag} {mg : Str → Option Value} {base : Heap}
theorem scHsGet : FnScope ["self", "at"] ["self", "at"] (defScope sHsGet) := ⟨rfl, rfl, rfl, by decide +kernel, rfl, by decide +kernel, by decide +kernel⟩
theorem at_nat {us : List V} {i : Int} {u : V} (i0 : 0 ≤ i) (h : us[i.toNat]? = some u) : atI us i = some u := by
  have l := (List.getElem?_eq_some_iff.mp h).1
  show (ixN us.length i).bind (fun j => us[j]?) = _
  have e : ixN us.length i = some i.toNat := by
    unfold ixN
    rw [if_pos i0, if_pos (by show i < _; omega)]
  rw [e]
  exact h
theorem ok_hsGet {f C CN : Addr} {c : Rc} {fd : FuncData} (F : Fun K "__getitem__" "House.__getitem__" sHsGet f fd) (L : HsC K C) (N : NrTxt P w K mg base CN)
    (cR : Cal P w K mg base CX0 "has_row" 1 ["house", "at"] (spHasRow K c C)) : FnOk P w K mg base (L2.CX P w) 3 f fd ["self", "at"] (spHsGet K c C CN) := by
  obtain ⟨fR, fdR, GR, mR, kR, bR⟩ := cR
  obtain ⟨fI, fdI, GI, iI, tI, bI⟩ := N.ini
  refine F.okX scHsGet (fun vs H Q E h => ?_) (fun cdv A outer s H vs Q E hr h => ?_)
  · obtain ⟨v, h, i, rfl, _⟩ := h
    rfl
  · obtain ⟨v, h, i, rfl, hv, q1, q2⟩ := h
    obtain ⟨x, dx, q, us, rfl, hx, hq, rl⟩ := id hv
    refine ⟨_, pss_cons (ps_if (pt_not (pt_val (pe_call GR (hr.mono (by decide)) rfl mR kR bR .nil pass0 (pa_cons (pv 0) (pa_cons (pv 1) pa_nil))))) (pss_one (ps_raise rfl (takes_of rfl rfl rfl rfl) (pmk_oexI N.o iI tI GI hr bI pass0 rfl N.g (by exact (pa_cons (pv 1) pa_nil))))) pss_nil)
      (pss_one (ps_ret (pe_ix ix_tup (pe_fld (pv 0) rfl) (pv 1) (fun _ _ => rfl)))), ?_⟩
    refine ⟨_, rfl, _, rfl, .ref x, h, i, rfl, hv, _, rfl, ?_⟩
    cases e : hasRow h i with
    | false => exact iteT ⟨_, rfl, (by show 1 ≤ 1000; decide), er_readI (q2 e)⟩
    | true =>
      have z : 0 ≤ i ∧ i < (h.rs.length : Int) := by
        unfold hasRow at e
        exact ⟨of_decide_eq_true (Bool.and_eq_true_iff.mp e).1, of_decide_eq_true (Bool.and_eq_true_iff.mp e).2⟩
      have lx : us.length = h.rs.length := rl.1
      have lt : i.toNat < h.rs.length := by omega
      have em : h.rs[i.toNat]? = some h.rs[i.toNat] := List.getElem?_eq_getElem lt
      obtain ⟨u, eu, ru⟩ := rl.2 _ _ em
      refine iteF ⟨_, rfl, x, C, dx, _, _, rfl, hx, L.cl, L.rs, hs_rs .., _, rfl, q, us, i, u, rfl, rfl, hq.sq, at_nat z.1 eu, ?_⟩
      exact q1 _ z.1 em u ru
end
end V3

set_option Elab.async false
set_option linter.all false
set_option maxRecDepth 100000
namespace V3
open PySem L2 TL
/-! House of a tuple of rows, tracked or written -/
def TupW (K : PySem.W.Frag) (H : Hp) (q : Addr) (us : List V) : Prop := H q = some (.tup us) ∨ ((∃ o, K.lookup q = some o ∧ o.cls = .type "tuple") ∧ ∀ H', SqT K H' q us)
theorem TupW.k {K : PySem.W.Frag} {H : Hp} {q : Addr} {us : List V} (h : TupW K H q us) : TupK K H q us := h.elim .inl fun z => .inr z.2
theorem TupW.sq {K : PySem.W.Frag} {H : Hp} {q : Addr} {us : List V} (h : TupW K H q us) : SqT K H q us := h.k.sq
theorem TupW.ty {K : PySem.W.Frag} {H : Hp} {a : Addr} {us : List V} (h : TupW K H a us) : TyX K H (.ref a) (.type "tuple") := by
  rcases h with h | ⟨⟨o, e, c⟩, _⟩
  · exact .base (.tup h)
  · exact .kTuple e c
theorem TupW.same {K : PySem.W.Frag} {H H' : Hp} {q : Addr} {us : List V} (h : TupW K H q us) (s : Same H H') : TupW K H' q us := h.elim (fun z => .inl (s _ _ z)) .inr
def spIsRowsT (K : PySem.W.Frag) (c : Rc) : Sp := fun vs H Q _ => ∃ (a : Addr) (us : List V) (ms : List Rw), vs = [.ref a] ∧ TupW K H a us ∧ RwLs c H us ms ∧ (∀ m ∈ ms, m.kind = 0) ∧ ms.length ≤ 1000 ∧ ∀ H', Same H H' → Q (.bl true) H'
def spHsInitT (K : PySem.W.Frag) (c : Rc) (C : Addr) : Sp := fun vs H Q _ => ∃ (x dx l : Addr) (us : List V) (h : Hs), vs = [.ref x, .int h.d, .str h.ch, .ref l] ∧ H x = some (.ins C dx []) ∧ TupW K H l us ∧ RwLs c H us h.rs ∧ h.ok ∧
  ∀ H', SameX x H H' → HsAt K c C H' (.ref x) h → Q .non H'
theorem kit_tt {K : PySem.W.Frag} : PySem.W.kitAny K (.type "tuple") [.type "list", .type "tuple"] = some true := by
  refine kitAny_cons (b := false) (show PySem.W.kitOne K (.type "tuple") (.type "list") = some false from kit_ty (by decide +kernel)) (fun _ => ?_) (fun z => nomatch z)
  exact kitAny_cons (show PySem.W.kitOne K (.type "tuple") (.type "tuple") = some true from kit_ty (by decide +kernel)) (fun z => nomatch z) fun z => rfl
theorem mk_houseT {K : PySem.W.Frag} {c : Rc} {C x dx l : Addr} {H : Hp} {us : List V} {h : Hs} {R : VK} {E : XK} (hl : TupW K H l us) (rl : RwLs c H us h.rs) (ok : h.ok) (nx : H x = none) (ndx : H dx = none) (q : ∀ H', Same H H' → HsAt K c C H' (.ref x) h → R .non H') :
    spHsInitT K c C [.ref x, .int h.d, .str h.ch, .ref l] (upd (upd H dx (.own x)) x (.ins C dx [])) R E := by
  have s0 : Same H (upd (upd H dx (.own x)) x (.ins C dx [])) := made_same nx ndx
  exact ⟨x, dx, l, us, h, rfl, upd_same, hl.same s0, rl.same s0, ok, fun H' s' a => q H' (fun b o e => s' b o (ne_of_none e nx) (s0 b o e)) a⟩
section
variable {P : Program} {w : World} {K : PySem.W.Frag} {mg : Str → Option Value} {base : Heap}
theorem ok_isRowsT {f : Addr} {c : Rc} {fd : FuncData} (F : Fun K "is_rows" "is_rows" sIsRows f fd) (T : BltK mg) (C : LetI K c) (gL : mg "Let" = some (.ref c.L)) : FnOk P w K mg base CX0 1 f fd ["value"] (spIsRowsT K c) := by
  refine F.ok scIsRows (fun vs H Q E h => ?_) (fun cdv A outer s H vs Q E hr h => ?_)
  · obtain ⟨a, us, ms, rfl, _⟩ := h
    rfl
  · obtain ⟨a, us, ms, rfl, ha, rl, kd, n, k⟩ := h
    refine ⟨_, pss_one (ps_ret (pe_and (pe_callB call_isiT (by rfl) T.isi (by decide +kernel) (pa_cons (pv 0) (pa_cons (pe_tup (pa_cons (pe_bltn (v := .ty "list") (by rfl) T.list (by decide +kernel) rfl) (pa_cons (pe_bltn (v := .ty "tuple") (by rfl) T.tuple (by decide +kernel) rfl) pa_nil))) pa_nil)))
        (pe_one (pe_callB (cr_all rfl) (by rfl) T.all (by decide +kernel) (pa_cons (pe_lc (own := [("item", 1)]) (g := gName 1) (tt := tYes) (te := tCB (rIsi K) (tCons (tVar 1) (tCons (tC (.ref c.L)) tNil))) (by rfl) scIsRows.nd (pi_tup (pv 0)) (blkOk_by (own := [("item", 1)]) (N := ["value", "item"]) (sc := defScope sIsRows) (by decide +kernel)) (fun _ _ _ _ _ => pg_name (i := 1) scIsRows.nd rfl (Or.inl rfl)) (fun _ _ _ _ _ => pts_nil)
          (fun _ _ _ _ _ => pe_callB call_isi (by rfl) T.isi (by decide +kernel) (pa_cons (pv 1) (pa_cons (pe_glob (v := .ref c.L) rfl gL rfl) pa_nil)))) pa_nil))))), ?_⟩
    refine ⟨_, rfl, (by show 2 ≤ sizeLine; decide), fun tp ntp => ?_⟩
    have s1 : Same H (upd H tp (.tup [.ty "list", .ty "tuple"])) := Same.new ntp
    have ht : upd H tp (.tup [.ty "list", .ty "tuple"]) tp = some (.tup [.ty "list", .ty "tuple"]) := upd_same
    generalize upd H tp (.tup [.ty "list", .ty "tuple"]) = H1 at s1 ht ⊢
    have ha1 := ha.same s1
    have rl1 := rl.same s1
    have lx : us.length = ms.length := rl.1
    refine ⟨_, tp, _, _, _, _, rfl, ht, .cons (.ty "list") (.cons (.ty "tuple") .nil), ha1.ty, kit_tt, _, rfl, iteT ?_⟩
    refine ⟨_, rfl, a, rfl, ⟨us, ha1.sq⟩, fun D nD => ?_⟩
    refine lc_tup (K := K) (a := a) (xs := us) (fun i Hh => Same H1 Hh ∧ H1 D = none ∧ Hh D = some (.lst (List.replicate i (V.bl true)))) ⟨Same.new nD, nD, upd_same⟩ (fun i Hh _ p => (ha1.same p.1).sq) ?_ ?_
    · intro i z Hh hi p
      have il : i < us.length := (List.getElem?_eq_some_iff.mp hi).1
      obtain ⟨m, em, mz⟩ := Ls.get rl1 hi
      obtain ⟨y, dy, rfl, hy⟩ := mz.same p.1
      have km := kd m (List.mem_of_getElem? em)
      refine ⟨rfl, ?_⟩
      unfold tYes
      dsimp only
      have hy2 : Hh y = some (.ins c.L dy m.fs) := by
        rw [hy]
        show some (HO.ins (c.at m.kind) dy m.fs) = _
        rw [km]
        rfl
      refine iteT ⟨_, rfl, _, _, _, _, _, rfl, .own c.L, .base (.ins hy2 C.cl C.ca C.gn C.tk C.mr), C.ki, _, p.2.2, ?_, fun d o h => ?_, p.2.1, ?_⟩
      · rw [List.length_replicate]
        exact Nat.lt_of_lt_of_le (m := 1001) (by omega) (by decide)
      · rw [upd_ne (ne_of_none h p.2.1)]
        exact p.1 d o h
      · rw [upd_same, List.replicate_succ']
    · intro Hh p
      obtain ⟨s2, _, e⟩ := p
      refine ⟨D, List.replicate us.length true, rfl, SqL.of (by rw [e, repl_bl]), ?_⟩
      have z : (List.replicate us.length true).all id = true := by
        rw [List.all_eq_true]
        intro x hx
        rw [List.eq_of_mem_replicate hx]
        rfl
      rw [z]
      exact k _ (s1.trans s2)
theorem ok_hsInitT {f CA DA C : Addr} {c : Rc} {fd : FuncData} {dvs : List V} (F : FunD K "__init__" "House.__init__" (defArgs sHsInit) (defBody sHsInit) (defScope sHsInit) dvs [] f fd) (T : BltK mg) (X : HsT K mg CA DA) (L : HsC K C)
    (cN : Cal P w K mg base CX0 "is_number" 2 ["value"] spNumI) (cR : Cal P w K mg base CX0 "is_rows" 1 ["value"] (spIsRowsT K c)) : FnOk P w K mg base CX0 4 f fd ["self", "depth", "check", "rows"] (spHsInitT K c C) := by
  obtain ⟨fN, fdN, GN, mN, kN, bN⟩ := cN
  obtain ⟨fR, fdR, GR, mR, kR, bR⟩ := cR
  refine F.ok scHsInit (fun vs H Q E h => ?_) (fun cdv A outer s H vs Q E hr h => ?_)
  · obtain ⟨x, dx, l, us, h, rfl, _⟩ := h
    rfl
  · obtain ⟨x, dx, l, us, h, rfl, hx, hl, rl, ok, q⟩ := h
    obtain ⟨d0, d4, hc, hm, hn⟩ := ok
    refine ⟨_, pss_cons (ps_if (pt_not (PW.pt (pw_and (pt_val (pe_call GN (hr.mono (by decide)) rfl mN kN bN .nil pass0 (pa_cons (pv 1) pa_nil))) (pw_and1 (pt_cmpR op_lt (pv 1) (pe_callB call_len_seq (by rfl) T.len PySem.boot_len (pa_cons (pe_glob (v := .ref DA) rfl X.depths rfl) pa_nil)) (nomark _)))))) (pss_one ps_never) pss_nil)
      (pss_cons (ps_if (pt_cmpR op_notIn_seq (pv 2) (pe_glob (v := .ref CA) rfl X.checks rfl) rfl) (pss_one ps_never) pss_nil)
      (pss_cons (ps_if (pt_not (pt_val (pe_call GR (hr.mono (by decide)) rfl mR kR bR .nil pass0 (pa_cons (pv 3) pa_nil)))) (pss_one ps_never) pss_nil)
      (pss_cons (ps_fld (pv 0) (pv 1) rfl)
      (pss_cons (ps_fld (pv 0) (pv 2) rfl)
      (pss_one (ps_fld (pv 0) (pe_callTy call_tuple_of (by rfl) T.tuple (by decide +kernel) (pa_cons (pv 3) pa_nil)) rfl)))))), ?_⟩
    refine ⟨_, rfl, h.d, rfl, _, rfl, ?_⟩
    rw [decide_eq_true d0]
    refine iteT ⟨_, rfl, DA, _, rfl, .inr (X.tD _), _, _, rfl, rfl, _, rfl, ?_⟩
    rw [decide_eq_true (show h.d < ((depthL.map V.str).length : Int) by show h.d < 5; omega)]
    refine iteF ⟨_, rfl, CA, _, rfl, .inr (X.tC _), rfl, flat_strs _, _, rfl, ?_⟩
    rw [inV_str, decide_eq_true hc]
    refine iteF ⟨_, rfl, l, us, h.rs, rfl, hl, rl, fun m z => (hm m z).2, by omega, fun H1 s1 => ⟨_, rfl, iteF ?_⟩⟩
    have hx1 := s1 _ _ hx
    have hl1 := hl.same s1
    refine ⟨_, rfl, _, rfl, x, C, dx, _, rfl, hx1, L.cl, L.d, (by show 0 < 1000; decide), ?_⟩
    refine ⟨_, rfl, _, rfl, x, C, dx, _, rfl, upd_same, L.cl, L.ch, (by show 1 < 1000; decide), ?_⟩
    rw [upd_upd]
    have tx : ∀ o : HO, TupW K (upd H1 x o) l us := fun o => by
      rcases hl1 with z | z
      · exact .inl (by rw [upd_ne (fun e => by rw [e, hx1] at z; cases z)]; exact z)
      · exact .inr z
    refine ⟨_, rfl, l, us, rfl, .inr ⟨(tx _).sq, ?_⟩⟩
    refine ⟨_, rfl, x, C, dx, _, rfl, upd_same, L.cl, L.rs, (lt_put (n := 999) (lt_put (n := 998) (by show 0 < 998; decide))), ?_⟩
    rw [hs_put, upd_upd]
    have sx : ∀ b o, b ≠ x → H b = some o → upd H1 x (.ins C dx (hsF (.int h.d) (.str h.ch) (.ref l))) b = some o := fun b o nb e => by
      rw [upd_ne nb]
      exact s1 _ _ e
    refine q _ sx ⟨x, dx, l, us, rfl, upd_same, (tx _).k, ?_⟩
    refine Ls.imp rl fun v m a => ?_
    obtain ⟨y, dy, rfl, hy⟩ := a
    have nyx : y ≠ x := fun z => by
      rw [z, hx] at hy
      have e := Option.some.inj hy
      cases m <;> cases e
    exact ⟨y, dy, rfl, sx y _ nyx hy⟩
end
end V3

set_option Elab.async false
set_option linter.all false
set_option maxRecDepth 100000
namespace V3
open PySem PySem.Spec PyProof.Rows L2
structure BehindL (K : PySem.W.Frag) (C : Addr) : Prop where
  b : Behind K C
  l : PySem.W.subIn K (.ref C) (.type "list") = some false
inductive PlainL (H : Hp) : V → Prop where
  | str (z : Str) : PlainL H (.str z)
  | non : PlainL H .non
  | tup {b : Addr} {ys : List V} (h : H b = some (.tup ys)) : PlainL H (.ref b)
  | lst {b : Addr} {ys : List V} (h : H b = some (.lst ys)) : PlainL H (.ref b)
section
open PySem PySem.SeqAt
variable {prog : Program} {w : World} {A : Around} {E : Value → Shared → Prop} {s : Shared} {x : Addr} {o : Obj}
theorem lst_declines {K : PySem.W.Frag} {C p : Addr} {od : Option Obj} {items : Array Value} {n : Nat} {Q : Shared → Prop} (X : K.In s.heap) (I : PySem.W.InstAt s.heap x o C od) (hs : PySem.W.subIn K (.ref C) (.type "list") = some false) {d1 : Option Addr} {sl1 : Array (Option Value)} (hp : s.heap.get? p = some { cls := .type "list", dict := d1, data := .seq items n, slots := sl1 }) (hq : Q s) :
    wpAny (model prog w) A (call (.builtin "list.__eq__") [.ref p, .ref x]) (fun v s' => v = .notImplemented ∧ Q s') E s := by
  refine GQ.call_here F.slot_list_eq ⟨_, hp, rfl⟩ F.entry_list_eq (F.args_list_eq_2 _ _) ?_
  obtain ⟨hh, g, d, tk, os⟩ := s
  wp_walk
  refine wpAny_loadPart I.at_ (wpAny_pure ?_)
  rw [I.cls]
  refine (PySem.W.looks_subIn X hs).here ?_
  wp_walk
  exact ⟨rfl, hq⟩
end
section
variable {X : Cx} {n : Nat}
/-- x in (..), x of an own class, no item equal to it -/
def rInL (K : PySem.W.Frag) (FF : Addr → Sp → XK → Prop) : R2 := fun x y H Q => ∃ (a p C dx : Addr) (fs : List (Str × V)) (xs : List V) (sp : Sp) (E : XK), x = .ref a ∧ y = .ref p ∧ H a = some (.ins C dx fs) ∧ H p = some (.tup xs) ∧
  (∀ z ∈ xs, PlainL H z) ∧ BehindL K C ∧ FF C sp E ∧ (∀ z ∈ xs, sp [.ref a, z] H (fun v H' => v = .bl false ∧ H' = H) E) ∧ Q (.bl false) H
theorem op_inL {FF : Addr → Sp → XK → Prop} (hF : ∀ C sp E, FF C sp E → ∃ (CX : CXT) (f : Addr) (fd : FuncData) (ps : List Str), FnOk X.prog X.w X.K X.mg X.base CX n f fd ps sp ∧ EqCls X.K C f ∧ Binds X.K fd ps [] ∧ Passes CX X E) (hr : Room (n + 1) X.A) :
    OpR X (compareOp .In) (rInL X.K FF) := by
  intro pins s σ H x y v u Q I rx ry hq
  obtain ⟨a, p, C, dx, fs, xs, sp, E, rfl, rfl, ha, hp, pl, bh, ff, hsp, q⟩ := hq
  obtain ⟨CX, f, fd, ps, F, ec, bi, hx⟩ := hF C sp E ff
  cases rx
  cases ry
  obtain ⟨its, rv, ht, hz⟩ := I.tuple (SqT.of hp)
  obtain ⟨⟨c0, dd, da, sl⟩, ho, hc, m, hd⟩ := id ht
  simp only at hc hd
  subst hc hd
  show wpAny (model X.prog X.w) X.A (do return .bool (← contains (.ref p) (.ref a))) (EP X pins σ Q) X.xe s
  refine wpAny_bind (wpAny_contains_slot ⟨_, ho, rfl⟩ PySem.F.slot_tuple_contains (wpAny_mono (GQ.call_here (Q := fun v s' => v = .bool false ∧ Inv X pins σ H s') PySem.F.slot_tuple_contains ⟨_, ho, rfl⟩ PySem.F.entry_tuple_contains (PySem.F.args_tuple_contains_2 _ _)
    (tuple_none p its.toArray m dd sl (.ref a) (fun _ s' => Inv X pins σ H s') ?_ (fun s' J => ⟨rfl, J⟩) ho I)) (fun v s' hv => ?_) fun _ _ e => e))
  · intro i hi s' J
    have hi2 : i < its.length := by simpa using hi
    have hi3 : i < xs.length := by rw [rv.length]; exact hi2
    obtain ⟨u, hu, ru⟩ := rv.get (List.getElem?_eq_getElem hi3)
    have eu : its.toArray[i] = u := by
      rw [List.getElem?_eq_getElem hi2] at hu
      simpa using Option.some.inj hu
    rw [eu]
    have mem : xs[i] ∈ xs := List.getElem_mem hi3
    have pz := pl _ mem
    have own := hsp _ mem
    generalize xs[i] = z at ru pz own
    obtain ⟨mA, O, _⟩ := ins_get J.hok ha
    obtain ⟨od, IA, _⟩ := O.look
    obtain ⟨mm, hFr⟩ := J.fr
    have run : wpAny (model X.prog X.w) X.A.in1 (call (.ref f) [.ref a, u]) (fun v s2 => ∃ r, v = .bool r ∧ r = false ∧ Inv X pins σ H s2) X.xe s' :=
      wpAny_mono (run_own (x := .ref a) (y := z) ⟨hr.in1, rfl⟩ F bi hx J rfl ru own) (fun w s2 k => by
        obtain ⟨z2, H', J2, rz, ez, eH⟩ := k
        subst ez
        subst eH
        cases rz
        exact ⟨false, rfl, rfl, J2⟩) fun _ _ e => e
    have hu1 : X.A.in1.units < cLine := hr.in1.units0
    cases pz with
    | str zz =>
      obtain ⟨t, rfl⟩ := ru
      refine eqB_str (turned_K (T := "str") hu1 hFr J.ok.mod.kin IA (typeIs_str _ _ _) PySem.F.slot_str_eq rfl bh.b.s (fun k => str_declines IA.at_ rfl k) ec.eq ec.fn (wpAny_mono run (fun v s2 k => ?_) fun _ _ e => e))
      obtain ⟨r, rfl, e, J2⟩ := k
      exact ⟨r, rfl, r, rfl, e, J2⟩
    | non =>
      cases ru
      refine eqB_non (turned_K (T := "NoneType") hu1 hFr J.ok.mod.kin IA (typeIs_none _) PySem.F.slot_NoneType_eq rfl bh.b.n (fun k => none_declines k) ec.eq ec.fn (wpAny_mono run (fun v s2 k => ?_) fun _ _ e => e))
      obtain ⟨r, rfl, e, J2⟩ := k
      exact ⟨r, rfl, r, rfl, e, J2⟩
    | @tup b ys hb =>
      cases ru
      obtain ⟨its2, r2, ht2, hz2⟩ := J.tuple (SqT.of hb)
      have ne : b ≠ a := by
        intro e
        subst e
        rw [ha] at hb
        cases hb
      obtain ⟨o2, ho2, hc2, _⟩ := id ht2
      refine GQ.eqBool_refG ne (turned_K (T := "tuple") hu1 hFr J.ok.mod.kin IA ⟨o2, ho2, hc2⟩ PySem.F.slot_tuple_eq (by first | rfl | simp [oneThing_ref]) bh.b.t (fun k => tup_declines J.kIn IA bh.b.t ht2 k) ec.eq ec.fn (wpAny_mono run (fun v s2 k => ?_) fun _ _ e => e))
      obtain ⟨r, rfl, e, J2⟩ := k
      exact ⟨r, rfl, r, rfl, e, J2⟩
    | @lst b ys hb =>
      cases ru
      obtain ⟨its2, r2, ht2, hz2⟩ := J.list (SqL.of hb)
      have ne : b ≠ a := by
        intro e
        subst e
        rw [ha] at hb
        cases hb
      obtain ⟨⟨c1, d1, da, sl1⟩, n2, g2, hc2, hdc, hd2⟩ := id ht2
      simp only at hc2 hd2
      subst hc2 hd2
      refine GQ.eqBool_refG ne (turned_K (T := "list") hu1 hFr J.ok.mod.kin IA ⟨_, g2, rfl⟩ PySem.F.slot_list_eq (by first | rfl | simp [oneThing_ref]) bh.l (fun k => lst_declines J.kIn IA bh.l g2 k) ec.eq ec.fn (wpAny_mono run (fun v s2 k => ?_) fun _ _ e => e))
      obtain ⟨r, rfl, e, J2⟩ := k
      exact ⟨r, rfl, r, rfl, e, J2⟩
  · obtain ⟨rfl, J⟩ := hv
    exact wpAny_truthy_bool (wpAny_pure ⟨.bl false, H, J, rfl, q⟩)
end
end V3

set_option Elab.async false
set_option linter.all false
set_option maxRecDepth 100000
namespace V3
open PySem L2 TL
/-! houses made of a list: their rows tracked, object by object -/
def HsX (K : PySem.W.Frag) (c : Rc) (C : Addr) (us : List V) (h : Hs) : V → Hp → Prop := fun v H => ∃ x dx q, v = .ref x ∧ H x = some (.ins C dx (hsF (.int h.d) (.str h.ch) (.ref q))) ∧ H q = some (.tup us) ∧ RwLs c H us h.rs
theorem HsX.at {K : PySem.W.Frag} {c : Rc} {C : Addr} {us : List V} {h : Hs} {v : V} {H : Hp} (a : HsX K c C us h v H) : HsAt K c C H v h := by
  obtain ⟨x, dx, q, e, hx, hq, rl⟩ := a
  exact ⟨x, dx, q, us, e, hx, .inl hq, rl⟩
def HsA (K : PySem.W.Frag) (c : Rc) (C : Addr) (h : Hs) : V → Hp → Prop := fun v H => HsAt K c C H v h
def HtA (h : Hs) : V → Hp → Prop := fun v H => HtAt H v h
def RwA (c : Rc) (m : Rw) : V → Hp → Prop := fun v H => RwAt c H v m
instance {K : PySem.W.Frag} {c : Rc} {C : Addr} {us : List V} {h : Hs} : StL (HsX K c C us h) := ⟨fun _ _ _ s ⟨x, dx, q, e, hx, hq, rl⟩ => ⟨x, dx, q, e, s _ _ (fun _ z => by cases z) hx, s _ _ (fun _ z => by cases z) hq, rl.keep s⟩⟩
instance {K : PySem.W.Frag} {c : Rc} {C : Addr} {h : Hs} : StL (HsA K c C h) := ⟨fun _ _ _ s a => HsAt.keep a s⟩
instance {h : Hs} : StL (HtA h) := ⟨fun _ _ _ s a => HtAt.keep a s⟩
instance {c : Rc} {m : Rw} : StL (RwA c m) := ⟨fun _ _ _ s a => RwAt.keep a s⟩
def spHsInitX (K : PySem.W.Frag) (c : Rc) (C : Addr) : Sp := fun vs H Q _ => ∃ (x dx l : Addr) (us : List V) (h : Hs), vs = [.ref x, .int h.d, .str h.ch, .ref l] ∧ H x = some (.ins C dx []) ∧ H l = some (.lst us) ∧ RwLs c H us h.rs ∧ h.ok ∧
  ∀ H', SameX x H H' → HsX K c C us h (.ref x) H' → Q .non H'
def spHsGetX (K : PySem.W.Frag) (c : Rc) (C CN : Addr) : Sp := fun vs H Q E => ∃ (v : V) (us : List V) (h : Hs) (i : Int), vs = [v, .int i] ∧ HsX K c C us h v H ∧
  (∀ (u : V), 0 ≤ i → us[i.toNat]? = some u → Q u H) ∧ (hasRow h i = false → ErI CN H E i)
/-- == with what is none -/
def spHsNe : Sp := fun vs H Q _ => ∃ (u z : V), vs = [u, z] ∧ PlainL H z ∧ Q (.bl false) H
structure HsNot (K : PySem.W.Frag) (C : Addr) : Prop where
  s : PySem.W.kitOne K (.type "str") (.ref C) = some false
  n : PySem.W.kitOne K (.type "NoneType") (.ref C) = some false
  t : PySem.W.kitOne K (.type "tuple") (.ref C) = some false
  l : PySem.W.kitOne K (.type "list") (.ref C) = some false
section
variable {P : Program} {w : World} {K : PySem.W.Frag} {mg : Str → Option Value} {base : Heap}
theorem ok_hsInitX {f CA DA C : Addr} {c : Rc} {fd : FuncData} {dvs : List V} (F : FunD K "__init__" "House.__init__" (defArgs sHsInit) (defBody sHsInit) (defScope sHsInit) dvs [] f fd) (T : BltK mg) (X : HsT K mg CA DA) (L : HsC K C)
    (cN : Cal P w K mg base CX0 "is_number" 2 ["value"] spNumI) (cR : Cal P w K mg base CX0 "is_rows" 1 ["value"] (spIsRows c)) : FnOk P w K mg base CX0 4 f fd ["self", "depth", "check", "rows"] (spHsInitX K c C) := by
  obtain ⟨fN, fdN, GN, mN, kN, bN⟩ := cN
  obtain ⟨fR, fdR, GR, mR, kR, bR⟩ := cR
  refine F.ok scHsInit (fun vs H Q E h => ?_) (fun cdv A outer s H vs Q E hr h => ?_)
  · obtain ⟨x, dx, l, us, h, rfl, _⟩ := h
    rfl
  · obtain ⟨x, dx, l, us, h, rfl, hx, hl, rl, ok, q⟩ := h
    obtain ⟨d0, d4, hc, hm, hn⟩ := ok
    refine ⟨_, pss_cons (ps_if (pt_not (PW.pt (pw_and (pt_val (pe_call GN (hr.mono (by decide)) rfl mN kN bN .nil pass0 (pa_cons (pv 1) pa_nil))) (pw_and1 (pt_cmpR op_lt (pv 1) (pe_callB call_len_seq (by rfl) T.len PySem.boot_len (pa_cons (pe_glob (v := .ref DA) rfl X.depths rfl) pa_nil)) (nomark _)))))) (pss_one ps_never) pss_nil)
      (pss_cons (ps_if (pt_cmpR op_notIn_seq (pv 2) (pe_glob (v := .ref CA) rfl X.checks rfl) rfl) (pss_one ps_never) pss_nil)
      (pss_cons (ps_if (pt_not (pt_val (pe_call GR (hr.mono (by decide)) rfl mR kR bR .nil pass0 (pa_cons (pv 3) pa_nil)))) (pss_one ps_never) pss_nil)
      (pss_cons (ps_fld (pv 0) (pv 1) rfl)
      (pss_cons (ps_fld (pv 0) (pv 2) rfl)
      (pss_one (ps_fld (pv 0) (pe_callTy call_tuple_of (by rfl) T.tuple (by decide +kernel) (pa_cons (pv 3) pa_nil)) rfl)))))), ?_⟩
    refine ⟨_, rfl, h.d, rfl, _, rfl, ?_⟩
    rw [decide_eq_true d0]
    refine iteT ⟨_, rfl, DA, _, rfl, .inr (X.tD _), _, _, rfl, rfl, _, rfl, ?_⟩
    rw [decide_eq_true (show h.d < ((depthL.map V.str).length : Int) by show h.d < 5; omega)]
    refine iteF ⟨_, rfl, CA, _, rfl, .inr (X.tC _), rfl, flat_strs _, _, rfl, ?_⟩
    rw [inV_str, decide_eq_true hc]
    refine iteF ⟨_, rfl, l, us, h.rs, rfl, hl, rl, fun m z => (hm m z).2, by omega, fun H1 s1 => ⟨_, rfl, iteF ?_⟩⟩
    have hx1 := s1 _ _ hx
    have hl1 := s1 _ _ hl
    have nlx : l ≠ x := fun z => by rw [z, hx] at hl; cases hl
    refine ⟨_, rfl, _, rfl, x, C, dx, _, rfl, hx1, L.cl, L.d, (by show 0 < 1000; decide), ?_⟩
    refine ⟨_, rfl, _, rfl, x, C, dx, _, rfl, upd_same, L.cl, L.ch, (by show 1 < 1000; decide), ?_⟩
    rw [upd_upd]
    refine ⟨_, rfl, l, us, rfl, .inl ⟨SqL.of (by rw [upd_ne nlx]; exact hl1), fun t nt => ?_⟩⟩
    have ntx : x ≠ t := ne_of_none upd_same nt
    refine ⟨_, rfl, x, C, dx, _, rfl, (by rw [upd_ne ntx]; exact upd_same), L.cl, L.rs, (lt_put (n := 999) (lt_put (n := 998) (by show 0 < 998; decide))), ?_⟩
    rw [hs_put]
    have nt1 : H1 t = none := by
      rw [upd_ne (Ne.symm ntx)] at nt
      exact nt
    have sx : ∀ b o, b ≠ x → H b = some o → (upd (upd (upd H1 x (HO.ins C dx (putF "check" (V.str h.ch) (putF "depth" (V.int h.d) [])))) t (.tup us)) x (.ins C dx (hsF (.int h.d) (.str h.ch) (.ref t)))) b = some o := fun b o nb e => by
      rw [upd_ne nb, upd_ne (ne_of_none (s1 _ _ e) nt1), upd_ne nb]
      exact s1 _ _ e
    refine q _ (fun b o nb e => sx b o nb e) ⟨x, dx, t, rfl, upd_same, (by rw [upd_ne (Ne.symm ntx)]; exact upd_same), ?_⟩
    refine Ls.imp rl fun v m a => ?_
    obtain ⟨y, dy, rfl, hy⟩ := a
    have nyx : y ≠ x := fun z => by
      rw [z, hx] at hy
      have e := Option.some.inj hy
      cases m <;> cases e
    exact ⟨y, dy, rfl, sx y _ nyx hy⟩
theorem ok_hsGetX {f C CN : Addr} {c : Rc} {fd : FuncData} (F : Fun K "__getitem__" "House.__getitem__" sHsGet f fd) (L : HsC K C) (N : NrTxt P w K mg base CN)
    (cR : Cal P w K mg base CX0 "has_row" 1 ["house", "at"] (spHasRow K c C)) : FnOk P w K mg base (L2.CX P w) 3 f fd ["self", "at"] (spHsGetX K c C CN) := by
  obtain ⟨fR, fdR, GR, mR, kR, bR⟩ := cR
  obtain ⟨fI, fdI, GI, iI, tI, bI⟩ := N.ini
  refine F.okX scHsGet (fun vs H Q E h => ?_) (fun cdv A outer s H vs Q E hr h => ?_)
  · obtain ⟨v, us, h, i, rfl, _⟩ := h
    rfl
  · obtain ⟨v, us, h, i, rfl, hv, q1, q2⟩ := h
    obtain ⟨x, dx, q, rfl, hx, hq, rl⟩ := id hv
    refine ⟨_, pss_cons (ps_if (pt_not (pt_val (pe_call GR (hr.mono (by decide)) rfl mR kR bR .nil pass0 (pa_cons (pv 0) (pa_cons (pv 1) pa_nil))))) (pss_one (ps_raise rfl (takes_of rfl rfl rfl rfl) (pmk_oexI N.o iI tI GI hr bI pass0 rfl N.g (by exact (pa_cons (pv 1) pa_nil))))) pss_nil)
      (pss_one (ps_ret (pe_ix ix_tup (pe_fld (pv 0) rfl) (pv 1) (fun _ _ => rfl)))), ?_⟩
    refine ⟨_, rfl, _, rfl, .ref x, h, i, rfl, hv.at, _, rfl, ?_⟩
    cases e : hasRow h i with
    | false => exact iteT ⟨_, rfl, (by show 1 ≤ 1000; decide), er_readI (q2 e)⟩
    | true =>
      have z : 0 ≤ i ∧ i < (h.rs.length : Int) := by
        unfold hasRow at e
        exact ⟨of_decide_eq_true (Bool.and_eq_true_iff.mp e).1, of_decide_eq_true (Bool.and_eq_true_iff.mp e).2⟩
      have lx : us.length = h.rs.length := rl.1
      have lt : i.toNat < h.rs.length := by omega
      have em : h.rs[i.toNat]? = some h.rs[i.toNat] := List.getElem?_eq_getElem lt
      obtain ⟨u, eu, ru⟩ := rl.2 _ _ em
      refine iteF ⟨_, rfl, x, C, dx, _, _, rfl, hx, L.cl, L.rs, hs_rs .., _, rfl, q, us, i, u, rfl, rfl, SqT.of hq, at_nat z.1 eu, ?_⟩
      exact q1 u z.1 eu
end
/-! texts -/
theorem strOk_tl {x : Str} (h : ∀ c ∈ tl x, c < 1114112) : PyData.strOk x = true := by
  unfold PyData.strOk
  rw [Array.all_eq_true_iff_forall_mem]
  intro c hc
  exact decide_eq_true (h c (by simpa [tl] using hc))
theorem strOk_lt {x : Str} (h : PyData.strOk x = true) : ∀ c ∈ tl x, c < 1114112 := by
  unfold PyData.strOk at h
  rw [Array.all_eq_true_iff_forall_mem] at h
  intro c hc
  exact of_decide_eq_true (h c (by simpa [tl] using hc))
theorem strOk_app {x y : Str} (h : PyData.strOk x = true) (k : PyData.strOk y = true) : PyData.strOk (x ++ y) = true := strOk_tl fun c hc => by
  rw [tl_append] at hc
  exact (List.mem_append.mp hc).elim (strOk_lt h c) (strOk_lt k c)
theorem words_ok : ∀ p ∈ kindL ++ stateL ++ deedL ++ placeL ++ whoseL ++ [num (-1), num 0, num 1], PyData.strOk p = true := by decide +kernel
theorem rw_strOk {m : Rw} (h : m.ok) (kk : m.kind = 0) : PyData.strOk m.text = true := by
  cases m with
  | ct _ _ _ => cases kk
  | lt k s d p =>
    obtain ⟨a, b, c, e, _⟩ := h
    rw [← let_text]
    have w := words_ok
    have sp : PyData.strOk " " = true := by decide +kernel
    have em : PyData.strOk Str.empty = true := by decide +kernel
    exact strOk_app (strOk_app (strOk_app (strOk_app (strOk_app (strOk_app (strOk_app em (w k (by simp [a]))) sp) (w s (by simp [b]))) sp) (w d (by simp [c]))) sp) (w p (by simp [e]))
theorem joinL_snoc (s : List Nat) (z : List Nat) : ∀ (a : List Nat) (r : List (List Nat)), joinL s ((a :: r) ++ [z]) = joinL s (a :: r) ++ (s ++ z)
  | a, [] => by simp [joinL]
  | a, b :: r => by
    have ih := joinL_snoc s z b r
    simp only [List.cons_append, joinL] at ih ⊢
    rw [ih]
    simp
/-- a row more -/
theorem text_more (h : Hs) (m : Rw) : (Hs.mk h.d h.ch (h.rs ++ [m])).text = h.text ++ (nlS ++ m.text) := ext_tl (by
  unfold Hs.text
  rw [tl_append, tl_append, tl_join, tl_join]
  have e : (Hs.mk h.d h.ch (h.rs ++ [m])).lines = h.lines ++ [m.text] := by simp [Hs.lines]
  rw [e, List.map_append]
  exact joinL_snoc _ _ _ _)
theorem text_head (h : Hs) : ∃ r, tl h.text = tl ("depth " : Str) ++ (tl (num h.d) ++ (10 :: r)) := by
  unfold Hs.text
  rw [tl_join]
  have e : tl nlS = [10] := by decide +kernel
  have e0 : tl Str.empty = [] := rfl
  rw [e]
  simp only [Hs.lines, List.map_cons, joinL]
  refine ⟨joinL [10] (tl (Str.empty ++ Str.ofString "check " ++ h.ch) :: List.map tl (List.map Rw.text h.rs)), ?_⟩
  simp only [tl_append, e0]
  simp
theorem text_depth {h g : Hs} (ho : h.ok) (go : g.ok) (e : h.text = g.text) : h.d = g.d := by
  obtain ⟨r, eh⟩ := text_head h
  obtain ⟨r', eg⟩ := text_head g
  rw [e, eg] at eh
  have z := List.append_cancel_left eh
  have l1 : (tl (num h.d)).length = 1 := by
    exact (show (tl (num h.d)).length = (num h.d).length from by simp [tl, Str.length]).trans (num_dep ho.1 ho.2.1)
  have l2 : (tl (num g.d)).length = 1 := by
    exact (show (tl (num g.d)).length = (num g.d).length from by simp [tl, Str.length]).trans (num_dep go.1 go.2.1)
  have z2 := (List.append_inj z (by rw [l1, l2])).1
  have z3 : num g.d = num h.d := ext_tl z2
  have q : ∀ a ∈ [(0 : Int), 1, 2, 3, 4], ∀ b ∈ [(0 : Int), 1, 2, 3, 4], num a = num b → a = b := by decide +kernel
  have m : ∀ d : Int, 0 ≤ d → d ≤ 4 → d ∈ [(0 : Int), 1, 2, 3, 4] := fun d a b => by
    have : d = 0 ∨ d = 1 ∨ d = 2 ∨ d = 3 ∨ d = 4 := by omega
    simpa using this
  exact (q _ (m _ go.1 go.2.1) _ (m _ ho.1 ho.2.1) z3).symm
theorem text_long (h : Hs) : h.text ≠ "depth" := fun e => by
  obtain ⟨r, eh⟩ := text_head h
  rw [e] at eh
  have z := congrArg List.length eh
  have e1 : (tl ("depth" : Str)).length = 5 := by decide +kernel
  have e2 : (tl ("depth " : Str)).length = 6 := by decide +kernel
  rw [e1, List.length_append, e2] at z
  omega
end V3

set_option Elab.async false
set_option linter.all false
set_option maxRecDepth 100000
/-! != of lists whose items are equal by an == of their own -/
namespace V3
open PySem PySem.SeqAt
open AutoSeq1 (wpAny_loadPart')
open MeetsSeq MeetsSeq2 MeetsSeq3 SeqRoads2
section
variable {prog : Program} {w : World} {A : Around} {R : Result → Shared → Prop}
theorem ne_loopL (l b : Addr) (N : Nat) (I : Nat → Shared → Prop) (hl : GQ.ListI prog w A (fun e s' => R (.error e) s') l b N I) (fin : ∀ s, I N s → R (.ok (.ret (.bool false))) s) (k : Nat) :
    ∀ i : Nat, N - i = k → i ≤ N → ∀ s, I i s → wpAny (model prog w) A.in1 (Builtin.«list.__eq__.loop» ⟨[.ref l, .ref b, rawInt i, rawInt 3], []⟩) (GQ.FinOf prog w A R) (fun e s' => R (.error e) s') s := by
  induction k with
  | zero =>
    intro i hk hi s h
    obtain ⟨xs, ys, n, n2, gl, gb, z1, z2, _⟩ := hl _ _ h
    have ei : i = N := by omega
    have done : R (.ok (.ret (.bool false))) s := fin s (ei ▸ h)
    obtain ⟨hp, g, d, tk, os⟩ := s
    wp_walk using wpAny_loadPart' gl, wpAny_loadPart' gb
    have g1 : xs[((i : Nat) : Int).toNat]? = none := by
      simp
      omega
    have g2 : ys[((i : Nat) : Int).toNat]? = none := by
      simp
      omega
    rw [g1, g2]
    wp_walk using wpAny_loadPart' gl, wpAny_loadPart' gb
    show R (.ok (.ret (.bool (xs.size != ys.size)))) _
    rw [z1, z2]
    simpa using done
  | succ k ih =>
    intro i hk hi s h
    obtain ⟨xs, ys, n, n2, gl, gb, z1, z2, turn⟩ := hl _ _ h
    have l1 : i < xs.size := by omega
    have l2 : i < ys.size := by omega
    have one := turn l1 l2
    obtain ⟨hp, g, d, tk, os⟩ := s
    wp_walk using wpAny_loadPart' gl, wpAny_loadPart' gb
    have g1 : xs[((i : Nat) : Int).toNat]? = some xs[i] := by simp [l1]
    have g2 : ys[((i : Nat) : Int).toNat]? = some ys[i] := by simp [l2]
    have e1 : ((i : Int) + 1) = ((i + 1 : Nat) : Int) := by omega
    rw [g1, g2]
    refine wpAny_bind (wpAny_mono one (fun r s2 q => ?_) fun _ _ x => x)
    obtain ⟨er, q⟩ := q
    subst er
    have rec1 := ih (i + 1) (by omega) (by omega) s2 q
    obtain ⟨hp2, g2', d2, tk2, os2⟩ := s2
    wp_walk
    rw [e1]
    exact ⟨plainId_quiet plain_eq_loop _, codeAny_builtin entry_eq_loop (by
      rw [Around.under_plainId plain_eq_loop _]
      exact rec1)⟩
theorem list_neL (l b : Addr) (N : Nat) (I : Nat → Shared → Prop) (hl : GQ.ListI prog w A (fun e s' => R (.error e) s') l b N I) (fin : ∀ s, I N s → R (.ok (.ret (.bool false))) s) {s : Shared} (h : I 0 s) :
    wpAny (model prog w) A.in1 (Builtin.«list.__ne__» ⟨[.ref l, .ref b], []⟩) (GQ.FinOf prog w A R) (fun e s' => R (.error e) s') s := by
  obtain ⟨xs, ys, n, n2, gl, gb, z1, z2, _⟩ := hl _ _ h
  have rec0 := ne_loopL (A := A) (R := R) l b N I hl fin _ 0 rfl (Nat.zero_le _) s h
  obtain ⟨hp, g, d, tk, os⟩ := s
  have sb := AutoSeq1.sub_list_list
  have nz : ¬ (xs.size != ys.size) = true := by simp [z1, z2]
  wp_walk using wpAny_loadPart' gl, wpAny_loadPart' gb
  exact ⟨plainId_quiet plain_eq_loop _, codeAny_builtin entry_eq_loop (by
    rw [Around.under_plainId plain_eq_loop _]
    exact rec0)⟩
end
section
variable {prog : Program} {w : World} {A : Around} {E : Value → Shared → Prop} {s : Shared}
theorem rc_listNe {l b : Addr} {N : Nat} {Q : Value → Shared → Prop} (hu : A.units < cLine) (I : Nat → Shared → Prop) (hl : GQ.ListI prog w A E l b N I) (fin : ∀ s, I N s → Q (.bool false) s) (h : I 0 s) : wpAny (model prog w) A (richCompare .NotEq (.ref l) (.ref b)) Q E s := by
  obtain ⟨xs, ys, n, n2, gl, gb, _, _, _⟩ := hl _ _ h
  refine wpAny_richCompare_same_room (op := .NotEq) ⟨_, gl, rfl⟩ ⟨_, gb, rfl⟩ F.slot_list_ne (GQ.call_here F.slot_list_ne ⟨_, gl, rfl⟩ F.entry_list_ne (F.args_list_ne_2 _ _) ?_) hu
  exact list_neL (R := wants (fun v s' => v ≠ .notImplemented ∧ Q v s') E) l b N I hl (fun s' q => ⟨(fun x => nomatch x), fin s' q⟩) h
end
end V3
namespace V3
open PySem PySem.Spec PyProof.Rows L2
/-- the very same object -/
def DSame : Eqv := fun x y _ => ∃ a, x = .ref a ∧ y = .ref a
theorem mon_same : Mon DSame := fun _ _ _ _ _ d => d
def rNeL (D : Eqv) : R2 := fun x y H Q => DList D x y H ∧ ∀ H', Ext H H' → Q (.bl false) H'
theorem op_neL {X : Cx} {n : Nat} {D : Eqv} (hD : Mon D) (h : EqG X n D) (hr : Room (n + 1) X.A) : OpR X (compareOp .NotEq) (rNeL D) := by
  intro pins s σ H x y v u Q J rx ry hq
  obtain ⟨⟨a, b, xs, ys, rfl, rfl, ha, hb, p⟩, q⟩ := hq
  cases rx
  cases ry
  show wpAny (model X.prog X.w) X.A (richCompare .NotEq (.ref a) (.ref b)) (EP X pins σ Q) X.xe s
  refine rc_listNe (N := xs.length) hr.units0 (fun _ s' => LoopI X pins σ H s') (fun i s' z => ?_) (fun s' z => ?_) ⟨H, J, Ext.rfl'⟩
  · obtain ⟨H1, I1, e1⟩ := id z
    obtain ⟨z0, its, k, r, e⟩ := I1.hok a _ (e1 _ _ ha)
    obtain ⟨z2, its2, k2, r2, e2⟩ := I1.hok b _ (e1 _ _ hb)
    exact ⟨its.toArray, its2.toArray, k, k2, e, e2, by rw [List.size_toArray, ← r.length], by rw [List.size_toArray, ← r2.length, ← p.1], fun h1 h2 => turnG hD h ⟨hr, rfl⟩ p r r2 i h1 h2 s' z⟩
  · obtain ⟨H1, I1, e1⟩ := z
    exact ⟨.bl false, H1, I1, rfl, q H1 e1⟩
theorem eqG_same {X : Cx} : EqG X 0 DSame := fun A pins s σ H x y u v sb J rx ry d => by
  obtain ⟨a, rfl, rfl⟩ := d
  cases rx
  cases ry
  exact PySem.SeqAt.EqAt.same (A := A) (s := s) (.ref a) X.prog X.w X.xe _ ⟨rfl, H, J, Ext.rfl'⟩
end V3

set_option Elab.async false
set_option linter.all false
set_option maxRecDepth 100000
/-! what is done with houses, answered -/
namespace V3
open PySem L2 TL
structure HsOps (P : Program) (w : World) (K : PySem.W.Frag) (mg : Str → Option Value) (base : Heap) (c : Rc) (C CN : Addr) : Prop where
  g : mg "House" = some (.ref C)
  hc : HsC K C
  mkX : ∃ (f : Addr) (fd : FuncData), FnOk P w K mg base CX0 4 f fd ["self", "depth", "check", "rows"] (spHsInitX K c C) ∧ Mk K C f ∧ Binds K fd ["self", "depth", "check", "rows"] []
  mkT : ∃ (f : Addr) (fd : FuncData), FnOk P w K mg base CX0 4 f fd ["self", "depth", "check", "rows"] (spHsInitT K c C) ∧ Mk K C f ∧ Binds K fd ["self", "depth", "check", "rows"] []
  mk0 : ∃ (f : Addr) (fd : FuncData) (e : Addr) (ds : List Value), FnOk P w K mg base CX0 4 f fd ["self", "depth", "check", "rows"] (spHsInitT K c C) ∧ Mk K C f ∧ Vals [.ref e] ds ∧ Binds K fd ["self", "depth", "check", "rows"] ds ∧ (∃ o, K.lookup e = some o ∧ o.cls = .type "tuple") ∧ ∀ H, SqT K H e []
  sk : HsStr P w K mg base c C
  len : ∃ (f : Addr) (fd : FuncData), FnOk P w K mg base CX0 1 f fd ["self"] (spHsLen K c C) ∧ PySem.W.findIn K (.ref C) "__len__" = some (some (.ref f)) ∧ PySem.W.isFn K (.ref f) = true ∧ Binds K fd ["self"] []
  eq : ∃ (f : Addr) (fd : FuncData), FnOk P w K mg base CX0 7 f fd ["self", "other"] (spHsEq K c C) ∧ EqCls K C f ∧ Binds K fd ["self", "other"] []
  ne : ∃ (f : Addr) (fd : FuncData), FnOk P w K mg base CX0 7 f fd ["self", "other"] spHsNe ∧ EqCls K C f ∧ Binds K fd ["self", "other"] []
  get : ∃ (f : Addr) (fd : FuncData), FnOk P w K mg base (L2.CX P w) 3 f fd ["self", "at"] (spHsGetX K c C CN) ∧ GetCls K C f ∧ Binds K fd ["self", "at"] []
  nf : PySem.W.notFirst K C (.ref C) = true
  bh : BehindL K C
def FFe (K : PySem.W.Frag) (c : Rc) (C : Addr) : Addr → Sp → XK → Prop := fun D sp _ => D = C ∧ sp = spHsEq K c C
def FFn (C : Addr) : Addr → Sp → XK → Prop := fun D sp _ => D = C ∧ sp = spHsNe
def FFg (K : PySem.W.Frag) (c : Rc) (C CN : Addr) : Addr → Sp → XK → Prop := fun D sp E => D = C ∧ sp = spHsGetX K c C CN ∧ E = E0
section
variable {X : Cx} {c : Rc} {C CN : Addr}
theorem own_e (T : HsOps X.prog X.w X.K X.mg X.base c C CN) : ∀ D sp E, FFe X.K c C D sp E → ∃ (CX : CXT) (f : Addr) (fd : FuncData) (ps : List Str), FnOk X.prog X.w X.K X.mg X.base CX 7 f fd ps sp ∧ EqCls X.K D f ∧ Binds X.K fd ps [] ∧ Passes CX X E := fun D sp E h => by
  obtain ⟨rfl, rfl⟩ := h
  obtain ⟨f, fd, F, ec, bi⟩ := T.eq
  exact ⟨CX0, f, fd, _, F, ec, bi, fun _ _ _ _ _ _ _ h => h.elim⟩
theorem op_neH (T : HsOps X.prog X.w X.K X.mg X.base c C CN) (hr : Room 8 X.A) : OpR X (compareOp .NotEq) (rEqO X.K 7 (FFe X.K c C) true) := op_neO (own_e T) hr
theorem op_eqH (T : HsOps X.prog X.w X.K X.mg X.base c C CN) (hr : Room 7 X.A) : OpR X (compareOp .Eq) (rEqO X.K 7 (FFe X.K c C) false) := op_eqO (own_e T) hr
theorem op_inH (T : HsOps X.prog X.w X.K X.mg X.base c C CN) (hr : Room 8 X.A) : OpR X (compareOp .In) (rInL X.K (FFn C)) := op_inL (fun D sp E h => by
  obtain ⟨rfl, rfl⟩ := h
  obtain ⟨f, fd, F, ec, bi⟩ := T.ne
  exact ⟨CX0, f, fd, _, F, ec, bi, fun _ _ _ _ _ _ _ h => h.elim⟩) hr
theorem get_H (T : HsOps X.prog X.w X.K X.mg X.base c C CN) : ∀ D sp E, FFg X.K c C CN D sp E → ∃ (CX : CXT) (f : Addr) (fd : FuncData) (ps : List Str), FnOk X.prog X.w X.K X.mg X.base CX 3 f fd ps sp ∧ GetCls X.K D f ∧ Binds X.K fd ps [] ∧ Passes CX X E := fun D sp E h => by
  obtain ⟨rfl, rfl, rfl⟩ := h
  obtain ⟨f, fd, F, ec, bi⟩ := T.get
  exact ⟨_, f, fd, _, F, ec, bi, passL⟩
def rLenK (K : PySem.W.Frag) (c : Rc) (C : Addr) : List V → Hp → VK → Prop := fun xs H Q => ∃ v h, xs = [v] ∧ HsAt K c C H v h ∧ h.ok ∧ Q (.int (h.rs.length : Int)) H
theorem call_lenK (T : HsOps X.prog X.w X.K X.mg X.base c C CN) (room : Room 2 X.A) : CallR X (.builtin "len") (rLenK X.K c C) := by
  intro pins s σ H xs us Q I r h
  obtain ⟨v, h, rfl, a, ok, q⟩ := h
  obtain ⟨f, fd, G, at_, isf, bi⟩ := T.len
  obtain ⟨x, dx, t, ys, rfl, hx, ht, mv⟩ := id a
  have n := ok.2.2.2.2
  refine call_lenO (E := fun _ _ _ => False) G at_ isf bi pass0 room pins s σ H _ us Q I r ⟨x, dx, _, rfl, hx, _, h, rfl, a, _, rfl, ⟨by omega, ?_⟩, q⟩
  exact Int.lt_of_le_of_lt (b := 1000) (by omega) (by decide)
end
section
variable {P : Program} {w : World} {K : PySem.W.Frag} {mg : Str → Option Value} {base : Heap}
theorem ok_hsNe {f C : Addr} {c : Rc} {fd : FuncData} (F : Fun K "__eq__" "House.__eq__" sHsEq f fd) (T : BltK mg) (S : HsStr P w K mg base c C) (N : HsNot K C) (gH : mg "House" = some (.ref C)) : FnOk P w K mg base CX0 7 f fd ["self", "other"] spHsNe := by
  refine F.ok scHsEq (fun vs H Q E h => ?_) (fun cdv A outer s H vs Q E hr h => ?_)
  · obtain ⟨u, z, rfl, _⟩ := h
    rfl
  · obtain ⟨u, z, rfl, pl, k⟩ := h
    refine ⟨_, pss_one (ps_ret (pe_and (pe_callB call_isi (by rfl) T.isi (by decide +kernel) (pa_cons (pv 1) (pa_cons (pe_glob (v := .ref C) rfl gH rfl) pa_nil)))
      (pe_one (pe_cmpR op_eq (pe_callTy (call_strK S hr) (by rfl) T.str (by decide +kernel) (pa_cons (pv 0) pa_nil)) (pe_callTy (call_strK S hr) (by rfl) T.str (by decide +kernel) (pa_cons (pv 1) pa_nil)) (nomark _))))), ?_⟩
    cases pl with
    | str x => exact ⟨_, rfl, _, _, _, _, _, rfl, .own C, .base (.str x), N.s, _, rfl, iteF k⟩
    | non => exact ⟨_, rfl, _, _, _, _, _, rfl, .own C, .base .non, N.n, _, rfl, iteF k⟩
    | tup h => exact ⟨_, rfl, _, _, _, _, _, rfl, .own C, .base (.tup h), N.t, _, rfl, iteF k⟩
    | lst h => exact ⟨_, rfl, _, _, _, _, _, rfl, .own C, .base (.lst h), N.l, _, rfl, iteF k⟩
end
/-- a drawn row's tuple -/
def TrA (m : Rw) : V → Hp → Prop := fun v H => TpAt H v m ∧ m.ok ∧ m.kind = 0
instance {m : Rw} : StL (TrA m) := ⟨fun _ _ _ s a => ⟨a.1.keep s, a.2⟩⟩
section
variable {K : PySem.W.Frag} {c : Rc} {C CN : Addr} {σ : L2.St} {ta tb td tc tl te : TE} {H0 : Hp} {h g : Hs} {us : List V} {m : Rw} {R : V → Hp → Prop}
theorem ev_X (ha : EvV (Same H0) σ ta (HsX K c C us h)) : EvV (Same H0) σ ta (HsA K c C h) := ev_to ha fun _ _ a => a.at
theorem ev_strK (ok : h.ok) (ha : EvV (Same H0) σ ta (HsA K c C h)) : EvV (Same H0) σ (tCB (rStrK K c C) (tCons ta tNil)) (isSv h.text) :=
  ev_cb (eva_cons ha eva_nil) fun vs H Q w r k => by
    obtain ⟨v, r, rfl, hv, rfl⟩ := r
    exact ⟨v, h, rfl, hv, ok, fun H' s => k _ H' s rfl⟩
theorem ev_lenK (ok : h.ok) (ha : EvV (Same H0) σ ta (HsA K c C h)) : EvV (Same H0) σ (tCB (rLenK K c C) (tCons ta tNil)) (isIv (h.rs.length : Int)) :=
  ev_cb (eva_cons ha eva_nil) fun vs H Q w r k => by
    obtain ⟨v, r, rfl, hv, rfl⟩ := r
    exact ⟨v, h, rfl, hv, ok, k _ H (Same.refl H) rfl⟩
theorem ev_eqK {neg : Bool} (nf : PySem.W.notFirst K C (.ref C) = true) (ho : h.ok) (go : g.ok) (ha : EvV (Same H0) σ ta (HsA K c C h)) (hb : EvV (Same H0) σ tb (HsA K c C g)) : EvV (Same H0) σ (tOp (rEqO K 7 (FFe K c C) neg) ta tb) (isBv (decide (h.text = g.text) != neg)) :=
  ev_o ha hb fun x y H Q w a1 a2 k => by
    obtain ⟨x, dx, q, us, rfl, hx, hq, rl⟩ := id a1
    obtain ⟨y, dy, q2, us2, rfl, hy, hq2, rl2⟩ := id a2
    exact ⟨x, C, dx, _, y, C, dy, _, spHsEq K c C, E0, rfl, rfl, hx, hy, ⟨rfl, rfl⟩, nf, _, _, h, g, rfl, a1, a2, ho, go, fun H' s => ⟨_, rfl, k _ H' s rfl⟩⟩
theorem ev_ixK {i : Int} {u : V} (hu : us[i.toNat]? = some u) (i0 : 0 ≤ i) (hi : hasRow h i = true) (ha : EvV (Same H0) σ ta (HsX K c C us h)) (hb : EvV (Same H0) σ tb (isIv i)) : EvV (Same H0) σ (tOp (rIxO (FFg K c C CN)) ta tb) (isVv u) :=
  ev_o ha hb fun x y H Q w a1 a2 k => by
    cases a2
    obtain ⟨x, dx, q, rfl, hx, hq, rl⟩ := id a1
    exact ⟨x, C, dx, _, spHsGetX K c C CN, E0, rfl, hx, ⟨rfl, rfl, rfl⟩, _, us, h, i, rfl, a1, fun u2 _ e => by
      rw [hu] at e
      cases e
      exact k _ H (Same.refl H) rfl, fun e => by rw [hi] at e; cases e⟩
/-- a list of these very objects, rows of a house -/
def isLo (c : Rc) (us : List V) (ms : List Rw) : V → Hp → Prop := fun v H => ∃ l, v = .ref l ∧ H l = some (.lst us) ∧ RwLs c H us ms
instance {ms : List Rw} : St (isLo c us ms) := ⟨fun _ _ _ s ⟨l, e, hl, rl⟩ => ⟨l, e, s _ _ hl, rl.same s⟩⟩
def isTo (c : Rc) (us : List V) (ms : List Rw) : V → Hp → Prop := fun v H => ∃ l, v = .ref l ∧ H l = some (.tup us) ∧ RwLs c H us ms
instance {ms : List Rw} : StL (isTo c us ms) := ⟨fun _ _ _ s ⟨l, e, hl, rl⟩ => ⟨l, e, s _ _ (fun _ z => by cases z) hl, rl.keep s⟩⟩
theorem mk_houseX {C x dx l : Addr} {H : Hp} {R : VK} {E : XK} (hl : H l = some (.lst us)) (rl : RwLs c H us h.rs) (ok : h.ok) (nx : H x = none) (ndx : H dx = none) (q : ∀ H', Same H H' → HsX K c C us h (.ref x) H' → R .non H') :
    spHsInitX K c C [.ref x, .int h.d, .str h.ch, .ref l] (upd (upd H dx (.own x)) x (.ins C dx [])) R E := by
  have s0 : Same H (upd (upd H dx (.own x)) x (.ins C dx [])) := made_same nx ndx
  exact ⟨x, dx, l, us, h, rfl, upd_same, s0 _ _ hl, rl.same s0, ok, fun H' s' a => q H' (fun b o e => s' b o (ne_of_none e nx) (s0 b o e)) a⟩
theorem ev_mkX (ok : h.ok) (hd : EvV (Same H0) σ td (isIv h.d)) (hc : EvV (Same H0) σ tc (isSv h.ch)) (hl : EvV (Same H0) σ tl (isLo c us h.rs)) : EvV (Same H0) σ (tMake C (spHsInitX K c C) [] E0 (tCons td (tCons tc (tCons tl tNil)))) (HsX K c C us h) :=
  ev_make (eva_cons hd (eva_cons hc (eva_cons hl eva_nil))) fun vs H x dx Q w r nx ndx ne k => by
    obtain ⟨v1, r, rfl, e1, v2, r, rfl, e2, v3, r, rfl, ⟨l, rfl, hl, rl⟩, rfl⟩ := r
    cases e1
    cases e2
    exact mk_houseX hl rl ok nx ndx k
theorem ev_mkT (ok : h.ok) (hd : EvV (Same H0) σ td (isIv h.d)) (hc : EvV (Same H0) σ tc (isSv h.ch)) (hl : EvV (Same H0) σ tl (isTo c us h.rs)) : EvV (Same H0) σ (tMake C (spHsInitT K c C) [] E0 (tCons td (tCons tc (tCons tl tNil)))) (HsA K c C h) :=
  ev_make (eva_cons hd (eva_cons hc (eva_cons hl eva_nil))) fun vs H x dx Q w r nx ndx ne k => by
    obtain ⟨v1, r, rfl, e1, v2, r, rfl, e2, v3, r, rfl, ⟨l, rfl, hl, rl⟩, rfl⟩ := r
    cases e1
    cases e2
    exact mk_houseT (.inl hl) rl ok nx ndx k
theorem ev_mk0 {d : Int} {ch : Str} {e : Addr} (ok : (Hs.mk d ch []).ok) (he : (∃ o, K.lookup e = some o ∧ o.cls = .type "tuple") ∧ ∀ H, SqT K H e []) (hd : EvV (Same H0) σ td (isIv d)) (hc : EvV (Same H0) σ tc (isSv ch)) : EvV (Same H0) σ (tMake C (spHsInitT K c C) [.ref e] E0 (tCons td (tCons tc tNil))) (HsA K c C ⟨d, ch, []⟩) :=
  ev_make (eva_cons hd (eva_cons hc eva_nil)) fun vs H x dx Q w r nx ndx ne k => by
    obtain ⟨v1, r, rfl, e1, v2, r, rfl, e2, rfl⟩ := r
    cases e1
    cases e2
    exact mk_houseT (h := ⟨d, ch, []⟩) (us := []) (.inr he) Ls.nil ok nx ndx k
theorem ev_houseOf (ok : h.ok) (ha : EvV (Same H0) σ ta (HtA h)) : EvV (Same H0) σ (tCall (spHouseOf K c C) [] E0 (tCons ta tNil)) (HsA K c C h) :=
  ev_call (eva_cons ha eva_nil) fun vs H Q w r k => by
    obtain ⟨v, r, rfl, hv, rfl⟩ := r
    exact ⟨v, h, rfl, hv, ok, fun x H' s a => k x H' s a⟩
theorem ev_houseText (ok : h.ok) (ha : EvV (Same H0) σ ta (HtA h)) : EvV (Same H0) σ (tCall spHouseText [] E0 (tCons ta tNil)) (isSv h.text) :=
  ev_call (eva_cons ha eva_nil) fun vs H Q w r k => by
    obtain ⟨v, r, rfl, hv, rfl⟩ := r
    exact ⟨v, h, rfl, hv, ok, fun H' s => k _ H' s rfl⟩
theorem ev_letOf (ha : EvV (Same H0) σ ta (TrA m)) : EvV (Same H0) σ (tCall (spLetOf c) [] E0 (tCons ta tNil)) (RwA c m) :=
  ev_call (eva_cons ha eva_nil) fun vs H Q w r k => by
    obtain ⟨v, r, rfl, hv, rfl⟩ := r
    exact ⟨v, m, rfl, hv.1, hv.2.1, hv.2.2, fun x H' s a => k x H' s a⟩
theorem ev_mkLet {k s d p : Str} {t1 t2 t3 t4 : TE} (ok : (Rw.lt k s d p).ok) (h1 : EvV (Same H0) σ t1 (isSv k)) (h2 : EvV (Same H0) σ t2 (isSv s)) (h3 : EvV (Same H0) σ t3 (isSv d)) (h4 : EvV (Same H0) σ t4 (isSv p)) :
    EvV (Same H0) σ (tMake c.L (spLInit c) [] E0 (tCons t1 (tCons t2 (tCons t3 (tCons t4 tNil))))) (RwA c (.lt k s d p)) :=
  ev_make (eva_cons h1 (eva_cons h2 (eva_cons h3 (eva_cons h4 eva_nil)))) fun vs H x dx Q w r nx ndx ne q => by
    obtain ⟨v1, r, rfl, e1, v2, r, rfl, e2, v3, r, rfl, e3, v4, r, rfl, e4, rfl⟩ := r
    cases e1
    cases e2
    cases e3
    cases e4
    exact mk_let ok nx ndx q
theorem ev_strL (ok : m.ok) (kd : m.kind = 0) (ha : EvV (Same H0) σ ta (RwA c m)) : EvV (Same H0) σ (tCB (rStrH c) (tCons ta tNil)) (isSv m.text) :=
  ev_cb (eva_cons ha eva_nil) fun vs H Q w r k => by
    obtain ⟨v, r, rfl, hv, rfl⟩ := r
    exact ⟨v, m, rfl, hv, ok, kd, k _ H (Same.refl H) rfl⟩
theorem ev_rowsX (L : HsC K C) (ha : EvV (Same H0) σ ta (HsX K c C us h)) : EvV (Same H0) σ (tFld K ta "rows") (isTo c us h.rs) :=
  ev_fld ha fun x H w hx => by
    obtain ⟨x, dx, q, rfl, hx, hq, rl⟩ := hx
    exact ⟨x, C, dx, _, _, rfl, hx, L.cl, L.rs, hs_rs .., q, rfl, hq, rl⟩
theorem ev_depth (L : HsC K C) (ha : EvV (Same H0) σ ta (HsA K c C h)) : EvV (Same H0) σ (tFld K ta "depth") (isIv h.d) :=
  ev_fld ha fun x H w hx => by
    obtain ⟨x, dx, q, us, rfl, hx, hq, rl⟩ := hx
    exact ⟨x, C, dx, _, _, rfl, hx, L.cl, L.d, hs_d .., rfl⟩
theorem ev_check (L : HsC K C) (ha : EvV (Same H0) σ ta (HsA K c C h)) : EvV (Same H0) σ (tFld K ta "check") (isSv h.ch) :=
  ev_fld ha fun x H w hx => by
    obtain ⟨x, dx, q, us, rfl, hx, hq, rl⟩ := hx
    exact ⟨x, C, dx, _, _, rfl, hx, L.cl, L.ch, hs_ch .., rfl⟩
theorem ev_ht0 (ha : EvV (Same H0) σ ta (HtA h)) : EvV (Same H0) σ (tOp (rIxT K) ta (tC (.int 0))) (isIv h.d) :=
  ev_o (Rb := isIv 0) ha ev_int fun x y H Q w hx hy k => by
    cases hy
    obtain ⟨p, q, us, rfl, hp, hq, rl⟩ := hx
    exact ⟨p, _, 0, _, rfl, rfl, SqT.of hp, rfl, k _ H (Same.refl H) rfl⟩
theorem ev_ht1 (ha : EvV (Same H0) σ ta (HtA h)) : EvV (Same H0) σ (tOp (rIxT K) ta (tC (.int 1))) (isSv h.ch) :=
  ev_o (Rb := isIv 1) ha ev_int fun x y H Q w hx hy k => by
    cases hy
    obtain ⟨p, q, us, rfl, hp, hq, rl⟩ := hx
    exact ⟨p, _, 1, _, rfl, rfl, SqT.of hp, rfl, k _ H (Same.refl H) rfl⟩
theorem ev_ht2 (ha : EvV (Same H0) σ ta (HtA h)) : EvV (Same H0) σ (tOp (rIxT K) ta (tC (.int 2))) (isU TrA h.rs) :=
  ev_o (Rb := isIv 2) ha ev_int fun x y H Q w hx hy k => by
    cases hy
    obtain ⟨p, q, us, rfl, hp, hq, rl⟩ := hx
    exact ⟨p, _, 2, _, rfl, rfl, SqT.of hp, rfl, k _ H (Same.refl H) ⟨q, us, rfl, hq, rl⟩⟩
theorem ev_ht01 (ha : EvV (Same H0) σ ta (HtA h)) : EvV (Same H0) σ (tSl (rSlT K) ta tNoPart (tPart (tC (.int 2)))) (isP2 isIv isSv (h.d, h.ch)) := fun H Q w k =>
  ha H _ w fun x H1 s1 w1 hx => by
    obtain ⟨p, q, us, rfl, hp, hq, rl⟩ := hx
    refine ⟨2, rfl, p, _, rfl, SqT.of hp, fun z => absurd z.2 (by show ¬ HT.sIx 3 3 (some 2) = 3; decide), fun t nt => ?_⟩
    have s2 : Same H1 (upd H1 t (.tup [.int h.d, .str h.ch])) := Same.new nt
    exact k _ _ (s1.trans s2) (w1.trans s2) ⟨t, _, _, rfl, upd_same, rfl, rfl⟩
theorem ev_isTo {ms : List Rw} (ha : EvV (Same H0) σ ta (isTo c us ms)) : EvV (Same H0) σ (tCB (rIsi K) (tCons ta (tCons (tC (.ty "tuple")) tNil))) (isBv true) := fun H Q w k =>
  ha H _ w fun x H1 s1 w1 hx => by
    obtain ⟨q, rfl, hq, rl⟩ := hx
    exact ⟨_, _, _, _, _, rfl, .ty "tuple", .base (.tup hq), kit_ty (by decide +kernel), k _ H1 s1 w1 rfl⟩
theorem evi_tupU {α : Type} {S : α → V → Hp → Prop} [∀ a, St (S a)] {as : List α} (ha : EvV (Same H0) σ te (isU S as)) : EvI H0 σ (iTup K te) as S :=
  evi_tup (ev_to ha fun v H ⟨D, us, e, hD, l⟩ => ⟨D, us, e, fun H' s => SqT.of (s _ _ hD), l⟩)
theorem evi_tupo {ms : List Rw} (ha : EvV (Same H0) σ te (isTo c us ms)) : EvI H0 σ (iTup K te) ms (RwA c) :=
  evi_tup (ev_to ha fun v H ⟨D, e, hD, l⟩ => ⟨D, us, e, fun H' s => SqT.of (s _ _ hD), l⟩)
theorem evn_lcY {α β : Type} {wi : TI} {i : Nat} {as : List α} {S : α → V → Hp → Prop} {S' : β → V → Hp → Prop} [∀ b, StL (S' b)] (f : α → β) (hi : EvI H0 σ wi as S) (hn : as.length ≤ 1000)
    (hb : ∀ a ∈ as, ∀ x H, Same H0 H → S a x H → EvV (Same H) ((wipe σ [i]).set i (some x)) te (S' (f a))) (hw : ∀ x : V, wipe ((wipe σ [i]).set i (some x)) [i] = wipe σ [i]) :
    EvNL H0 σ (tLc wi (gName i) tYes te [i]) S' (as.map f) := by
  have z := evn_lc (tt := tYes) (te := te) (vs := [i]) (g := gName i) (S' := S') (fun _ => true) f hi hn fun a ha x H w r K2 k => k _ _ (Same.refl H) (hw x) (fun H Q w k => k H (Same.refl H) w) fun _ => hb a ha x H w r
  rw [List.filter_eq_self.mpr fun _ _ => rfl] at z
  exact z
theorem ev_lcY {α β : Type} {wi : TI} {i : Nat} {as : List α} {S : α → V → Hp → Prop} {S' : β → V → Hp → Prop} [∀ b, StL (S' b)] (f : α → β) (hi : EvI H0 σ wi as S) (hn : as.length ≤ 1000)
    (hb : ∀ a ∈ as, ∀ x H, Same H0 H → S a x H → EvV (Same H) ((wipe σ [i]).set i (some x)) te (S' (f a))) (hw : ∀ x : V, wipe ((wipe σ [i]).set i (some x)) [i] = wipe σ [i]) :
    EvV (Same H0) σ (tLc wi (gName i) tYes te [i]) (isL S' (as.map f)) := (evn_lcY f hi hn hb hw).ev
/-- none of them passes the test -/
theorem ev_lcN {α β : Type} {wi : TI} {i : Nat} {as : List α} {S : α → V → Hp → Prop} {tt : TT} (S' : β → V → Hp → Prop) [∀ b, StL (S' b)] (f : α → β) (hi : EvI H0 σ wi as S) (hn : as.length ≤ 1000)
    (hb : ∀ a ∈ as, ∀ x H, Same H0 H → S a x H → EvB (Same H) ((wipe σ [i]).set i (some x)) tt false) (hw : ∀ x : V, wipe ((wipe σ [i]).set i (some x)) [i] = wipe σ [i]) :
    EvV (Same H0) σ (tLc wi (gName i) tt te [i]) (isL S' []) := by
  have z := ev_lc (tt := tt) (te := te) (vs := [i]) (g := gName i) (S' := S') (fun _ => false) f hi hn fun a ha x H w r K2 k => k _ _ (Same.refl H) (hw x) (hb a ha x H w r) fun e => by cases e
  rw [List.filter_eq_nil_iff.mpr fun _ _ => Bool.false_ne_true] at z
  exact z
theorem ev_joinT (ha : EvV (Same H0) σ ta (TrA m)) : EvV (Same H0) σ (tM1 (rJoinK K) (tC (.str " ")) ta) (isSv m.text) := fun H Q w k =>
  ⟨⟨_, rfl⟩, ha H _ w fun x H1 s1 w1 hx => by
    obtain ⟨⟨t, rfl, ht⟩, mo, mk⟩ := hx
    cases m with
    | ct _ _ _ => cases mk
    | lt k' s' d' p' =>
      have lw : ∀ z ∈ (Rw.lt k' s' d' p').words, z.length ≤ 6 := fun z hz => (word_ok mo z hz).2
      simp only [Rw.words, List.mem_cons, List.not_mem_nil, or_false, forall_eq_or_imp, forall_eq] at lw
      obtain ⟨l1, l2, l3, l4⟩ := lw
      have lb : (" " : Str).length = 1 := by decide +kernel
      have e : Txt.join (" " : Str) [k', s', d', p'] = (Rw.lt k' s' d' p').text := join_eq _ _
      refine ⟨_, t, [k', s', d', p'], rfl, rfl, .inr (SqT.of ht), ?_, k _ H1 s1 w1 (by rw [e]; rfl)⟩
      simp only [List.map, List.sum_cons, List.sum_nil, List.length_cons, List.length_nil, lb]
      omega⟩
end
end V3

set_option Elab.async false
set_option linter.all false
set_option maxRecDepth 100000
namespace V3
open PySem L2 TL
abbrev sHouseOf : Stmt := top 35
section
variable {P : Program} {w : World} {K : PySem.W.Frag} {mg : Str → Option Value} {base : Heap}
theorem scHouseOf : FnScope ["_law_house_here", "_law_row"] ["_law_house_here"] (defScope sHouseOf) := ⟨rfl, rfl, rfl, by decide +kernel, rfl, by decide +kernel, by decide +kernel⟩
theorem ok_houseOf {f C : Addr} {c : Rc} {fd : FuncData} (F : Fun K "_law_house_of" "_law_house_of" sHouseOf f fd) (M : MkH P w K mg base c C) (cL : Cal P w K mg base CX0 "_law_let_of" 5 ["_law_row"] (spLetOf c)) : FnOk P w K mg base CX0 6 f fd ["_law_house_here"] (spHouseOf K c C) := by
  obtain ⟨fL, fdL, GL, mL, kL, bL⟩ := cL
  obtain ⟨fH, fdH, GH, MH, bH⟩ := M.ini
  refine F.ok scHouseOf (fun vs H Q E h => ?_) (fun cdv A outer s H vs Q E hr h => ?_)
  · obtain ⟨v, h, rfl, _⟩ := h
    rfl
  · obtain ⟨v, h, rfl, ⟨x, q, us, rfl, hx, hq, rl⟩, ok, k⟩ := h
    obtain ⟨d0, d4, hc, hm, hn⟩ := id ok
    refine ⟨_, pss_one (ps_ret (pe_make (E := fun _ _ _ => False) MH GH hr rfl M.g bH .nil pass0 (pa_cons (pe_ix ix_tup (pv 0) pe_int (fun _ _ => rfl)) (pa_cons (pe_ix ix_tup (pv 0) pe_int (fun _ _ => rfl)) (pa_cons
      (pe_lc (own := [("_law_row", 1)]) (g := gName 1) (tt := tYes) (te := tCall (spLetOf c) [] E0 (tCons (tVar 1) tNil)) (by rfl) scHouseOf.nd (pi_tup (pe_ix ix_tup (pv 0) pe_int (fun _ _ => rfl))) (blkOk_by (own := [("_law_row", 1)]) (N := ["_law_house_here", "_law_row"]) (sc := defScope sHouseOf) (by decide +kernel)) (fun _ _ _ _ _ => pg_name (i := 1) scHouseOf.nd rfl (Or.inl rfl)) (fun _ _ _ _ _ => pts_nil)
          (fun _ _ _ _ _ => pe_call GL hr rfl mL kL bL .nil pass0 (pa_cons (pv 1) pa_nil))) pa_nil))))), ?_⟩
    refine ⟨_, rfl, x, _, 0, _, rfl, rfl, SqT.of hx, rfl, _, rfl, x, _, 1, _, rfl, rfl, SqT.of hx, rfl, _, rfl, x, _, 2, _, rfl, rfl, SqT.of hx, rfl, q, rfl, ⟨us, SqT.of hq⟩, fun D nD => ?_⟩
    have lx : us.length = h.rs.length := rl.1
    refine lc_tup (K := K) (a := q) (xs := us) (fun i Hh => Same H Hh ∧ H D = none ∧ ∃ acc, Hh D = some (.lst acc) ∧ RwLs c Hh acc (h.rs.take i)) ⟨Same.new nD, nD, [], upd_same, Ls.nil⟩ (fun i Hh _ z => SqT.of (z.1 _ _ hq)) ?_ ?_
    · rintro i z Hh hi ⟨s2, nD1, acc, hD, ra⟩
      obtain ⟨m, em, tm, mo, mk⟩ := Ls.get rl hi
      refine ⟨rfl, ?_⟩
      unfold tYes
      dsimp only
      refine iteT ⟨_, rfl, z, m, rfl, tm.same s2, mo, mk, fun y H' s3 ry => ⟨acc, s3 _ _ hD, ?_, ?_, nD1, _, upd_same, ?_⟩⟩
      · have z1 : acc.length = (h.rs.take i).length := ra.1
        rw [List.length_take] at z1
        exact Nat.lt_of_lt_of_le (m := 101) (by omega) (by decide)
      · intro b o e
        rw [upd_ne (ne_of_none e nD1)]
        exact s3 b o (s2 b o e)
      · rw [take_nxt em]
        have kl : Keep H' (upd H' D (.lst (acc ++ [y]))) := Keep.lst (s3 _ _ hD)
        exact ((ra.same s3).keep kl).push (ry.keep kl)
    · rintro Hh ⟨s2, nD1, acc, hD, ra⟩
      rw [lx, List.take_length] at ra
      exact fun y dy ny ndy _ => mk_house (h := h) hD ra ok ny ndy fun H' s' a => ⟨rfl, k _ _ (s2.trans s') a⟩
end
end V3

set_option Elab.async false
set_option linter.all false
set_option maxRecDepth 100000
namespace V3
open PySem L2 TL
abbrev sIsRow : Stmt := top 36
abbrev sWrongLine : Stmt := top 37
/-! the law's own reading of lines -/
structure BltW (mg : Str → Option Value) : Prop where
  len : mg "len" = none
  range : mg "range" = none
  max : mg "max" = none
  min : mg "min" = none
  str : mg "str" = none
  int : mg "int" = none
  enumerate : mg "enumerate" = none
  isi : mg "isinstance" = none
def optN : Option Nat → V
  | some i => .int (i : Int)
  | none => .non
def spIsRow : Sp := fun vs H Q _ => ∃ x : Str, vs = [.str x] ∧ x.length ≤ 100000 ∧ ∀ H', Same H H' → Q (.bl (rowOf x).isSome) H'
def spWrongLine : Sp := fun vs H Q _ => ∃ t : Str, vs = [.str t] ∧ t.length ≤ 100000 ∧ (Txt.split t nlS).length ≤ 102 ∧ ∀ H', Same H H' → Q (optN (badLine (Txt.split t nlS))) H'
theorem rowW_four (k s d p : Str) : (rowW [k, s, d, p]).isSome = rowB k s d p := by
  show (if rowB k s d p = true then some (Rw.lt k s d p) else none).isSome = _
  cases rowB k s d p <;> rfl
section
variable {σ : L2.St} {ta : TE} {H0 : Hp} {x : Str}
theorem ev_isRow (n : x.length ≤ 100000) (ha : EvV (Same H0) σ ta (isSv x)) : EvV (Same H0) σ (tCall spIsRow [] E0 (tCons ta tNil)) (isBv (rowOf x).isSome) :=
  ev_call (eva_cons ha eva_nil) fun vs H Q w r k => by
    obtain ⟨v, r, rfl, e, rfl⟩ := r
    cases e
    exact ⟨x, rfl, n, fun H' s => k _ H' s rfl⟩
end
def wrongF (j : Nat) (L : List Str) : List Nat := ((enumF j L).filter fun p => decide (1 < p.1) && !(rowOf p.2).isSome).map (·.1)
theorem wrong_bad : ∀ {L : List Str} {j : Nat}, 2 ≤ j → (wrongF j L).head? = badFrom j L
  | [], _, _ => rfl
  | x :: r, j, h => by
    have ih := wrong_bad (L := r) (j := j + 1) (by omega)
    show ((((j, x) :: enumF (j + 1) r).filter (fun p : Nat × Str => decide (1 < p.1) && !(rowOf p.2).isSome)).map (fun p => p.1)).head? = (if standB j x = true then badFrom (j + 1) r else some j)
    have e : standB j x = (rowOf x).isSome := by
      unfold standB
      rw [if_neg (by omega), if_neg (by omega)]
    rw [e]
    cases z : (rowOf x).isSome with
    | true =>
      rw [if_pos rfl, List.filter_cons_of_neg (by simp [z])]
      exact ih
    | false =>
      rw [if_neg Bool.false_ne_true, List.filter_cons_of_pos (by simp [z]; omega)]
      rfl
theorem wrong_skip (a b : Str) (r : List Str) : wrongF 0 (a :: b :: r) = wrongF 2 r := by
  show (((0, a) :: (1, b) :: enumF 2 r).filter (fun p => decide (1 < p.1) && !(rowOf p.2).isSome)).map (·.1) = _
  rw [List.filter_cons_of_neg (by simp), List.filter_cons_of_neg (by simp)]
  rfl
section
variable {P : Program} {w : World} {K : PySem.W.Frag} {mg : Str → Option Value} {base : Heap}
theorem scIsRow : FnScope ["_law_line", "_law_words"] ["_law_line"] (defScope sIsRow) := ⟨rfl, rfl, rfl, by decide +kernel, rfl, by decide +kernel, by decide +kernel⟩
theorem scWrongLine : FnScope ["_law_text", "_law_lines", "_law_wrong", "_law_depth", "_law_at", "_law_line"] ["_law_text"] (defScope sWrongLine) := ⟨rfl, rfl, rfl, by decide +kernel, rfl, by decide +kernel, by decide +kernel⟩
theorem ok_isRow {f : Addr} {fd : FuncData} (F : Fun K "_law_is_row" "_law_is_row" sIsRow f fd) (T : BltW mg) : FnOk P w K mg base CX0 1 f fd ["_law_line"] spIsRow := by
  refine F.ok scIsRow (fun vs H Q E h => ?_) (fun cdv A outer s H vs Q E hr h => ?_)
  · obtain ⟨x, rfl, _⟩ := h
    rfl
  · obtain ⟨x, rfl, n, k⟩ := h
    refine ⟨_, (pss_cons (ps_set (i := 1) scIsRow.nd rfl (Or.inl rfl) (pe_split (pv 0) pe_str))
  (pss_cons (ps_if (PW.pt (pw_or (pt_cmpR op_ne (pe_callB call_len_seq (by rfl) T.len PySem.boot_len (pa_cons (pv 1) pa_nil)) pe_int (nomark _)) (pw_or (pt_cmpR op_notIn_seq (pe_ix ix_list (pv 1) pe_int (fun _ _ => rfl)) (pe_tup (pa_cons pe_str (pa_cons pe_str (pa_cons pe_str (pa_cons pe_str pa_nil))))) rfl) (pw_or1 (pt_cmpR op_notIn_seq (pe_ix ix_list (pv 1) pe_int (fun _ _ => rfl)) (pe_tup (pa_cons pe_str (pa_cons pe_str pa_nil))) rfl))))) (pss_one (ps_ret pe_bl)) pss_nil)
  (pss_cons (ps_if (PW.pt (pw_or (pt_cmpR op_notIn_seq (pe_ix ix_list (pv 1) pe_int (fun _ _ => rfl)) (pe_tup (pa_cons pe_str (pa_cons pe_str (pa_cons pe_str pa_nil)))) rfl) (pw_or1 (pt_cmpR op_notIn_seq (pe_ix ix_list (pv 1) pe_int (fun _ _ => rfl)) (pe_tup (pa_cons pe_str (pa_cons pe_str pa_nil))) rfl)))) (pss_one (ps_ret pe_bl)) pss_nil)
  (pss_one (ps_ret (pe_or (pe_cmpR op_ne (pe_ix ix_list (pv 1) pe_int (fun _ _ => rfl)) pe_str (nomark _)) (pe_one (pe_cmpR op_in_seq (pe_ix ix_list (pv 1) pe_int (fun _ _ => rfl)) (pe_tup (pa_cons pe_str (pa_cons pe_str pa_nil))) rfl)))))))), ?_⟩
    try dsimp only [gName, tSeq, tAsg]
    refine evn_split (H0 := H) (y := sp1) n (by decide +kernel) (ev_v rfl rfl) ev_str H _ (Same.refl _) fun D us H1 nD s1 hD l => ?_
    have hL : isSs (Txt.split x sp1) (.ref D) H1 := ⟨D, us, rfl, hD, l⟩
    have er : rowOf x = rowW (Txt.split x sp1) := rfl
    generalize Txt.split x sp1 = ws at hL er
    by_cases l4 : ws.length = 4
    case neg =>
      rw [er, rowW_ne l4] at k
      exact if_t (H0 := H1) (Same.refl _) (ev_orB (p := true) (q := true) (ev_bool (ev_test (ev_neI (j := 4) (ev_lenL (ev_v rfl hL)) ev_int)) (by rw [decide_eq_false (fun z => l4 (by omega))]; rfl)) (fun e => by cases e)) fun H2 s2 => k _ (s1.trans s2)
    obtain ⟨a, b, c, d, rfl⟩ := take4 l4
    rw [er, rowW_four] at k
    have x0 : ∀ {H2}, Same H1 H2 → EvV (Same H2) [some (.str x), some (.ref D)] (tOp (rIxL K) (tVar 1) (tC (.int 0))) (isSv a) := fun s => ev_ixL (n := 0) rfl (ev_v rfl (up s hL)) ev_int
    have x1 : ∀ {H2}, Same H1 H2 → EvV (Same H2) [some (.str x), some (.ref D)] (tOp (rIxL K) (tVar 1) (tC (.int 1))) (isSv b) := fun s => ev_ixL (n := 1) rfl (ev_v rfl (up s hL)) ev_int
    have x2 : ∀ {H2}, Same H1 H2 → EvV (Same H2) [some (.str x), some (.ref D)] (tOp (rIxL K) (tVar 1) (tC (.int 2))) (isSv c) := fun s => ev_ixL (n := 2) rfl (ev_v rfl (up s hL)) ev_int
    have x3 : ∀ {H2}, Same H1 H2 → EvV (Same H2) [some (.str x), some (.ref D)] (tOp (rIxL K) (tVar 1) (tC (.int 3))) (isSv d) := fun s => ev_ixL (n := 3) rfl (ev_v rfl (up s hL)) ev_int
    have T4 : ∀ {H2} {σ : L2.St}, EvV (Same H2) σ (tTup (tCons (tC (.str "first")) (tCons (tC (.str "new")) (tCons (tC (.str "minus")) (tCons (tC (.str "plus")) tNil))))) (isU isSv kindL) := ev_tupU (evl_cons ev_str (evl_cons ev_str (evl_cons ev_str (evl_cons ev_str evl_nil)))) (by decide)
    have T2 : ∀ {H2} {σ : L2.St}, EvV (Same H2) σ (tTup (tCons (tC (.str "open")) (tCons (tC (.str "shut")) tNil))) (isU isSv stateL) := ev_tupU (evl_cons ev_str (evl_cons ev_str evl_nil)) (by decide)
    have T3 : ∀ {H2} {σ : L2.St}, EvV (Same H2) σ (tTup (tCons (tC (.str "whole")) (tCons (tC (.str "part")) (tCons (tC (.str "right")) tNil)))) (isU isSv deedL) := ev_tupU (evl_cons ev_str (evl_cons ev_str (evl_cons ev_str evl_nil))) (by decide)
    have T5 : ∀ {H2} {σ : L2.St}, EvV (Same H2) σ (tTup (tCons (tC (.str "now")) (tCons (tC (.str "there")) tNil))) (isU isSv placeL) := ev_tupU (evl_cons ev_str (evl_cons ev_str evl_nil)) (by decide)
    have T6 : ∀ {H2} {σ : L2.St}, EvV (Same H2) σ (tTup (tCons (tC (.str "first")) (tCons (tC (.str "new")) tNil))) (isU isSv ["first", "new"]) := ev_tupU (evl_cons ev_str (evl_cons ev_str evl_nil)) (by decide)
    have t1 : EvB (Same H1) [some (.str x), some (.ref D)] _ (negB true (decide (a ∈ kindL)) || negB true (decide (b ∈ stateL))) := ev_orB (ev_test (ev_inT (K := K) (neg := true) (x0 (Same.refl _)) T4)) fun _ => ev_test (ev_inT (K := K) (neg := true) (x1 (Same.refl _)) T2)
    have t0 : EvB (Same H1) [some (.str x), some (.ref D)] _ (false || (negB true (decide (a ∈ kindL)) || negB true (decide (b ∈ stateL)))) := ev_orB (ev_bool (ev_test (ev_neI (j := 4) (ev_lenL (K := K) (ev_v (i := 1) rfl hL)) ev_int)) (by rfl)) fun _ => t1
    have key : rowB a b c d = (!(negB true (decide (a ∈ kindL)) || negB true (decide (b ∈ stateL))) && (!(negB true (decide (c ∈ deedL)) || negB true (decide (d ∈ placeL))) && (!decide (c = "right") || decide (a ∈ (["first", "new"] : List Str))))) := by
      unfold rowB negB
      have e : decide (a ∈ (["first", "new"] : List Str)) = (decide (a = "first") || decide (a = "new")) := by simp
      rw [e]
      cases decide (a ∈ kindL) <;> cases decide (b ∈ stateL) <;> cases decide (c ∈ deedL) <;> cases decide (d ∈ placeL) <;> rfl
    rw [key] at k
    cases e1 : (negB true (decide (a ∈ kindL)) || negB true (decide (b ∈ stateL))) with
    | true =>
      rw [e1] at t0 k
      exact if_t (H0 := H1) (Same.refl _) t0 fun H2 s2 => k _ (s1.trans s2)
    | false =>
      rw [e1] at t0 k
      refine if_f (H0 := H1) (Same.refl _) t0 fun H2 s2 => ?_
      have t2 : EvB (Same H2) [some (.str x), some (.ref D)] _ (negB true (decide (c ∈ deedL)) || negB true (decide (d ∈ placeL))) := ev_orB (ev_test (ev_inT (K := K) (neg := true) (x2 s2) T3)) fun _ => ev_test (ev_inT (K := K) (neg := true) (x3 s2) T5)
      cases e2 : (negB true (decide (c ∈ deedL)) || negB true (decide (d ∈ placeL))) with
      | true =>
        rw [e2] at t2 k
        exact if_t (H0 := H2) (Same.refl _) t2 fun H3 s3 => k _ ((s1.trans s2).trans s3)
      | false =>
        rw [e2] at t2 k
        refine if_f (H0 := H2) (Same.refl _) t2 fun H3 s3 => ?_
        exact ev_ov (p := !decide (c = "right")) (q := decide (a ∈ (["first", "new"] : List Str))) (ev_neS (x2 (s2.trans s3)) ev_str) (fun _ => ev_inT (K := K) (neg := false) (x0 (s2.trans s3)) T6) H3 _ (Same.refl _) fun v H4 s4 _ e => by
          cases e
          exact k _ (((s1.trans s2).trans s3).trans s4)
end
end V3

set_option Elab.async false
set_option linter.all false
set_option maxRecDepth 100000
namespace V3
open PySem L2 TL
abbrev sHeard : Stmt := top 38
abbrev sBent : Stmt := top 39
/-- a text of so many lines, of such weight -/
def Tx (t : Str) (n w : Nat) : Prop := ∃ L : List Str, L ≠ [] ∧ (∀ x ∈ L, 10 ∉ tl x) ∧ t = Str.join nlS L ∧ L.length ≤ n ∧ wgt L ≤ w
theorem Tx.split {t : Str} {n w : Nat} (h : Tx t n w) : Txt.split t nlS ≠ [] ∧ (∀ x ∈ Txt.split t nlS, 10 ∉ tl x) ∧ t = Str.join nlS (Txt.split t nlS) ∧ (Txt.split t nlS).length ≤ n ∧ wgt (Txt.split t nlS) ≤ w ∧ t.length ≤ w := by
  obtain ⟨L, ne, fr, rfl, hn, hw⟩ := h
  rw [split_lines ne fr]
  exact ⟨ne, fr, rfl, hn, hw, Nat.le_trans (len_join1 (by decide +kernel) L) hw⟩
theorem Tx.of {L : List Str} {n w : Nat} (fr : ∀ x ∈ L, 10 ∉ tl x) (hn : L.length ≤ n) (hw : wgt L ≤ w) (n1 : 1 ≤ n) (w1 : 1 ≤ w) : Tx (Str.join nlS L) n w := by
  by_cases e : L = []
  · subst e
    exact ⟨[Str.empty], (by simp), (fun x hx => by rw [List.mem_singleton.mp hx]; decide +kernel), rfl, n1, w1⟩
  · exact ⟨L, e, fr, rfl, hn, hw⟩
theorem tx_house {g : Hs} (ok : g.ok) : Tx g.text (g.rs.length + 2) 4000 := by
  refine ⟨g.lines, by simp [Hs.lines], lines_no10 ok, rfl, by simp [Hs.lines], ?_⟩
  have a := sum_le g.lines (lines_len ok)
  have b := lines_n ok
  unfold wgt
  omega
def heardV (t : Str) : V := match badLine (Txt.split t nlS) with
  | some i => .int (i : Int)
  | none => .str t
def spHeard : Sp := fun vs H Q _ => ∃ t : Str, vs = [.str t] ∧ t.length ≤ 100000 ∧ (Txt.split t nlS).length ≤ 102 ∧ ∀ H', Same H H' → Q (heardV t) H'
structure ItE (K : PySem.W.Frag) (mg : Str → Option Value) (CT CB CH : Addr) : Prop where
  x : XClass K CT
  f : XfC K CT
  no : PySem.W.findIn K (.ref CT) "at" = some none
  te : PySem.W.exmOne K (.ref CT) (.ref CT) = some true
  gT : mg "InvalidText" = some (.ref CT)
  gB : mg "BookError" = some (.ref CB)
  gH : mg "InvalidHouse" = some (.ref CH)
  isi : mg "isinstance" = none
  str : mg "str" = none
  iB : PySem.W.kitOne K (.ref CT) (.ref CB) = some true
  iH : PySem.W.kitOne K (.ref CT) (.ref CH) = some false
def tryBH (s : Stmt) : List Stmt := match s with
  | .Try b _ _ _ _ => b
  | _ => []
def trySH (s : Stmt) : List Stmt := match s with
  | .Try _ (.ExceptHandler _ _ b _ :: _) _ _ _ => b
  | _ => []
abbrev sTryH : Stmt := (defBody sHeard).getD 1 (.Pass ⟨0, 0, 0, 0⟩)
def tBH (K : PySem.W.Frag) (c : Rc) (C CT : Addr) (W : WX) : TS := tAsg (tCB (rStrK K c C) (tCons (tCMethA C (spHsRead K c C CT) (WE W) (tC (.ref C)) (tCons (tVar 0) tNil)) tNil)) (gName 1)
def tSH (K : PySem.W.Frag) (CT CB CH : Addr) : Addr → Value → Option Addr → TS := fun a cls d => tAsg (tIf (tAnd (tB (tCB (rIsX K CT a cls d) (tCons (tVar 2) (tCons (tC (.ref CB)) tNil)))) (tNot (tB (tCB (rIsX K CT a cls d) (tCons (tVar 2) (tCons (tC (.ref CH)) tNil)))))) (tXf a cls d CT "at" (tVar 2)) (tC (.str "other"))) (gName 1)
/-- House.read, as it stands in a class -/
structure HsRd (P : Program) (w : World) (K : PySem.W.Frag) (mg : Str → Option Value) (base : Heap) (c : Rc) (C CT : Addr) : Prop where
  g : mg "House" = some (.ref C)
  r : ∃ (mc : Value) (p f : Addr) (fd : FuncData), ClX.CRead K C mc ∧ ClX.CMet K C mc "read" p f ∧ FnOk P w K mg base (L2.CX P w) 7 f fd ["cls", "text"] (spHsRead K c C CT) ∧ Binds K fd ["cls", "text"] []
/-- a list of such texts -/
def isG (b : Addr) (n w : Nat) : V → Hp → Prop := fun v H => ∃ L : List Str, isLb b isSv L v H ∧ (∀ x ∈ L, 10 ∉ tl x) ∧ L.length ≤ n ∧ wgt L ≤ w
instance {b : Addr} {n w : Nat} : StP b (isG b n w) := ⟨fun v H0 H H' p s ⟨L, l, r⟩ => ⟨L, upP p s l, r⟩⟩
def isTx (n w : Nat) : V → Hp → Prop := fun v _ => ∃ t, v = .str t ∧ Tx t n w
section
variable {K : PySem.W.Frag} {σ : L2.St} {ta tb te : TE} {H0 : Hp} {b : Addr} {n m w v : Nat} {L : List Str}
theorem evp_g (fr : ∀ x ∈ L, 10 ∉ tl x) (hn : L.length ≤ n) (hw : wgt L ≤ w) (h : EvP b H0 σ te (isLb b isSv L)) : EvP b H0 σ te (isG b n w) := evp_to h fun _ _ r => ⟨L, r, fr, hn, hw⟩
theorem evp_catG (hl : n + m ≤ 100000) (ha : EvP b H0 σ ta (isG b n w)) (hb : EvP b H0 σ tb (isG b m v)) : EvP b H0 σ (tOp rCat ta tb) (isG b (n + m) (w + v)) :=
  evp_o ha hb fun x y H Q p hx hy k => by
    obtain ⟨L, ⟨D, us, rfl, _, hD, l⟩, fr, hn, hw⟩ := hx
    obtain ⟨M, ⟨B, vs, rfl, _, hB, l2⟩, fr2, hm, hv⟩ := hy
    refine ⟨D, B, us, vs, rfl, rfl, hD, hB, Nat.le_trans (m := 100000) (by rw [l.1, l2.1]; omega) (by decide), fun q nq => ?_⟩
    have s4 : Same H (upd H q (.lst (us ++ vs))) := Same.new nq
    refine k _ _ (p.same s4) ⟨L ++ M, ⟨q, _, rfl, p.ne nq, upd_same, (l.app l2).up s4⟩, fun x hx => (List.mem_append.mp hx).elim (fr x) (fr2 x), by rw [List.length_append]; omega, by rw [wgt_app]; omega⟩
theorem evp_joinG {y : Str} (hy : y.length = 1) (h10 : w ≤ 50000) (ha : EvP b H0 σ te (isG b n w)) : EvP b H0 σ (tM1 (rJoinK K) (tC (.str y)) te) (fun v _ => ∃ L : List Str, v = .str (Str.join y L) ∧ (∀ x ∈ L, 10 ∉ tl x) ∧ L.length ≤ n ∧ wgt L ≤ w) := fun H Q p k =>
  ⟨⟨_, rfl⟩, ha H _ p fun x H1 p1 hx => by
    obtain ⟨L, l, fr, hn, hw⟩ := hx
    have w2 : (L.map (·.length)).sum + L.length ≤ w := hw
    exact ev_joinLs (H0 := H1) (σ := [some x]) (ta := tC (.str y)) (tb := tVar 0) (by rw [hy]; decide) (by omega) ev_str (ev_v rfl l.L) H1 _ (Same.refl _) (fun v H2 s2 _ e => k v H2 (p1.then s2) ⟨L, e, fr, hn, hw⟩) |>.2 |> fun z => by
      obtain ⟨z1, z2, z3⟩ := z
      cases z2
      exact z3⟩
end
end V3

set_option Elab.async false
set_option linter.all false
set_option maxRecDepth 100000
namespace V3
open PySem L2 TL
def spBent : Sp := fun vs H Q _ => ∃ (b : Addr) (t : Str) (u v : Int) (n w : Nat), vs = [.ref b, .str t] ∧ H b = some (box u v) ∧ BoxOk u v ∧ Tx t n w ∧ n ≤ 90 ∧ w ≤ 10000 ∧ ∀ t' H', Pre b H H' → Tx t' (n + 1) (w + 60) → Q (.str t') H'
section
variable {P : Program} {w : World} {K : PySem.W.Frag} {mg : Str → Option Value} {base : Heap}
theorem scHeard : FnScope ["_law_text", "_law_found", "e"] ["_law_text"] (defScope sHeard) := ⟨rfl, rfl, rfl, by decide +kernel, rfl, by decide +kernel, by decide +kernel⟩
theorem scBent : FnScope ["_law_box", "_law_text", "_law_lines", "_law_form", "_law_at", "_law_odd", "_law_words", "_law_spot", "_law_more"] ["_law_box", "_law_text"] (defScope sBent) := ⟨rfl, rfl, rfl, by decide +kernel, rfl, by decide +kernel, by decide +kernel⟩
theorem ok_wrongLine {f : Addr} {fd : FuncData} (F : Fun K "_law_wrong_line" "_law_wrong_line" sWrongLine f fd) (T : BltW mg) (cR : Cal P w K mg base CX0 "_law_is_row" 1 ["_law_line"] spIsRow) : FnOk P w K mg base CX0 2 f fd ["_law_text"] spWrongLine := by
  obtain ⟨fR, fdR, GR, mR, kR, bR⟩ := cR
  refine F.ok scWrongLine (fun vs H Q E h => ?_) (fun cdv A outer s H vs Q E hr h => ?_)
  · obtain ⟨x, rfl, _⟩ := h
    rfl
  · obtain ⟨x, rfl, n, ln, k⟩ := h
    refine ⟨_, (pss_cons (ps_set (i := 1) scWrongLine.nd rfl (Or.inl rfl) (pe_split (pv 0) pe_str))
  (pss_cons (ps_if (pt_cmpR op_notIn_seq (pe_ix ix_list (pv 1) pe_int (fun _ _ => rfl)) (pe_lc (own := [("_law_depth", 3)]) (g := gName 3) (tt := tYes) (by rfl) scWrongLine.nd (pi_range1 (by rfl) T.range (pa_cons pe_int pa_nil)) (blkOk_by (own := [("_law_depth", 3)]) (N := ["_law_text", "_law_lines", "_law_wrong", "_law_depth", "_law_at", "_law_line"]) (sc := defScope sWrongLine) (by decide +kernel)) (fun _ _ _ _ _ => (pg_name (i := 3) scWrongLine.nd rfl (Or.inl rfl))) (fun _ _ _ _ _ => pts_nil) (fun _ _ _ _ _ => (pe_op op_add_str pe_str (pe_callTy call_str_int (by rfl) T.str (by decide +kernel) (pa_cons (pv 3) pa_nil))))) rfl) (pss_one (ps_ret pe_int)) pss_nil)
  (pss_cons (ps_if (PW.pt (pw_or (pt_cmpR op_lt (pe_callB call_len_seq (by rfl) T.len PySem.boot_len (pa_cons (pv 1) pa_nil)) pe_int (nomark _)) (pw_or1 (pt_cmpR op_notIn_seq (pe_ix ix_list (pv 1) pe_int (fun _ _ => rfl)) (pe_tup (pa_cons pe_str (pa_cons pe_str pa_nil))) rfl)))) (pss_one (ps_ret pe_int)) pss_nil)
  (pss_cons (ps_setLc (i := 2) (own := [("_law_at", 4), ("_law_line", 5)]) (g := gTup K 2 (gCons (gName 4) (gCons (gName 5) gNil))) (tt := tAnd (tTest (tOp (rI0 fun i j => .bl (decide (j < i))) (tVar 4) (tC (.int 1)))) (tNot (tB (tCall spIsRow [] E0 (tCons (tVar 5) tNil))))) (te := tVar 4) (by rfl) scWrongLine.nd rfl rfl (sw_true rfl rfl rfl (by decide +kernel)) (pi_enum (by rfl) T.enumerate (pa_cons (pv 1) pa_nil)) (blkOk_by (own := [("_law_at", 4), ("_law_line", 5)]) (N := ["_law_text", "_law_lines", "_law_wrong", "_law_depth", "_law_at", "_law_line"]) (sc := defScope sWrongLine) (by decide +kernel)) (fun _ _ _ _ _ => (pg_tup rfl (pgs_cons (pg_name (i := 4) scWrongLine.nd rfl (Or.inl rfl)) (pgs_cons (pg_name (i := 5) scWrongLine.nd rfl (Or.inl rfl)) pgs_nil)))) (fun _ _ _ _ _ => pts_one (PW.pt (pw_and (pt_cmpR op_gt (pv 4) pe_int (nomark _)) (pw_and1 (pt_not (pt_val (pe_call GR hr rfl mR kR bR .nil pass0 (pa_cons (pv 5) pa_nil)))))))) (fun _ _ _ _ _ => (pv 4)))
  (pss_one (ps_ret (pe_ifExp (pt_cmpR (op_neD hr.units) (pv 2) (pe_lst pa_nil) (nomark _)) (pe_ix ix_list (pv 2) pe_int (fun _ _ => rfl)) pe_non))))))), ?_⟩
    try dsimp only [gName, tSeq, tAsg]
    have wl : ∀ y ∈ Txt.split x nlS, y.length ≤ 100000 := fun y hy => by
      have a := wgt_mem hy
      have b := wgt_split x nlS (by decide +kernel)
      omega
    have lne := split_ne x nlS
    refine evn_split (H0 := H) (y := nlS) n (by decide +kernel) (ev_v rfl rfl) ev_str H _ (Same.refl _) fun D us H1 nD s1 hD l => ?_
    have hL : isSs (Txt.split x nlS) (.ref D) H1 := ⟨D, us, rfl, hD, l⟩
    generalize Txt.split x nlS = LL at hL wl k lne ln
    obtain ⟨a, r, rfl⟩ := List.exists_cons_of_ne_nil lne
    have dl : (rgI 0 (5 : Int).toNat).map (fun i : Int => ("depth " : Str) ++ (toString i : Str)) = depthL := by decide +kernel
    have neg1 : ∀ {p : Prop} [Decidable p], negB true (decide p) = true → ¬ p := fun {p} _ e q => by
      rw [decide_eq_true q] at e
      cases e
    have neg0 : ∀ {p : Prop} [Decidable p], negB true (decide p) = false → p := fun {p} _ e => by
      by_cases q : p
      · exact q
      · rw [decide_eq_false q] at e
        cases e
    refine if_b (H0 := H1) (Same.refl _) (ev_test (ev_inL (neg := true) (L := depthL) (ev_ixL (n := 0) (a := a) rfl (ev_v rfl hL) ev_int) (ev_to (ev_lcY (S' := isSv) (fun i : Int => ("depth " : Str) ++ (toString i : Str)) (evi_rng1 (n := 5) (by omega) ev_int (by omega)) (by rw [rgI_len]; decide) (fun i hi y H3 w3 r3 => ev_cat (by
        obtain ⟨j, hj, rfl⟩ := List.mem_map.mp hi
        have z : ∀ j ∈ List.range (5 : Int).toNat, ("depth " : Str).length + (toString (0 + (j : Nat) : Int) : Str).length ≤ 100000 := by decide +kernel
        exact z j hj) ev_str (ev_num (by
        obtain ⟨j, hj, rfl⟩ := List.mem_map.mp hi
        have z : ∀ j ∈ List.range (5 : Int).toNat, (0 + (j : Nat) : Int).natAbs.log2 < 1920 := by decide +kernel
        exact z j hj) (ev_v (R := isIv i) rfl r3))) fun _ => rfl) (fun v H q => by rw [dl] at q; exact q)))) (fun e H2 s2 => ?_) (fun e H2 s2 => ?_)
    · have z : badLine (a :: r) = some 0 := by
        unfold badLine
        show (match (if standB 0 a = true then badFrom 1 r else some 0) with
          | some i => some i
          | none => if (a :: r).length < 2 then some (a :: r).length else none) = _
        rw [if_neg (by show ¬ decide (a ∈ depthL) = true; rw [decide_eq_false (neg1 e)]; exact Bool.false_ne_true)]
      rw [z] at k
      exact k _ (s1.trans s2)
    have a0 := neg0 e
    have hL2 := up s2 hL
    have s0 : badFrom 0 (a :: r) = badFrom 1 r := by
      show (if standB 0 a = true then badFrom 1 r else some 0) = _
      rw [if_pos (by show decide (a ∈ depthL) = true; exact decide_eq_true a0)]
    have T2 : ∀ {H3} {σ : L2.St}, EvV (Same H3) σ (tTup (tCons (tC (.str "check left")) (tCons (tC (.str "check all")) tNil))) (isU isSv checkLn) := ev_tupU (evl_cons ev_str (evl_cons ev_str evl_nil)) (by decide)
    cases r with
    | nil =>
      refine if_t (H0 := H2) (Same.refl _) (ev_orB (p := true) (q := true) (ev_bool (ev_test (ev_lt (j := 2) (ev_lenL (ev_v rfl hL2)) ev_int)) rfl) (fun e => by cases e)) fun H3 s3 => ?_
      have z : badLine [a] = some 1 := by
        unfold badLine
        rw [s0]
        rfl
      rw [z] at k
      exact k _ ((s1.trans s2).trans s3)
    | cons b r =>
      refine if_b (H0 := H2) (Same.refl _) (ev_orB (p := false) (ev_bool (ev_test (ev_lt (j := 2) (ev_lenL (ev_v rfl hL2)) ev_int)) (decide_eq_false (by simp only [List.length_cons]; omega))) (fun _ => ev_test (ev_inT (neg := true) (ev_ixL (n := 1) (a := b) rfl (ev_v rfl hL2) ev_int) T2))) (fun e H3 s3 => ?_) (fun e H3 s3 => ?_)
      · have z : badLine (a :: b :: r) = some 1 := by
          unfold badLine
          rw [s0]
          show (match (if standB 1 b = true then badFrom 2 r else some 1) with
            | some i => some i
            | none => if (a :: b :: r).length < 2 then some (a :: b :: r).length else none) = _
          rw [if_neg (by show ¬ decide (b ∈ checkLn) = true; rw [decide_eq_false (neg1 (by simpa using e))]; exact Bool.false_ne_true)]
        rw [z] at k
        exact k _ ((s1.trans s2).trans s3)
      have b0 : b ∈ checkLn := neg0 (by simpa using e)
      have hL3 := up s3 hL2
      have sb : badFrom 0 (a :: b :: r) = badFrom 2 r := by
        rw [s0]
        show (if standB 1 b = true then badFrom 2 r else some 1) = _
        rw [if_pos (by show decide (b ∈ checkLn) = true; exact decide_eq_true b0)]
      have z : badLine (a :: b :: r) = (wrongF 0 (a :: b :: r)).head? := by
        rw [wrong_skip, wrong_bad (Nat.le_refl 2)]
        unfold badLine
        rw [sb]
        cases badFrom 2 r with
        | some i => rfl
        | none => show (if (a :: b :: r).length < 2 then some (a :: b :: r).length else none) = none; rw [if_neg (by simp only [List.length_cons]; omega)]
      rw [z] at k
      try dsimp only [gName, tSeq, tAsg, tNext]
      refine evn_lc (H0 := H3) (S' := isIv) (fun p : Nat × Str => decide (1 < p.1) && !(rowOf p.2).isSome) (fun p => ((p.1 : Nat) : Int)) (evi_enum (ev_v rfl hL3)) (by rw [enumF_len]; omega) (fun p hp y H4 w4 r4 K2 k2 => ?_) H3 _ (Same.refl _) fun D2 us2 H4 nD2 s4 hD2 l2 => ?_
      · obtain ⟨j, ln⟩ := p
        obtain ⟨T, u, v, rfl, hT, eu, ev⟩ := r4
        cases eu
        cases ev
        have hm : ln ∈ a :: b :: r := by
          obtain ⟨i, hi⟩ := List.getElem?_of_mem hp
          rw [enumF_get] at hi
          obtain ⟨x, hx, ex⟩ := Option.map_eq_some_iff.mp hi
          cases ex
          exact List.mem_of_getElem? hx
        refine ⟨T, _, rfl, SqT.of hT, rfl, _, _, rfl, _, _, rfl, rfl, ?_⟩
        refine k2 _ _ (Same.refl _) rfl (ev_bool (ev_andB (ev_test (ev_gt (i := (j : Int)) (j := 1) (ev_v rfl rfl) ev_int)) fun _ => ev_notB (ev_valB (ev_isRow (x := ln) (wl _ hm) (ev_v rfl rfl)))) ?_) fun _ => ev_v rfl rfl
        congr 1
        exact decide_eq_decide.mpr (by omega)
      · have hW : isIs ((wrongF 0 (a :: b :: r)).map fun n : Nat => (n : Int)) (.ref D2) H4 := by
          refine ⟨D2, us2, rfl, hD2, ?_⟩
          unfold wrongF
          rw [List.map_map]
          exact l2
        generalize wrongF 0 (a :: b :: r) = W at hW k
        have S4 := (((s1.trans s2).trans s3).trans s4)
        refine ev_if (H0 := H4) (R := isVv (optN W.head?)) (b := !decide (W = [])) (ev_bool (ev_test (ev_neD (S := isIs) (b := []) (ev_v rfl hW) (ev_lst (S := isIv) evl_nil (by decide)) (fun _ _ => trivial) (fun _ _ => trivial))) (by cases W <;> rfl)) (fun e => ?_) (fun e => ?_) H4 _ (Same.refl _) fun v H5 s5 _ ev => ?_
        · cases W with
          | nil => cases e
          | cons j W => exact ev_to (ev_ixL (n := 0) (a := (j : Int)) rfl (ev_v rfl hW) ev_int) fun v H e => by cases e; rfl
        · cases W with
          | nil => exact ev_c
          | cons j W => cases e
        · cases ev
          exact k _ (S4.trans s5)
end
end V3

set_option Elab.async false
set_option linter.all false
set_option maxRecDepth 100000
namespace V3
open PySem L2 TL
section
variable {P : Program} {w : World} {K : PySem.W.Frag} {mg : Str → Option Value} {base : Heap}
theorem ok_heard {f C CT CB CH : Addr} {c : Rc} {fd : FuncData} (F : Fun K "_law_heard" "_law_heard" sHeard f fd) (T : ItE K mg CT CB CH) (R : HsRd P w K mg base c C CT) (S : HsStr P w K mg base c C) : FnOk P w K mg base CX0 8 f fd ["_law_text"] spHeard := by
  obtain ⟨mc, p, f1, fd1, rd, cm, G1, b1⟩ := R.r
  refine F.ok scHeard (fun vs H Q E h => ?_) (fun cdv A outer s H vs Q E hr h => ?_)
  · obtain ⟨t, rfl, _⟩ := h
    rfl
  · obtain ⟨t, rfl, n, ln, k⟩ := h
    refine ⟨tSeq (tAsg (tC .non) (gName 1)) (tSeq (fun D σ H => tBH K c C CT (wAs K (.ref CT) 2 (tSH K CT CB CH) (fun _ _ _ _ => False) D) D σ H) (tRet (tVar 1))), ?_, ?_⟩
    · have body1 : ∀ (W : WX) (pn : List (Addr × Obj)) (xe : Value → Shared → Prop), Takes ((cxOf CX0 P w K mg base ["_law_text", "_law_found", "e"] "_law_heard" (defScope sHeard) f cdv A outer s H E).nox.tr pn xe) W →
          PSs ((cxOf CX0 P w K mg base ["_law_text", "_law_found", "e"] "_law_heard" (defScope sHeard) f cdv A outer s H E).nox.tr pn xe) (tryBH sTryH) (tBH K c C CT W) := by
        intro W pn xe tk
        exact pss_one (ps_set (i := 1) scHeard.nd rfl (Or.inl rfl) (by exact (pe_callTy (call_strK S (hr.mono (by decide))) (by rfl) T.str (by decide +kernel) (by exact (pa_cons (pe_cmethA (pe_glob (v := .ref C) rfl R.g rfl) rd cm G1 b1 hr (fun σ => passAt tk σ) (by exact (pa_cons (pv 0) pa_nil))) pa_nil)))))
      have suite1 : ∀ (ax : Addr) (oe : Obj) (cls : Value) (d : Option Addr) (pn : List (Addr × Obj)), Zc cls d oe → (∃ vs, oe.data = .fields vs) →
          PSs ((cxOf CX0 P w K mg base ["_law_text", "_law_found", "e"] "_law_heard" (defScope sHeard) f cdv A outer s H E).nox.suite ax ((ax, oe) :: pn)) (trySH sTryH) (tSH K CT CB CH ax cls d) := by
        intro ax oe cls d pn hz hfl
        exact pss_one (ps_set (i := 1) scHeard.nd rfl (Or.inl rfl) (by exact (pe_ifExp (PW.pt (pw_and (pt_val (pe_callB (call_isX T.x hz hfl) (by rfl) T.isi (by decide +kernel) (by exact (pa_cons (pv 2) (pa_cons (pe_glob rfl T.gB rfl) pa_nil))))) (pw_and1 (pt_not (pt_val (pe_callB (call_isX T.x hz hfl) (by rfl) T.isi (by decide +kernel) (by exact (pa_cons (pv 2) (pa_cons (pe_glob rfl T.gH rfl) pa_nil))))))))) (pe_xf T.f T.no hz hfl (pv 2)) pe_str)))
      have try1 : PS (cxOf CX0 P w K mg base ["_law_text", "_law_found", "e"] "_law_heard" (defScope sHeard) f cdv A outer s H E).nox sTryH (fun D σ H => tBH K c C CT (wAs K (.ref CT) 2 (tSH K CT CB CH) (fun _ _ _ _ => False) D) D σ H) :=
        ps_try_as (i := 2) (tb := fun W => tBH K c C CT W) (ts := tSH K CT CB CH) (Wout := fun _ _ _ _ => False) rfl rfl scHeard.nd rfl rfl ⟨rfl, by decide, Or.inl T.gT⟩ takes0
          (fun W pn xe tk _ => body1 W pn xe tk) (fun ax oe cls d pn hz hfl => suite1 ax oe cls d pn hz hfl)
      exact pss_cons (ps_set (i := 1) scHeard.nd rfl (Or.inl rfl) pe_non) (pss_cons try1 (pss_one (ps_ret (pv 1))))
    · unfold heardV at k
      refine ⟨rfl, _, rfl, t, rfl, n, ln, fun e g go gl x H' sm hx => ?_, fun i e d H' sm hd => ?_⟩
      · rw [e] at k
        refine ⟨x, g, rfl, hx, go, fun H2 s2 => ⟨_, rfl, ?_⟩⟩
        have z : g.text = t := by
          unfold Hs.text
          rw [gl]
          exact StrLaws.join_split t nlS
        rw [z]
        exact k _ (sm.trans s2)
      · rw [e] at k
        refine ⟨true, T.te, fun _ ax nax => ?_, fun q => Bool.noConfusion q⟩
        refine ⟨_, rfl, d, _, _, _, _, rfl, rfl, hd, rfl, .own CB, T.iB, _, rfl, iteT ⟨_, rfl, d, _, _, _, _, rfl, rfl, hd, rfl, .own CH, T.iH, _, rfl, ?_⟩⟩
        refine iteT ⟨_, rfl, rfl, rfl, d, _, _, rfl, hd, rfl, ?_⟩
        exact ⟨_, rfl, k _ sm⟩
theorem fr_take {L : List Str} (h : ∀ x ∈ L, 10 ∉ tl x) (n : Nat) : ∀ x ∈ L.take n, 10 ∉ tl x := fun x hx => h x (List.mem_of_mem_take hx)
theorem fr_drop {L : List Str} (h : ∀ x ∈ L, 10 ∉ tl x) (n : Nat) : ∀ x ∈ L.drop n, 10 ∉ tl x := fun x hx => h x (List.mem_of_mem_drop hx)
def oddL : List Str := ["", "depth 5", "depth 03", "depth", "check", "check both", "check all", "depth 2", "plus open right now", "new shut right there", "minus open whole", "minus open whole now now", "first whole open now"]
def oddA : List Str := ["", "depth 5", "depth 03", "depth", "check", "check both", "check all", "depth 2", "plus open right now"]
def oddB : List Str := ["new shut right there", "minus open whole", "minus open whole now now", "first whole open now"]
def moreL : List Str := ["open", "plus", "right", "there", "", "3", "left"]
theorem odd_ok : ∀ x ∈ oddL, 10 ∉ tl x ∧ x.length ≤ 30 := by decide +kernel
theorem more_ok : ∀ x ∈ moreL, 10 ∉ tl x ∧ x.length ≤ 30 := by decide +kernel
theorem p0_none {H : Hp} {D : Addr} (h : H D = none) : H D = none := h
theorem wgt_set {L : List Str} {n : Nat} {x : Str} (e : L[n]? = some x) (y : Str) : wgt (L.set n y) + x.length = wgt L + y.length := by
  induction L generalizing n with
  | nil => simp at e
  | cons a r ih =>
    cases n with
    | zero =>
      have e : a = x := by simpa using e
      subst e
      unfold wgt
      simp only [List.set_cons_zero, List.map_cons, List.sum_cons, List.length_cons]
      omega
    | succ n =>
      have z := ih (n := n) (by simpa using e)
      unfold wgt at z ⊢
      simp only [List.set_cons_succ, List.map_cons, List.sum_cons, List.length_cons] at z ⊢
      omega
theorem wgt_one {x : Str} (h : x.length ≤ 30) : wgt [x] ≤ 31 := by
  unfold wgt
  simp only [List.map_cons, List.map_nil, List.sum_cons, List.sum_nil, List.length_cons, List.length_nil]
  omega
/-- a drawn word in a list of its own -/
theorem evp_draw {σ : L2.St} {te : TE} {H0 : Hp} {b : Addr} {i : Nat} {as : List Str} (hi : σ[i]? = some (some (.ref b))) (n1 : 1 ≤ as.length) (n2 : as.length ≤ 1000) (ok : ∀ x ∈ as, 10 ∉ tl x ∧ x.length ≤ 30) (h : EvP b H0 σ te (isLb b isSv as)) :
    EvP b H0 σ (tLst (tCons (tCall (spOneOf K) [] E0 (tCons (tVar i) (tCons te tNil))) tNil)) (isG b 1 31) := fun H Q p k =>
  evp_one (K := K) hi n1 n2 h H _ p fun v H1 p1 ⟨a, ha, e⟩ => by
    cases e
    refine ⟨(by show 1 ≤ sizeLine; decide), fun q nq => ?_⟩
    have s2 : Same H1 (upd H1 q (.lst [.str a])) := Same.new nq
    exact k _ _ (p1.then s2) ⟨[a], ⟨q, [.str a], rfl, (p.trans p1).ne nq, upd_same, Ls.strs [a]⟩, (fun x hx => by rw [List.mem_singleton.mp hx]; exact (ok a ha).1), Nat.le_refl _, wgt_one (ok a ha).2⟩
theorem wgt_mid (L : List Str) {a b : Nat} (h : a ≤ b) : wgt (L.take a) + wgt ((L.take b).drop a) + wgt (L.drop b) = wgt L := by
  have h1 := wgt_cut L b
  have h2 := wgt_cut (L.take b) a
  rw [List.take_take, Nat.min_eq_left h] at h2
  omega
section
variable {σ : L2.St} {H0 : Hp} {b : Addr} {te ta tb : TE} {tl' th : TO} {L : List Str} {n m : Nat}
theorem take_g (fr : ∀ x ∈ L, 10 ∉ tl x) (ha : ∀ H, Pre b H0 H → EvV (Same H) σ te (isSs L)) (hh : ∀ H, Pre b H0 H → EvO (Same H) σ th (some (n : Int))) : EvP b H0 σ (tSl (rSlL K) te tNoPart th) (isG b (min n L.length) (wgt (L.take n))) :=
  evp_g (L := L.take n) (fr_take fr n) (by rw [List.length_take]; omega) (Nat.le_refl _) (evp_nl fun H p => by
    have z := evn_cut (K := K) (ha H p) (evo_none) (hh H p)
    rw [cutA_to] at z
    exact z)
theorem drop_g (fr : ∀ x ∈ L, 10 ∉ tl x) (ha : ∀ H, Pre b H0 H → EvV (Same H) σ te (isSs L)) (hh : ∀ H, Pre b H0 H → EvO (Same H) σ tl' (some (n : Int))) : EvP b H0 σ (tSl (rSlL K) te tl' tNoPart) (isG b (L.length - n) (wgt (L.drop n))) :=
  evp_g (L := L.drop n) (fr_drop fr n) (by rw [List.length_drop]; omega) (Nat.le_refl _) (evp_nl fun H p => by
    have z := evn_cut (K := K) (ha H p) (hh H p) (evo_none)
    rw [cutA_from] at z
    exact z)
theorem mid_g (fr : ∀ x ∈ L, 10 ∉ tl x) (ha : ∀ H, Pre b H0 H → EvV (Same H) σ te (isSs L)) (hl : ∀ H, Pre b H0 H → EvO (Same H) σ tl' (some (n : Int))) (hh : ∀ H, Pre b H0 H → EvO (Same H) σ th (some (m : Int))) : EvP b H0 σ (tRevL K (tSl (rSlL K) te tl' th)) (isG b (min m L.length - n) (wgt ((L.take m).drop n))) :=
  evp_g (L := ((L.take m).drop n).reverse) (fun x hx => fr_drop (fr_take fr m) n x (List.mem_reverse.mp hx)) (by rw [List.length_reverse, List.length_drop, List.length_take]; omega) (by rw [wgt_rev]; exact Nat.le_refl _) (evp_nl fun H p => by
    have z := evn_cut (K := K) (ha H p) (hl H p) (hh H p)
    rw [cutA_mid] at z
    exact evn_rev z.ev)
theorem dropd_g (fr : ∀ x ∈ L, 10 ∉ tl x) {v : V} (ha : EvP b H0 σ te (isLb b isSv L)) (h1 : EvP b H0 σ ta (isIv (n : Int))) (h2 : EvP b H0 σ tb (isDr 2)) : EvP b H0 σ (tSl (rSlL K) te (tPart (tOp (rI0 fun i j => .int (i + j)) ta tb)) tNoPart) (isG b (L.length - n) (wgt (L.drop n))) := fun H Q p k =>
  ha H _ p fun x H1 p1 hx => h1 H1 _ (p.trans p1) fun y H2 p2 ey => h2 H2 _ ((p.trans p1).trans p2) fun z H3 p3 ⟨d, ez, d0, d2⟩ => by
    cases ey
    subst ez
    obtain ⟨D, us, rfl, ne, hD, l⟩ := upP ((p.trans p1).trans p2) p3 (upP (p.trans p1) p2 hx)
    refine ⟨_, _, rfl, rfl, _, rfl, D, us, rfl, SqL.of hD, fun q nq => ?_⟩
    obtain ⟨e, rfl⟩ : ∃ e : Nat, d = (e : Int) := ⟨d.toNat, by omega⟩
    have ec : cutV us (some ((n : Int) + (e : Int))) none = us.drop (n + e) := by
      have z := cutA_from us (n + e)
      rw [show ((n + e : Nat) : Int) = (n : Int) + (e : Int) by omega] at z
      exact z
    rw [ec]
    have P3 := ((p.trans p1).trans p2).trans p3
    have s4 : Same H3 (upd H3 q (.lst (us.drop (n + e)))) := Same.new nq
    have dd : L.drop (n + e) = (L.drop n).drop e := by rw [List.drop_drop]
    refine k _ _ (((p1.trans p2).trans p3).then s4) ⟨L.drop (n + e), ⟨q, _, rfl, P3.ne nq, upd_same, (l.drop _).up s4⟩, fr_drop fr _, by rw [List.length_drop]; omega, by rw [dd]; exact wgt_drop _ _⟩
theorem evp_if {R : V → Hp → Prop} {t : TT} {q : Bool} (c : ∀ H, Pre b H0 H → EvB (Same H) σ t q) (h1 : q = true → EvP b H0 σ ta R) (h2 : q = false → EvP b H0 σ tb R) : EvP b H0 σ (tIf t ta tb) R := fun H Q p k =>
  c H p H _ (Same.refl _) fun H1 s1 _ => by
    have p1 := p.same s1
    cases q with
    | true => exact iteT (h1 rfl H1 _ (p.trans p1) fun v H2 p2 r => k v H2 (p1.trans p2) r)
    | false => exact iteF (h2 rfl H1 _ (p.trans p1) fun v H2 p2 r => k v H2 (p1.trans p2) r)
end
theorem ok_bent {f : Addr} {fd : FuncData} (F : Fun K "_law_bent" "_law_bent" sBent f fd) (T : BltW mg) (cC : CalCho P w K mg base) (cO : CalOne P w K mg base) : FnOk P w K mg base CX0 3 f fd ["_law_box", "_law_text"] spBent := by
  obtain ⟨fC, fdC, GC, mC, kC, bC⟩ := cC
  obtain ⟨fO, fdO, GO, mO, kO, bO⟩ := cO
  refine F.ok scBent (fun vs H Q E h => ?_) (fun cdv A outer s H vs Q E hr h => ?_)
  · obtain ⟨b, t, u, v, n, w, rfl, _⟩ := h
    rfl
  · obtain ⟨b, t, u, v, n, w, rfl, hb, bk, tx, n90, w4, k⟩ := h
    have hr1 : Room 1 _ := hr.mono (by decide)
    obtain ⟨lne, lfr, et, ln, lw, tlen⟩ := tx.split
    refine ⟨_, (pss_cons (ps_par (i := 2) (j := 3) rfl scBent.nd rfl rfl (by decide) rfl rfl (pa_cons (pe_split (pv 1) pe_str) (pa_cons (pe_call GC hr1 rfl mC kC bC .nil pass0 (pa_cons (pv 0) (pa_cons pe_int pa_nil))) pa_nil)) (by rfl))
  (pss_cons (ps_set (i := 4) scBent.nd rfl (Or.inl rfl) (pe_call GC hr1 rfl mC kC bC .nil pass0 (pa_cons (pv 0) (pa_cons (pe_callB call_len_seq (by rfl) T.len PySem.boot_len (pa_cons (pv 2) pa_nil)) pa_nil))))
  (pss_cons (ps_set (i := 5) scBent.nd rfl (Or.inl rfl) (pe_lst (pa_cons pe_str (pa_cons pe_str (pa_cons pe_str (pa_cons pe_str (pa_cons pe_str (pa_cons pe_str (pa_cons pe_str (pa_cons pe_str (pa_cons pe_str pa_nil)))))))))))
  (pss_cons (ps_set (i := 5) scBent.nd rfl (Or.inl rfl) (pe_op op_cat (pv 5) (pe_lst (pa_cons pe_str (pa_cons pe_str (pa_cons pe_str (pa_cons pe_str pa_nil)))))))
  (pss_cons (ps_if (pt_cmpR op_eq (pv 3) pe_int (nomark _)) (pss_one (ps_ret (pe_joinK pe_str (pe_op op_cat (pe_slice sl_list (pv 2) po_none (po_some (pv 4))) (pe_slice sl_list (pv 2) (po_some (pe_op op_add (pv 4) pe_int)) po_none))))) pss_nil)
  (pss_cons (ps_if (pt_cmpR op_lt (pv 3) pe_int (nomark _)) (pss_one (ps_ret (pe_joinK pe_str (pe_op op_cat (pe_op op_cat (pe_slice sl_list (pv 2) po_none (po_some (pv 4))) (pe_lst (pa_cons (pe_call GO hr rfl mO kO bO .nil pass0 (pa_cons (pv 0) (pa_cons (pv 5) pa_nil))) pa_nil))) (pe_slice sl_list (pv 2) (po_some (pe_op op_sub (pe_op op_add (pv 4) (pv 3)) pe_int)) po_none))))) pss_nil)
  (pss_cons (ps_if (pt_cmpR op_eq (pv 3) pe_int (nomark _)) (pss_one (ps_ret (pe_joinK pe_str (pe_op op_cat (pe_op op_cat (pe_slice sl_list (pv 2) po_none (po_some (pv 4))) (pe_revL (pe_slice sl_list (pv 2) (po_some (pv 4)) (po_some (pe_op op_add (pv 4) pe_int))))) (pe_slice sl_list (pv 2) (po_some (pe_op op_add (pv 4) pe_int)) po_none))))) pss_nil)
  (pss_cons (ps_set (i := 6) scBent.nd rfl (Or.inl rfl) (pe_split (pe_ix ix_list (pv 2) (pv 4) (fun _ _ => rfl)) pe_str))
  (pss_cons (ps_set (i := 7) scBent.nd rfl (Or.inl rfl) (pe_call GC hr1 rfl mC kC bC .nil pass0 (pa_cons (pv 0) (pa_cons (pe_callB call_len_seq (by rfl) T.len PySem.boot_len (pa_cons (pv 6) pa_nil)) pa_nil))))
  (pss_cons (ps_set (i := 8) scBent.nd rfl (Or.inl rfl) (pe_ifExp (pt_cmpR op_eq (pv 3) pe_int (nomark _)) (pe_lst (pa_cons (pe_call GO hr rfl mO kO bO .nil pass0 (pa_cons (pv 0) (pa_cons (pe_lst (pa_cons pe_str (pa_cons pe_str (pa_cons pe_str (pa_cons pe_str (pa_cons pe_str (pa_cons pe_str (pa_cons pe_str pa_nil)))))))) pa_nil))) pa_nil)) (pe_lst pa_nil)))
  (pss_cons (ps_asg (pe_joinK pe_str (pe_op op_cat (pe_op op_cat (pe_slice sl_list (pv 6) po_none (po_some (pv 7))) (pv 8)) (pe_slice sl_list (pv 6) (po_some (pe_op op_add (pv 7) (pe_call GC hr1 rfl mC kC bC .nil pass0 (pa_cons (pv 0) (pa_cons pe_int pa_nil))))) po_none))) (pg_sub (pv 2) (pv 4) set_list))
  (pss_one (ps_ret (pe_joinK pe_str (pv 2))))))))))))))), ?_⟩
    have p0 : Pre b H H := Pre.start bk hb
    have nl1 : nlS.length = 1 := by decide +kernel
    have sp1l : sp1.length = 1 := by decide +kernel
    have kTx : ∀ (L' : List Str) (H' : Hp), Pre b H H' → (∀ x ∈ L', 10 ∉ tl x) → L'.length ≤ n + 1 → wgt L' ≤ w + 60 → Q (.str (Str.join nlS L')) H' := fun L' H' p fr h1 h2 => k _ _ p (Tx.of fr h1 h2 (by omega) (by omega))
    refine evn_split (H0 := H) (y := nlS) (by omega) (by decide +kernel) (ev_v rfl rfl) ev_str H _ (Same.refl _) fun D us H1 nD s1 hD l => ?_
    have p1 : Pre b H H1 := p0.same s1
    have hL1 : isLb b isSv (Txt.split t nlS) (.ref D) H1 := ⟨D, us, rfl, p0.ne nD, hD, l⟩
    generalize Txt.split t nlS = LL at hL1 lne lfr ln lw et
    have lpos : 1 ≤ LL.length := by
      cases LL with
      | nil => exact absurd rfl lne
      | cons _ _ => simp
    refine evp_choose (H0 := H1) (b := b) (m := 6) rfl (by decide) (by decide) (evp_pure fun H p => ev_int) H1 _ p1.id fun v2 H2 p2 ⟨fm, e2, f0, f6⟩ => ?_
    subst e2
    have hL2 := upP p1 p2 hL1
    have P2 := p1.trans p2
    refine ⟨_, _, rfl, ?_⟩
    refine evp_choose (H0 := H2) (b := b) (m := (LL.length : Int)) rfl (by omega) (by omega) (evp_pure fun H p => ev_lenL (ev_v rfl (upP P2 p hL2).L)) H2 _ P2.id fun v3 H3 p3 ⟨ai, e3, a0, a1⟩ => ?_
    subst e3
    obtain ⟨at_, rfl⟩ : ∃ n : Nat, ai = (n : Int) := ⟨ai.toNat, by omega⟩
    have hL3 := upP P2 p3 hL2
    have P3 := P2.trans p3
    try dsimp only [gName, tSeq, tAsg, tNext]
    refine evp_lst (H0 := H3) (b := b) (S := isSv) (as := oddA) (fun H p => evl_cons ev_str (evl_cons ev_str (evl_cons ev_str (evl_cons ev_str (evl_cons ev_str (evl_cons ev_str (evl_cons ev_str (evl_cons ev_str (evl_cons ev_str evl_nil))))))))) (by decide) H3 _ P3.id fun v4 H4 p4 ho4 => ?_
    have hL4 := upP P3 p4 hL3
    have P4 := P3.trans p4
    refine evp_nl (H0 := H4) (b := b) (S := isSv) (as := oddA ++ oddB) (fun H p => evn_cat (as := oddA) (bs := oddB) (ev_v rfl (upP P4 p ho4).L) (ev_lst (S := isSv) (evl_cons ev_str (evl_cons ev_str (evl_cons ev_str (evl_cons ev_str evl_nil)))) (by decide)) (by decide)) H4 _ P4.id fun v5 H5 p5 ho5 => ?_
    have ho5 : isLb b isSv oddL v5 H5 := ho5
    have hL5 := upP P4 p5 hL4
    have P5 := P4.trans p5
    try dsimp only [gName, tSeq, tAsg, tNext]
    obtain ⟨q, rfl⟩ : ∃ q : Nat, fm = (q : Int) := ⟨fm.toNat, by omega⟩
    clear hL1 hL2 hL3 hL4 ho4 p1 P2 P3 P4
    have lv : ∀ {σ : L2.St} {H5 H : Hp}, σ[2]? = some (some (.ref D)) → Pre b H5 H5 → isLb b isSv LL (.ref D) H5 → Pre b H5 H → EvV (Same H) σ (tVar 2) (isSs LL) := fun e p hL p' => ev_v e (upP p p' hL).L
    -- a line less
    refine if_b (H0 := H5) (Same.refl _) (ev_test (ev_eqi (i := (q : Int)) (j := 0) (ev_v rfl rfl) ev_int)) (fun _ H6 s6 => ?_) (fun e0 H6 s6 => ?_)
    · have p6 := P5.same s6
      have hL6 := upP P5 p6 hL5
      have P6 := P5.trans p6
      refine evp_joinG (H0 := H6) (b := b) nl1 ?_ (evp_catG ?_ (take_g (L := LL) (n := at_) lfr (fun H p => ev_v rfl (upP P6 p hL6).L) fun H p => evo_some (ev_v rfl rfl)) (drop_g (L := LL) (n := at_ + 1) lfr (fun H p => ev_v rfl (upP P6 p hL6).L) fun H p => evo_some (ev_ad (i := (at_ : Int)) (j := 1) (ev_v rfl rfl) ev_int))) H6 _ P6.id fun v7 H7 p7 ⟨L', e, fr, h1, h2⟩ => ?_
      · have z := wgt_mid LL (a := at_) (b := at_ + 1) (by omega)
        omega
      · omega
      · subst e
        have z := wgt_mid LL (a := at_) (b := at_ + 1) (by omega)
        exact kTx L' H7 (P6.trans p7) fr (by omega) (by omega)
    have p6 := P5.same s6
    have hL6 := upP P5 p6 hL5
    have ho6 := upP P5 p6 ho5
    have P6 := P5.trans p6
    clear hL5 ho5
    try dsimp only [gName, tSeq, tAsg, tNext]
    -- another line
    refine if_b (H0 := H6) (Same.refl _) (ev_test (ev_lt (i := (q : Int)) (j := 3) (ev_v rfl rfl) ev_int)) (fun e3 H7 s7 => ?_) (fun e3 H7 s7 => ?_)
    · have p7 := P6.same s7
      have hL7 := upP P6 p7 hL6
      have ho7 := upP P6 p7 ho6
      have P7 := P6.trans p7
      have q0 : ¬ (q : Int) = 0 := of_decide_eq_false e0
      have q3 : (q : Int) < 3 := of_decide_eq_true e3
      refine evp_joinG (H0 := H7) (b := b) nl1 ?_ (evp_catG ?_ (evp_catG ?_ (take_g (L := LL) (n := at_) lfr (fun H p => ev_v rfl (upP P7 p hL7).L) fun H p => evo_some (ev_v rfl rfl)) (evp_draw (as := oddL) rfl (by decide) (by decide) odd_ok (fun H Q p k => ⟨_, rfl, k _ _ p.id (upP P7 p ho7)⟩))) (drop_g (L := LL) (n := at_ + q - 1) lfr (fun H p => ev_v rfl (upP P7 p hL7).L) fun H p => evo_some (ev_to (ev_sb (i := (at_ : Int) + (q : Int)) (j := 1) (ev_ad (ev_v rfl rfl) (ev_v rfl rfl)) ev_int) fun v H e => by cases e; show V.int _ = V.int _; congr 1; omega))) H7 _ P7.id fun v8 H8 p8 ⟨L', e, fr, h1, h2⟩ => ?_
      · have z := wgt_mid LL (a := at_) (b := at_ + q - 1) (by omega)
        omega
      · omega
      · omega
      · subst e
        have z := wgt_mid LL (a := at_) (b := at_ + q - 1) (by omega)
        exact kTx L' H8 (P7.trans p8) fr (by omega) (by omega)
    have p7 := P6.same s7
    have hL7 := upP P6 p7 hL6
    have P7 := P6.trans p7
    clear hL6 ho6
    try dsimp only [gName, tSeq, tAsg, tNext]
    -- two lines the other way
    refine if_b (H0 := H7) (Same.refl _) (ev_test (ev_eqi (i := (q : Int)) (j := 3) (ev_v rfl rfl) ev_int)) (fun _ H8 s8 => ?_) (fun e4 H8 s8 => ?_)
    · have p8 := P7.same s8
      have hL8 := upP P7 p8 hL7
      have P8 := P7.trans p8
      refine evp_joinG (H0 := H8) (b := b) nl1 ?_ (evp_catG ?_ (evp_catG ?_ (take_g (L := LL) (n := at_) lfr (fun H p => ev_v rfl (upP P8 p hL8).L) fun H p => evo_some (ev_v rfl rfl)) (mid_g (L := LL) (n := at_) (m := at_ + 2) lfr (fun H p => ev_v rfl (upP P8 p hL8).L) (fun H p => evo_some (ev_v rfl rfl)) fun H p => evo_some (ev_ad (i := (at_ : Int)) (j := 2) (ev_v rfl rfl) ev_int))) (drop_g (L := LL) (n := at_ + 2) lfr (fun H p => ev_v rfl (upP P8 p hL8).L) fun H p => evo_some (ev_ad (i := (at_ : Int)) (j := 2) (ev_v rfl rfl) ev_int))) H8 _ P8.id fun v9 H9 p9 ⟨L', e, fr, h1, h2⟩ => ?_
      · have z := wgt_mid LL (a := at_) (b := at_ + 2) (by omega)
        omega
      · omega
      · omega
      · subst e
        have z := wgt_mid LL (a := at_) (b := at_ + 2) (by omega)
        exact kTx L' H9 (P8.trans p9) fr (by omega) (by omega)
    have p8 := P7.same s8
    have hL8 := upP P7 p8 hL7
    have P8 := P7.trans p8
    clear hL7
    try dsimp only [gName, tSeq, tAsg, tNext]
    -- words of a line
    have la : at_ < LL.length := by omega
    have ex : LL[at_]? = some LL[at_] := List.getElem?_eq_getElem la
    have xm : LL[at_] ∈ LL := List.getElem_mem la
    generalize LL[at_] = x at ex xm
    have xl := wgt_mem xm
    have x10 := lfr x xm
    have wsf : ∀ y ∈ Txt.split x sp1, 10 ∉ tl y := part_no x10
    have wsw := wgt_split x sp1 (by decide +kernel)
    have wsn := split_ne x sp1
    refine evn_split (H0 := H8) (x := x) (y := sp1) (by omega) (by decide +kernel) (ev_ixL (n := at_) ex (ev_v rfl hL8.L) (ev_v rfl rfl)) ev_str H8 _ (Same.refl _) fun D9 us9 H9 nD9 s9 hD9 l9 => ?_
    have p9 := P8.same s9
    have hL9 := upP P8 p9 hL8
    have P9 := P8.trans p9
    have hw9 : isLb b isSv (Txt.split x sp1) (.ref D9) H9 := ⟨D9, us9, rfl, P8.ne nD9, hD9, l9⟩
    generalize Txt.split x sp1 = ws at wsf wsw wsn hw9
    have wsl : ws.length ≤ wgt ws := by unfold wgt; omega
    have wpos : 1 ≤ ws.length := by
      cases ws with
      | nil => exact absurd rfl wsn
      | cons _ _ => simp
    try dsimp only [gName, tSeq, tAsg, tNext]
    refine evp_choose (H0 := H9) (b := b) (m := (ws.length : Int)) rfl (by omega) (by omega) (evp_pure fun H p => ev_lenL (ev_v rfl (upP P9 p hw9).L)) H9 _ P9.id fun v10 H10 p10 ⟨si, e10, i0, i1⟩ => ?_
    subst e10
    obtain ⟨spt, rfl⟩ : ∃ n : Nat, si = (n : Int) := ⟨si.toNat, by omega⟩
    have hL10 := upP P9 p10 hL9
    have hw10 := upP P9 p10 hw9
    have P10 := P9.trans p10
    try dsimp only [gName, tSeq, tAsg, tNext]
    refine evp_if (H0 := H10) (b := b) (R := isG b 1 31) (q := decide ((q : Int) = 4)) (fun H p => ev_test (ev_eqi (ev_v rfl rfl) ev_int)) (fun _ => evp_draw (as := moreL) rfl (by decide) (by decide) more_ok (evp_lst (fun H p => evl_cons ev_str (evl_cons ev_str (evl_cons ev_str (evl_cons ev_str (evl_cons ev_str (evl_cons ev_str (evl_cons ev_str evl_nil))))))) (by decide))) (fun _ => evp_g (L := []) (fun _ h => nomatch h) (by decide) (by decide) (evp_lst (S := isSv) (fun H p => evl_nil) (by decide))) H10 _ P10.id fun v11 H11 p11 hg11 => ?_
    have hL11 := upP P10 p11 hL10
    have hw11 := upP P10 p11 hw10
    have P11 := P10.trans p11
    try dsimp only [gName, tSeq, tAsg, tNext]
    have hj : wgt (ws.take spt) + 31 + wgt (ws.drop spt) ≤ x.length + 1 + 31 := by
      have z := wgt_cut ws spt
      omega
    refine evp_joinG (H0 := H11) (b := b) sp1l ?_ (evp_catG ?_ (evp_catG ?_ (take_g (L := ws) (n := spt) wsf (fun H p => ev_v rfl (upP P11 p hw11).L) fun H p => evo_some (ev_v rfl rfl)) (fun H Q p k => ⟨_, rfl, k _ _ p.id (upP P11 p hg11)⟩)) (dropd_g (L := ws) (n := spt) (v := .non) wsf (fun H Q p k => ⟨_, rfl, k _ _ p.id (upP P11 p hw11)⟩) (fun H Q p k => ⟨_, rfl, k _ _ p.id rfl⟩) (evp_choose rfl (by decide) (by decide) (evp_pure fun H p => ev_int)))) H11 _ P11.id fun v12 H12 p12 ⟨W', e12, fr12, h12, hw12⟩ => ?_
    · omega
    · omega
    · omega
    subst e12
    have hL12 := upP P11 p12 hL11
    have P12 := P11.trans p12
    obtain ⟨DL, us12, eD, neD, hD12, l12⟩ := hL12
    cases eD
    refine ⟨_, rfl, _, rfl, D, us12, (at_ : Int), at_, rfl, rfl, hD12, ?_, ?_⟩
    · unfold ixN
      rw [if_pos (by omega), if_pos (by rw [l12.1]; omega)]
      rfl
    have K13 : Keep H12 (upd H12 D (.lst (us12.set at_ (.str (Str.join sp1 W'))))) := Keep.lst hD12
    have hL13 : isLb b isSv (LL.set at_ (Str.join sp1 W')) (.ref D) (upd H12 D (.lst (us12.set at_ (.str (Str.join sp1 W'))))) := ⟨D, _, rfl, neD, upd_same, (l12.put (v := .str (Str.join sp1 W')) (a := Str.join sp1 W') rfl at_).upL K13⟩
    have P13 : Pre b H (upd H12 D (.lst (us12.set at_ (.str (Str.join sp1 W'))))) := by
      obtain ⟨sx, u12, v12, ok12, hb12⟩ := P12
      refine ⟨fun c o nc e => ?_, u12, v12, ok12, by rw [upd_ne (Ne.symm neD)]; exact hb12⟩
      rw [upd_ne (fun z => by rw [z, p0_none nD] at e; cases e)]
      exact sx c o nc e
    generalize upd H12 D (.lst (us12.set at_ (.str (Str.join sp1 W')))) = H13 at hL13 P13
    have jl := len_join1 sp1l W'
    have jf : 10 ∉ tl (Str.join sp1 W') := join_no (by decide +kernel) fr12
    refine evp_joinG (H0 := H13) (b := b) (n := LL.length) (w := w + 60) nl1 ?_ (evp_g (L := LL.set at_ (Str.join sp1 W')) (fun y hy => ?_) (Nat.le_of_eq (List.length_set ..)) ?_ (fun H Q p k => ⟨_, rfl, k _ _ p.id (upP P13 p hL13)⟩)) H13 _ P13.id fun v14 H14 p14 ⟨L', e14, fr14, h14, hw14⟩ => ?_
    · omega
    · rcases List.mem_or_eq_of_mem_set hy with h | h
      · exact lfr y h
      · rw [h]
        exact jf
    · have z := wgt_set ex (Str.join sp1 W')
      omega
    · subst e14
      exact kTx L' H14 (P13.trans p14) fr14 (by omega) hw14
end
end V3

set_option Elab.async false
set_option linter.all false
set_option maxRecDepth 100000
namespace V3
open PySem L2 TL
abbrev sLaw : Stmt := top 40
abbrev NL : List Str := ["_law_script", "_law_k", "_law_box", "_law_turn", "_law_house_here", "_law_text", "_law_again", "_law_due"]
theorem scLaw : FnScope NL ["_law_script"] (defScope sLaw) := ⟨rfl, rfl, rfl, by decide +kernel, rfl, by decide +kernel, by decide +kernel⟩
def spLaw (K : PySem.W.Frag) : Sp := fun vs H Q _ => ∃ (a : Addr) (ns : List Int), vs = [.ref a] ∧ SqL K H a (ns.map V.int) ∧ ns.length ≤ 63 ∧ ∀ H', Q (.bl true) H'
theorem Tx.mono {t : Str} {n w n' w' : Nat} (h : Tx t n w) (a : n ≤ n') (b : w ≤ w') : Tx t n' w' := by
  obtain ⟨L, h1, h2, h3, h4, h5⟩ := h
  exact ⟨L, h1, h2, h3, Nat.le_trans h4 a, Nat.le_trans h5 b⟩
theorem evp_ixd {K : PySem.W.Frag} {α : Type} {S : α → V → Hp → Prop} [∀ a, StL (S a)] {as : List α} {σ : L2.St} {ta tb : TE} {H0 : Hp} {b : Addr} (ha : EvP b H0 σ ta (isLb b S as)) (hb : EvP b H0 σ tb (isDr (as.length : Int))) : EvP b H0 σ (tOp (rIxL K) ta tb) (isOne S as) :=
  evp_o ha hb fun x y H Q p hx hy k => by
    obtain ⟨D, us, rfl, ne, hD, l⟩ := hx
    obtain ⟨d, rfl, d0, d1⟩ := hy
    obtain ⟨n, rfl⟩ : ∃ n : Nat, d = (n : Int) := ⟨d.toNat, by omega⟩
    have lt : n < as.length := by omega
    obtain ⟨z, ez, r⟩ := l.2 n _ (List.getElem?_eq_getElem lt)
    exact ⟨D, us, (n : Int), z, rfl, rfl, SqL.of hD, at_n ez, k z H p.id ⟨as[n], List.getElem_mem lt, r⟩⟩
section
variable {K : PySem.W.Frag} {c : Rc} {C CT : Addr} {σ : L2.St} {ta : TE} {H0 : Hp} {t : Str}
theorem ev_heard (n : t.length ≤ 100000) (ln : (Txt.split t nlS).length ≤ 102) (ha : EvV (Same H0) σ ta (isSv t)) : EvV (Same H0) σ (tCall spHeard [] E0 (tCons ta tNil)) (isVv (heardV t)) :=
  ev_call (eva_cons ha eva_nil) fun vs H Q w r k => by
    obtain ⟨v, r, rfl, e, rfl⟩ := r
    cases e
    exact ⟨t, rfl, n, ln, fun H' s => k _ H' s rfl⟩
theorem ev_wrong (n : t.length ≤ 100000) (ln : (Txt.split t nlS).length ≤ 102) (ha : EvV (Same H0) σ ta (isSv t)) : EvV (Same H0) σ (tCall spWrongLine [] E0 (tCons ta tNil)) (isVv (optN (badLine (Txt.split t nlS)))) :=
  ev_call (eva_cons ha eva_nil) fun vs H Q w r k => by
    obtain ⟨v, r, rfl, e, rfl⟩ := r
    cases e
    exact ⟨t, rfl, n, ln, fun H' s => k _ H' s rfl⟩
/-- House.read of the text of a house -/
theorem ev_read {h : Hs} (ok : h.ok) (ha : EvV (Same H0) σ ta (isSv h.text)) : EvV (Same H0) σ (tCMethA C (spHsRead K c C CT) (fun _ => E0) (tC (.ref C)) (tCons ta tNil)) (HsA K c C h) := fun H Q w k =>
  ⟨rfl, ha H _ w fun v H1 s1 w1 e => by
    cases e
    have z := lines_n ok
    have tl_ := (tx_house ok).split.2.2.2.2.2
    refine ⟨h.text, rfl, by omega, by rw [text_split ok]; exact z, fun _ g go gl x H' s' hx => ?_, fun i e => ?_⟩
    · rw [text_split ok] at gl
      have eg := lines_inj go ok gl
      subst eg
      exact k x H' (s1.trans s') (w1.trans s') hx
    · rw [text_split ok, lines_ok ok] at e
      cases e⟩
end
section
variable {P : Program} {w : World} {K : PySem.W.Frag} {mg : Str → Option Value} {base : Heap}
theorem ok_law {f C CN CT : Addr} {c : Rc} {fd : FuncData} (F : Fun K "law" "law" sLaw f fd) (T : BltW mg) (R : HsOps P w K mg base c C CN) (RD : HsRd P w K mg base c C CT)
    (cS : Cal P w K mg base CX0 "_law_seed" 1 ["_law_script", "_law_k"] (spSeed K)) (cC : CalCho P w K mg base) (cH : Cal P w K mg base CX0 "_law_house" 4 ["_law_box", "_law_many"] spHouse) (cT : Cal P w K mg base CX0 "_law_house_text" 1 ["_law_house_here"] spHouseText)
    (cF : Cal P w K mg base CX0 "_law_house_of" 6 ["_law_house_here"] (spHouseOf K c C)) (cB : Cal P w K mg base CX0 "_law_bent" 3 ["_law_box", "_law_text"] spBent) (cW : Cal P w K mg base CX0 "_law_wrong_line" 2 ["_law_text"] spWrongLine) (cE : Cal P w K mg base CX0 "_law_heard" 8 ["_law_text"] spHeard) : FnOk P w K mg base CX0 9 f fd ["_law_script"] (spLaw K) := by
  obtain ⟨fS, fdS, GS, mS, kS, bS⟩ := cS
  obtain ⟨fC, fdC, GC, mC, kC, bC⟩ := cC
  obtain ⟨fH, fdH, GH, mH, kH, bH⟩ := cH
  obtain ⟨fT, fdT, GT, mT, kT, bT⟩ := cT
  obtain ⟨fF, fdF, GF, mF, kF, bF⟩ := cF
  obtain ⟨fB, fdB, GB, mB, kB, bB⟩ := cB
  obtain ⟨fW, fdW, GW, mW, kW, bW⟩ := cW
  obtain ⟨fE, fdE, GE, mE, kE, bE⟩ := cE
  obtain ⟨mc, pr, fR, fdR, rd, cm, GR, bR⟩ := RD.r
  refine F.ok scLaw (fun vs H Q E h => ?_) (fun cdv A outer s H vs Q E hr h => ?_)
  · obtain ⟨a, ns, rfl, _⟩ := h
    rfl
  · obtain ⟨a, ns, rfl, hS, hl, k⟩ := h
    have hr1 : Room 1 _ := hr.mono (by decide)
    have hr2 : Room 2 _ := hr.mono (by decide)
    have hr3 : Room 3 _ := hr.mono (by decide)
    have hr4 : Room 4 _ := hr.mono (by decide)
    have hr6 : Room 6 _ := hr.mono (by decide)
    have hr7 : Room 7 _ := hr.mono (by decide)
    have hr8 : Room 8 _ := hr
    have e0 : ∀ σ, PassesAt (L2.CX P w) (cxOf CX0 P w K mg base NL "law" (defScope sLaw) f cdv A outer s H E).nox σ E0 := fun σ _ _ _ _ _ _ h => by
      obtain ⟨_, _, _, _, _, _, _, _, _, _, _, _, z⟩ := h
      exact z.elim
    refine ⟨_, (pss_cons (ps_for PassesOwn.never rfl (pi_range1 (by rfl) T.range (pa_cons (pe_callB (call_max2 rfl) (by rfl) T.max (by decide +kernel) (pa_cons pe_int (pa_cons (pe_callB (call_min2 rfl) (by rfl) T.min (by decide +kernel) (pa_cons pe_int (pa_cons (pe_callB call_len_seq (by rfl) T.len PySem.boot_len (pa_cons (pv 0) pa_nil)) pa_nil))) pa_nil))) pa_nil)) (pg_name (i := 1) scLaw.nd rfl (Or.inl rfl))
  (pss_cons (ps_set (i := 2) scLaw.nd rfl (Or.inl rfl) (pe_call GS hr1 rfl mS kS bS .nil pass0 (pa_cons (pv 0) (pa_cons (pv 1) pa_nil))))
  (pss_one (ps_for PassesOwn.never rfl (pi_range1 (by rfl) T.range (pa_cons pe_int pa_nil)) (pg_name (i := 3) scLaw.nd rfl (Or.inl rfl))
  (pss_cons (ps_set (i := 4) scLaw.nd rfl (Or.inl rfl) (pe_call GH hr4 rfl mH kH bH .nil pass0 (pa_cons (pv 2) (pa_cons (pe_ix ix_list (pe_lst (pa_cons pe_int (pa_cons pe_int pa_nil))) (pe_call GC hr1 rfl mC kC bC .nil pass0 (pa_cons (pv 2) (pa_cons pe_int pa_nil))) (fun _ _ => rfl)) pa_nil))))
  (pss_cons (ps_set (i := 5) scLaw.nd rfl (Or.inl rfl) (pe_call GT hr1 rfl mT kT bT .nil pass0 (pa_cons (pv 4) pa_nil)))
  (pss_cons (ps_if (PW.pt (pw_or (pt_cmpR op_ne (pe_call GE hr8 rfl mE kE bE .nil pass0 (pa_cons (pv 5) pa_nil)) (pv 5) (nomark _)) (pw_or1 (pt_cmpR (op_neH R hr) (pe_cmethA (E := fun _ => E0) (pe_glob (v := .ref C) rfl RD.g rfl) rd cm GR bR hr7 e0 (pa_cons (pv 5) pa_nil)) (pe_call GF hr6 rfl mF kF bF .nil pass0 (pa_cons (pv 4) pa_nil)) (nomark _))))) (pss_one (ps_ret pe_bl)) pss_nil)
  (pss_one (ps_for PassesOwn.never rfl (pi_range1 (by rfl) T.range (pa_cons pe_int pa_nil)) (pg_name (i := 6) scLaw.nd rfl (Or.inl rfl))
  (pss_cons (ps_set (i := 5) scLaw.nd rfl (Or.inl rfl) (pe_call GB hr3 rfl mB kB bB .nil pass0 (pa_cons (pv 2) (pa_cons (pv 5) pa_nil))))
  (pss_cons (ps_set (i := 7) scLaw.nd rfl (Or.inl rfl) (pe_call GW hr2 rfl mW kW bW .nil pass0 (pa_cons (pv 5) pa_nil)))
  (pss_one (ps_if (pt_cmpR op_ne (pe_call GE hr8 rfl mE kE bE .nil pass0 (pa_cons (pv 5) pa_nil)) (pe_ifExp (pt_cmpR op_isN (pv 7) pe_non (nomark _)) (pv 5) (pv 7)) (nomark _)) (pss_one (ps_ret pe_bl)) pss_nil)))))))))))))
  (pss_one (ps_ret (pe_and (pe_cmpR op_eq (pe_call GE hr8 rfl mE kE bE .nil pass0 (pa_cons pe_str pa_nil)) pe_int (nomark _)) (pe_and (pe_cmpR op_eq (pe_call GE hr8 rfl mE kE bE .nil pass0 (pa_cons pe_str pa_nil)) pe_int (nomark _)) (pe_one (pe_cmpR op_eq (pe_callB (call_lenK R hr2) (by rfl) T.len PySem.boot_len (pa_cons (pe_cmethA (E := fun _ => E0) (pe_glob (v := .ref C) rfl RD.g rfl) rd cm GR bR hr7 e0 (pa_cons pe_str pa_nil)) pa_nil)) pe_int (nomark _)))))))), ?_⟩
    refine ⟨_, rfl, a, _, rfl, .inl hS, _, _, rfl, _, _, rfl, ?_⟩
    rw [List.length_map]
    have hn : (if (if (ns.length : Int) < 5 then (ns.length : Int) else 5) > 2 then (if (ns.length : Int) < 5 then (ns.length : Int) else 5) else 2) ≤ 5 ∧ 2 ≤ (if (if (ns.length : Int) < 5 then (ns.length : Int) else 5) > 2 then (if (ns.length : Int) < 5 then (ns.length : Int) else 5) else 2) := by
      constructor <;> (split <;> (try split) <;> omega)
    generalize (if (if (ns.length : Int) < 5 then (ns.length : Int) else 5) > 2 then (if (ns.length : Int) < 5 then (ns.length : Int) else 5) else 2) = n at hn
    refine ⟨n, rfl, by omega, by omega, for_range (lo := 0) (n := n.toNat) (fun i σ H' => (∃ o1 o2 o3 o4 o5 o6 o7 : Option V, σ = [some (.ref a), o1, o2, o3, o4, o5, o6, o7]) ∧ Same H H') ⟨⟨_, _, _, _, _, _, _, rfl⟩, Same.refl H⟩ ?_ ?_⟩
    · rintro i σ H0 hi ⟨⟨o1, o2, o3, o4, o5, o6, o7, rfl⟩, s0⟩
      refine ⟨_, rfl, _, rfl, a, ns, _, rfl, s0.seq hS, hl, by omega, by omega, fun b u v nb ok => ?_⟩
      have s1 : Same H (upd H0 b (box u v)) := fun c o e => by
        rw [upd_ne (ne_of_none (s0 c o e) nb)]
        exact s0 c o e
      have hb0 : H b = none := s0.free nb
      have hb1 : upd H0 b (box u v) b = some (box u v) := upd_same
      generalize upd H0 b (box u v) = H1 at s1 hb1
      have p0 : Pre b H1 H1 := Pre.start ok hb1
      try dsimp only [gName, tSeq, tAsg, tNext]
      refine ⟨4, rfl, by decide, by decide, for_range (lo := 0) (n := 4) (fun i σ H' => (∃ o1 o3 o4 o5 o6 o7 : Option V, σ = [some (.ref a), o1, some (.ref b), o3, o4, o5, o6, o7]) ∧ Pre b H1 H') ⟨⟨_, _, _, _, _, _, rfl⟩, p0⟩ ?_ ?_⟩
      · rintro j σ H2 hj ⟨⟨o1, o3, o4, o5, o6, o7, rfl⟩, P2⟩
        obtain ⟨_, u2, v2, ok2, hb2⟩ := id P2
        refine ⟨_, rfl, ?_⟩
        refine evp_ixd (K := K) (H0 := H2) (b := b) (S := isIv) (as := [6, 20]) (evp_lst (fun H p => evl_cons ev_int (evl_cons ev_int evl_nil)) (by decide)) (evp_choose (m := 2) rfl (by decide) (by decide) (evp_pure fun H p => ev_int)) H2 _ P2.id fun vm H3 p3 ⟨m, hm, em⟩ => ?_
        cases em
        have m20 : 1 ≤ m ∧ m ≤ 20 := by
          simp only [List.mem_cons, List.not_mem_nil, or_false] at hm
          omega
        obtain ⟨_, u3, v3, ok3, hb3⟩ := id p3
        refine ⟨b, u3, v3, m, rfl, hb3, ok3, m20.1, by omega, fun xh h H4 p4 ht4 hok lm => ?_⟩
        have P4 := (P2.trans p3).trans p4
        try dsimp only [gName, tSeq, tAsg, tNext]
        refine ⟨_, rfl, xh, h, rfl, ht4, hok, fun H5 s5 => ?_⟩
        have ht5 : HtA h xh H5 := HtAt.same ht4 s5
        have P5 := P4.then s5
        have t0 := tx_house hok
        have tx := Tx.mono t0 (n' := 22) (w' := 4000) (by omega) (by omega)
        have sp := tx.split
        have hh : heardV h.text = .str h.text := by
          unfold heardV
          rw [text_split hok, lines_ok hok]
        try dsimp only [gName, tSeq, tAsg, tNext]
        refine if_f (H0 := H5) (Same.refl _) (ev_bool (ev_orB (ev_test (ev_neV (v := .str h.text) (by rw [hh]; rfl) (ev_heard (t := h.text) (by omega) (by omega) (ev_v rfl rfl)) (ev_v rfl rfl))) fun _ => ev_test (ev_eqK (neg := true) (h := h) (g := h) R.nf hok hok (ev_read hok (ev_v rfl rfl)) (ev_houseOf hok (ev_v rfl ht5)))) (by rw [hh]; simp)) fun H6 s6 => ?_
        have P6 := P5.then s6
        try dsimp only [gName, tSeq, tAsg, tNext]
        refine ⟨3, rfl, by decide, by decide, for_range (lo := 0) (n := 3) (fun i σ H' => (∃ (o1 o3 o4 o6 o7 : Option V) (t : Str), σ = [some (.ref a), o1, some (.ref b), o3, o4, some (.str t), o6, o7] ∧ Tx t (22 + i) (4000 + 60 * i)) ∧ Pre b H1 H') ⟨⟨_, _, _, _, _, h.text, rfl, tx⟩, P6⟩ ?_ ?_⟩
        · rintro i σ H7 i3 ⟨⟨o1, o3, o4, o6, o7, t, rfl, tx⟩, P7⟩
          obtain ⟨_, u7, v7, ok7, hb7⟩ := id P7
          refine ⟨_, rfl, _, rfl, b, t, u7, v7, _, _, rfl, hb7, ok7, tx, by omega, by omega, fun t' H8 p8 tx' => ?_⟩
          have P8 := P7.trans p8
          obtain ⟨sp1', sp2', sp3', sp4', sp5', sp6'⟩ := tx'.split
          try dsimp only [gName, tSeq, tAsg, tNext]
          refine ev_wrong (H0 := H8) (t := t') (by omega) (by omega) (ev_v rfl rfl) H8 _ (Same.refl _) fun v H9 s9 _ e9 => ?_
          cases e9
          have P9 := P8.then s9
          try dsimp only [gName, tSeq, tAsg, tNext]
          have sc : scal (heardV t') (heardV t') = true := by
            unfold heardV
            cases badLine (Txt.split t' nlS) <;> rfl
          refine if_f (H0 := H9) (Same.refl _) (ev_bool (ev_test (ev_neV (u := heardV t') (v := heardV t') sc (ev_heard (t := t') (by omega) (by omega) (ev_v rfl rfl)) (ev_if (b := decide (optN (badLine (Txt.split t' nlS)) = .non)) (ev_test (ev_isN (ev_v (R := isVv (optN (badLine (Txt.split t' nlS)))) rfl rfl))) (fun e => ?_) (fun e => ?_)))) (by simp)) fun H10 s10 => ?_
          · cases z : badLine (Txt.split t' nlS) with
            | some i => rw [z] at e; exact absurd (of_decide_eq_true e) (fun y => by cases y)
            | none =>
              have hv : heardV t' = .str t' := by
                unfold heardV
                rw [z]
              rw [hv]
              exact ev_v rfl rfl
          · cases z : badLine (Txt.split t' nlS) with
            | none => rw [z] at e; exact absurd rfl (of_decide_eq_false e)
            | some i =>
              have hv : heardV t' = .int (i : Int) := by
                unfold heardV
                rw [z]
              rw [hv]
              exact ev_v rfl rfl
          · refine ⟨⟨_, _, _, _, _, t', rfl, Tx.mono tx' (by omega) (by omega)⟩, P9.then s10⟩
        · rintro σ H7 ⟨⟨o1, o3, o4, o6, o7, t, rfl, tx⟩, P7⟩
          exact ⟨⟨_, _, _, _, _, _, rfl⟩, P7⟩
      · rintro σ H2 ⟨⟨o1, o3, o4, o5, o6, o7, rfl⟩, P2⟩
        exact ⟨⟨_, _, _, _, _, _, _, rfl⟩, fun c o e => P2.1 c o (ne_of_none e hb0) (s1 c o e)⟩
    · rintro σ H1 ⟨⟨o1, o2, o3, o4, o5, o6, o7, rfl⟩, s0⟩
      have ok0 : (Hs.mk 0 "all" []).ok := ⟨by decide, by decide, by decide +kernel, (fun m hm => by cases hm), by decide⟩
      have t0 : (Hs.mk 0 "all" []).text = "depth 0\ncheck all" := by decide +kernel
      have h1 : heardV "" = .int 0 := by
        have z : badLine (Txt.split "" nlS) = some 0 := by decide +kernel
        unfold heardV
        rw [z]
        rfl
      have h2 : heardV "depth 4" = .int 1 := by
        have z : badLine (Txt.split "depth 4" nlS) = some 1 := by decide +kernel
        unfold heardV
        rw [z]
        rfl
      refine ev_at (ev_is (ev_eqV (v := .int 0) (by rw [h1]; rfl) (ev_heard (t := "") (by decide +kernel) (by decide +kernel) ev_str) (ev_c)) (by rw [h1]; rfl)) (ev_at (ev_is (ev_eqV (v := .int 1) (by rw [h2]; rfl) (ev_heard (t := "depth 4") (by decide +kernel) (by decide +kernel) ev_str) ev_c) (by rw [h2]; rfl)) (ev_is (b' := true) (ev_eqi (ev_lenK ok0 (ev_read ok0 (by rw [t0]; exact ev_str))) ev_int) (by decide))) H1 _ (Same.refl _) fun v H' s' _ e => ?_
      cases e
      exact k _
end
end V3

set_option Elab.async false
set_option maxHeartbeats 4000000
set_option linter.all false
set_option maxRecDepth 100000
namespace V3
open PySem L2
theorem kit_ref {K : PySem.W.Frag} {t C : Addr} {b : Bool} (h1 : PySem.W.isClsIn K C = true) (h2 : PySem.W.typeIn K (.ref C) = some (.type "type")) (h3 : PySem.W.subIn K (.ref t) (.ref C) = some b) (h4 : PySem.W.subIn K (.ref t) (.ref t) = some true) :
    PySem.W.kitOne K (.ref t) (.ref C) = some b := by
  unfold PySem.W.kitOne
  by_cases e : t = C
  · subst e
    rw [h4] at h3
    injection h3 with h3
    subst h3
    rw [if_pos (by simp)]
  · have n : (Value.ref t == Value.ref C) = false := by
      refine Bool.eq_false_iff.mpr fun q => e ?_
      exact Value.ref.inj (beq_iff_eq.mp q)
    rw [n, if_neg Bool.false_ne_true]
    have q : ((PySem.W.clsIn K C).isSome && PySem.W.typeIn K (.ref C) == some (.type "type")) = true := by
      have z : (PySem.W.clsIn K C).isSome = true := h1
      rw [z, h2] <;> rfl
    show (if ((PySem.W.clsIn K C).isSome && PySem.W.typeIn K (.ref C) == some (.type "type")) = true then PySem.W.subIn K (.ref t) (.ref C) else none) = some b
    rw [if_pos q]
    exact h3
theorem kit_base {K : PySem.W.Frag} {t : String} {C : Addr} {b : Bool} (h1 : PySem.W.isClsIn K C = true) (h2 : PySem.W.typeIn K (.ref C) = some (.type "type")) (h3 : PySem.W.subIn K (.type t) (.ref C) = some b) :
    PySem.W.kitOne K (.type t) (.ref C) = some b := by
  unfold PySem.W.kitOne
  have n : (Value.type t == Value.ref C) = false := by
    refine Bool.eq_false_iff.mpr fun q => ?_
    cases beq_iff_eq.mp q
  rw [n, if_neg Bool.false_ne_true]
  have q : ((PySem.W.clsIn K C).isSome && PySem.W.typeIn K (.ref C) == some (.type "type")) = true := by
    have z : (PySem.W.clsIn K C).isSome = true := h1
    rw [z, h2] <;> rfl
  show (if ((PySem.W.clsIn K C).isSome && PySem.W.typeIn K (.ref C) == some (.type "type")) = true then PySem.W.subIn K (.type t) (.ref C) else none) = some b
  rw [if_pos q]
  exact h3
theorem kit_rt {K : PySem.W.Frag} {T : String} {C : Addr} {b : Bool} (hm : PySem.W.kitMeta T = true) (h3 : PySem.W.subIn K (.ref C) (.type T) = some b) : PySem.W.kitOne K (.ref C) (.type T) = some b := by
  unfold PySem.W.kitOne
  rw [if_neg (by intro z; cases (beq_iff_eq.mp z))]
  show (if PySem.W.kitMeta T = true then PySem.W.subIn K (.ref C) (.type T) else none) = some b
  rw [if_pos hm]
  exact h3
theorem nf_same {K : PySem.W.Frag} {C : Addr} : PySem.W.notFirst K C (.ref C) = true := by simp [PySem.W.notFirst]
theorem all_mk {l : PySem.W.OpenLaw} {w : World} {K : PySem.W.Frag} {h : Heap} {mg : Str → Option Value} {fa f_int f_num f_ww f_isr f_seed f_choose f_one f_rows f_ho f_ht f_lo f_hf f_hr f_rr f_cs f_ir f_wl f_hd f_bt f_law LC HC f_li f_ls f_hi e_hi f_he f_hs f_hl f_hg KA SA DA PA KK DL LA CN f_nr CT f_it pr f_rd CB CH : Addr} (X : K.In h) (G : h.Ns mainGlobals mg) (hfa : mg "law" = some (.ref fa))
    {od_f_int an_f_int : Option Addr} {sl_f_int : Array (Option Value)} {oc_f_int kV_f_int dc_f_int pm_f_int cd_f_int ct_f_int : Value}
    {od_f_num an_f_num : Option Addr} {sl_f_num : Array (Option Value)} {oc_f_num kV_f_num dc_f_num pm_f_num cd_f_num ct_f_num : Value}
    {od_f_ww an_f_ww : Option Addr} {sl_f_ww : Array (Option Value)} {oc_f_ww kV_f_ww dc_f_ww pm_f_ww cd_f_ww ct_f_ww : Value}
    {od_f_isr an_f_isr : Option Addr} {sl_f_isr : Array (Option Value)} {oc_f_isr kV_f_isr dc_f_isr pm_f_isr cd_f_isr ct_f_isr : Value}
    {od_f_seed an_f_seed : Option Addr} {sl_f_seed : Array (Option Value)} {oc_f_seed kV_f_seed dc_f_seed pm_f_seed cd_f_seed ct_f_seed : Value}
    {od_f_choose an_f_choose : Option Addr} {sl_f_choose : Array (Option Value)} {oc_f_choose kV_f_choose dc_f_choose pm_f_choose cd_f_choose ct_f_choose : Value}
    {od_f_one an_f_one : Option Addr} {sl_f_one : Array (Option Value)} {oc_f_one kV_f_one dc_f_one pm_f_one cd_f_one ct_f_one : Value}
    {od_f_rows an_f_rows : Option Addr} {sl_f_rows : Array (Option Value)} {oc_f_rows kV_f_rows dc_f_rows pm_f_rows cd_f_rows ct_f_rows : Value}
    {od_f_ho an_f_ho : Option Addr} {sl_f_ho : Array (Option Value)} {oc_f_ho kV_f_ho dc_f_ho pm_f_ho cd_f_ho ct_f_ho : Value}
    {od_f_ht an_f_ht : Option Addr} {sl_f_ht : Array (Option Value)} {oc_f_ht kV_f_ht dc_f_ht pm_f_ht cd_f_ht ct_f_ht : Value}
    {od_f_lo an_f_lo : Option Addr} {sl_f_lo : Array (Option Value)} {oc_f_lo kV_f_lo dc_f_lo pm_f_lo cd_f_lo ct_f_lo : Value}
    {od_f_hf an_f_hf : Option Addr} {sl_f_hf : Array (Option Value)} {oc_f_hf kV_f_hf dc_f_hf pm_f_hf cd_f_hf ct_f_hf : Value}
    {od_f_hr an_f_hr : Option Addr} {sl_f_hr : Array (Option Value)} {oc_f_hr kV_f_hr dc_f_hr pm_f_hr cd_f_hr ct_f_hr : Value}
    {od_f_rr an_f_rr : Option Addr} {sl_f_rr : Array (Option Value)} {oc_f_rr kV_f_rr dc_f_rr pm_f_rr cd_f_rr ct_f_rr : Value}
    {od_f_cs an_f_cs : Option Addr} {sl_f_cs : Array (Option Value)} {oc_f_cs kV_f_cs dc_f_cs pm_f_cs cd_f_cs ct_f_cs : Value}
    {od_f_ir an_f_ir : Option Addr} {sl_f_ir : Array (Option Value)} {oc_f_ir kV_f_ir dc_f_ir pm_f_ir cd_f_ir ct_f_ir : Value}
    {od_f_wl an_f_wl : Option Addr} {sl_f_wl : Array (Option Value)} {oc_f_wl kV_f_wl dc_f_wl pm_f_wl cd_f_wl ct_f_wl : Value}
    {od_f_hd an_f_hd : Option Addr} {sl_f_hd : Array (Option Value)} {oc_f_hd kV_f_hd dc_f_hd pm_f_hd cd_f_hd ct_f_hd : Value}
    {od_f_bt an_f_bt : Option Addr} {sl_f_bt : Array (Option Value)} {oc_f_bt kV_f_bt dc_f_bt pm_f_bt cd_f_bt ct_f_bt : Value}
    {od_f_law an_f_law : Option Addr} {sl_f_law : Array (Option Value)} {oc_f_law kV_f_law dc_f_law pm_f_law cd_f_law ct_f_law : Value}
    {od_f_li an_f_li : Option Addr} {sl_f_li : Array (Option Value)} {oc_f_li kV_f_li dc_f_li pm_f_li cd_f_li ct_f_li : Value}
    {od_f_ls an_f_ls : Option Addr} {sl_f_ls : Array (Option Value)} {oc_f_ls kV_f_ls dc_f_ls pm_f_ls cd_f_ls ct_f_ls : Value}
    {od_f_hi an_f_hi dd_f_hi : Option Addr} {sl_f_hi ds_f_hi : Array (Option Value)} {oc_f_hi kV_f_hi dc_f_hi pm_f_hi cd_f_hi ct_f_hi : Value} {T_f_hi : Addr} {n_f_hi : Nat}
    {dd_e : Option Addr} {n_e : Nat} {ds_e : Array (Option Value)}
    {od_f_he an_f_he : Option Addr} {sl_f_he : Array (Option Value)} {oc_f_he kV_f_he dc_f_he pm_f_he cd_f_he ct_f_he : Value}
    {od_f_hs an_f_hs : Option Addr} {sl_f_hs : Array (Option Value)} {oc_f_hs kV_f_hs dc_f_hs pm_f_hs cd_f_hs ct_f_hs : Value}
    {od_f_hl an_f_hl : Option Addr} {sl_f_hl : Array (Option Value)} {oc_f_hl kV_f_hl dc_f_hl pm_f_hl cd_f_hl ct_f_hl : Value}
    {od_f_hg an_f_hg : Option Addr} {sl_f_hg : Array (Option Value)} {oc_f_hg kV_f_hg dc_f_hg pm_f_hg cd_f_hg ct_f_hg : Value}
    {t0_KA t1_KA t2_KA t3_KA : Tok} {dd_KA : Option Addr} {n_KA : Nat} {ds_KA : Array (Option Value)}
    {t0_SA t1_SA : Tok} {dd_SA : Option Addr} {n_SA : Nat} {ds_SA : Array (Option Value)}
    {t0_DA t1_DA t2_DA : Tok} {dd_DA : Option Addr} {n_DA : Nat} {ds_DA : Array (Option Value)}
    {t0_PA t1_PA : Tok} {dd_PA : Option Addr} {n_PA : Nat} {ds_PA : Array (Option Value)}
    {t0_KK t1_KK : Tok} {dd_KK : Option Addr} {n_KK : Nat} {ds_KK : Array (Option Value)}
    {t0_DL t1_DL t2_DL t3_DL t4_DL : Tok} {dd_DL : Option Addr} {n_DL : Nat} {ds_DL : Array (Option Value)}
    {t0_LA t1_LA : Tok} {dd_LA : Option Addr} {n_LA : Nat} {ds_LA : Array (Option Value)}
    {nm_CN q_CN : Str} {N_CN : Addr} {bs_CN bm_CN : List Value} {sn_CN : List Str} {sub_CN : List Value} {ab_CN : Bool} {col_CN : Option Bool} {dd_CN : Option Addr} {m0_CN m1_CN m2_CN m3_CN m5_CN : Option Value}
    {od_f_nr an_f_nr : Option Addr} {sl_f_nr : Array (Option Value)} {oc_f_nr kV_f_nr dc_f_nr pm_f_nr cd_f_nr ct_f_nr : Value}
    {nm_CT q_CT : Str} {N_CT : Addr} {bs_CT bm_CT : List Value} {sn_CT : List Str} {sub_CT : List Value} {ab_CT : Bool} {col_CT : Option Bool} {dd_CT : Option Addr} {m0_CT m1_CT m2_CT m3_CT m5_CT : Option Value}
    {od_f_it an_f_it : Option Addr} {sl_f_it : Array (Option Value)} {oc_f_it kV_f_it dc_f_it pm_f_it cd_f_it ct_f_it : Value}
    {rest_rd : List Value}
    {od_f_rd an_f_rd : Option Addr} {sl_f_rd : Array (Option Value)} {oc_f_rd kV_f_rd dc_f_rd pm_f_rd cd_f_rd ct_f_rd : Value}
    (g_f_int : PySem.W.nsIn K mainGlobals "is_integer" = some (some (.ref f_int)))
    (l_f_int : K.lookup f_int = some ⟨oc_f_int, od_f_int, .func (PySem.W.fnOf "is_integer" "is_integer" (defArgs sIsInt) (defBody sIsInt) (defScope sIsInt) .none kV_f_int dc_f_int pm_f_int an_f_int cd_f_int ct_f_int), sl_f_int⟩)
    (c_f_int : PySem.W.codeIn K cd_f_int "is_integer" = true)
    (k_f_int : PySem.W.keepIn K (.ref f_int) = true)
    (g_f_num : PySem.W.nsIn K mainGlobals "is_number" = some (some (.ref f_num)))
    (l_f_num : K.lookup f_num = some ⟨oc_f_num, od_f_num, .func (PySem.W.fnOf "is_number" "is_number" (defArgs sIsNum) (defBody sIsNum) (defScope sIsNum) .none kV_f_num dc_f_num pm_f_num an_f_num cd_f_num ct_f_num), sl_f_num⟩)
    (c_f_num : PySem.W.codeIn K cd_f_num "is_number" = true)
    (k_f_num : PySem.W.keepIn K (.ref f_num) = true)
    (g_f_ww : PySem.W.nsIn K mainGlobals "wrong_word" = some (some (.ref f_ww)))
    (l_f_ww : K.lookup f_ww = some ⟨oc_f_ww, od_f_ww, .func (PySem.W.fnOf "wrong_word" "wrong_word" (defArgs sWrongWord) (defBody sWrongWord) (defScope sWrongWord) .none kV_f_ww dc_f_ww pm_f_ww an_f_ww cd_f_ww ct_f_ww), sl_f_ww⟩)
    (c_f_ww : PySem.W.codeIn K cd_f_ww "wrong_word" = true)
    (k_f_ww : PySem.W.keepIn K (.ref f_ww) = true)
    (g_f_isr : PySem.W.nsIn K mainGlobals "is_rows" = some (some (.ref f_isr)))
    (l_f_isr : K.lookup f_isr = some ⟨oc_f_isr, od_f_isr, .func (PySem.W.fnOf "is_rows" "is_rows" (defArgs sIsRows) (defBody sIsRows) (defScope sIsRows) .none kV_f_isr dc_f_isr pm_f_isr an_f_isr cd_f_isr ct_f_isr), sl_f_isr⟩)
    (c_f_isr : PySem.W.codeIn K cd_f_isr "is_rows" = true)
    (k_f_isr : PySem.W.keepIn K (.ref f_isr) = true)
    (g_f_seed : PySem.W.nsIn K mainGlobals "_law_seed" = some (some (.ref f_seed)))
    (l_f_seed : K.lookup f_seed = some ⟨oc_f_seed, od_f_seed, .func (PySem.W.fnOf "_law_seed" "_law_seed" (defArgs sSeed) (defBody sSeed) (defScope sSeed) .none kV_f_seed dc_f_seed pm_f_seed an_f_seed cd_f_seed ct_f_seed), sl_f_seed⟩)
    (c_f_seed : PySem.W.codeIn K cd_f_seed "_law_seed" = true)
    (k_f_seed : PySem.W.keepIn K (.ref f_seed) = true)
    (g_f_choose : PySem.W.nsIn K mainGlobals "_law_choose" = some (some (.ref f_choose)))
    (l_f_choose : K.lookup f_choose = some ⟨oc_f_choose, od_f_choose, .func (PySem.W.fnOf "_law_choose" "_law_choose" (defArgs sChoose) (defBody sChoose) (defScope sChoose) .none kV_f_choose dc_f_choose pm_f_choose an_f_choose cd_f_choose ct_f_choose), sl_f_choose⟩)
    (c_f_choose : PySem.W.codeIn K cd_f_choose "_law_choose" = true)
    (k_f_choose : PySem.W.keepIn K (.ref f_choose) = true)
    (g_f_one : PySem.W.nsIn K mainGlobals "_law_one_of" = some (some (.ref f_one)))
    (l_f_one : K.lookup f_one = some ⟨oc_f_one, od_f_one, .func (PySem.W.fnOf "_law_one_of" "_law_one_of" (defArgs sOneOf) (defBody sOneOf) (defScope sOneOf) .none kV_f_one dc_f_one pm_f_one an_f_one cd_f_one ct_f_one), sl_f_one⟩)
    (c_f_one : PySem.W.codeIn K cd_f_one "_law_one_of" = true)
    (k_f_one : PySem.W.keepIn K (.ref f_one) = true)
    (g_f_rows : PySem.W.nsIn K mainGlobals "_law_rows" = some (some (.ref f_rows)))
    (l_f_rows : K.lookup f_rows = some ⟨oc_f_rows, od_f_rows, .func (PySem.W.fnOf "_law_rows" "_law_rows" (defArgs sRows) (defBody sRows) (defScope sRows) .none kV_f_rows dc_f_rows pm_f_rows an_f_rows cd_f_rows ct_f_rows), sl_f_rows⟩)
    (c_f_rows : PySem.W.codeIn K cd_f_rows "_law_rows" = true)
    (k_f_rows : PySem.W.keepIn K (.ref f_rows) = true)
    (g_f_ho : PySem.W.nsIn K mainGlobals "_law_house" = some (some (.ref f_ho)))
    (l_f_ho : K.lookup f_ho = some ⟨oc_f_ho, od_f_ho, .func (PySem.W.fnOf "_law_house" "_law_house" (defArgs sHouse) (defBody sHouse) (defScope sHouse) .none kV_f_ho dc_f_ho pm_f_ho an_f_ho cd_f_ho ct_f_ho), sl_f_ho⟩)
    (c_f_ho : PySem.W.codeIn K cd_f_ho "_law_house" = true)
    (k_f_ho : PySem.W.keepIn K (.ref f_ho) = true)
    (g_f_ht : PySem.W.nsIn K mainGlobals "_law_house_text" = some (some (.ref f_ht)))
    (l_f_ht : K.lookup f_ht = some ⟨oc_f_ht, od_f_ht, .func (PySem.W.fnOf "_law_house_text" "_law_house_text" (defArgs sHouseText) (defBody sHouseText) (defScope sHouseText) .none kV_f_ht dc_f_ht pm_f_ht an_f_ht cd_f_ht ct_f_ht), sl_f_ht⟩)
    (c_f_ht : PySem.W.codeIn K cd_f_ht "_law_house_text" = true)
    (k_f_ht : PySem.W.keepIn K (.ref f_ht) = true)
    (g_f_lo : PySem.W.nsIn K mainGlobals "_law_let_of" = some (some (.ref f_lo)))
    (l_f_lo : K.lookup f_lo = some ⟨oc_f_lo, od_f_lo, .func (PySem.W.fnOf "_law_let_of" "_law_let_of" (defArgs sLetOf) (defBody sLetOf) (defScope sLetOf) .none kV_f_lo dc_f_lo pm_f_lo an_f_lo cd_f_lo ct_f_lo), sl_f_lo⟩)
    (c_f_lo : PySem.W.codeIn K cd_f_lo "_law_let_of" = true)
    (k_f_lo : PySem.W.keepIn K (.ref f_lo) = true)
    (g_f_hf : PySem.W.nsIn K mainGlobals "_law_house_of" = some (some (.ref f_hf)))
    (l_f_hf : K.lookup f_hf = some ⟨oc_f_hf, od_f_hf, .func (PySem.W.fnOf "_law_house_of" "_law_house_of" (defArgs sHouseOf) (defBody sHouseOf) (defScope sHouseOf) .none kV_f_hf dc_f_hf pm_f_hf an_f_hf cd_f_hf ct_f_hf), sl_f_hf⟩)
    (c_f_hf : PySem.W.codeIn K cd_f_hf "_law_house_of" = true)
    (k_f_hf : PySem.W.keepIn K (.ref f_hf) = true)
    (g_f_hr : PySem.W.nsIn K mainGlobals "has_row" = some (some (.ref f_hr)))
    (l_f_hr : K.lookup f_hr = some ⟨oc_f_hr, od_f_hr, .func (PySem.W.fnOf "has_row" "has_row" (defArgs sHasRow) (defBody sHasRow) (defScope sHasRow) .none kV_f_hr dc_f_hr pm_f_hr an_f_hr cd_f_hr ct_f_hr), sl_f_hr⟩)
    (c_f_hr : PySem.W.codeIn K cd_f_hr "has_row" = true)
    (k_f_hr : PySem.W.keepIn K (.ref f_hr) = true)
    (g_f_rr : PySem.W.nsIn K mainGlobals "read_row" = some (some (.ref f_rr)))
    (l_f_rr : K.lookup f_rr = some ⟨oc_f_rr, od_f_rr, .func (PySem.W.fnOf "read_row" "read_row" (defArgs sReadRow) (defBody sReadRow) (defScope sReadRow) .none kV_f_rr dc_f_rr pm_f_rr an_f_rr cd_f_rr ct_f_rr), sl_f_rr⟩)
    (c_f_rr : PySem.W.codeIn K cd_f_rr "read_row" = true)
    (k_f_rr : PySem.W.keepIn K (.ref f_rr) = true)
    (g_f_cs : PySem.W.nsIn K mainGlobals "can_stand" = some (some (.ref f_cs)))
    (l_f_cs : K.lookup f_cs = some ⟨oc_f_cs, od_f_cs, .func (PySem.W.fnOf "can_stand" "can_stand" (defArgs sStand) (defBody sStand) (defScope sStand) .none kV_f_cs dc_f_cs pm_f_cs an_f_cs cd_f_cs ct_f_cs), sl_f_cs⟩)
    (c_f_cs : PySem.W.codeIn K cd_f_cs "can_stand" = true)
    (k_f_cs : PySem.W.keepIn K (.ref f_cs) = true)
    (g_f_ir : PySem.W.nsIn K mainGlobals "_law_is_row" = some (some (.ref f_ir)))
    (l_f_ir : K.lookup f_ir = some ⟨oc_f_ir, od_f_ir, .func (PySem.W.fnOf "_law_is_row" "_law_is_row" (defArgs sIsRow) (defBody sIsRow) (defScope sIsRow) .none kV_f_ir dc_f_ir pm_f_ir an_f_ir cd_f_ir ct_f_ir), sl_f_ir⟩)
    (c_f_ir : PySem.W.codeIn K cd_f_ir "_law_is_row" = true)
    (k_f_ir : PySem.W.keepIn K (.ref f_ir) = true)
    (g_f_wl : PySem.W.nsIn K mainGlobals "_law_wrong_line" = some (some (.ref f_wl)))
    (l_f_wl : K.lookup f_wl = some ⟨oc_f_wl, od_f_wl, .func (PySem.W.fnOf "_law_wrong_line" "_law_wrong_line" (defArgs sWrongLine) (defBody sWrongLine) (defScope sWrongLine) .none kV_f_wl dc_f_wl pm_f_wl an_f_wl cd_f_wl ct_f_wl), sl_f_wl⟩)
    (c_f_wl : PySem.W.codeIn K cd_f_wl "_law_wrong_line" = true)
    (k_f_wl : PySem.W.keepIn K (.ref f_wl) = true)
    (g_f_hd : PySem.W.nsIn K mainGlobals "_law_heard" = some (some (.ref f_hd)))
    (l_f_hd : K.lookup f_hd = some ⟨oc_f_hd, od_f_hd, .func (PySem.W.fnOf "_law_heard" "_law_heard" (defArgs sHeard) (defBody sHeard) (defScope sHeard) .none kV_f_hd dc_f_hd pm_f_hd an_f_hd cd_f_hd ct_f_hd), sl_f_hd⟩)
    (c_f_hd : PySem.W.codeIn K cd_f_hd "_law_heard" = true)
    (k_f_hd : PySem.W.keepIn K (.ref f_hd) = true)
    (g_f_bt : PySem.W.nsIn K mainGlobals "_law_bent" = some (some (.ref f_bt)))
    (l_f_bt : K.lookup f_bt = some ⟨oc_f_bt, od_f_bt, .func (PySem.W.fnOf "_law_bent" "_law_bent" (defArgs sBent) (defBody sBent) (defScope sBent) .none kV_f_bt dc_f_bt pm_f_bt an_f_bt cd_f_bt ct_f_bt), sl_f_bt⟩)
    (c_f_bt : PySem.W.codeIn K cd_f_bt "_law_bent" = true)
    (k_f_bt : PySem.W.keepIn K (.ref f_bt) = true)
    (g_f_law : PySem.W.nsIn K mainGlobals "law" = some (some (.ref f_law)))
    (l_f_law : K.lookup f_law = some ⟨oc_f_law, od_f_law, .func (PySem.W.fnOf "law" "law" (defArgs sLaw) (defBody sLaw) (defScope sLaw) .none kV_f_law dc_f_law pm_f_law an_f_law cd_f_law ct_f_law), sl_f_law⟩)
    (c_f_law : PySem.W.codeIn K cd_f_law "law" = true)
    (k_f_law : PySem.W.keepIn K (.ref f_law) = true)
    (g_LC : PySem.W.nsIn K mainGlobals "Let" = some (some (.ref LC)))
    (g_HC : PySem.W.nsIn K mainGlobals "House" = some (some (.ref HC)))
    (gn : PySem.W.specialIn K (.builtin "object.__class__") "__get__" = some (some (.builtin "getset_descriptor.__get__")))
    (tk : PySem.W.takesIn K (.builtin "object.__class__") = some true)
    (pg_LC : PySem.W.plainGet K LC Str.empty = true)
    (hd_LC : PySem.W.hasDictIn K LC = true)
    (po_LC : PySem.W.plainOver K LC = true)
    (sa_LC : PySem.W.findIn K (.ref LC) "__setattr__" = some (some (.builtin "object.__setattr__")))
    (mk_LC : PySem.W.makesIn K LC = true)
    (kc_LC : PySem.W.keepIn K (.ref LC) = true)
    (ca_LC : PySem.W.findIn K (.ref LC) "__class__" = some (some (.builtin "object.__class__")))
    (mo_LC : PySem.W.mroIn K LC (.type "object") = some true)
    (ss_LC : PySem.W.subIn K (.ref LC) (.ref LC) = some true)
    (ic_LC : PySem.W.isClsIn K LC = true)
    (tc_LC : PySem.W.typeIn K (.ref LC) = some (.type "type"))
    (pg_HC : PySem.W.plainGet K HC Str.empty = true)
    (hd_HC : PySem.W.hasDictIn K HC = true)
    (po_HC : PySem.W.plainOver K HC = true)
    (sa_HC : PySem.W.findIn K (.ref HC) "__setattr__" = some (some (.builtin "object.__setattr__")))
    (mk_HC : PySem.W.makesIn K HC = true)
    (kc_HC : PySem.W.keepIn K (.ref HC) = true)
    (ca_HC : PySem.W.findIn K (.ref HC) "__class__" = some (some (.builtin "object.__class__")))
    (mo_HC : PySem.W.mroIn K HC (.type "object") = some true)
    (ss_HC : PySem.W.subIn K (.ref HC) (.ref HC) = some true)
    (ic_HC : PySem.W.isClsIn K HC = true)
    (tc_HC : PySem.W.typeIn K (.ref HC) = some (.type "type"))
    (ne_HC : PySem.W.findIn K (.ref HC) "__ne__" = some (some (.builtin "object.__ne__")))
    (ob_HC : PySem.W.subIn K (.ref HC) (.type "object") = some true)
    (no_LC_kind : PySem.W.findIn K (.ref LC) "kind" = some none)
    (no_LC_state : PySem.W.findIn K (.ref LC) "state" = some none)
    (no_LC_deed : PySem.W.findIn K (.ref LC) "deed" = some none)
    (no_LC_place : PySem.W.findIn K (.ref LC) "place" = some none)
    (no_HC_depth : PySem.W.findIn K (.ref HC) "depth" = some none)
    (no_HC_check : PySem.W.findIn K (.ref HC) "check" = some none)
    (no_HC_rows : PySem.W.findIn K (.ref HC) "rows" = some none)
    (a_f_li : PySem.W.findIn K (.ref LC) "__init__" = some (some (.ref f_li)))
    (i_f_li : PySem.W.isFn K (.ref f_li) = true)
    (l_f_li : K.lookup f_li = some ⟨oc_f_li, od_f_li, .func (PySem.W.fnOf "__init__" "Let.__init__" (defArgs sLInit) (defBody sLInit) (defScope sLInit) .none kV_f_li dc_f_li pm_f_li an_f_li cd_f_li ct_f_li), sl_f_li⟩)
    (c_f_li : PySem.W.codeIn K cd_f_li "Let.__init__" = true)
    (k_f_li : PySem.W.keepIn K (.ref f_li) = true)
    (a_f_ls : PySem.W.findIn K (.ref LC) "__str__" = some (some (.ref f_ls)))
    (i_f_ls : PySem.W.isFn K (.ref f_ls) = true)
    (l_f_ls : K.lookup f_ls = some ⟨oc_f_ls, od_f_ls, .func (PySem.W.fnOf "__str__" "Let.__str__" (defArgs sLStr) (defBody sLStr) (defScope sLStr) .none kV_f_ls dc_f_ls pm_f_ls an_f_ls cd_f_ls ct_f_ls), sl_f_ls⟩)
    (c_f_ls : PySem.W.codeIn K cd_f_ls "Let.__str__" = true)
    (k_f_ls : PySem.W.keepIn K (.ref f_ls) = true)
    (a_f_hi : PySem.W.findIn K (.ref HC) "__init__" = some (some (.ref f_hi)))
    (i_f_hi : PySem.W.isFn K (.ref f_hi) = true)
    (l_f_hi : K.lookup f_hi = some ⟨oc_f_hi, od_f_hi, .func (PySem.W.fnOf "__init__" "House.__init__" (defArgs sHsInit) (defBody sHsInit) (defScope sHsInit) (.ref T_f_hi) kV_f_hi dc_f_hi pm_f_hi an_f_hi cd_f_hi ct_f_hi), sl_f_hi⟩)
    (c_f_hi : PySem.W.codeIn K cd_f_hi "House.__init__" = true)
    (k_f_hi : PySem.W.keepIn K (.ref f_hi) = true)
    (t_f_hi : K.lookup T_f_hi = some ⟨.type "tuple", dd_f_hi, .seq #[.ref e_hi] n_f_hi, ds_f_hi⟩)
    (q_e : K.lookup e_hi = some ⟨.type "tuple", dd_e, .seq #[] n_e, ds_e⟩)
    (a_f_he : PySem.W.findIn K (.ref HC) "__eq__" = some (some (.ref f_he)))
    (i_f_he : PySem.W.isFn K (.ref f_he) = true)
    (l_f_he : K.lookup f_he = some ⟨oc_f_he, od_f_he, .func (PySem.W.fnOf "__eq__" "House.__eq__" (defArgs sHsEq) (defBody sHsEq) (defScope sHsEq) .none kV_f_he dc_f_he pm_f_he an_f_he cd_f_he ct_f_he), sl_f_he⟩)
    (c_f_he : PySem.W.codeIn K cd_f_he "House.__eq__" = true)
    (k_f_he : PySem.W.keepIn K (.ref f_he) = true)
    (a_f_hs : PySem.W.findIn K (.ref HC) "__str__" = some (some (.ref f_hs)))
    (i_f_hs : PySem.W.isFn K (.ref f_hs) = true)
    (l_f_hs : K.lookup f_hs = some ⟨oc_f_hs, od_f_hs, .func (PySem.W.fnOf "__str__" "House.__str__" (defArgs sHsStr) (defBody sHsStr) (defScope sHsStr) .none kV_f_hs dc_f_hs pm_f_hs an_f_hs cd_f_hs ct_f_hs), sl_f_hs⟩)
    (c_f_hs : PySem.W.codeIn K cd_f_hs "House.__str__" = true)
    (k_f_hs : PySem.W.keepIn K (.ref f_hs) = true)
    (a_f_hl : PySem.W.findIn K (.ref HC) "__len__" = some (some (.ref f_hl)))
    (i_f_hl : PySem.W.isFn K (.ref f_hl) = true)
    (l_f_hl : K.lookup f_hl = some ⟨oc_f_hl, od_f_hl, .func (PySem.W.fnOf "__len__" "House.__len__" (defArgs sHsLen) (defBody sHsLen) (defScope sHsLen) .none kV_f_hl dc_f_hl pm_f_hl an_f_hl cd_f_hl ct_f_hl), sl_f_hl⟩)
    (c_f_hl : PySem.W.codeIn K cd_f_hl "House.__len__" = true)
    (k_f_hl : PySem.W.keepIn K (.ref f_hl) = true)
    (a_f_hg : PySem.W.findIn K (.ref HC) "__getitem__" = some (some (.ref f_hg)))
    (i_f_hg : PySem.W.isFn K (.ref f_hg) = true)
    (l_f_hg : K.lookup f_hg = some ⟨oc_f_hg, od_f_hg, .func (PySem.W.fnOf "__getitem__" "House.__getitem__" (defArgs sHsGet) (defBody sHsGet) (defScope sHsGet) .none kV_f_hg dc_f_hg pm_f_hg an_f_hg cd_f_hg ct_f_hg), sl_f_hg⟩)
    (c_f_hg : PySem.W.codeIn K cd_f_hg "House.__getitem__" = true)
    (k_f_hg : PySem.W.keepIn K (.ref f_hg) = true)
    (g_KA : PySem.W.nsIn K mainGlobals "KINDS" = some (some (.ref KA)))
    (q_KA : K.lookup KA = some ⟨.type "tuple", dd_KA, .seq #[.str "first" t0_KA, .str "new" t1_KA, .str "minus" t2_KA, .str "plus" t3_KA] n_KA, ds_KA⟩)
    (g_SA : PySem.W.nsIn K mainGlobals "STATES" = some (some (.ref SA)))
    (q_SA : K.lookup SA = some ⟨.type "tuple", dd_SA, .seq #[.str "open" t0_SA, .str "shut" t1_SA] n_SA, ds_SA⟩)
    (g_DA : PySem.W.nsIn K mainGlobals "DEEDS" = some (some (.ref DA)))
    (q_DA : K.lookup DA = some ⟨.type "tuple", dd_DA, .seq #[.str "whole" t0_DA, .str "part" t1_DA, .str "right" t2_DA] n_DA, ds_DA⟩)
    (g_PA : PySem.W.nsIn K mainGlobals "PLACES" = some (some (.ref PA)))
    (q_PA : K.lookup PA = some ⟨.type "tuple", dd_PA, .seq #[.str "now" t0_PA, .str "there" t1_PA] n_PA, ds_PA⟩)
    (g_KK : PySem.W.nsIn K mainGlobals "CHECKS" = some (some (.ref KK)))
    (q_KK : K.lookup KK = some ⟨.type "tuple", dd_KK, .seq #[.str "left" t0_KK, .str "all" t1_KK] n_KK, ds_KK⟩)
    (g_DL : PySem.W.nsIn K mainGlobals "DEPTH_LINES" = some (some (.ref DL)))
    (q_DL : K.lookup DL = some ⟨.type "tuple", dd_DL, .seq #[.str "depth 0" t0_DL, .str "depth 1" t1_DL, .str "depth 2" t2_DL, .str "depth 3" t3_DL, .str "depth 4" t4_DL] n_DL, ds_DL⟩)
    (g_LA : PySem.W.nsIn K mainGlobals "CHECK_LINES" = some (some (.ref LA)))
    (q_LA : K.lookup LA = some ⟨.type "tuple", dd_LA, .seq #[.str "check left" t0_LA, .str "check all" t1_LA] n_LA, ds_LA⟩)
    (fi_hg : PySem.W.fnIn K f_hg = true)
    (g_CN : PySem.W.nsIn K mainGlobals "NoRow" = some (some (.ref CN)))
    (x_CN : K.lookup CN = some (PySem.excClassObj nm_CN q_CN CN N_CN bs_CN bm_CN true sn_CN sub_CN ab_CN col_CN dd_CN m0_CN m1_CN m2_CN m3_CN m5_CN "IndexError.__new__"))
    (xb_CN : lineI bm_CN = true)
    (xsa_CN : PySem.W.findIn K (.ref CN) "__setattr__" = some (some (.builtin "object.__setattr__")))
    (xga_CN : PySem.W.findIn K (.ref CN) "__getattribute__" = some (some (.builtin "BaseException.__getattribute__")))
    (xgg_CN : PySem.W.findIn K (.ref CN) "__getattr__" = some none)
    (xex_CN : PySem.W.subIn K (.ref CN) (.type "BaseException") = some true)
    (xty_CN : PySem.W.typeIn K (.ref CN) = some (.type "type"))
    (xkc_CN : PySem.W.keepIn K (.ref CN) = true)
    (xhd_CN : PySem.W.hasDictIn K CN = true)
    (xis_CN : PySem.W.isClsIn K CN = true)
    (xca_CN : PySem.W.findIn K (.ref CN) "__class__" = some (some (.builtin "object.__class__")))
    (xgn_CN : PySem.W.specialIn K (.builtin "object.__class__") "__get__" = some (some (.builtin "getset_descriptor.__get__")))
    (xtk_CN : PySem.W.takesIn K (.builtin "object.__class__") = some true)
    (xmo_CN : PySem.W.mroIn K CN (.type "object") = some true)
    (xss_CN : PySem.W.subIn K (.ref CN) (.ref CN) = some true)
    (no_CN_at : PySem.W.findIn K (.ref CN) "at" = some none)
    (a_f_nr : PySem.W.findIn K (.ref CN) "__init__" = some (some (.ref f_nr)))
    (tf_nr : PySem.W.typeIn K (.ref f_nr) = some (.type "function"))
    (l_f_nr : K.lookup f_nr = some ⟨oc_f_nr, od_f_nr, .func (PySem.W.fnOf "__init__" "NoRow.__init__" (defArgs sNrInit) (defBody sNrInit) (defScope sNrInit) .none kV_f_nr dc_f_nr pm_f_nr an_f_nr cd_f_nr ct_f_nr), sl_f_nr⟩)
    (c_f_nr : PySem.W.codeIn K cd_f_nr "NoRow.__init__" = true)
    (k_f_nr : PySem.W.keepIn K (.ref f_nr) = true)
    (te_CN : PySem.W.exmOne K (.ref CN) (.ref CN) = some true)
    (bh_str : PySem.W.subIn K (.ref HC) (.type "str") = some false)
    (hn_str : PySem.W.subIn K (.type "str") (.ref HC) = some false)
    (bh_NoneType : PySem.W.subIn K (.ref HC) (.type "NoneType") = some false)
    (hn_NoneType : PySem.W.subIn K (.type "NoneType") (.ref HC) = some false)
    (bh_tuple : PySem.W.subIn K (.ref HC) (.type "tuple") = some false)
    (hn_tuple : PySem.W.subIn K (.type "tuple") (.ref HC) = some false)
    (bh_list : PySem.W.subIn K (.ref HC) (.type "list") = some false)
    (hn_list : PySem.W.subIn K (.type "list") (.ref HC) = some false)
    (g_CT : PySem.W.nsIn K mainGlobals "InvalidText" = some (some (.ref CT)))
    (x_CT : K.lookup CT = some (PySem.excClassObj nm_CT q_CT CT N_CT bs_CT bm_CT true sn_CT sub_CT ab_CT col_CT dd_CT m0_CT m1_CT m2_CT m3_CT m5_CT "ValueError.__new__"))
    (xb_CT : PySem.HandSPX.refsVE bm_CT = true)
    (xsa_CT : PySem.W.findIn K (.ref CT) "__setattr__" = some (some (.builtin "object.__setattr__")))
    (xga_CT : PySem.W.findIn K (.ref CT) "__getattribute__" = some (some (.builtin "BaseException.__getattribute__")))
    (xgg_CT : PySem.W.findIn K (.ref CT) "__getattr__" = some none)
    (xex_CT : PySem.W.subIn K (.ref CT) (.type "BaseException") = some true)
    (xty_CT : PySem.W.typeIn K (.ref CT) = some (.type "type"))
    (xkc_CT : PySem.W.keepIn K (.ref CT) = true)
    (xhd_CT : PySem.W.hasDictIn K CT = true)
    (xis_CT : PySem.W.isClsIn K CT = true)
    (xca_CT : PySem.W.findIn K (.ref CT) "__class__" = some (some (.builtin "object.__class__")))
    (xgn_CT : PySem.W.specialIn K (.builtin "object.__class__") "__get__" = some (some (.builtin "getset_descriptor.__get__")))
    (xtk_CT : PySem.W.takesIn K (.builtin "object.__class__") = some true)
    (xmo_CT : PySem.W.mroIn K CT (.type "object") = some true)
    (xss_CT : PySem.W.subIn K (.ref CT) (.ref CT) = some true)
    (no_CT_at : PySem.W.findIn K (.ref CT) "at" = some none)
    (a_f_it : PySem.W.findIn K (.ref CT) "__init__" = some (some (.ref f_it)))
    (tf_it : PySem.W.typeIn K (.ref f_it) = some (.type "function"))
    (l_f_it : K.lookup f_it = some ⟨oc_f_it, od_f_it, .func (PySem.W.fnOf "__init__" "InvalidText.__init__" (defArgs sItInit) (defBody sItInit) (defScope sItInit) .none kV_f_it dc_f_it pm_f_it an_f_it cd_f_it ct_f_it), sl_f_it⟩)
    (c_f_it : PySem.W.codeIn K cd_f_it "InvalidText.__init__" = true)
    (k_f_it : PySem.W.keepIn K (.ref f_it) = true)
    (te_CT : PySem.W.exmOne K (.ref CT) (.ref CT) = some true)
    (rd_HC : PySem.W.readsIn K HC (.type "type") = true)
    (rg_HC : PySem.W.specialIn K (.ref HC) "__getattribute__" = some (some (.builtin "type.__getattribute__")))
    (at_rd : PySem.W.findCls K (.ref HC) (.type "type") "read" = some (.get (.builtin "classmethod.__get__") (.ref pr) .none (.ref HC)))
    (rc_rd : PySem.W.recIn K pr "classmethod" = some (.ref f_rd :: rest_rd))
    (fi_rd : PySem.W.fnIn K f_rd = true)
    (l_f_rd : K.lookup f_rd = some ⟨oc_f_rd, od_f_rd, .func (PySem.W.fnOf "read" "House.read" (defArgs sHsRead) (defBody sHsRead) (defScope sHsRead) .none kV_f_rd dc_f_rd pm_f_rd an_f_rd cd_f_rd ct_f_rd), sl_f_rd⟩)
    (c_f_rd : PySem.W.codeIn K cd_f_rd "House.read" = true)
    (k_f_rd : PySem.W.keepIn K (.ref f_rd) = true)
    (dn_LA : dd_LA = none)
    (dn_DL : dd_DL = none)
    (g_CB : PySem.W.nsIn K mainGlobals "BookError" = some (some (.ref CB)))
    (is_CB : PySem.W.isClsIn K CB = true)
    (ty_CB : PySem.W.typeIn K (.ref CB) = some (.type "type"))
    (su_CT_CB : PySem.W.subIn K (.ref CT) (.ref CB) = some true)
    (g_CH : PySem.W.nsIn K mainGlobals "InvalidHouse" = some (some (.ref CH)))
    (is_CH : PySem.W.isClsIn K CH = true)
    (ty_CH : PySem.W.typeIn K (.ref CH) = some (.type "type"))
    (su_CT_CH : PySem.W.subIn K (.ref CT) (.ref CH) = some false)
    (z_len : PySem.W.nsIn K mainGlobals "len" = some none)
    (z_abs : PySem.W.nsIn K mainGlobals "abs" = some none)
    (z_int : PySem.W.nsIn K mainGlobals "int" = some none)
    (z_isinstance : PySem.W.nsIn K mainGlobals "isinstance" = some none)
    (z_bool : PySem.W.nsIn K mainGlobals "bool" = some none)
    (z_range : PySem.W.nsIn K mainGlobals "range" = some none)
    (z_max : PySem.W.nsIn K mainGlobals "max" = some none)
    (z_min : PySem.W.nsIn K mainGlobals "min" = some none)
    (z_str : PySem.W.nsIn K mainGlobals "str" = some none)
    (z_list : PySem.W.nsIn K mainGlobals "list" = some none)
    (z_tuple : PySem.W.nsIn K mainGlobals "tuple" = some none)
    (z_all : PySem.W.nsIn K mainGlobals "all" = some none)
    (z_enumerate : PySem.W.nsIn K mainGlobals "enumerate" = some none)
    : ∃ fd : FuncData, (∀ (s : Shared) (v : Value), BindsTo s fd ⟨[v], []⟩ [("_law_script", v)]) ∧ ∀ base : Heap, K.In base → base.Ns mainGlobals mg → FnOk l.prog w K mg base CX0 9 fa fd ["_law_script"] (spLaw K) := by
  have e := hfa.symm.trans (PySem.W.mg_of X G g_f_law)
  cases e
  have F_f_int := fun_mk (st := sIsInt) l_f_int c_f_int k_f_int
  have b_f_int := F_f_int.binds (ps := ["value"]) fun _ _ _ _ _ _ us hl => match us, hl with | [_], _ => rfl
  have F_f_num := fun_mk (st := sIsNum) l_f_num c_f_num k_f_num
  have b_f_num := F_f_num.binds (ps := ["value"]) fun _ _ _ _ _ _ us hl => match us, hl with | [_], _ => rfl
  have F_f_ww := fun_mk (st := sWrongWord) l_f_ww c_f_ww k_f_ww
  have b_f_ww := F_f_ww.binds (ps := ["kind", "state", "deed", "place"]) fun _ _ _ _ _ _ us hl => match us, hl with | [_, _, _, _], _ => rfl
  have F_f_isr := fun_mk (st := sIsRows) l_f_isr c_f_isr k_f_isr
  have b_f_isr := F_f_isr.binds (ps := ["value"]) fun _ _ _ _ _ _ us hl => match us, hl with | [_], _ => rfl
  have F_f_seed := fun_mk (st := sSeed) l_f_seed c_f_seed k_f_seed
  have b_f_seed := F_f_seed.binds (ps := ["_law_script", "_law_k"]) fun _ _ _ _ _ _ us hl => match us, hl with | [_, _], _ => rfl
  have F_f_choose := fun_mk (st := sChoose) l_f_choose c_f_choose k_f_choose
  have b_f_choose := F_f_choose.binds (ps := ["_law_box", "_law_many"]) fun _ _ _ _ _ _ us hl => match us, hl with | [_, _], _ => rfl
  have F_f_one := fun_mk (st := sOneOf) l_f_one c_f_one k_f_one
  have b_f_one := F_f_one.binds (ps := ["_law_box", "_law_some"]) fun _ _ _ _ _ _ us hl => match us, hl with | [_, _], _ => rfl
  have F_f_rows := fun_mk (st := sRows) l_f_rows c_f_rows k_f_rows
  have b_f_rows := F_f_rows.binds (ps := ["_law_box", "_law_many"]) fun _ _ _ _ _ _ us hl => match us, hl with | [_, _], _ => rfl
  have F_f_ho := fun_mk (st := sHouse) l_f_ho c_f_ho k_f_ho
  have b_f_ho := F_f_ho.binds (ps := ["_law_box", "_law_many"]) fun _ _ _ _ _ _ us hl => match us, hl with | [_, _], _ => rfl
  have F_f_ht := fun_mk (st := sHouseText) l_f_ht c_f_ht k_f_ht
  have b_f_ht := F_f_ht.binds (ps := ["_law_house_here"]) fun _ _ _ _ _ _ us hl => match us, hl with | [_], _ => rfl
  have F_f_lo := fun_mk (st := sLetOf) l_f_lo c_f_lo k_f_lo
  have b_f_lo := F_f_lo.binds (ps := ["_law_row"]) fun _ _ _ _ _ _ us hl => match us, hl with | [_], _ => rfl
  have F_f_hf := fun_mk (st := sHouseOf) l_f_hf c_f_hf k_f_hf
  have b_f_hf := F_f_hf.binds (ps := ["_law_house_here"]) fun _ _ _ _ _ _ us hl => match us, hl with | [_], _ => rfl
  have F_f_hr := fun_mk (st := sHasRow) l_f_hr c_f_hr k_f_hr
  have b_f_hr := F_f_hr.binds (ps := ["house", "at"]) fun _ _ _ _ _ _ us hl => match us, hl with | [_, _], _ => rfl
  have F_f_rr := fun_mk (st := sReadRow) l_f_rr c_f_rr k_f_rr
  have b_f_rr := F_f_rr.binds (ps := ["text"]) fun _ _ _ _ _ _ us hl => match us, hl with | [_], _ => rfl
  have F_f_cs := fun_mk (st := sStand) l_f_cs c_f_cs k_f_cs
  have b_f_cs := F_f_cs.binds (ps := ["line", "at"]) fun _ _ _ _ _ _ us hl => match us, hl with | [_, _], _ => rfl
  have F_f_ir := fun_mk (st := sIsRow) l_f_ir c_f_ir k_f_ir
  have b_f_ir := F_f_ir.binds (ps := ["_law_line"]) fun _ _ _ _ _ _ us hl => match us, hl with | [_], _ => rfl
  have F_f_wl := fun_mk (st := sWrongLine) l_f_wl c_f_wl k_f_wl
  have b_f_wl := F_f_wl.binds (ps := ["_law_text"]) fun _ _ _ _ _ _ us hl => match us, hl with | [_], _ => rfl
  have F_f_hd := fun_mk (st := sHeard) l_f_hd c_f_hd k_f_hd
  have b_f_hd := F_f_hd.binds (ps := ["_law_text"]) fun _ _ _ _ _ _ us hl => match us, hl with | [_], _ => rfl
  have F_f_bt := fun_mk (st := sBent) l_f_bt c_f_bt k_f_bt
  have b_f_bt := F_f_bt.binds (ps := ["_law_box", "_law_text"]) fun _ _ _ _ _ _ us hl => match us, hl with | [_, _], _ => rfl
  have F_f_law := fun_mk (st := sLaw) l_f_law c_f_law k_f_law
  have b_f_law := F_f_law.binds (ps := ["_law_script"]) fun _ _ _ _ _ _ us hl => match us, hl with | [_], _ => rfl
  have cl_LC : Cls K LC := ⟨pg_LC, hd_LC, po_LC, sa_LC⟩
  have cl_HC : Cls K HC := ⟨pg_HC, hd_HC, po_HC, sa_HC⟩
  have F_f_li := fun_mk (st := sLInit) l_f_li c_f_li k_f_li
  have b_f_li := F_f_li.binds (ps := ["self", "kind", "state", "deed", "place"]) fun _ _ _ _ _ _ us hl => match us, hl with | [_, _, _, _, _], _ => rfl
  have F_f_ls := fun_mk (st := sLStr) l_f_ls c_f_ls k_f_ls
  have b_f_ls := F_f_ls.binds (ps := ["self"]) fun _ _ _ _ _ _ us hl => match us, hl with | [_], _ => rfl
  have F_f_hi : FunD K "__init__" "House.__init__" (defArgs sHsInit) (defBody sHsInit) (defScope sHsInit) [.ref e_hi] [] f_hi _ := ⟨⟨_, _, _, _, _, _, _, _, _, _, rfl, l_f_hi, c_f_hi, .inr ⟨by simp, T_f_hi, _, [.ref e_hi], n_f_hi, rfl, t_f_hi, rfl, .cons rfl .nil⟩, .inl rfl⟩, k_f_hi⟩
  obtain ⟨ds_, vds_, b_f_hi⟩ := F_f_hi.binds1 (ps := ["self", "depth", "check", "rows"]) 4 1 (by simp) rfl (fun _ _ _ _ _ _ _ us its hu hi => by
    match us, its, hu, hi with
    | [_, _, _, _], [_], _, _ => exact ⟨_, rfl, rfl⟩)
  cases vds_
  obtain ⟨es_f_hi, ve_f_hi, cb_f_hi⟩ := F_f_hi.binds1 (ps := ["self", "depth", "check", "rows"]) 3 0 (by simp) rfl (fun _ _ _ _ _ _ _ us its hu hi => by
    match us, its, hu, hi with
    | [_, _, _], [_], _, _ => exact ⟨_, rfl, rfl⟩)
  have F_f_he := fun_mk (st := sHsEq) l_f_he c_f_he k_f_he
  have b_f_he := F_f_he.binds (ps := ["self", "other"]) fun _ _ _ _ _ _ us hl => match us, hl with | [_, _], _ => rfl
  have F_f_hs := fun_mk (st := sHsStr) l_f_hs c_f_hs k_f_hs
  have b_f_hs := F_f_hs.binds (ps := ["self"]) fun _ _ _ _ _ _ us hl => match us, hl with | [_], _ => rfl
  have F_f_hl := fun_mk (st := sHsLen) l_f_hl c_f_hl k_f_hl
  have b_f_hl := F_f_hl.binds (ps := ["self"]) fun _ _ _ _ _ _ us hl => match us, hl with | [_], _ => rfl
  have F_f_hg := fun_mk (st := sHsGet) l_f_hg c_f_hg k_f_hg
  have b_f_hg := F_f_hg.binds (ps := ["self", "at"]) fun _ _ _ _ _ _ us hl => match us, hl with | [_, _], _ => rfl
  have ox_CN : OexI K CN := ⟨⟨_, _, _, _, _, _, _, _, _, _, _, _, _, _, _, x_CN, xb_CN⟩, xsa_CN, xex_CN, xty_CN, xkc_CN⟩
  have xc_CN : XClass K CN := ⟨xis_CN, xga_CN, xgg_CN, xex_CN, xca_CN, xgn_CN, xtk_CN, xmo_CN⟩
  have xf_CN : XfC K CN := ⟨xga_CN, xgg_CN, xex_CN, xhd_CN⟩
  have F_f_nr := fun_mk (st := sNrInit) l_f_nr c_f_nr k_f_nr
  have b_f_nr := F_f_nr.binds (ps := ["self", "at"]) fun _ _ _ _ _ _ us hl => match us, hl with | [_, _], _ => rfl
  have ox_CT : OexC K CT := ⟨⟨_, _, _, _, _, _, _, _, _, _, _, _, _, _, _, x_CT, xb_CT⟩, xsa_CT, xex_CT, xty_CT, xkc_CT⟩
  have xc_CT : XClass K CT := ⟨xis_CT, xga_CT, xgg_CT, xex_CT, xca_CT, xgn_CT, xtk_CT, xmo_CT⟩
  have xf_CT : XfC K CT := ⟨xga_CT, xgg_CT, xex_CT, xhd_CT⟩
  have F_f_it := fun_mk (st := sItInit) l_f_it c_f_it k_f_it
  have b_f_it := F_f_it.binds (ps := ["self", "at"]) fun _ _ _ _ _ _ us hl => match us, hl with | [_, _], _ => rfl
  have F_f_rd := fun_mk (st := sHsRead) l_f_rd c_f_rd k_f_rd
  have b_f_rd := F_f_rd.binds (ps := ["cls", "text"]) fun _ _ _ _ _ _ us hl => match us, hl with | [_, _], _ => rfl
  have TA : Blt mg := ⟨PySem.W.mg_none_of X G z_len, PySem.W.mg_none_of X G z_abs, PySem.W.mg_none_of X G z_int⟩
  have TK : BltK mg := ⟨PySem.W.mg_none_of X G z_isinstance, PySem.W.mg_none_of X G z_int, PySem.W.mg_none_of X G z_bool, PySem.W.mg_none_of X G z_list, PySem.W.mg_none_of X G z_tuple, PySem.W.mg_none_of X G z_all, PySem.W.mg_none_of X G z_len, PySem.W.mg_none_of X G z_str⟩
  have TG : BltG mg := ⟨PySem.W.mg_none_of X G z_range, PySem.W.mg_none_of X G z_str⟩
  have RT : RowH K mg KA SA DA PA := ⟨PySem.W.mg_of X G g_KA, PySem.W.mg_of X G g_SA, PySem.W.mg_of X G g_DA, PySem.W.mg_of X G g_PA, fun _ => .inr ⟨_, _, _, q_KA, rfl, rfl, by show 4 ≤ sizeLine; decide, (.cons ⟨_, rfl⟩ (.cons ⟨_, rfl⟩ (.cons ⟨_, rfl⟩ (.cons ⟨_, rfl⟩ .nil))))⟩, fun _ => .inr ⟨_, _, _, q_SA, rfl, rfl, by show 2 ≤ sizeLine; decide, (.cons ⟨_, rfl⟩ (.cons ⟨_, rfl⟩ .nil))⟩, fun _ => .inr ⟨_, _, _, q_DA, rfl, rfl, by show 3 ≤ sizeLine; decide, (.cons ⟨_, rfl⟩ (.cons ⟨_, rfl⟩ (.cons ⟨_, rfl⟩ .nil)))⟩, fun _ => .inr ⟨_, _, _, q_PA, rfl, rfl, by show 2 ≤ sizeLine; decide, (.cons ⟨_, rfl⟩ (.cons ⟨_, rfl⟩ .nil))⟩⟩
  have XT : HsT K mg KK DL := ⟨PySem.W.mg_of X G g_KK, PySem.W.mg_of X G g_DL, fun _ => .inr ⟨_, _, _, q_KK, rfl, rfl, by show 2 ≤ sizeLine; decide, (.cons ⟨_, rfl⟩ (.cons ⟨_, rfl⟩ .nil))⟩, fun _ => .inr ⟨_, _, _, q_DL, rfl, rfl, by show 5 ≤ sizeLine; decide, (.cons ⟨_, rfl⟩ (.cons ⟨_, rfl⟩ (.cons ⟨_, rfl⟩ (.cons ⟨_, rfl⟩ (.cons ⟨_, rfl⟩ .nil)))))⟩⟩
  have FL : LetC K ⟨LC, LC⟩ := ⟨cl_LC, no_LC_kind, no_LC_state, no_LC_deed, no_LC_place⟩
  have LI : LetI K ⟨LC, LC⟩ := ⟨cl_LC, ca_LC, mo_LC, gn, tk, kit_ref ic_LC tc_LC ss_LC ss_LC⟩
  have FH : HsC K HC := ⟨cl_HC, no_HC_depth, no_HC_check, no_HC_rows⟩
  have HI : HsI K HC := ⟨cl_HC, ca_HC, mo_HC, gn, tk, kit_ref ic_HC tc_HC ss_HC ss_HC⟩
  have TE0 : (∃ o, K.lookup e_hi = some o ∧ o.cls = .type "tuple") ∧ ∀ H, SqT K H e_hi [] := ⟨⟨_, q_e, rfl⟩, fun _ => .inr ⟨_, _, _, q_e, rfl, rfl, by show 0 ≤ sizeLine; decide, .nil⟩⟩
  have TW : BltW mg := ⟨PySem.W.mg_none_of X G z_len, PySem.W.mg_none_of X G z_range, PySem.W.mg_none_of X G z_max, PySem.W.mg_none_of X G z_min, PySem.W.mg_none_of X G z_str, PySem.W.mg_none_of X G z_int, PySem.W.mg_none_of X G z_enumerate, PySem.W.mg_none_of X G z_isinstance⟩
  have HN : HsNot K HC := ⟨kit_base ic_HC tc_HC hn_str, kit_base ic_HC tc_HC hn_NoneType, kit_base ic_HC tc_HC hn_tuple, kit_base ic_HC tc_HC hn_list⟩
  have IE : ItE K mg CT CB CH := ⟨xc_CT, xf_CT, no_CT_at, te_CT, PySem.W.mg_of X G g_CT, PySem.W.mg_of X G g_CB, PySem.W.mg_of X G g_CH, PySem.W.mg_none_of X G z_isinstance, PySem.W.mg_none_of X G z_str, kit_ref is_CB ty_CB su_CT_CB xss_CT, kit_ref is_CH ty_CH su_CT_CH xss_CT⟩
  have LX : HsL K mg DL LA := ⟨PySem.W.mg_of X G g_LA, ⟨_, q_DL, rfl, dn_DL⟩, ⟨_, q_LA, rfl, dn_LA⟩, fun _ => .inr ⟨_, _, _, q_LA, rfl, rfl, by show 2 ≤ sizeLine; decide, (.cons ⟨_, rfl⟩ (.cons ⟨_, rfl⟩ .nil))⟩⟩
  refine ⟨PySem.W.fnOf "law" "law" (defArgs sLaw) (defBody sLaw) (defScope sLaw) .none kV_f_law dc_f_law pm_f_law an_f_law cd_f_law ct_f_law, fun s v => .of_eq rfl, fun base _ _ => ?_⟩
  have q_f_int : Cal l.prog w K mg base CX0 "is_integer" 1 ["value"] spIntI := ⟨f_int, _, ok_intK F_f_int TK, PySem.W.mg_of X G g_f_int, k_f_int, b_f_int⟩
  have q_f_num : Cal l.prog w K mg base CX0 "is_number" 2 ["value"] spNumI := ⟨f_num, _, ok_numK F_f_num q_f_int, PySem.W.mg_of X G g_f_num, k_f_num, b_f_num⟩
  have q_f_ww : Cal l.prog w K mg base CX0 "wrong_word" 1 ["kind", "state", "deed", "place"] spWord := ⟨f_ww, _, ok_word F_f_ww RT, PySem.W.mg_of X G g_f_ww, k_f_ww, b_f_ww⟩
  have q_f_isr : Cal l.prog w K mg base CX0 "is_rows" 1 ["value"] (spIsRows ⟨LC, LC⟩) := ⟨f_isr, _, ok_isRows F_f_isr TK LI (PySem.W.mg_of X G g_LC), PySem.W.mg_of X G g_f_isr, k_f_isr, b_f_isr⟩
  have qT_f_isr : Cal l.prog w K mg base CX0 "is_rows" 1 ["value"] (spIsRowsT K ⟨LC, LC⟩) := ⟨f_isr, _, ok_isRowsT F_f_isr TK LI (PySem.W.mg_of X G g_LC), PySem.W.mg_of X G g_f_isr, k_f_isr, b_f_isr⟩
  have q_f_choose : Cal l.prog w K mg base CX0 "_law_choose" 1 ["_law_box", "_law_many"] spChoose := ⟨f_choose, _, ok_choose F_f_choose TA, PySem.W.mg_of X G g_f_choose, k_f_choose, b_f_choose⟩
  have q_f_seed : Cal l.prog w K mg base CX0 "_law_seed" 1 ["_law_script", "_law_k"] (spSeed K) := ⟨f_seed, _, ok_seed F_f_seed TA, PySem.W.mg_of X G g_f_seed, k_f_seed, b_f_seed⟩
  have q_f_one : Cal l.prog w K mg base CX0 "_law_one_of" 2 ["_law_box", "_law_some"] (spOneOf K) := ⟨f_one, _, ok_oneOf F_f_one TA q_f_choose, PySem.W.mg_of X G g_f_one, k_f_one, b_f_one⟩
  have ML : MkR l.prog w K mg base "Let" ["self", "kind", "state", "deed", "place"] LC 3 (spLInit ⟨LC, LC⟩) := ⟨PySem.W.mg_of X G g_LC, f_li, _, (ok_lInit F_f_li FL q_f_ww).mono (by decide), ⟨mk_LC, a_f_li, i_f_li, kc_LC⟩, b_f_li⟩
  have MH : MkH l.prog w K mg base ⟨LC, LC⟩ HC := ⟨PySem.W.mg_of X G g_HC, f_hi, _, ok_hsInit F_f_hi TK XT FH q_f_num q_f_isr, ⟨mk_HC, a_f_hi, i_f_hi, kc_HC⟩, b_f_hi⟩
  have SL : StrH l.prog w K mg base ⟨LC, LC⟩ := ⟨⟨f_ls, _, ok_lStr F_f_ls FL, a_f_ls, i_f_ls, b_f_ls⟩⟩
  have SK : HsStr l.prog w K mg base ⟨LC, LC⟩ HC := ⟨⟨f_hs, _, ok_hsStr F_f_hs TK SL FH, a_f_hs, i_f_hs, b_f_hs⟩⟩
  have q_f_rows : Cal l.prog w K mg base CX0 "_law_rows" 3 ["_law_box", "_law_many"] spRows := ⟨f_rows, _, ok_rows F_f_rows TG q_f_one, PySem.W.mg_of X G g_f_rows, k_f_rows, b_f_rows⟩
  have q_f_ho : Cal l.prog w K mg base CX0 "_law_house" 4 ["_law_box", "_law_many"] spHouse := ⟨f_ho, _, ok_house F_f_ho (PySem.W.mg_none_of X G z_tuple) q_f_one q_f_choose q_f_rows, PySem.W.mg_of X G g_f_ho, k_f_ho, b_f_ho⟩
  have q_f_ht : Cal l.prog w K mg base CX0 "_law_house_text" 1 ["_law_house_here"] spHouseText := ⟨f_ht, _, ok_houseText F_f_ht (PySem.W.mg_none_of X G z_str), PySem.W.mg_of X G g_f_ht, k_f_ht, b_f_ht⟩
  have q_f_lo : Cal l.prog w K mg base CX0 "_law_let_of" 5 ["_law_row"] (spLetOf ⟨LC, LC⟩) := ⟨f_lo, _, ok_letOf F_f_lo ML, PySem.W.mg_of X G g_f_lo, k_f_lo, b_f_lo⟩
  have q_f_hf : Cal l.prog w K mg base CX0 "_law_house_of" 6 ["_law_house_here"] (spHouseOf K ⟨LC, LC⟩ HC) := ⟨f_hf, _, ok_houseOf F_f_hf MH q_f_lo, PySem.W.mg_of X G g_f_hf, k_f_hf, b_f_hf⟩
  have q_f_hr : Cal l.prog w K mg base CX0 "has_row" 1 ["house", "at"] (spHasRow K ⟨LC, LC⟩ HC) := ⟨f_hr, _, ok_hasRow F_f_hr TK FH, PySem.W.mg_of X G g_f_hr, k_f_hr, b_f_hr⟩
  have NR : NrTxt l.prog w K mg base CN := ⟨PySem.W.mg_of X G g_CN, ox_CN, no_CN_at, f_nr, _, ok_nrInit F_f_nr ox_CN no_CN_at, a_f_nr, tf_nr, b_f_nr⟩
  have GC : GetCls K HC f_hg := ⟨a_f_hg, i_f_hg, fi_hg⟩
  have EN : HsOps l.prog w K mg base ⟨LC, LC⟩ HC CN := {
    g := PySem.W.mg_of X G g_HC
    hc := FH
    mkX := ⟨f_hi, _, ok_hsInitX F_f_hi TK XT FH q_f_num q_f_isr, ⟨mk_HC, a_f_hi, i_f_hi, kc_HC⟩, b_f_hi⟩
    mkT := ⟨f_hi, _, ok_hsInitT F_f_hi TK XT FH q_f_num qT_f_isr, ⟨mk_HC, a_f_hi, i_f_hi, kc_HC⟩, b_f_hi⟩
    mk0 := ⟨f_hi, _, e_hi, es_f_hi, ok_hsInitT F_f_hi TK XT FH q_f_num qT_f_isr, ⟨mk_HC, a_f_hi, i_f_hi, kc_HC⟩, ve_f_hi, cb_f_hi, TE0⟩
    sk := SK
    len := ⟨f_hl, _, ok_hsLen F_f_hl TK FH, a_f_hl, i_f_hl, b_f_hl⟩
    eq := ⟨f_he, _, ok_hsEq F_f_he TK SK HI (PySem.W.mg_of X G g_HC), ⟨a_f_he, i_f_he, ne_HC, ob_HC⟩, b_f_he⟩
    ne := ⟨f_he, _, ok_hsNe F_f_he TK SK HN (PySem.W.mg_of X G g_HC), ⟨a_f_he, i_f_he, ne_HC, ob_HC⟩, b_f_he⟩
    get := ⟨f_hg, _, ok_hsGetX F_f_hg FH NR q_f_hr, GC, b_f_hg⟩
    nf := nf_same
    bh := ⟨⟨bh_str, bh_NoneType, bh_tuple⟩, bh_list⟩ }
  have IT : ItTxt l.prog w K mg base CT := ⟨PySem.W.mg_of X G g_CT, ox_CT, no_CT_at, f_it, _, ok_itInit F_f_it ox_CT no_CT_at, a_f_it, tf_it, b_f_it⟩
  have qA_f_ww : Cal l.prog w K mg base CX0 "wrong_word" 1 ["kind", "state", "deed", "place"] spWordA := ⟨f_ww, _, ok_wordA F_f_ww RT, PySem.W.mg_of X G g_f_ww, k_f_ww, b_f_ww⟩
  have q_f_rr : Cal l.prog w K mg base CX0 "read_row" 5 ["text"] (spReadRow ⟨LC, LC⟩) := ⟨f_rr, _, ok_readRow F_f_rr (PySem.W.mg_none_of X G z_len) qA_f_ww ML, PySem.W.mg_of X G g_f_rr, k_f_rr, b_f_rr⟩
  have q_f_cs : Cal l.prog w K mg base CX0 "can_stand" 6 ["line", "at"] spStand := ⟨f_cs, _, ok_stand F_f_cs XT LX q_f_rr, PySem.W.mg_of X G g_f_cs, k_f_cs, b_f_cs⟩
  have RD : HsRd l.prog w K mg base ⟨LC, LC⟩ HC CT := ⟨PySem.W.mg_of X G g_HC, .type "type", pr, f_rd, _, ⟨rd_HC, rg_HC⟩, ⟨at_rd, ⟨rest_rd, rc_rd⟩, fi_rd⟩, ok_hsRead F_f_rd TK (PySem.W.mg_none_of X G z_enumerate) XT LX MH IT q_f_cs q_f_rr, b_f_rd⟩
  have q_f_ir : Cal l.prog w K mg base CX0 "_law_is_row" 1 ["_law_line"] spIsRow := ⟨f_ir, _, ok_isRow F_f_ir TW, PySem.W.mg_of X G g_f_ir, k_f_ir, b_f_ir⟩
  have q_f_wl : Cal l.prog w K mg base CX0 "_law_wrong_line" 2 ["_law_text"] spWrongLine := ⟨f_wl, _, ok_wrongLine F_f_wl TW q_f_ir, PySem.W.mg_of X G g_f_wl, k_f_wl, b_f_wl⟩
  have q_f_hd : Cal l.prog w K mg base CX0 "_law_heard" 8 ["_law_text"] spHeard := ⟨f_hd, _, ok_heard F_f_hd IE RD SK, PySem.W.mg_of X G g_f_hd, k_f_hd, b_f_hd⟩
  have q_f_bt : Cal l.prog w K mg base CX0 "_law_bent" 3 ["_law_box", "_law_text"] spBent := ⟨f_bt, _, ok_bent F_f_bt TW q_f_choose q_f_one, PySem.W.mg_of X G g_f_bt, k_f_bt, b_f_bt⟩
  exact ok_law F_f_law TW EN RD q_f_seed q_f_choose q_f_ho q_f_ht q_f_hf q_f_bt q_f_wl q_f_hd
theorem walk {l : PySem.W.OpenLaw} {q : Program} {loose : List Str} {XP : (Str → Option Value) → Heap → Prop} {YP : World → Heap → Prop} {d : DefRec} {K : Params → PySem.W.Frag} (hn : l.most = some 63) (hdf : d.params.defaults = [])
    (hY : ∀ (w : World) (h : Heap), YP w h → (K w.params).In h)
    (F : ∀ (w : World) (mg : Str → Option Value) (fa : Addr) (h : Heap), (K w.params).In h → h.Ns mainGlobals mg → mg d.name = some (.ref fa) →
      ∃ fd : FuncData, (∀ (s : Shared) (u : Value), BindsTo s fd ⟨[u], []⟩ [("_law_script", u)]) ∧ ∀ base : Heap, (K w.params).In base → base.Ns mainGlobals mg → FnOk l.prog w (K w.params) mg base CX0 9 fa fd ["_law_script"] (spLaw (K w.params))) :
    PySem.W.WalkO q loose XP YP l.row.toRowW d [] (fun f vs => PySem.call f vs) :=
  L2.walk_of (n := 63) (k := 9) (x := "_law_script") (CX := fun _ => CX0) (sp := fun w => spLaw (K w.params)) hn (by decide) hdf ⟨rfl, by decide, by decide⟩ hY F (fun _ _ a ns hl _ hS => ⟨a, ns, rfl, hS, hl, fun _ => rfl⟩) fun _ _ _ _ _ z => z
end V3

open PySem PySem.W PyProof.Rows in
set_option maxRecDepth 100000 in
set_option maxHeartbeats 0 in
theorem PySem.Challenge.cw_contrabooks_k16_texts_of_houses_holds : PySem.Challenge.rw_contrabooks_k16_texts_of_houses.Holds := by
  w_on; o_law; k_head; (case hw => w_witness2)
  k_fill
  refine V3.walk (l := PySem.Challenge.rw_contrabooks_k16_texts_of_houses) rfl rfl (fun w h Y => PySem.W.kIn_of Y) ?F
  case F =>
    intro w mg fa h KX G hmg
    refine' V3.all_mk KX G hmg ?g_f_int ?l_f_int ?c_f_int ?k_f_int ?g_f_num ?l_f_num ?c_f_num ?k_f_num ?g_f_ww ?l_f_ww ?c_f_ww ?k_f_ww ?g_f_isr ?l_f_isr ?c_f_isr ?k_f_isr ?g_f_seed ?l_f_seed ?c_f_seed ?k_f_seed ?g_f_choose ?l_f_choose ?c_f_choose ?k_f_choose ?g_f_one ?l_f_one ?c_f_one ?k_f_one ?g_f_rows ?l_f_rows ?c_f_rows ?k_f_rows ?g_f_ho ?l_f_ho ?c_f_ho ?k_f_ho ?g_f_ht ?l_f_ht ?c_f_ht ?k_f_ht ?g_f_lo ?l_f_lo ?c_f_lo ?k_f_lo ?g_f_hf ?l_f_hf ?c_f_hf ?k_f_hf ?g_f_hr ?l_f_hr ?c_f_hr ?k_f_hr ?g_f_rr ?l_f_rr ?c_f_rr ?k_f_rr ?g_f_cs ?l_f_cs ?c_f_cs ?k_f_cs ?g_f_ir ?l_f_ir ?c_f_ir ?k_f_ir ?g_f_wl ?l_f_wl ?c_f_wl ?k_f_wl ?g_f_hd ?l_f_hd ?c_f_hd ?k_f_hd ?g_f_bt ?l_f_bt ?c_f_bt ?k_f_bt ?g_f_law ?l_f_law ?c_f_law ?k_f_law ?g_LC ?g_HC ?gn ?tk ?pg_LC ?hd_LC ?po_LC ?sa_LC ?mk_LC ?kc_LC ?ca_LC ?mo_LC ?ss_LC ?ic_LC ?tc_LC ?pg_HC ?hd_HC ?po_HC ?sa_HC ?mk_HC ?kc_HC ?ca_HC ?mo_HC ?ss_HC ?ic_HC ?tc_HC ?ne_HC ?ob_HC ?no_LC_kind ?no_LC_state ?no_LC_deed ?no_LC_place ?no_HC_depth ?no_HC_check ?no_HC_rows ?a_f_li ?i_f_li ?l_f_li ?c_f_li ?k_f_li ?a_f_ls ?i_f_ls ?l_f_ls ?c_f_ls ?k_f_ls ?a_f_hi ?i_f_hi ?l_f_hi ?c_f_hi ?k_f_hi ?t_f_hi ?q_e ?a_f_he ?i_f_he ?l_f_he ?c_f_he ?k_f_he ?a_f_hs ?i_f_hs ?l_f_hs ?c_f_hs ?k_f_hs ?a_f_hl ?i_f_hl ?l_f_hl ?c_f_hl ?k_f_hl ?a_f_hg ?i_f_hg ?l_f_hg ?c_f_hg ?k_f_hg ?g_KA ?q_KA ?g_SA ?q_SA ?g_DA ?q_DA ?g_PA ?q_PA ?g_KK ?q_KK ?g_DL ?q_DL ?g_LA ?q_LA ?fi_hg ?g_CN ?x_CN ?xb_CN ?xsa_CN ?xga_CN ?xgg_CN ?xex_CN ?xty_CN ?xkc_CN ?xhd_CN ?xis_CN ?xca_CN ?xgn_CN ?xtk_CN ?xmo_CN ?xss_CN ?no_CN_at ?a_f_nr ?tf_nr ?l_f_nr ?c_f_nr ?k_f_nr ?te_CN ?bh_str ?hn_str ?bh_NoneType ?hn_NoneType ?bh_tuple ?hn_tuple ?bh_list ?hn_list ?g_CT ?x_CT ?xb_CT ?xsa_CT ?xga_CT ?xgg_CT ?xex_CT ?xty_CT ?xkc_CT ?xhd_CT ?xis_CT ?xca_CT ?xgn_CT ?xtk_CT ?xmo_CT ?xss_CT ?no_CT_at ?a_f_it ?tf_it ?l_f_it ?c_f_it ?k_f_it ?te_CT ?rd_HC ?rg_HC ?at_rd ?rc_rd ?fi_rd ?l_f_rd ?c_f_rd ?k_f_rd ?dn_LA ?dn_DL ?g_CB ?is_CB ?ty_CB ?su_CT_CB ?g_CH ?is_CH ?ty_CH ?su_CT_CH ?z_len ?z_abs ?z_int ?z_isinstance ?z_bool ?z_range ?z_max ?z_min ?z_str ?z_list ?z_tuple ?z_all ?z_enumerate
    (case g_f_int => k_is)
    (case l_f_int => k_is)
    (case c_f_int => k_is)
    (case k_f_int => k_is)
    (case g_f_num => k_is)
    (case l_f_num => k_is)
    (case c_f_num => k_is)
    (case k_f_num => k_is)
    (case g_f_ww => k_is)
    (case l_f_ww => k_is)
    (case c_f_ww => k_is)
    (case k_f_ww => k_is)
    (case g_f_isr => k_is)
    (case l_f_isr => k_is)
    (case c_f_isr => k_is)
    (case k_f_isr => k_is)
    (case g_f_seed => k_is)
    (case l_f_seed => k_is)
    (case c_f_seed => k_is)
    (case k_f_seed => k_is)
    (case g_f_choose => k_is)
    (case l_f_choose => k_is)
    (case c_f_choose => k_is)
    (case k_f_choose => k_is)
    (case g_f_one => k_is)
    (case l_f_one => k_is)
    (case c_f_one => k_is)
    (case k_f_one => k_is)
    (case g_f_rows => k_is)
    (case l_f_rows => k_is)
    (case c_f_rows => k_is)
    (case k_f_rows => k_is)
    (case g_f_ho => k_is)
    (case l_f_ho => k_is)
    (case c_f_ho => k_is)
    (case k_f_ho => k_is)
    (case g_f_ht => k_is)
    (case l_f_ht => k_is)
    (case c_f_ht => k_is)
    (case k_f_ht => k_is)
    (case g_f_lo => k_is)
    (case l_f_lo => k_is)
    (case c_f_lo => k_is)
    (case k_f_lo => k_is)
    (case g_f_hf => k_is)
    (case l_f_hf => k_is)
    (case c_f_hf => k_is)
    (case k_f_hf => k_is)
    (case g_f_hr => k_is)
    (case l_f_hr => k_is)
    (case c_f_hr => k_is)
    (case k_f_hr => k_is)
    (case g_f_rr => k_is)
    (case l_f_rr => k_is)
    (case c_f_rr => k_is)
    (case k_f_rr => k_is)
    (case g_f_cs => k_is)
    (case l_f_cs => k_is)
    (case c_f_cs => k_is)
    (case k_f_cs => k_is)
    (case g_f_ir => k_is)
    (case l_f_ir => k_is)
    (case c_f_ir => k_is)
    (case k_f_ir => k_is)
    (case g_f_wl => k_is)
    (case l_f_wl => k_is)
    (case c_f_wl => k_is)
    (case k_f_wl => k_is)
    (case g_f_hd => k_is)
    (case l_f_hd => k_is)
    (case c_f_hd => k_is)
    (case k_f_hd => k_is)
    (case g_f_bt => k_is)
    (case l_f_bt => k_is)
    (case c_f_bt => k_is)
    (case k_f_bt => k_is)
    (case g_f_law => k_is)
    (case l_f_law => k_is)
    (case c_f_law => k_is)
    (case k_f_law => k_is)
    (case g_LC => k_is)
    (case g_HC => k_is)
    (case gn => k_is)
    (case tk => k_is)
    (case pg_LC => k_is)
    (case hd_LC => k_is)
    (case po_LC => k_is)
    (case sa_LC => k_is)
    (case mk_LC => k_is)
    (case kc_LC => k_is)
    (case ca_LC => k_is)
    (case mo_LC => k_is)
    (case ss_LC => first | rfl | k_is)
    (case ic_LC => k_is)
    (case tc_LC => k_is)
    (case pg_HC => k_is)
    (case hd_HC => k_is)
    (case po_HC => k_is)
    (case sa_HC => k_is)
    (case mk_HC => k_is)
    (case kc_HC => k_is)
    (case ca_HC => k_is)
    (case mo_HC => k_is)
    (case ss_HC => first | rfl | k_is)
    (case ic_HC => k_is)
    (case tc_HC => k_is)
    (case ne_HC => k_is)
    (case ob_HC => k_is)
    (case no_LC_kind => k_is)
    (case no_LC_state => k_is)
    (case no_LC_deed => k_is)
    (case no_LC_place => k_is)
    (case no_HC_depth => k_is)
    (case no_HC_check => k_is)
    (case no_HC_rows => k_is)
    (case a_f_li => k_is)
    (case i_f_li => k_is)
    (case l_f_li => k_is)
    (case c_f_li => k_is)
    (case k_f_li => k_is)
    (case a_f_ls => k_is)
    (case i_f_ls => k_is)
    (case l_f_ls => k_is)
    (case c_f_ls => k_is)
    (case k_f_ls => k_is)
    (case a_f_hi => k_is)
    (case i_f_hi => k_is)
    (case l_f_hi => k_is)
    (case c_f_hi => k_is)
    (case k_f_hi => k_is)
    (case t_f_hi => k_is)
    (case q_e => k_is)
    (case a_f_he => k_is)
    (case i_f_he => k_is)
    (case l_f_he => k_is)
    (case c_f_he => k_is)
    (case k_f_he => k_is)
    (case a_f_hs => k_is)
    (case i_f_hs => k_is)
    (case l_f_hs => k_is)
    (case c_f_hs => k_is)
    (case k_f_hs => k_is)
    (case a_f_hl => k_is)
    (case i_f_hl => k_is)
    (case l_f_hl => k_is)
    (case c_f_hl => k_is)
    (case k_f_hl => k_is)
    (case a_f_hg => k_is)
    (case i_f_hg => k_is)
    (case l_f_hg => k_is)
    (case c_f_hg => k_is)
    (case k_f_hg => k_is)
    (case g_KA => k_is)
    (case q_KA => k_is)
    (case g_SA => k_is)
    (case q_SA => k_is)
    (case g_DA => k_is)
    (case q_DA => k_is)
    (case g_PA => k_is)
    (case q_PA => k_is)
    (case g_KK => k_is)
    (case q_KK => k_is)
    (case g_DL => k_is)
    (case q_DL => k_is)
    (case g_LA => k_is)
    (case q_LA => k_is)
    (case fi_hg => first | k_is | rfl)
    (case g_CN => k_is)
    (case x_CN => k_is)
    (case xb_CN => decide +kernel)
    (case xsa_CN => k_is)
    (case xga_CN => k_is)
    (case xgg_CN => k_is)
    (case xex_CN => k_is)
    (case xty_CN => k_is)
    (case xkc_CN => k_is)
    (case xhd_CN => k_is)
    (case xis_CN => k_is)
    (case xca_CN => k_is)
    (case xgn_CN => k_is)
    (case xtk_CN => k_is)
    (case xmo_CN => k_is)
    (case xss_CN => first | rfl | k_is)
    (case no_CN_at => k_is)
    (case a_f_nr => k_is)
    (case tf_nr => k_is)
    (case l_f_nr => k_is)
    (case c_f_nr => k_is)
    (case k_f_nr => k_is)
    (case te_CN => first | k_is | rfl)
    (case bh_str => k_is)
    (case hn_str => k_is)
    (case bh_NoneType => k_is)
    (case hn_NoneType => k_is)
    (case bh_tuple => k_is)
    (case hn_tuple => k_is)
    (case bh_list => k_is)
    (case hn_list => k_is)
    (case g_CT => k_is)
    (case x_CT => k_is)
    (case xb_CT => decide +kernel)
    (case xsa_CT => k_is)
    (case xga_CT => k_is)
    (case xgg_CT => k_is)
    (case xex_CT => k_is)
    (case xty_CT => k_is)
    (case xkc_CT => k_is)
    (case xhd_CT => k_is)
    (case xis_CT => k_is)
    (case xca_CT => k_is)
    (case xgn_CT => k_is)
    (case xtk_CT => k_is)
    (case xmo_CT => k_is)
    (case xss_CT => first | rfl | k_is)
    (case no_CT_at => k_is)
    (case a_f_it => k_is)
    (case tf_it => k_is)
    (case l_f_it => k_is)
    (case c_f_it => k_is)
    (case k_f_it => k_is)
    (case te_CT => first | k_is | rfl)
    (case rd_HC => k_is)
    (case rg_HC => k_is)
    (case at_rd => first | k_is | rfl)
    (case rc_rd => first | k_is | rfl)
    (case fi_rd => first | k_is | rfl)
    (case l_f_rd => k_is)
    (case c_f_rd => k_is)
    (case k_f_rd => k_is)
    (case dn_LA => rfl)
    (case dn_DL => rfl)
    (case g_CB => k_is)
    (case is_CB => k_is)
    (case ty_CB => k_is)
    (case su_CT_CB => k_is)
    (case g_CH => k_is)
    (case is_CH => k_is)
    (case ty_CH => k_is)
    (case su_CT_CH => k_is)
    (case z_len => k_is)
    (case z_abs => k_is)
    (case z_int => k_is)
    (case z_isinstance => k_is)
    (case z_bool => k_is)
    (case z_range => k_is)
    (case z_max => k_is)
    (case z_min => k_is)
    (case z_str => k_is)
    (case z_list => k_is)
    (case z_tuple => k_is)
    (case z_all => k_is)
    (case z_enumerate => k_is)
#print axioms PySem.Challenge.cw_contrabooks_k16_texts_of_houses_holds
