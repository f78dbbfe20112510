import PyProof.Rows.All
import Wide.All
import OpenK.AllK
import Wide.FinOn
import HandS.ForExc
import HandS.Comp
import HandS.Dict
import HandS.Iter
import HandS.Text
import HandS.Wide
import HandS.FStr
import HandS.IsInst
import HandS.ExcInit
import HandS.ExcField
import HandS.OwnEq
import KE.KCallOwn
import KE.KExcIs
import PyProof.NeKinds
import HandS.RaiseMore
import HandS.Star
import HandS.ClsMeth
import HandS.StrMore
import PyProof.InstEq
import PyProof.Rows.NestShow
import HandS.Ends
import HandS.ExcIs
import HandS.Zip
import HandS.Walk
import HandS.Defaults
import KE.GoesEnum
import HandS.Conv
import HandS.Style
import PySem.Challenge.RW_contrabooks_k14_rows_left_out
set_option Elab.async false
set_option linter.all false
set_option maxRecDepth 100000
/-! Rules of our own over the hand layer: an object made whose making may raise, within a try; str(o) by its own def; isinstance of a caught error with fields. -/
namespace V3
open PySem L2 PyProof.Rows
section
variable {X : Cx} {CX : CXT} {k : Nat} {f C : Addr} {fd : FuncData} {ps : List Str} {sp : Sp} {E : L2.St → XK} {x : Str} {p pos : Pos} {e : Expr} {es : List Expr} {t : TA} {dvs : List V} {ds : List Value}
theorem make_at {pins : List (Addr × Obj)} {σ : L2.St} {H : Hp} {s : Shared} {Q : VK}
    {us : List Value} {vs : List V} (M : Mk X.K C f)
    (F : FnOk X.prog X.w X.K X.mg X.base CX k f fd ps sp)
    (room : Room (k + 1) X.A) (bi : Binds X.K fd ps ds) (va : Vals dvs ds)
    (out : PassesAt CX X σ (E σ)) (I : Inv X pins σ H s) (r : Vals vs us)
    (h : ∀ y dy, H y = none → H dy = none → dy ≠ y →
      sp (.ref y :: (vs ++ dvs)) (upd (upd H dy (.own y)) y (.ins C dy []))
        (fun v H2 => v = .non ∧ Q (.ref y) H2) (E σ)) :
    wpAny (model X.prog X.w) X.A (call (.ref C) us) (EP X pins σ Q) X.xe s := by
  have want := h (s.heap.objs.size + 1) s.heap.objs.size
    (I.hok.fresh (Nat.le_succ _)) (I.hok.fresh (Nat.le_refl _))
    (Nat.ne_of_lt (Nat.lt_succ_self _))
  have J := Inv.made (C := C) I
  have rr : Vals (V.ref (s.heap.objs.size + 1) :: (vs ++ dvs))
      (Value.ref (s.heap.objs.size + 1) :: (us ++ ds)) := .cons rfl (r.append va)
  have len : (Value.ref (s.heap.objs.size + 1) :: us ++ ds).length = ps.length := by
    have q := rr.length
    rw [F.len _ _ _ _ want] at q
    exact q.symm
  have bound := bi _ (Value.ref (s.heap.objs.size + 1) :: us) J.kIn len
  have ran := F.run _ X.stack _ _ ⟨Value.ref (s.heap.objs.size + 1) :: us, []⟩
    (Value.ref (s.heap.objs.size + 1) :: (us ++ ds)) _ _ (E σ)
    (room.make C us []) (J.env0.make C us []) bound rr want
  refine wpAny_call (make_map (f := f) I.kIn M.makes M.init
    (beq_iff_eq.mp M.fn) (codeAny_mono ran fun res s' hq => ?_))
  match res, hq with
  | .error err, hq => exact out pins _ _ err s' J hq
  | .ok (.ret u), hq =>
    obtain ⟨v, H', I3, rv, ev, q3⟩ := J.after hq
    subst ev
    exact ⟨rv, ⟨V.ref (s.heap.objs.size + 1), H', I3, rfl, q3⟩⟩
  | .ok .next, hq => exact hq.elim
  | .ok .brk, hq => exact hq.elim
  | .ok .cont, hq => exact hq.elim
/-- C(e, ..) where what its making raises is wished for at the slots -/
def tMakeS (C : Addr) (sp : Sp) (dvs : List V) (E : L2.St → XK) (t : TA) : TE :=
  fun σ H Q => t σ H fun vs H1 => ∀ y dy, H1 y = none → H1 dy = none → dy ≠ y →
    sp (.ref y :: (vs ++ dvs)) (upd (upd H1 dy (.own y)) y (.ins C dy []))
      (fun v H2 => v = .non ∧ Q (.ref y) H2) (E σ)
theorem pe_makeS (M : Mk X.K C f) (F : FnOk X.prog X.w X.K X.mg X.base CX k f fd ps sp)
    (room : Room (k + 1) X.A) (hg : Gl X x) (hm : X.mg x = some (.ref C))
    (bi : Binds X.K fd ps ds) (va : Vals dvs ds) (out : ∀ σ, PassesAt CX X σ (E σ))
    (ha : PA X (e :: es) t) (hdb : (x == ("__debug__" : Str)) = false := by decide)
    (he : starEach (e :: es) X.env = (false, eval e X.env) :: starEach es X.env := by rfl)
    (hpl : (backTo pos (starEach es X.env)).any (·.1) = false := by rfl) :
    PE X (.Call (.Name x p) (e :: es) [] pos) (tMakeS C sp dvs E t) := by
  refine ⟨fun pins s σ H Q I h => wpAny_Call_Name_kw (ld_glob I hg hm ?_ hdb)⟩
  refine PySem.W.callWith_K (h₀ := X.base) I.ok.mod.kin M.kp ?_ he hpl
  exact thn (ha.run pos pins s σ H _ I h) fun us s1 ⟨vs, H1, I1, r, q⟩ =>
    ⟨I1.kIn, make_at M F room bi va (out σ) I1 r q⟩
end
/-! str(o), o of an own class with its own __str__ -/
section
variable {X : Cx} {CX : CXT} {n : Nat} {f C : Addr} {fd : FuncData} {ps : List Str} {sp : Sp} {E : XK}
theorem room2 {A : Around} (r : Room (n + 2) A) : Room n A.in1.in1 := Room.in1 (k := n) (Room.in1 (k := n + 1) r)
def rStrO (C : Addr) (sp : Sp) (E : XK) : List V → Hp → VK → Prop := fun xs H Q =>
  ∃ a dx fs, xs = [.ref a] ∧ H a = some (.ins C dx fs) ∧
    sp [.ref a] H (fun v H' => ∃ y : Str, v = .str y ∧ Q (.str y) H') E
theorem call_strO (F : FnOk X.prog X.w X.K X.mg X.base CX n f fd ps sp)
    (at_ : PySem.W.findIn X.K (.ref C) "__str__" = some (some (.ref f)))
    (isf : PySem.W.isFn X.K (.ref f) = true) (bi : Binds X.K fd ps [])
    (out : Passes CX X E) (room : Room (n + 2) X.A) : CallR X (.type "str") (rStrO C sp E) := by
  intro pins s σ H xs us Q I r h
  obtain ⟨a, dx, fs, rfl, ha, want⟩ := h
  cases r with
  | cons r1 rn =>
    cases rn
    cases r1
    obtain ⟨mA, O, _⟩ := ins_get I.hok ha
    obtain ⟨od, J, _⟩ := O.look
    have rr := room2 room
    refine PySem.W.kso_call rr.units0 I.kIn J at_ isf ?_
    have e0 : Env0 X.prog X.w X.K X.mg X.base X.A.in1.in1 X.stack s H := I.env0.in1.in1
    have len := F.len _ _ _ _ want
    have bound : BindsTo s fd ⟨[.ref a], []⟩ (ps.zip [Value.ref a]) := by
      have b := bi s [.ref a] I.kIn (by simpa using len)
      simpa using b
    have ran := F.run X.A.in1.in1 X.stack s H ⟨[.ref a], []⟩ [.ref a] [.ref a] _ E rr e0 bound (.cons rfl .nil) want
    refine wpAny_call (codeAny_mono ran fun res s' hq => ?_)
    match res, hq with
    | .error err, hq => exact out pins σ H s err s' I hq
    | .ok (.ret u), hq =>
      obtain ⟨v, H', I', rv, y, ev, q⟩ := I.after hq
      subst ev
      obtain ⟨t, rfl⟩ := rv
      exact ⟨.str y, H', I', ⟨t, rfl⟩, q⟩
    | .ok .next, hq => exact hq.elim
    | .ok .brk, hq => exact hq.elim
    | .ok .cont, hq => exact hq.elim
end
/-! isinstance(e, c), isinstance(e, (c, ..)), e the error that the suite holds -/
structure XClass (K : PySem.W.Frag) (D : Addr) : Prop where
  is : (PySem.W.clsIn K D).isSome = true
  ga : PySem.W.findIn K (.ref D) "__getattribute__" = some (some (.builtin "BaseException.__getattribute__"))
  gt : PySem.W.findIn K (.ref D) "__getattr__" = some none
  sb : PySem.W.subIn K (.ref D) (.type "BaseException") = some true
  ca : PySem.W.findIn K (.ref D) "__class__" = some (some (.builtin "object.__class__"))
  gn : PySem.W.specialIn K (.builtin "object.__class__") "__get__" = some (some (.builtin "getset_descriptor.__get__"))
  tk : PySem.W.takesIn K (.builtin "object.__class__") = some true
  mo : PySem.W.mroIn K D (.type "object") = some true
section
variable {X : Cx} {a D : Addr} {oe : Obj} {pn : List (Addr × Obj)} {d : Option Addr}
theorem held_at {pins : List (Addr × Obj)} {σ : L2.St} {H : Hp} {s : Shared} {dd : Addr} {fs : List (Str × V)}
    (hz : Zc (.ref D) (some dd) oe) (hf : ∃ vs, oe.data = .fields vs)
    (I : Inv (X.suite a ((a, oe) :: pn)) pins σ H s) (hd : H dd = some (.xd fs)) :
    ∃ od : Obj, PySem.W.InstAt s.heap a oe D (some od) := by
  obtain ⟨ha, _⟩ := I.pin (a, oe) (List.mem_append_left _ List.mem_cons_self)
  obtain ⟨vs, hv⟩ := hf
  have hx : ObjOk X.prog X.w H s.heap dd (.xd fs) := I.hok dd _ hd
  obtain ⟨mA, hns, _⟩ := hx
  obtain ⟨od, ho, _⟩ := lookIn_ns hns
  exact ⟨od, ha, hz.1, by unfold PySem.W.notCls; rw [hv] <;> rfl, by rw [hz.2]; exact ho⟩
def rIsX (K : PySem.W.Frag) (D a : Addr) (cls : Value) (d : Option Addr) : List V → Hp → VK → Prop := fun xs H Q =>
  ∃ (dd : Addr) (fs : List (Str × V)) (c : V) (u : Value) (b : Bool), cls = .ref D ∧ d = some dd ∧ H dd = some (.xd fs) ∧
    xs = [.ref a, c] ∧ ClsV c u ∧ PySem.W.kitOne K (.ref D) u = some b ∧ Q (.bl b) H
theorem call_isX {cls : Value} (T : XClass X.K D) (hz : Zc cls d oe) (hf : ∃ vs, oe.data = .fields vs) :
    CallR (X.suite a ((a, oe) :: pn)) (.builtin "isinstance") (rIsX X.K D a cls d) := by
  intro pins s σ H xs us Q I r h
  obtain ⟨dd, fs, c, u, b, rfl, rfl, hd, rfl, k, e, q⟩ := h
  obtain ⟨u1, u2, rfl, r1, r2⟩ := vals2 r
  cases (show u1 = Value.ref a from r1)
  have e2 := k.eq r2
  subst e2
  obtain ⟨od, J⟩ := held_at hz hf I hd
  exact PySem.W.kia_one (PySem.W.kitx_exc T.is T.ga T.gt T.sb T.ca T.gn T.tk T.mo) I.kIn J e (fun z => nomatch z)
    fun tk => ⟨.bl b, H, I.tok tk, rfl, q⟩
def rIsXT (K : PySem.W.Frag) (D a : Addr) (cls : Value) (d : Option Addr) : List V → Hp → VK → Prop := fun xs H Q =>
  ∃ (dd : Addr) (fs : List (Str × V)) (tp : Addr) (cs : List V) (us : List Value) (b : Bool), cls = .ref D ∧ d = some dd ∧ H dd = some (.xd fs) ∧
    xs = [.ref a, .ref tp] ∧ H tp = some (.tup cs) ∧ Paired ClsV cs us ∧ PySem.W.kitAny K (.ref D) us = some b ∧ Q (.bl b) H
theorem call_isXT {cls : Value} (T : XClass X.K D) (hz : Zc cls d oe) (hf : ∃ vs, oe.data = .fields vs) :
    CallR (X.suite a ((a, oe) :: pn)) (.builtin "isinstance") (rIsXT X.K D a cls d) := by
  intro pins s σ H xs us Q I r h
  obtain ⟨dd, fs, tp, cs, ws, b, rfl, rfl, hd, rfl, hT, k, e, q⟩ := h
  obtain ⟨u1, u2, rfl, r1, r2⟩ := vals2 r
  cases (show u1 = Value.ref a from r1)
  cases (show u2 = Value.ref tp from r2)
  obtain ⟨od, J⟩ := held_at hz hf I hd
  have okT : ObjOk X.prog X.w H s.heap tp (.tup cs) := I.hok tp _ hT
  obtain ⟨_, items, vals, ob, got, isT, m, dat⟩ := okT
  have same := ClsV.all k vals
  subst same
  obtain ⟨c0, d0, dt0, s0⟩ := ob
  simp only at isT dat
  subst isT dat
  exact PySem.W.kia_tup (PySem.W.kitx_exc T.is T.ga T.gt T.sb T.ca T.gn T.tk T.mo) I.kIn J got e (fun z => nomatch z)
    fun tk => ⟨.bl b, H, I.tok tk, rfl, q⟩
end
end V3

set_option Elab.async false
set_option linter.all false
set_option maxRecDepth 100000
/-! Further rules of our own: C() without an own __init__, len(o) by an own __len__, repr of small values, a list against the empty one. -/
namespace V3
open PySem L2 PyProof.Rows
section
variable {X : Cx} {C : Addr} {x : Str} {p pos : Pos}
/-- what a class without an own __init__ must have to be made -/
structure Mk0 (K : PySem.W.Frag) (C : Addr) : Prop where
  makes : PySem.W.makesIn K C = true
  ini : PySem.W.findIn K (.ref C) "__init__" = some (some (.builtin "object.__init__"))
  kp : PySem.W.keepIn K (.ref C) = true
def tNew (C : Addr) : TE := fun σ H Q => ∀ y dy, H y = none → H dy = none → dy ≠ y → Q (.ref y) (upd (upd H dy (.own y)) y (.ins C dy []))
theorem pe_new0 (M : Mk0 X.K C) (hg : Gl X x) (hm : X.mg x = some (.ref C)) (hdb : (x == ("__debug__" : Str)) = false := by decide) :
    PE X (.Call (.Name x p) [] [] pos) (tNew C) := by
  refine ⟨fun pins s σ H Q I h => wpAny_Call_Name_kw (ld_glob I hg hm ?_ hdb)⟩
  refine PySem.W.callWith_K0 I.kIn M.kp ?_
  have J := Inv.made (C := C) I
  have want := h (s.heap.objs.size + 1) s.heap.objs.size (I.hok.fresh (Nat.le_succ _)) (I.hok.fresh (Nat.le_refl _)) (Nat.ne_of_lt (Nat.lt_succ_self _))
  show wpAny _ _ (call (.ref C) []) _ _ _
  have KX := I.kIn
  refine wpAny_call (make_map0 KX M.makes M.ini (fun self => PySem.W.Looks.of_pure (PySem.W.oi_bind self)) ?_)
  have Y := PySem.W.makes_of (M := model X.prog X.w) KX M.makes
  obtain ⟨hh, g, d, t, os⟩ := s
  have own : ((hh.push PySem.W.emptyDict).push (PySem.W.instObj C hh.objs.size)).get? (hh.objs.size + 1) = some (PySem.W.instObj C hh.objs.size) := by heap_get
  have ty : PySem.W.Looks (model X.prog X.w) ((hh.push PySem.W.emptyDict).push (PySem.W.instObj C hh.objs.size)) (typeOf (.ref (hh.objs.size + 1))) (.ref C) :=
    (PySem.W.Looks.ld own).andThen .now
  have sub : PySem.W.Looks (model X.prog X.w) ((hh.push PySem.W.emptyDict).push (PySem.W.instObj C hh.objs.size)) (isInstance (.ref (hh.objs.size + 1)) (.type "object")) true := ty.andThen (Y.top.keeps fun b o e => Heap.get?_push_of_some _ (Heap.get?_push_of_some _ e))
  refine codeAny_call_builtin PySem.W.oi_plain PySem.W.entry_oi
    (@PySem.W.check_slot (model X.prog X.w) _ _ _ "object.__init__" "object" "__init__" (.ref (hh.objs.size + 1)) [] [] _
      PySem.W.oi_kind PySem.W.oi_split sub (PySem.W.oi_args (.ref (hh.objs.size + 1))) ?_)
  rw [PySem.W.oi_run]
  exact wpAny_pure (And.intro rfl ⟨V.ref (hh.objs.size + 1), _, J, rfl, want⟩)
end
section
variable {X : Cx} {CX : CXT} {n : Nat} {f C : Addr} {fd : FuncData} {ps : List Str} {sp : Sp} {E : XK}
/-- len(o), o of a class with its own __len__ -/
def rLenO (C : Addr) (sp : Sp) (E : XK) : List V → Hp → VK → Prop := fun xs H Q =>
  ∃ a dx fs, xs = [.ref a] ∧ H a = some (.ins C dx fs) ∧ sp [.ref a] H (fun v H' => ∃ i : Int, v = .int i ∧ (0 ≤ i ∧ i < 2 ^ 63) ∧ Q (.int i) H') E
theorem call_lenO (F : FnOk X.prog X.w X.K X.mg X.base CX n f fd ps sp) (at_ : PySem.W.findIn X.K (.ref C) "__len__" = some (some (.ref f)))
    (isf : PySem.W.isFn X.K (.ref f) = true) (bi : Binds X.K fd ps []) (out : Passes CX X E) (room : Room (n + 1) X.A) : CallR X (.builtin "len") (rLenO C sp E) := by
  intro pins s σ H xs us Q I r h
  obtain ⟨a, dx, fs, rfl, ha, want⟩ := h
  cases r with
  | cons r1 rn =>
    cases rn
    cases r1
    obtain ⟨mA, O, _⟩ := ins_get I.hok ha
    obtain ⟨od, J, _⟩ := O.look
    obtain ⟨m, hF⟩ := I.fr
    have rr : Room n X.A.in1 := Room.in1 (k := n) room
    refine PySem.W.len_K hF I.ok.mod.kin J at_ isf ?_
    have e0 : Env0 X.prog X.w X.K X.mg X.base X.A.in1 X.stack s H := I.env0.in1
    have len := F.len _ _ _ _ want
    have bound : BindsTo s fd ⟨[.ref a], []⟩ (ps.zip [Value.ref a]) := by
      have b := bi s [.ref a] I.kIn (by simpa using len)
      simpa using b
    have ran := F.run X.A.in1 X.stack s H ⟨[.ref a], []⟩ [.ref a] [.ref a] _ E rr e0 bound (.cons rfl .nil) want
    refine wpAny_call (codeAny_mono ran fun res s' hq => ?_)
    match res, hq with
    | .error err, hq => exact out pins σ H s err s' I hq
    | .ok (.ret u), hq =>
      obtain ⟨v, H', I', rv, i, ev, hi, q⟩ := I.after hq
      subst ev
      obtain ⟨t, rfl⟩ := rv
      exact ⟨hi, .int i, H', I'.tok _, ⟨_, rfl⟩, q⟩
    | .ok .next, hq => exact hq.elim
    | .ok .brk, hq => exact hq.elim
    | .ok .cont, hq => exact hq.elim
end
section
variable {X : Cx}
theorem call_repr_str : CallR X (.builtin "repr") (fun xs H Q => ∃ z : Str, xs = [.str z] ∧ (reprText z).length ≤ sizeLine ∧ Q (.str (reprText z)) H) := by
  intro pins s σ H xs us Q I r h
  obtain ⟨z, rfl, hz, q⟩ := h
  obtain ⟨u, rfl, t, rfl⟩ := vals1 r
  exact PySem.P.repr_of_str ⟨.str _, H, I.tok _, ⟨_, rfl⟩, q⟩ hz
/-- an int or a text -/
def rRepr : List V → Hp → VK → Prop := fun xs H Q => (∃ i : Int, xs = [.int i] ∧ i.natAbs.log2 < 1920 ∧ Q (.str (toString i)) H) ∨
  (∃ z : Str, xs = [.str z] ∧ (reprText z).length ≤ sizeLine ∧ Q (.str (reprText z)) H)
theorem call_reprIS : CallR X (.builtin "repr") rRepr := by
  intro pins s σ H xs us Q I r h
  rcases h with h | h
  · exact SkE.call_repr_int pins s σ H xs us Q I r h
  · exact call_repr_str pins s σ H xs us Q I r h
/-- xs != [] -/
def rNeE : R2 := fun x y H Q => ∃ l b xs, x = .ref l ∧ y = .ref b ∧ H l = some (.lst xs) ∧ H b = some (.lst []) ∧ Q (.bl (!xs.isEmpty)) H
theorem op_neE (hu : X.A.units < cLine) : OpR X (compareOp .NotEq) rNeE := by
  intro pins s σ H x y v u Q I rx ry h
  obtain ⟨l, b, xs, rfl, rfl, hl, hb, q⟩ := h
  cases rx
  cases ry
  obtain ⟨z, its, k, r, e⟩ := I.hok l _ hl
  obtain ⟨z2, its2, k2, r2, e2⟩ := I.hok b _ hb
  cases r2
  have L1 : s.heap.IsList l its.toArray := ⟨_, e, rfl, k, rfl⟩
  have L2' : s.heap.IsList b ([] : List Value).toArray := ⟨_, e2, rfl, k2, rfl⟩
  refine PySem.W.cmp_ofNotEq ?_
  cases r with
  | nil =>
    have c := PySem.SeqAt.RcNeAt.lists (e := fun _ => true) L1 L2' rfl hu (fun j h1 _ => absurd h1 (Nat.not_lt_zero _))
    exact c X.prog X.w X.xe _ ⟨.bl false, H, I, rfl, q⟩
  | @cons x0 u0 xs0 us0 r0 rr =>
    have c := PySem.SeqAt.RcNeAt.lists_lengths L1 L2' (by simp) hu
    exact c X.prog X.w X.xe _ ⟨.bl true, H, I, rfl, q⟩
end
end V3

set_option Elab.async false
set_option linter.all false
set_option maxRecDepth 100000
/-! Further rules of our own: xs[a:b:k]; a class that stands in a local name, called. -/
namespace V3
open PySem PySem.Spec PyProof.Rows L2
/-- the items of xs[lo:hi:st] -/
def stepV (xs : List V) (lo hi st : Option Int) : List V :=
  (sliceRange (sliceBounds lo hi st xs.length).1 (sliceBounds lo hi st xs.length).2.1 (sliceBounds lo hi st xs.length).2.2).filterMap (fun i => xs[i]?)
theorem vals_pick {xs : List V} {us : List Value} (r : Vals xs us) : ∀ idx : List Nat, Vals (idx.filterMap (fun i => xs[i]?)) (idx.filterMap (fun i => us.toArray[i]?))
  | [] => .nil
  | i :: idx => by
    have ih := vals_pick r idx
    rw [List.filterMap_cons, List.filterMap_cons]
    cases e : xs[i]? with
    | none =>
      have e2 : us.toArray[i]? = none := by
        rw [List.getElem?_toArray]
        exact r.none_of e
      rw [e2]
      exact ih
    | some x =>
      obtain ⟨u, hu, ru⟩ := r.get e
      have e2 : us.toArray[i]? = some u := by
        rw [List.getElem?_toArray]
        exact hu
      rw [e2]
      exact .cons ru ih
section
variable {X : Cx} {e : Expr} {te : TE} {lo hi st : Option Expr} {tl th ts : TO} {p2 pos : Pos}
def tStep (K : PySem.W.Frag) (te : TE) (tl th ts : TO) : TE := fun σ H Q => te σ H fun x H1 => tl σ H1 fun l H2 => th σ H2 fun u H3 => ts σ H3 fun k H4 =>
  ∃ a xs, x = .ref a ∧ SqL K H4 a xs ∧ k ≠ some 0 ∧ (stepV xs l u k).length ≤ sizeLine ∧ ∀ p, H4 p = none → Q (.ref p) (upd H4 p (.lst (stepV xs l u k)))
theorem pe_step (he : PE X e te) (hl : PO X lo tl) (hu : PO X hi th) (hk : PO X st ts)
    (hop : ∀ (o : Value) (n : Addr), subscripted (.Slice lo hi st p2) false o (.ref n) = operate [o, .ref n] (getItem o (.ref n)) := by intro _ _; with_unfolding_all rfl) :
    PE X (.Subscript e (.Slice lo hi st p2) pos) (tStep X.K te tl th ts) := by
  refine ⟨fun pins s σ H Q I h => ?_⟩
  refine Subscript_ (thn (he.run pins s σ H _ I h) fun v s1 ⟨x, H1, I1, r1, q1⟩ => ?_)
  refine wpAny_Slice (thn (hl.run pins s1 σ H1 _ I1 q1) fun vl s2 ⟨l, H2, I2, pl, q2⟩ =>
    thn (hu.run pins s2 σ H2 _ I2 q2) fun vu s3 ⟨u, H3, I3, pu, q3⟩ =>
    thn (hk.run pins s3 σ H3 _ I3 q3) fun vk s4 ⟨k, H4, I4, pk, q4⟩ => ?_)
  obtain ⟨a, xs, rfl, hx, hk0, hsz, q⟩ := q4
  have J : Inv X pins σ H4 { s4 with heap := s4.heap.push { cls := .type "slice", data := .fields #[vl, vu, vk] } } := I4.kept (t' := s4.toks) fun b ob q => Heap.get?_push_of_some _ q
  cases r1
  obtain ⟨its, r, ht, hz⟩ := J.list hx
  have hlen := r.length
  have got : wpAny (model X.prog X.w) X.A (getItem (.ref a) (.ref s4.heap.objs.size)) (EP X pins σ Q) X.xe { s4 with heap := s4.heap.push { cls := .type "slice", data := .fields #[vl, vu, vk] } } := by
    refine wpAny_getItem_list_slice ht.isList (Heap.IsSliceOf.new ..) pl pu pk hk0 ?_ (by rw [List.size_toArray] <;> omega)
    have e : slicePick its.toArray l u k = ((sliceRange (sliceBounds l u k xs.length).1 (sliceBounds l u k xs.length).2.1 (sliceBounds l u k xs.length).2.2).filterMap (fun i => its.toArray[i]?)).toArray := by
      unfold slicePick
      rw [List.size_toArray, ← hlen]
    rw [e]
    refine ⟨.ref (s4.heap.push _).objs.size, _, J.laid (t' := s4.toks) (o := .lst (stepV xs l u k)) (fun b ob q => Heap.get?_push_of_some _ q) (Nat.le_refl _) ?_, rfl, q _ (J.hok.fresh (Nat.le_refl _))⟩
    exact ⟨hsz, _, 0, vals_pick r _, Heap.get?_push_size _ rfl⟩
  show wpAny (model X.prog X.w) X.A (subscriptTail e (.Slice lo hi st p2) (.ref a) (.ref s4.heap.objs.size)) (EP X pins σ Q) X.xe { s4 with heap := s4.heap.push { cls := .type "slice", data := .fields #[vl, vu, vk] } }
  exact tail_any (ops := [.ref a, .ref s4.heap.objs.size]) ht.isList.typeIs slot_list_getitem.lookup got (hop _ _)
end
section
variable {X : Cx} {CX : CXT} {k i : Nat} {f C : Addr} {fd : FuncData} {ps : List Str} {sp : Sp} {E : XK} {x : Str} {p pos : Pos} {e : Expr} {es : List Expr} {t : TA} {dvs : List V} {ds : List Value}
/-- c(e, ..), c a local name that holds the class at C -/
def tMakeL (i : Nat) (C : Addr) (sp : Sp) (dvs : List V) (E : XK) (t : TA) : TE := fun σ H Q => σ[i]? = some (some (.ref C)) ∧ tMake C sp dvs E t σ H Q
theorem pe_makeL (M : Mk X.K C f) (F : FnOk X.prog X.w X.K X.mg X.base CX k f fd ps sp) (room : Room (k + 1) X.A) (hN : X.N[i]? = some x) (hv : Vis X.env.scope x)
    (bi : Binds X.K fd ps ds) (va : Vals dvs ds) (out : Passes CX X E) (ha : PA X (e :: es) t)
    (hdb : (x == ("__debug__" : Str)) = false := by decide) (hcd : (x == ("__classdict__" : Str)) = false := by decide)
    (he : starEach (e :: es) X.env = (false, eval e X.env) :: starEach es X.env := by rfl) (hpl : (backTo pos (starEach es X.env)).any (·.1) = false := by rfl) :
    PE X (.Call (.Name x p) (e :: es) [] pos) (tMakeL i C sp dvs E t) := by
  refine ⟨fun pins s σ H Q I h => ?_⟩
  obtain ⟨at_, want⟩ := h
  refine wpAny_Call_Name_kw (thn ((pe_var (pos := p) hN hv hdb hcd).run pins s σ H (fun v H1 => v = .ref C ∧ H1 = H) I ⟨.ref C, at_, rfl, rfl⟩) fun u s1 ⟨v, H1, I1, r1, q1⟩ => ?_)
  obtain ⟨rfl, rfl⟩ := q1
  cases r1
  refine PySem.W.callWith_K (h₀ := X.base) I.ok.mod.kin M.kp ?_ he hpl
  exact thn (ha.run pos pins s1 σ _ _ I1 want) fun us s2 ⟨vs, H2, I2, r, q⟩ => ⟨I2.kIn, run_make M F room bi va out I2 r q⟩
end
end V3

set_option Elab.async false
set_option linter.all false
set_option maxRecDepth 100000
/-! == and != of objects of our own classes, by their own __eq__, whatever it answers. -/
namespace V3
open PySem PySem.Spec PyProof.Rows L2
section
variable {prog : Program} {w : World} {A : Around} {E : Value → Shared → Prop} {s : Shared} {K : PySem.W.Frag} {x C L f : Addr} {h₀ : Heap} {m : Str → Option Value} {ox : Obj} {od : Option Obj} {name : Str} {b tb : Value}
theorem ifBound_B {M : Model} {args : List Value} {id : String} {Q : Option Value → Shared → Prop} (X : K.In s.heap) (I : PySem.W.InstAt s.heap x ox C od) (hs : PySem.W.findIn K (.ref C) name = some (some (.builtin id)))
    (hb : ∀ self, bindSpecial (.builtin id) self = pure (.builtin id, [self]))
    (h : wpAny M A (call (.builtin id) (.ref x :: args)) (fun v => Q (some v)) E s) : wpAny M A (callSpecialIfBound? (.ref x) name args) Q E s := by
  simp only [callSpecialIfBound?, bindSpecialIfBound?]
  refine wpAny_holding (wpAny_bind (wpAny_bind (wpAny_bind (I.type.here ((PySem.W.looks_findIn X hs).here ?_)))))
  simp only [hb]
  refine wpAny_bind (wpAny_askSetting (wpAny_ite ?_))
  have fin : wpAny M A (call (.builtin id) ([.ref x] ++ args) >>= fun v => pure (some v)) Q E s := wpAny_bind (wpAny_mono h (fun v s' h' => wpAny_pure h') fun _ _ h' => h')
  split
  · exact wpAny_bind (wpAny_pure (wpAny_pure fin))
  · exact wpAny_tryCatch (wpAny_bind (wpAny_pure (wpAny_pure fin)))
theorem ne_entry {Q : Fin → Shared → Prop} (hu : A.units < cLine) (X : K.In s.heap) (I : PySem.W.InstAt s.heap x ox C od) (hs : PySem.W.findIn K (.ref C) "__eq__" = some (some (.ref f))) (hf : PySem.W.isFn K (.ref f) = true)
    (h : wpAny (model prog w) A (call (.ref f) [.ref x, b]) (fun v s' => ∃ r, v = .bool r ∧ Q (.done (.ret (.bool (!r)))) s') E s) :
    wpAny (model prog w) A (Builtin.«object.__ne__» ⟨[.ref x, b], []⟩) Q E s := by
  unfold Builtin.«object.__ne__»
  repeat (first | with_reducible refine wpAny_cRoomFor hu ?_ | with_reducible refine wpAny_bind (PySem.W.ifBound_K X I hs hf (wpAny_mono h (fun v s' hv => ?_) fun _ _ e => e)) | wp_step)
  obtain ⟨r, rfl, q⟩ := hv
  repeat wp_step
  exact q
theorem ne_K {Q : Value → Shared → Prop} (hu : A.units + 1 < cLine) (F : PyProof.Rows.Fr h₀ L s.heap m) (X₀ : K.In h₀) (I : PySem.W.InstAt s.heap x ox C od) (hb : PySem.W.Looks (model prog w) s.heap (typeOf b) tb) (hn : PySem.W.notFirst K C tb = true)
    (hs : PySem.W.findIn K (.ref C) "__eq__" = some (some (.ref f))) (hf : PySem.W.isFn K (.ref f) = true)
    (hne : PySem.W.findIn K (.ref C) "__ne__" = some (some (.builtin "object.__ne__"))) (hob : PySem.W.subIn K (.ref C) (.type "object") = some true)
    (h : wpAny (model prog w) A.in1 (call (.ref f) [.ref x, b]) (fun v s' => ∃ r, v = .bool r ∧ Q (.bool (!r)) s') E s) : wpAny (model prog w) A (richCompare .NotEq (.ref x) b) Q E s := by
  have X := X₀.keeps F.keep
  have hu0 : A.units < cLine := Nat.lt_of_succ_lt hu
  have one : wpAny (model prog w) A (tryCompare (.ref x) "__ne__" b) (fun r s' => ∃ v, r = some v ∧ Q v s') E s := by
    unfold tryCompare
    refine wpAny_bind (ifBound_B X I hne (fun self => PySem.F.cmp_object.ne.bind self) ?_)
    refine wpAny_call (codeAny_call_builtin PySem.F.cmp_object.ne.plain PySem.F.cmpEntry_ne (PySem.W.check_slot PySem.F.cmpKind_ne PySem.F.cmpSplit_ne (I.type.andThen (PySem.W.looks_subIn X hob)) (PySem.F.cmpArgs_ne _ _) (ne_entry (A := A.in1) hu X I hs hf ?_)))
    refine wpAny_mono h (fun v s' hv => ?_) fun _ _ e => e
    obtain ⟨r, rfl, q⟩ := hv
    exact ⟨r, rfl, wpAny_pure ⟨_, rfl, q⟩⟩
  unfold richCompare
  simp only [oneThing_ref]
  refine wpAny_holding (wpAny_bind (wpAny_cRoomFor hu0 ?_))
  refine wpAny_bind (I.type.here (wpAny_bind (hb.here ?_)))
  split
  · rename_i q
    have e : PySem.W.subIn K tb (.ref C) = some false := by
      rcases Bool.or_eq_true_iff.mp hn with e | e
      · rw [beq_iff_eq.mp e] at q; simp at q
      · exact beq_iff_eq.mp e
    refine wpAny_bind ((PySem.W.looks_subIn X e).here ?_)
    simp only [Bool.false_eq_true, if_false]
    refine wpAny_bind (wpAny_mono one (fun r s' z => ?_) fun _ _ e => e)
    obtain ⟨v, rfl, hq⟩ := z
    exact wpAny_pure hq
  · refine wpAny_bind (wpAny_pure ?_)
    simp only [Bool.false_eq_true, if_false]
    refine wpAny_bind (wpAny_mono one (fun r s' z => ?_) fun _ _ e => e)
    obtain ⟨v, rfl, hq⟩ := z
    exact wpAny_pure hq
end
/-- a class with an own __eq__ at f and the __ne__ of object -/
structure EqCls (K : PySem.W.Frag) (C f : Addr) : Prop where
  eq : PySem.W.findIn K (.ref C) "__eq__" = some (some (.ref f))
  fn : PySem.W.isFn K (.ref f) = true
  ne : PySem.W.findIn K (.ref C) "__ne__" = some (some (.builtin "object.__ne__"))
  ob : PySem.W.subIn K (.ref C) (.type "object") = some true
section
variable {X : Cx} {CX : CXT} {n : Nat} {f C D : Addr} {fd : FuncData} {ps : List Str} {sp : Sp} {E : XK}
/-- f called at a pair, somewhere below the running body -/
theorem run_own {A : Around} {pins : List (Addr × Obj)} {s : Shared} {σ : L2.St} {H : Hp} {x y : V} {u v : Value} {Q : VK} (sb : Sub X n A) (F : FnOk X.prog X.w X.K X.mg X.base CX n f fd ps sp) (hb : Binds X.K fd ps []) (hx : Passes CX X E)
    (I : Inv X pins σ H s) (rx : RelV x u) (ry : RelV y v) (h : sp [x, y] H Q E) : wpAny (model X.prog X.w) A (call (.ref f) [u, v]) (EP X pins σ Q) X.xe s := by
  have e0 : Env0 X.prog X.w X.K X.mg X.base A X.stack s H := by
    have e := I.env0
    exact ⟨by rw [sb.fr]; exact e.frames, e.mod, e.bs, e.bsz, e.funs, e.frf, e.hok, e.bare⟩
  have hl := F.len _ _ _ _ h
  have r2 : Vals [x, y] [u, v] := .cons rx (.cons ry .nil)
  refine wpAny_call (codeAny_mono (F.run A X.stack s H ⟨[u, v], []⟩ [u, v] [x, y] _ E sb.room e0 (by
    have := hb s [u, v] I.kIn (by simpa using hl)
    simpa using this) r2 h) fun r s' hq => ?_)
  cases r with
  | error e => exact hx pins σ H s e s' I hq
  | ok fl =>
    cases fl with
    | ret w =>
      obtain ⟨z, H', I', rz, q⟩ := I.after hq
      exact ⟨z, H', I', rz, q⟩
    | next => exact False.elim hq
    | brk => exact False.elim hq
    | cont => exact False.elim hq
/-- x == y, x an object whose class has the own __eq__ -/
def rEqO (K : PySem.W.Frag) (n : Nat) (FF : Addr → Sp → XK → Prop) (neg : Bool) : R2 := fun x y H Q => ∃ (a C dx : Addr) (fs : List (Str × V)) (b D dy : Addr) (gs : List (Str × V)) (sp : Sp) (E : XK), x = .ref a ∧ y = .ref b ∧ H a = some (.ins C dx fs) ∧ H b = some (.ins D dy gs) ∧
  FF C sp E ∧ PySem.W.notFirst K C (.ref D) = true ∧ sp [x, y] H (fun v H' => ∃ r : Bool, v = .bl r ∧ Q (.bl (r != neg)) H') E
theorem op_eqO {FF : Addr → Sp → XK → Prop} (hF : ∀ C sp E, FF C sp E → ∃ (CX : CXT) (f : Addr) (fd : FuncData) (ps : List Str), FnOk X.prog X.w X.K X.mg X.base CX n f fd ps sp ∧ EqCls X.K C f ∧ Binds X.K fd ps [] ∧ Passes CX X E) (hr : Room n X.A) :
    OpR X (compareOp .Eq) (rEqO X.K n FF false) := by
  intro pins s σ H x y v u Q I rx ry hq
  obtain ⟨a, C, dx, fs, b, D, dy, gs, sp, E, rfl, rfl, ha, hb, ff, hn, hsp⟩ := hq
  obtain ⟨CX, f, fd, ps, F, ec, bi, hx⟩ := hF C sp E ff
  cases rx
  cases ry
  obtain ⟨mA, J, _⟩ := ins_get I.hok ha
  obtain ⟨mB, J', _⟩ := ins_get I.hok hb
  obtain ⟨od, J, _⟩ := J.look
  obtain ⟨od', J', _⟩ := J'.look
  obtain ⟨m, hF⟩ := I.fr
  show wpAny (model X.prog X.w) X.A (richCompare .Eq (.ref a) (.ref b)) (EP X pins σ Q) X.xe s
  refine PySem.W.cmp_K (op := .Eq) (tb := .ref D) hr.units0 hF I.ok.mod.kin J J'.type hn ec.eq ec.fn ?_
  refine wpAny_mono (run_own (x := .ref a) (y := .ref b) ⟨hr, rfl⟩ F bi hx I rfl rfl hsp) (fun w s' q => ?_) fun _ _ e => e
  obtain ⟨z, H', I', rz, r, ez, q⟩ := q
  subst ez
  cases rz
  refine ⟨.bl r, H', I', rfl, ?_⟩
  have e : (r != false) = r := by cases r <;> rfl
  rw [e] at q
  exact q
theorem op_neO {FF : Addr → Sp → XK → Prop} (hF : ∀ C sp E, FF C sp E → ∃ (CX : CXT) (f : Addr) (fd : FuncData) (ps : List Str), FnOk X.prog X.w X.K X.mg X.base CX n f fd ps sp ∧ EqCls X.K C f ∧ Binds X.K fd ps [] ∧ Passes CX X E) (hr : Room (n + 1) X.A) :
    OpR X (compareOp .NotEq) (rEqO X.K n FF true) := by
  intro pins s σ H x y v u Q I rx ry hq
  obtain ⟨a, C, dx, fs, b, D, dy, gs, sp, E, rfl, rfl, ha, hb, ff, hn, hsp⟩ := hq
  obtain ⟨CX, f, fd, ps, F, ec, bi, hx⟩ := hF C sp E ff
  cases rx
  cases ry
  obtain ⟨mA, J, _⟩ := ins_get I.hok ha
  obtain ⟨mB, J', _⟩ := ins_get I.hok hb
  obtain ⟨od, J, _⟩ := J.look
  obtain ⟨od', J', _⟩ := J'.look
  obtain ⟨m, hF⟩ := I.fr
  show wpAny (model X.prog X.w) X.A (richCompare .NotEq (.ref a) (.ref b)) (EP X pins σ Q) X.xe s
  refine ne_K (tb := .ref D) (by have := hr.units; omega) hF I.ok.mod.kin J J'.type hn ec.eq ec.fn ec.ne ec.ob ?_
  refine wpAny_mono (run_own (x := .ref a) (y := .ref b) (A := X.A.in1) ⟨hr.in1, rfl⟩ F bi hx I rfl rfl hsp) (fun w s' q => ?_) fun _ _ e => e
  obtain ⟨z, H', I', rz, r, ez, q⟩ := q
  subst ez
  cases rz
  refine ⟨r, rfl, .bl (!r), H', I', rfl, ?_⟩
  have e : (r != true) = !r := by cases r <;> rfl
  rw [e] at q
  exact q
end
end V3

set_option Elab.async false
set_option linter.all false
set_option maxRecDepth 100000
/-! functions that are called where no repr is under way: repr of nested lists and tuples -/
namespace V3
open PySem PySem.Spec PyProof.Rows L2
def NoG (A : Around) : Prop := A.guards = some []
theorem NoG.deeper {A : Around} (h : NoG A) (e : Env) : NoG (A.deeper e) := h
/-- what a def promises to such callers -/
structure FnG (P : Program) (w : World) (K : PySem.W.Frag)
    (mg : Str → Option Value) (base : Heap) (CX : CXT) (k : Nat)
    (f : Addr) (fd : FuncData) (ps : List Str) (sp : Sp) : Prop where
  len : ∀ vs H Q E, sp vs H Q E → vs.length = ps.length
  run : ∀ (A : Around) (up : List Env) (s : Shared) (H : Hp) (args : Args)
    (us : List Value) (vs : List V) (Q : VK) (E : XK),
    NoG A → Room k A → Env0 P w K mg base A up s H →
    BindsTo s fd args (ps.zip us) → Vals vs us → sp vs H Q E →
    codeAny (model P w) A (.call (.ref f) args) (CR CX up P w H s Q E) s
theorem FnG.of {P : Program} {w : World} {K : PySem.W.Frag} {mg : Str → Option Value} {base : Heap}
    {CX : CXT} {k : Nat} {f : Addr} {fd : FuncData} {ps : List Str} {sp : Sp}
    (F : FnOk P w K mg base CX k f fd ps sp) : FnG P w K mg base CX k f fd ps sp :=
  ⟨F.len, fun A up s H args us vs Q E _ => F.run A up s H args us vs Q E⟩
theorem FnG.up {P : Program} {w : World} {K : PySem.W.Frag} {mg : Str → Option Value} {base : Heap}
    {CX : CXT} {j k : Nat} {f : Addr} {fd : FuncData} {ps : List Str} {sp : Sp}
    (F : FnG P w K mg base CX j f fd ps sp) (h : j ≤ k) : FnG P w K mg base CX k f fd ps sp :=
  ⟨F.len, fun A up s H args us vs Q E g r => F.run A up s H args us vs Q E g (r.mono h)⟩
section
variable {P : Program} {w : World} {K : PySem.W.Frag} {mg : Str → Option Value} {base : Heap}
/-- the rule for a def of the text -/
theorem fnG {CX : CXT} {k : Nat} {f : Addr} {x qual : Str} {st : Stmt} {fd : FuncData}
    {N ps : List Str} {sp : Sp} (F : Fun K x qual st f fd) (S : FnScope N ps (defScope st))
    (len : ∀ vs H Q E, sp vs H Q E → vs.length = ps.length)
    (hbody : ∀ (cdv : Value) (A : Around) (up : List Env) (s : Shared) (H : Hp)
      (vs : List V) (Q : VK) (E : XK),
      NoG A → Room k (A.deeper (envOfC qual (defScope st) s.heap.objs.size f cdv)) →
      sp vs H Q E →
      ∃ t, PSs (cxOf CX P w K mg base N qual (defScope st) f cdv A up s H E) (defBody st) t ∧
        t { nx := fun _ H' => Q .non H', rt := Q } (start N vs) H) :
    FnG P w K mg base CX (k + 1) f fd ps sp := by
  obtain ⟨oc, od, kV, doc, pm, an, cdv, ct, osl, rfl, lk, hcd⟩ := F.ex
  refine ⟨len, fun A up s H args us vs Q E g room e0 bnd rel want => ?_⟩
  have nlen := len _ _ _ _ want
  have old := fun b o e => (e0.bs b o e).1
  have KX : K.In s.heap := e0.mod.kin.keeps old
  have lim := e0.mod.nolimit.keeps old
  have known : ∀ y ∈ ps.zip us, (defScope st).names.lookup y.1 = some .local ∨
      ((defScope st).names.lookup y.1 = some .cell ∧
        ((cellsFrom (s.heap.objs.size + 1) (defScope st).names []).lookup y.1).isSome = true) := by
    rintro ⟨n, v⟩ hy
    exact (S.par n (List.of_mem_zip hy).1).imp id fun q => ⟨q, PySem.W.cellsFrom_some _ _ _ (.inl q)⟩
  refine codeAny_call_function room.depth (KX _ _ lk) rfl S.co S.gen rfl
    (PySem.W.codeRec_of KX hcd) (bnd _ _ _ _ ?_)
  refine wpAny_newFunctionEnv_cells S.kind known fun env same s1 x => ?_
  subst same
  refine ⟨lim.keeps x.toInCall.keep, codeAny_func ?_⟩
  obtain ⟨t, ht, hq⟩ := hbody cdv A up s H vs Q E g (room.deeper _) want
  have I := inv_start (CX := CX) (E := E) S room.hd e0 nlen rel x
  refine wpAny_mono (ht.run [] s1 (start N vs) H _ I hq) (fun fl s' hs => ?_) fun e s' hs => hs
  match fl, hs with
  | .ret u, hs =>
    obtain ⟨v, σ', H', J, rv, q⟩ := hs
    exact ⟨v, H', J.os, J.bare, J.base, J.hok, rv, q⟩
  | .next, hs =>
    obtain ⟨σ', H', J, q⟩ := hs
    exact ⟨.non, H', J.os, J.bare, J.base, J.hok, rfl, q⟩
  | .brk, hs =>
    obtain ⟨_, _, _, q⟩ := hs
    exact q.elim
  | .cont, hs =>
    obtain ⟨_, _, _, q⟩ := hs
    exact q.elim
end
section
variable {X : Cx} {CX : CXT} {k : Nat} {f : Addr} {fd : FuncData} {ps : List Str} {sp : Sp}
  {dvs : List V} {ds : List Value} {E : XK} {x : Str} {p pos : Pos} {e : Expr} {es : List Expr} {t : TA}
theorem runG {pins : List (Addr × Obj)} {σ : L2.St} {H : Hp} {s : Shared} {Q : VK}
    {us : List Value} {vs : List V} (F : FnG X.prog X.w X.K X.mg X.base CX k f fd ps sp)
    (g : NoG X.A) (room : Room k X.A) (bi : Binds X.K fd ps ds) (va : Vals dvs ds)
    (out : Passes CX X E) (I : Inv X pins σ H s) (r : Vals vs us) (want : sp (vs ++ dvs) H Q E) :
    wpAny (model X.prog X.w) X.A (call (.ref f) us) (EP X pins σ Q) X.xe s := by
  have r2 := r.append va
  have nlen := r2.length.symm.trans (F.len _ _ _ _ want)
  have ran := F.run X.A X.stack s H ⟨us, []⟩ _ _ Q E g room I.env0 (bi s us I.kIn nlen) r2 want
  refine wpAny_call (codeAny_mono ran fun res s' hq => ?_)
  match res, hq with
  | .error err, hq => exact out pins σ H s err s' I hq
  | .ok (.ret u), hq => exact I.after hq
  | .ok .next, hq => exact hq.elim
  | .ok .brk, hq => exact hq.elim
  | .ok .cont, hq => exact hq.elim
/-- f(e, ..) -/
theorem pe_callG (F : FnG X.prog X.w X.K X.mg X.base CX k f fd ps sp) (g : NoG X.A)
    (room : Room k X.A) (hg : Gl X x) (hm : X.mg x = some (.ref f))
    (kp : PySem.W.keepIn X.K (.ref f) = true) (bi : Binds X.K fd ps ds) (va : Vals dvs ds)
    (out : Passes CX X E) (ha : PA X (e :: es) t)
    (hdb : (x == ("__debug__" : Str)) = false := by decide)
    (he : starEach (e :: es) X.env = (false, eval e X.env) :: starEach es X.env := by rfl)
    (hpl : (backTo pos (starEach es X.env)).any (·.1) = false := by rfl) :
    PE X (.Call (.Name x p) (e :: es) [] pos) (tCall sp dvs E t) := by
  refine ⟨fun pins s σ H Q I h => wpAny_Call_Name_kw (ld_glob I hg hm ?_ hdb)⟩
  refine PySem.W.callWith_K (h₀ := X.base) I.ok.mod.kin kp ?_ he hpl
  exact thn (ha.run pos pins s σ H _ I h) fun us s1 ⟨vs, H1, I1, r, q⟩ =>
    ⟨I1.kIn, runG F g room bi va out I1 r q⟩
/-- repr(v), v nested data -/
def rReprD (K : PySem.W.Frag) (A : Around) : List V → Hp → VK → Prop := fun xs H Q =>
  ∃ (a : Addr) (d : PyData), xs = [.ref a] ∧ Dp K H (.ref a) d ∧ d.showable = true ∧
    d.hasDict = false ∧ A.units + (d.depth + 1) < cLine ∧ d.shown.length ≤ sizeLine ∧ Q (.str d.shown) H
theorem call_reprD (g : NoG X.A) : CallR X (.builtin "repr") (rReprD X.K X.A) := by
  intro pins s σ H xs us Q I r h
  obtain ⟨a, d, rfl, hd, sh, nd, hu, hz, q⟩ := h
  obtain ⟨u, rfl, ru⟩ := vals1 r
  obtain ⟨as, rd⟩ := hd.reads I d _ _ ru
  cases ru
  exact repr_of_reads' rd sh (PyData.noDict_hsm nd) g hu (fun _ _ e => e)
    (fun h' u tk hk => ⟨.str d.shown, H, I.kept (t' := tk) hk, ⟨u, rfl⟩, q⟩) hz
end
end V3

set_option Elab.async false
set_option linter.all false
set_option maxRecDepth 100000
/-! the law's own call, where no repr is under way -/
namespace V3
open PySem PySem.Spec PyProof.Rows L2
section
variable {P : Program} {w : World} {K : PySem.W.Frag} {mg mb : Str → Option Value} {k : Nat}
  {fa a : Addr} {fd : FuncData} {x : Str} {sp : Sp} {s1 : Shared} {vs : List Value} {ns : List Int}
/-- nothing but the script is followed -/
structure Lone (H : Hp) (a : Addr) : Prop where
  only : Only H
  here : ∀ b, H b ≠ none → b = a
theorem law_from {H : Hp} (KX : K.In s1.heap) (hns : s1.heap.Ns mainGlobals mg)
    (hb : s1.heap.Ns builtinsNs mb) (hbb : ∀ y : Str, y ≠ "__name__" → mb y = bootBuiltins y)
    (lim : s1.heap.NoLimit) (gens : s1.gens = #[])
    (ha : s1.heap.get? a = some { cls := .type "list", data := .seq vs.toArray })
    (room : Room k callerA)
    (F : ∀ base : Heap, K.In base → base.Ns mainGlobals mg → FnG P w K mg base CX0 k fa fd [x] sp)
    (bi : ∀ (s : Shared) (u : Value), BindsTo s fd ⟨[u], []⟩ [(x, u)])
    (want : sp [.ref a] H (fun v _ => v = .bl true) fun _ _ _ => False)
    (lone : Lone H a) (hok : HOk P w H s1.heap) (free : H a ≠ none → K.lookup a = none) :
    codeAny (model P w) callerA (.call (.ref fa) ⟨[.ref a], []⟩)
      (fun r s' => r = .ok (.ret (.bool true)) ∧ OldK s1.heap s'.heap ∧ s'.os = s1.os ∧ AllBare s'.gens) s1 := by
  have at_a : ∀ {b : Addr}, H b ≠ none → b = a := fun {b} h => lone.here b h
  have kept : ∀ {b : Addr} {o : Obj}, s1.heap.get? b = some o → (b = a → H b = none) →
      (hidT s1.heap H).get? b = some o := by
    intro b o e n
    by_cases q : H b = none
    · exact hidT_get e q
    · exact hidT_get e (n (at_a q))
  have nsK : ∀ {b : Addr} {m : Str → Option Value}, s1.heap.Ns b m → (hidT s1.heap H).Ns b m := by
    rintro b m ⟨o, es, ep, e, d, r⟩
    refine ⟨o, es, ep, kept e fun z => ?_, d, r⟩
    subst z
    rw [ha] at e
    cases e
    exact nomatch d
  have hKb : K.In (hidT s1.heap H) := by
    intro b o e
    refine kept (KX b o e) fun z => ?_
    subst z
    by_cases q : H b = none
    · exact q
    · rw [free q] at e
      cases e
  obtain ⟨mc, c1, c2⟩ := lim
  have hM : Mod K mg (hidT s1.heap H) := ⟨hKb, nsK hns, ⟨mb, nsK hb, hbb⟩, mc, nsK c1, c2⟩
  have e0 : Env0 P w K mg (hidT s1.heap H) callerA [] s1 H :=
    ⟨rfl, hM, fun b o e => of_hidT e, Nat.le_of_eq (hidT_size _ _), trivial,
      fun b hb => (nomatch hb), hok, AllBare.of_eq gens⟩
  have ran := (F _ hKb (nsK hns)).run callerA [] s1 H ⟨[.ref a], []⟩ [.ref a] [.ref a] _ _ rfl room e0
    (bi s1 (.ref a)) (.cons rfl .nil) want
  refine codeAny_mono ran fun r s' h => ?_
  match r, h with
  | .error e, h => exact h.elim
  | .ok .next, h => exact h.elim
  | .ok .brk, h => exact h.elim
  | .ok .cont, h => exact h.elim
  | .ok (.ret u), h =>
    obtain ⟨v, H', os, bare, un, hok', r', q⟩ := h
    have q' : v = .bl true := q
    subst q'
    have r2 : u = Value.bool true := r'
    subst r2
    refine ⟨rfl, OldK.of_keep fun b o e => ?_, os, bare⟩
    cases hb : H b with
    | none => exact un.keep b o e hb (fun z => by cases z) (by simp)
    | some u =>
      rcases lone.only b with z | ⟨ob, xs, z⟩
      · rw [hb] at z
        cases z
      · obtain ⟨g1, _⟩ := hok b _ z
        obtain ⟨g2, _⟩ := hok' b _ (un.frzs b ob _ z)
        rw [e] at g1
        cases g1
        exact g2
theorem law_callG (KX : K.In s1.heap) (hns : s1.heap.Ns mainGlobals mg)
    (hb : s1.heap.Ns builtinsNs mb) (hbb : ∀ y : Str, y ≠ "__name__" → mb y = bootBuiltins y)
    (lim : s1.heap.NoLimit) (gens : s1.gens = #[])
    (ha : s1.heap.get? a = some { cls := .type "list", data := .seq vs.toArray })
    (whole : IntsAre vs ns) (few : ns.length ≤ sizeLine) (room : Room k callerA)
    (F : ∀ base : Heap, K.In base → base.Ns mainGlobals mg → FnG P w K mg base CX0 k fa fd [x] sp)
    (bi : ∀ (s : Shared) (u : Value), BindsTo s fd ⟨[u], []⟩ [(x, u)])
    (want : ∀ H : Hp, Only H → SqL K H a (ns.map V.int) → sp [.ref a] H (fun v _ => v = .bl true) fun _ _ _ => False) :
    codeAny (model P w) callerA (.call (.ref fa) ⟨[.ref a], []⟩)
      (fun r s' => r = .ok (.ret (.bool true)) ∧ OldK s1.heap s'.heap ∧ s'.os = s1.os ∧ AllBare s'.gens) s1 := by
  have rv := vals_ints whole
  have nv := whole.length
  cases hk : K.lookup a with
  | some o =>
    have e := KX a o hk
    rw [ha] at e
    cases e
    have o0 : Only (fun _ => none) := fun _ => .inl rfl
    refine law_from KX hns hb hbb lim gens ha room F bi (want _ o0 (.inr ⟨_, vs.toArray, _, hk, rfl, rfl, rfl, ?_, ?_⟩)) ⟨o0, ?_⟩ ?_ ?_
    · rw [List.size_toArray, nv]
      exact few
    · simpa using rv
    · intro b z
      exact absurd rfl z
    · intro b u z
      have z2 : (none : Option HO) = some u := z
      cases z2
    · intro z
      exact absurd rfl z
  | none =>
    let Ha : Hp := fun b => if b = a then some (.frz { cls := .type "list", data := .seq vs.toArray } (.lst (ns.map V.int))) else none
    have yes : Ha a = some (.frz { cls := .type "list", data := .seq vs.toArray } (.lst (ns.map V.int))) := if_pos rfl
    have no : ∀ b, b ≠ a → Ha b = none := fun b n => if_neg n
    have o0 : Only Ha := by
      intro b
      by_cases z : b = a
      · subst z
        exact .inr ⟨_, _, yes⟩
      · exact .inl (no b z)
    refine law_from (H := Ha) KX hns hb hbb lim gens ha room F bi (want _ o0 (.inl (.inr ⟨_, yes⟩))) ⟨o0, ?_⟩ ?_ fun _ => hk
    · intro b z
      by_cases q : b = a
      · exact q
      · exact absurd (no b q) z
    · intro b u z
      by_cases q : b = a
      · subst q
        rw [yes] at z
        cases z
        exact ⟨ha, by rw [List.length_map]; exact few, vs, _, rv, ha⟩
      · rw [no b q] at z
        cases z
end
/-- the walk from such a promise -/
theorem walk_ofG {l : PySem.W.OpenLaw} {n k : Nat} {q : Program} {loose : List Str}
    {XP : (Str → Option Value) → Heap → Prop} {YP : World → Heap → Prop} {d : DefRec}
    {K : Params → PySem.W.Frag} {sp : World → Sp} {x : Str}
    (hn : l.most = some n) (small : n ≤ sizeLine) (hdf : d.params.defaults = []) (room : Room k callerA)
    (hY : ∀ (w : World) (h : Heap), YP w h → (K w.params).In h)
    (F : ∀ (w : World) (mg : Str → Option Value) (fa : Addr) (h : Heap), (K w.params).In h →
      h.Ns mainGlobals mg → mg d.name = some (.ref fa) →
      ∃ fd : FuncData, (∀ (s : Shared) (u : Value), BindsTo s fd ⟨[u], []⟩ [(x, u)]) ∧
        ∀ base : Heap, (K w.params).In base → base.Ns mainGlobals mg →
          FnG l.prog w (K w.params) mg base CX0 k fa fd [x] (sp w))
    (hsp : ∀ (w : World) (H : Hp) (a : Addr) (ns : List Int), ns.length ≤ n → Only H →
      SqL (K w.params) H a (ns.map V.int) → sp w [.ref a] H (fun v _ => v = .bl true) fun _ _ _ => False) :
    PySem.W.WalkO q loose XP YP l.row.toRowW d [] (fun f vs => PySem.call f vs) := by
  refine Att.attach_call hn hdf fun w s0 s1 mg mb fa o pm cd doc a vs ns G Y ho hd hcd hmg hobj whole len gens => ?_
  have KX := hY w _ Y
  obtain ⟨fd, bi, hF⟩ := F w mg fa _ KX G.T.g hmg
  exact law_callG KX G.T.g G.T.b G.T.builtins G.T.nolimit gens hobj whole (Nat.le_trans len small) room hF bi
    fun H hO hS => hsp w H a ns len hO hS
end V3

set_option Elab.async false
set_option linter.all false
set_option maxRecDepth 100000
/-! x in (a, b, ..), where none of the items is x: each item's own == is run -/
namespace V3
open PySem PySem.SeqAt
open AutoSeq1 (wpAny_loadPart')
open MeetsSeq MeetsSeq2 MeetsSeq3 SeqRoads2
section
variable {prog : Program} {w : World} {A : Around} {R : Result → Shared → Prop}
theorem tuple_none (l : Addr) (items : Array Value) (n : Nat) (dd : Option Addr) (sl : Array (Option Value)) (x : Value) (I : Nat → Shared → Prop)
    (turn : ∀ i (h : i < items.size) s, I i s →
      wpAny (model prog w) A.in1 (eqBool items[i] x) (fun r s' => r = false ∧ I (i + 1) s') (fun e s' => R (.error e) s') s)
    (fin : ∀ s, I items.size s → R (.ok (.ret (.bool false))) s) {s : Shared}
    (hl : s.heap.get? l = some { cls := .type "tuple", dict := dd, data := .seq items n, slots := sl }) (h : I 0 s) :
    wpAny (model prog w) A.in1 (Builtin.«tuple.__contains__» ⟨[.ref l, x], []⟩) (GQ.FinOf prog w A R) (fun e s' => R (.error e) s') s := by
  have h0 := h
  obtain ⟨hp, g, d, tk, os⟩ := s
  wp_walk using wpAny_loadPart' hl, wpAny_forIn_array _ (fun rest b s' => b.1 = none ∧ ∃ i, rest = items.toList.drop i ∧ i ≤ items.size ∧ I i s') _
  case turn =>
    rintro y rest b s' ⟨hb, i, hz, hi, hI⟩
    have lt : i < items.toList.length := by
      rcases Nat.lt_or_ge i items.toList.length with q | q
      · exact q
      · rw [List.drop_of_length_le q] at hz
        cases hz
    have lt2 : i < items.size := by simpa using lt
    rw [List.drop_eq_getElem_cons lt] at hz
    injection hz with hy hr
    have hy2 : y = items[i] := by simpa using hy
    subst hy2
    refine wpAny_bind (wpAny_mono (turn i lt2 s' hI) (fun r s2 q => ?_) fun _ _ z => z)
    obtain ⟨rfl, q⟩ := q
    wp_walk
    exact ⟨rfl, i + 1, hr, lt2, q⟩
  case fin =>
    rintro ⟨b1, b2⟩ s' ⟨hb, i, hz, hi, hI⟩
    simp only at hb
    subst hb
    have ge : items.size ≤ i := by
      rcases Nat.lt_or_ge i items.toList.length with q | q
      · rw [List.drop_eq_getElem_cons q] at hz
        cases hz
      · simpa using q
    have e : i = items.size := by omega
    have hR := fin s' (e ▸ hI)
    wp_walk
    first | exact hR | exact ⟨_, rfl, hR⟩ | simpa using hR
  case h =>
    exact ⟨rfl, 0, rfl, Nat.zero_le _, h0⟩
end
end V3

set_option Elab.async false
set_option linter.all false
set_option maxRecDepth 100000
namespace V3
open PySem PySem.SeqAt
open AutoSeq1 (wpAny_loadPart')
section
variable {prog : Program} {w : World} {A : Around} {E : Value → Shared → Prop} {s : Shared} {x : Addr} {o : Obj}
theorem str_declines {z : Str} {t : Tok} {Q : Shared → Prop} (ho : s.heap.get? x = some o) (hd : o.data = .plain) (hq : Q s) :
    wpAny (model prog w) A (call (.builtin "str.__eq__") [.str z t, .ref x]) (fun v s' => v = .notImplemented ∧ Q s') E s := by
  refine GQ.call_here F.slot_str_eq (typeIs_str s z t) F.entry_str_eq (F.args_str_eq_2 _ _) ?_
  obtain ⟨c, dd, da, sl⟩ := o
  simp only at hd
  subst hd
  obtain ⟨hp, g, d, tk, os⟩ := s
  unfold Builtin.«str.__eq__» Builtin.Str.strCompare
  wp_walk using wpAny_load ho
  exact ⟨rfl, hq⟩
theorem none_declines {Q : Shared → Prop} (hq : Q s) :
    wpAny (model prog w) A (call (.builtin "NoneType.__eq__") [.none, .ref x]) (fun v s' => v = .notImplemented ∧ Q s') E s := by
  refine GQ.call_here F.slot_NoneType_eq (typeIs_none s) F.entry_NoneType_eq (F.args_NoneType_eq_2 _ _) ?_
  obtain ⟨hp, g, d, tk, os⟩ := s
  unfold Builtin.«NoneType.__eq__»
  wp_walk
  exact ⟨rfl, hq⟩
theorem tup_declines {K : PySem.W.Frag} {C p : Addr} {od : Option Obj} {items : Array Value} {Q : Shared → Prop} (X : K.In s.heap) (I : PySem.W.InstAt s.heap x o C od) (hs : PySem.W.subIn K (.ref C) (.type "tuple") = some false) (hp : s.heap.IsTuple p items) (hq : Q s) :
    wpAny (model prog w) A (call (.builtin "tuple.__eq__") [.ref p, .ref x]) (fun v s' => v = .notImplemented ∧ Q s') E s := by
  obtain ⟨⟨c1, d1, da, sl⟩, ho, hc, n, hd⟩ := id hp
  simp only at hc hd
  subst hc hd
  refine GQ.call_here F.slot_tuple_eq ⟨_, ho, rfl⟩ F.entry_tuple_eq (F.args_tuple_eq_2 _ _) ?_
  obtain ⟨hh, g, d, tk, os⟩ := s
  wp_walk
  refine wpAny_loadPart I.at_ (wpAny_pure ?_)
  rw [I.cls]
  refine (PySem.W.looks_subIn X hs).here ?_
  wp_walk
  exact ⟨rfl, hq⟩
end
/-! a == b by the own __eq__ of b, where that of a declines -/
section
variable {prog : Program} {w : World} {A : Around} {E : Value → Shared → Prop} {s : Shared} {K : PySem.W.Frag} {x C L f : Addr} {h₀ : Heap} {m : Str → Option Value} {ox : Obj} {od : Option Obj} {a : Value} {T id : String}
theorem turned_K {Q : Value → Shared → Prop} (hu : A.units < cLine) (F : PyProof.Rows.Fr h₀ L s.heap m) (X₀ : K.In h₀) (I : PySem.W.InstAt s.heap x ox C od) (hT : s.TypeIs a T) (sl : Slot T "__eq__" id)
    (one : oneThing? .Eq a (.ref x) = none) (hs : PySem.W.subIn K (.ref C) (.type T) = some false)
    (no : ∀ {Q : Shared → Prop}, Q s → wpAny (model prog w) A (call (.builtin id) [a, .ref x]) (fun v s' => v = .notImplemented ∧ Q s') E s)
    (he : PySem.W.findIn K (.ref C) "__eq__" = some (some (.ref f))) (hf : PySem.W.isFn K (.ref f) = true)
    (h : wpAny (model prog w) A (call (.ref f) [.ref x, a]) (fun v s' => ∃ r, v = .bool r ∧ Q (.bool r) s') E s) : wpAny (model prog w) A (richCompare .Eq a (.ref x)) Q E s := by
  have X := X₀.keeps F.keep
  unfold richCompare
  simp only [one]
  refine wpAny_holding (wpAny_bind (wpAny_cRoomFor hu ?_))
  refine wpAny_bind (wpAny_typeOf hT (wpAny_bind (I.type.here ?_)))
  split
  · refine wpAny_bind ((PySem.W.looks_subIn X hs).here ?_)
    simp only [Bool.false_eq_true, if_false]
    refine wpAny_bind (wpAny_tryCompare_declines hT sl (no ?_))
    simp only [Bool.not_false, if_true]
    have two : wpAny (model prog w) A (tryCompare (.ref x) "__eq__" a) (fun r s' => ∃ v, r = some v ∧ Q v s') E s := by
      unfold tryCompare
      refine wpAny_bind (PySem.W.ifBound_K X I he hf (wpAny_mono h (fun v s' hv => ?_) fun _ _ e => e))
      obtain ⟨r, rfl, q⟩ := hv
      exact wpAny_pure ⟨_, rfl, q⟩
    refine wpAny_bind (wpAny_mono two (fun r s' z => ?_) fun _ _ e => e)
    obtain ⟨v, rfl, hq⟩ := z
    exact wpAny_pure hq
  · rename_i q
    exact absurd (by simp) q
end
end V3

set_option Elab.async false
set_option linter.all false
set_option maxRecDepth 100000
namespace V3
open PySem PySem.Spec PyProof.Rows L2
/-- what of a class is wanted where its objects stand behind texts, None and tuples -/
structure Behind (K : PySem.W.Frag) (C : Addr) : Prop where
  s : PySem.W.subIn K (.ref C) (.type "str") = some false
  n : PySem.W.subIn K (.ref C) (.type "NoneType") = some false
  t : PySem.W.subIn K (.ref C) (.type "tuple") = some false
inductive Plain (H : Hp) : V → Prop where
  | str (z : Str) : Plain H (.str z)
  | non : Plain H .non
  | tup {b : Addr} {ys : List V} (h : H b = some (.tup ys)) : Plain H (.ref b)
section
variable {prog : Program} {w : World} {A : Around} {E : Value → Shared → Prop} {s : Shared}
theorem eqB_str {z : Str} {t : Tok} {a : Addr} {Q : Bool → Shared → Prop} (h : wpAny (model prog w) A (richCompare .Eq (.str z t) (.ref a)) (fun v s' => ∃ r, v = .bool r ∧ Q r s') E s) :
    wpAny (model prog w) A (eqBool (.str z t) (.ref a)) Q E s := by
  unfold eqBool
  refine wpAny_holding (wpAny_ite_split (fun q => absurd (eq_of_beq q) (fun e => nomatch e)) fun _ => ?_)
  refine wpAny_bind (wpAny_mono h (fun v s' hv => ?_) fun _ _ x => x)
  obtain ⟨r, rfl, q⟩ := hv
  exact wpAny_truthy_bool q
theorem eqB_non {a : Addr} {Q : Bool → Shared → Prop} (h : wpAny (model prog w) A (richCompare .Eq .none (.ref a)) (fun v s' => ∃ r, v = .bool r ∧ Q r s') E s) :
    wpAny (model prog w) A (eqBool .none (.ref a)) Q E s := by
  unfold eqBool
  refine wpAny_holding (wpAny_ite_split (fun q => absurd (eq_of_beq q) (fun e => nomatch e)) fun _ => ?_)
  refine wpAny_bind (wpAny_mono h (fun v s' hv => ?_) fun _ _ x => x)
  obtain ⟨r, rfl, q⟩ := hv
  exact wpAny_truthy_bool q
end
section
variable {X : Cx} {n : Nat}
/-- x in (..), x of an own class, no item equal to it -/
def rInO (K : PySem.W.Frag) (FF : Addr → Sp → XK → Prop) : R2 := fun x y H Q => ∃ (a p C dx : Addr) (fs : List (Str × V)) (xs : List V) (sp : Sp) (E : XK), x = .ref a ∧ y = .ref p ∧ H a = some (.ins C dx fs) ∧ H p = some (.tup xs) ∧
  (∀ z ∈ xs, Plain H z) ∧ Behind K C ∧ FF C sp E ∧ (∀ z ∈ xs, sp [.ref a, z] H (fun v H' => v = .bl false ∧ H' = H) E) ∧ Q (.bl false) H
theorem op_inO {FF : Addr → Sp → XK → Prop} (hF : ∀ C sp E, FF C sp E → ∃ (CX : CXT) (f : Addr) (fd : FuncData) (ps : List Str), FnOk X.prog X.w X.K X.mg X.base CX n f fd ps sp ∧ EqCls X.K C f ∧ Binds X.K fd ps [] ∧ Passes CX X E) (hr : Room (n + 1) X.A) :
    OpR X (compareOp .In) (rInO X.K FF) := by
  intro pins s σ H x y v u Q I rx ry hq
  obtain ⟨a, p, C, dx, fs, xs, sp, E, rfl, rfl, ha, hp, pl, bh, ff, hsp, q⟩ := hq
  obtain ⟨CX, f, fd, ps, F, ec, bi, hx⟩ := hF C sp E ff
  cases rx
  cases ry
  obtain ⟨its, rv, ht, hz⟩ := I.tuple (SqT.of hp)
  obtain ⟨⟨c0, dd, da, sl⟩, ho, hc, m, hd⟩ := id ht
  simp only at hc hd
  subst hc hd
  show wpAny (model X.prog X.w) X.A (do return .bool (← contains (.ref p) (.ref a))) (EP X pins σ Q) X.xe s
  refine wpAny_bind (wpAny_contains_slot ⟨_, ho, rfl⟩ PySem.F.slot_tuple_contains (wpAny_mono (GQ.call_here (Q := fun v s' => v = .bool false ∧ Inv X pins σ H s') PySem.F.slot_tuple_contains ⟨_, ho, rfl⟩ PySem.F.entry_tuple_contains (PySem.F.args_tuple_contains_2 _ _)
    (tuple_none p its.toArray m dd sl (.ref a) (fun _ s' => Inv X pins σ H s') ?_ (fun s' J => ⟨rfl, J⟩) ho I)) (fun v s' hv => ?_) fun _ _ e => e))
  · intro i hi s' J
    have hi2 : i < its.length := by simpa using hi
    have hi3 : i < xs.length := by rw [rv.length]; exact hi2
    obtain ⟨u, hu, ru⟩ := rv.get (List.getElem?_eq_getElem hi3)
    have eu : its.toArray[i] = u := by
      rw [List.getElem?_eq_getElem hi2] at hu
      simpa using Option.some.inj hu
    rw [eu]
    have mem : xs[i] ∈ xs := List.getElem_mem hi3
    have pz := pl _ mem
    have own := hsp _ mem
    generalize xs[i] = z at ru pz own
    obtain ⟨mA, O, _⟩ := ins_get J.hok ha
    obtain ⟨od, IA, _⟩ := O.look
    obtain ⟨mm, hFr⟩ := J.fr
    have run : wpAny (model X.prog X.w) X.A.in1 (call (.ref f) [.ref a, u]) (fun v s2 => ∃ r, v = .bool r ∧ r = false ∧ Inv X pins σ H s2) X.xe s' :=
      wpAny_mono (run_own (x := .ref a) (y := z) ⟨hr.in1, rfl⟩ F bi hx J rfl ru own) (fun w s2 k => by
        obtain ⟨z2, H', J2, rz, ez, eH⟩ := k
        subst ez
        subst eH
        cases rz
        exact ⟨false, rfl, rfl, J2⟩) fun _ _ e => e
    have hu1 : X.A.in1.units < cLine := hr.in1.units0
    cases pz with
    | str zz =>
      obtain ⟨t, rfl⟩ := ru
      refine eqB_str (turned_K (T := "str") hu1 hFr J.ok.mod.kin IA (typeIs_str _ _ _) PySem.F.slot_str_eq rfl bh.s (fun k => str_declines IA.at_ rfl k) ec.eq ec.fn (wpAny_mono run (fun v s2 k => ?_) fun _ _ e => e))
      obtain ⟨r, rfl, e, J2⟩ := k
      exact ⟨r, rfl, r, rfl, e, J2⟩
    | non =>
      cases ru
      refine eqB_non (turned_K (T := "NoneType") hu1 hFr J.ok.mod.kin IA (typeIs_none _) PySem.F.slot_NoneType_eq rfl bh.n (fun k => none_declines k) ec.eq ec.fn (wpAny_mono run (fun v s2 k => ?_) fun _ _ e => e))
      obtain ⟨r, rfl, e, J2⟩ := k
      exact ⟨r, rfl, r, rfl, e, J2⟩
    | @tup b ys hb =>
      cases ru
      obtain ⟨its2, r2, ht2, hz2⟩ := J.tuple (SqT.of hb)
      have ne : b ≠ a := by
        intro e
        subst e
        rw [ha] at hb
        cases hb
      obtain ⟨o2, ho2, hc2, _⟩ := id ht2
      refine GQ.eqBool_refG ne (turned_K (T := "tuple") hu1 hFr J.ok.mod.kin IA ⟨o2, ho2, hc2⟩ PySem.F.slot_tuple_eq (by first | rfl | simp [oneThing_ref]) bh.t (fun k => tup_declines J.kIn IA bh.t ht2 k) ec.eq ec.fn (wpAny_mono run (fun v s2 k => ?_) fun _ _ e => e))
      obtain ⟨r, rfl, e, J2⟩ := k
      exact ⟨r, rfl, r, rfl, e, J2⟩
  · obtain ⟨rfl, J⟩ := hv
    exact wpAny_truthy_bool (wpAny_pure ⟨.bl false, H, J, rfl, q⟩)
end
end V3

set_option Elab.async false
set_option linter.all false
set_option maxRecDepth 100000
namespace V3
open PySem L2
def top (i : Nat) : Stmt := PySem.Challenge.pw_contrabooks_k14_rows_left_out.main.body.getD i (.Pass ⟨0, 0, 0, 0⟩)
abbrev sSeed : Stmt := top 27
abbrev sChoose : Stmt := top 28
abbrev sOneOf : Stmt := top 29
/-- the box of draws: two numbers -/
def BoxOk (u v : Int) : Prop := 0 ≤ u ∧ 1 ≤ v ∧ v ≤ 2147483629
def box (u v : Int) : HO := .lst [.int u, .int v]
def BoxAt (H : Hp) (b : Addr) : Prop := ∃ u v, BoxOk u v ∧ H b = some (box u v)
def spSeed (K : PySem.W.Frag) : Sp := fun vs H Q _ => ∃ (a : Addr) (ns : List Int) (k : Int), vs = [.ref a, .int k] ∧ SqL K H a (ns.map V.int) ∧ ns.length ≤ 63 ∧ 0 ≤ k ∧ k ≤ 100 ∧
  ∀ (p : Addr) (u v : Int), H p = none → BoxOk u v → Q (.ref p) (upd H p (box u v))
def spChoose : Sp := fun vs H Q _ => ∃ (b : Addr) (u v m : Int), vs = [.ref b, .int m] ∧ H b = some (box u v) ∧ BoxOk u v ∧ 1 ≤ m ∧ m ≤ 1000000000000 ∧
  ∀ d u' v' : Int, 0 ≤ d → d < m → BoxOk u' v' → Q (.int d) (upd H b (box u' v'))
def spOneOf (K : PySem.W.Frag) : Sp := fun vs H Q _ => ∃ (b l : Addr) (u v : Int) (xs : List V), vs = [.ref b, .ref l] ∧ H b = some (box u v) ∧ BoxOk u v ∧ l ≠ b ∧ SqL K H l xs ∧ 1 ≤ xs.length ∧ xs.length ≤ 1000 ∧
  ∀ (x : V) (u' v' : Int), x ∈ xs → BoxOk u' v' → Q x (upd H b (box u' v'))
structure Blt (mg : Str → Option Value) : Prop where
  len : mg "len" = none
  abs : mg "abs" = none
  int : mg "int" = none
/-- a def that stands at a name of the module -/
def Cal (P : Program) (w : World) (K : PySem.W.Frag) (mg : Str → Option Value) (base : Heap) (CX : CXT) (name : Str) (k : Nat) (ps : List Str) (sp : Sp) : Prop :=
  ∃ (f : Addr) (fd : FuncData), FnOk P w K mg base CX k f fd ps sp ∧ mg name = some (.ref f) ∧ PySem.W.keepIn K (.ref f) = true ∧ Binds K fd ps []
theorem seqL_ne {K : PySem.W.Frag} {H : Hp} {l b : Addr} {o : HO} {xs : List V} (ne : l ≠ b) (h : SqL K H l xs) : SqL K (upd H b o) l xs := by
  rcases h with (h | ⟨o, h⟩) | h
  · exact .inl (.inl (by rw [upd_ne ne]; exact h))
  · exact .inl (.inr ⟨o, by rw [upd_ne ne]; exact h⟩)
  · exact .inr h
theorem atI_ints {ns : List Int} {i : Int} (h0 : 0 ≤ i) (hj : i.toNat < ns.length) : atI (ns.map V.int) i = some (.int ns[i.toNat]) := by
  have e : ixN (ns.map V.int).length i = some i.toNat := by
    unfold ixN
    rw [if_pos h0, if_pos (by rw [List.length_map]; omega)]
  show (ixN (ns.map V.int).length i).bind (fun j => (ns.map V.int)[j]?) = some (.int ns[i.toNat])
  rw [e]
  show (ns.map V.int)[i.toNat]? = some (.int ns[i.toNat])
  rw [List.getElem?_map, List.getElem?_eq_getElem hj]
  rfl
section
variable {P : Program} {w : World} {K : PySem.W.Frag} {mg : Str → Option Value} {base : Heap}
theorem scSeed : FnScope ["_law_script", "_law_k", "_law_cell"] ["_law_script", "_law_k"] (defScope sSeed) := ⟨rfl, rfl, rfl, by decide +kernel, rfl, by decide +kernel, by decide +kernel⟩
theorem scChoose : FnScope ["_law_box", "_law_many", "_law_digit", "_law_first"] ["_law_box", "_law_many"] (defScope sChoose) := ⟨rfl, rfl, rfl, by decide +kernel, rfl, by decide +kernel, by decide +kernel⟩
theorem scOneOf : FnScope ["_law_box", "_law_some"] ["_law_box", "_law_some"] (defScope sOneOf) := ⟨rfl, rfl, rfl, by decide +kernel, rfl, by decide +kernel, by decide +kernel⟩
theorem ok_choose {f : Addr} {fd : FuncData} (F : Fun K "_law_choose" "_law_choose" sChoose f fd) (T : Blt mg) : FnOk P w K mg base CX0 1 f fd ["_law_box", "_law_many"] spChoose := by
  refine F.ok scChoose (fun vs H Q E h => ?_) (fun cdv A outer s H vs Q E hr h => ?_)
  · obtain ⟨b, u, v, m, rfl, _⟩ := h
    rfl
  · obtain ⟨b, u, v, m, rfl, hb, ok, m1, m2, k⟩ := h
    refine ⟨_, pss_cons (ps_if (pt_cmpR op_gt (pe_ix ix_list (pv 0) pe_int (fun _ _ => rfl)) pe_int (nomark _))
        (pss_cons (ps_set (i := 2) scChoose.nd rfl (Or.inl rfl) (pe_op op_mod (pe_callTy call_int1 (by rfl) T.int (by decide +kernel) (pa_cons (pe_ix ix_list (pv 0) pe_int (fun _ _ => rfl)) pa_nil)) (pv 1)))
        (pss_cons (ps_asg (pe_op op_fdivW (pe_ix ix_list (pv 0) pe_int (fun _ _ => rfl)) (pv 1)) (pg_sub (pv 0) pe_int set_list))
        (pss_one (ps_ret (pv 2))))) pss_nil)
      (pss_cons (ps_set (i := 3) scChoose.nd rfl (Or.inl rfl) (pe_op op_mod (pe_callTy call_int1 (by rfl) T.int (by decide +kernel) (pa_cons (pe_op op_add (pe_op op_mul (pe_ix ix_list (pv 0) pe_int (fun _ _ => rfl)) pe_int) pe_int) pa_nil)) pe_int))
      (pss_cons (ps_asg (pe_op op_add (pe_op op_mod (pe_callTy call_int1 (by rfl) T.int (by decide +kernel) (pa_cons (pe_op op_add (pe_op op_mul (pv 3) pe_int) pe_int) pa_nil)) pe_int) pe_int) (pg_sub (pv 0) pe_int set_list))
      (pss_one (ps_ret (pe_op op_mod (pe_callTy call_int1 (by rfl) T.int (by decide +kernel) (pa_cons (pe_op op_fdivW (pe_op op_add (pe_op op_mul (pv 3) pe_int) (pe_ix ix_list (pv 0) pe_int (fun _ _ => rfl))) pe_int) pa_nil)) (pv 1)))))), ?_⟩
    obtain ⟨u0, v1, v2⟩ := ok
    have hm : (0 : Int) < m := by omega
    have hw : m.natAbs < 2 ^ 40 := by
      have : (2 : Nat) ^ 40 = 1099511627776 := by decide
      omega
    refine ⟨_, rfl, b, _, 0, _, rfl, rfl, SqL.of hb, rfl, _, _, rfl, rfl, _, rfl, ?_⟩
    refine ite2 (fun c => ?_) (fun c => ?_)
    · refine ⟨_, rfl, b, _, 0, _, rfl, rfl, SqL.of hb, rfl, .inl ⟨_, rfl, _, rfl, _, _, rfl, rfl, hm, ?_⟩⟩
      refine ⟨_, rfl, b, _, 0, _, rfl, rfl, SqL.of hb, rfl, _, rfl, _, _, rfl, rfl, wide_div hm hw (by decide) (by decide), ?_⟩
      refine ⟨_, rfl, b, _, 0, 0, rfl, rfl, hb, rfl, _, rfl, ?_⟩
      exact k _ _ _ (Int.emod_nonneg _ (by omega)) (Int.emod_lt_of_pos _ hm) ⟨Int.ediv_nonneg u0 (by omega), v1, v2⟩
    · refine ⟨_, rfl, b, _, 1, _, rfl, rfl, SqL.of hb, rfl, _, _, rfl, rfl, .inl (by constructor <;> omega), _, _, rfl, rfl, .inl ⟨_, rfl, _, _, rfl, rfl, (by show (0 : Int) < 2147483563; decide), ?_⟩⟩
      have a1 := Int.emod_nonneg (v * 40014 + 11) (by decide : (2147483563 : Int) ≠ 0)
      have a2 := Int.emod_lt_of_pos (v * 40014 + 11) (by decide : (0 : Int) < 2147483563)
      refine ⟨_, rfl, _, _, rfl, rfl, .inl (by constructor <;> omega), _, _, rfl, rfl, .inl ⟨_, rfl, _, _, rfl, rfl, (by show (0 : Int) < 2147483629; decide), _, _, rfl, rfl, ?_⟩⟩
      refine ⟨_, rfl, b, _, 1, 1, rfl, rfl, hb, rfl, ?_⟩
      have b1 := Int.emod_nonneg ((v * 40014 + 11) % 2147483563 * 40692 + 2903) (by decide : (2147483629 : Int) ≠ 0)
      have b2 := Int.emod_lt_of_pos ((v * 40014 + 11) % 2147483563 * 40692 + 2903) (by decide : (0 : Int) < 2147483629)
      refine ⟨_, rfl, _, _, rfl, rfl, .inl (by constructor <;> omega), _, rfl, b, _, 1, _, rfl, rfl, SqL.of upd_same, rfl, _, _, rfl, rfl, _, _, rfl, rfl, wide_div (b := 14) (by decide) (by decide) (by decide) (by decide), .inl ⟨_, rfl, _, rfl, _, _, rfl, rfl, hm, ?_⟩⟩
      exact k _ _ _ (Int.emod_nonneg _ (by omega)) (Int.emod_lt_of_pos _ hm) ⟨u0, by omega, by omega⟩
theorem ok_oneOf {f : Addr} {fd : FuncData} (F : Fun K "_law_one_of" "_law_one_of" sOneOf f fd) (T : Blt mg) (c : Cal P w K mg base CX0 "_law_choose" 1 ["_law_box", "_law_many"] spChoose) : FnOk P w K mg base CX0 2 f fd ["_law_box", "_law_some"] (spOneOf K) := by
  obtain ⟨fC, fdC, GC, mC, kC, bC⟩ := c
  refine F.ok scOneOf (fun vs H Q E h => ?_) (fun cdv A outer s H vs Q E hr h => ?_)
  · obtain ⟨b, l, u, v, xs, rfl, _⟩ := h
    rfl
  · obtain ⟨b, l, u, v, xs, rfl, hb, ok, ne, hS, x1, x2, k⟩ := h
    refine ⟨_, pss_one (ps_ret (pe_ix ix_list (pv 1) (pe_call GC hr rfl mC kC bC .nil pass0 (pa_cons (pv 0) (pa_cons (pe_callB call_len_seq (by rfl) T.len PySem.boot_len (pa_cons (pv 1) pa_nil)) pa_nil))) (fun _ _ => rfl))), ?_⟩
    refine ⟨_, rfl, _, rfl, _, rfl, l, _, rfl, .inl hS, b, u, v, _, rfl, hb, ok, (by omega), (by omega), fun d u' v' d0 d1 ok' => ?_⟩
    have hj : d.toNat < xs.length := by omega
    refine ⟨l, xs, d, xs[d.toNat], rfl, rfl, ?_, ?_, k _ _ _ (List.getElem_mem hj) ok'⟩
    · exact seqL_ne ne hS
    · have e : ixN xs.length d = some d.toNat := by
        unfold ixN
        rw [if_pos d0, if_pos (by omega)]
      show (ixN xs.length d).bind (fun j => xs[j]?) = some xs[d.toNat]
      rw [e]
      exact List.getElem?_eq_getElem hj
theorem ok_seed {f : Addr} {fd : FuncData} (F : Fun K "_law_seed" "_law_seed" sSeed f fd) (T : Blt mg) : FnOk P w K mg base CX0 1 f fd ["_law_script", "_law_k"] (spSeed K) := by
  refine F.ok scSeed (fun vs H Q E h => ?_) (fun cdv A outer s H vs Q E hr h => ?_)
  · obtain ⟨a, ns, k, rfl, _⟩ := h
    rfl
  · obtain ⟨a, ns, k, rfl, hS, hl, k0, k1, go⟩ := h
    refine ⟨_, pss_cons (ps_set (i := 2) scSeed.nd rfl (Or.inl rfl) (pe_op op_add (pe_op op_mul pe_int (pv 1)) pe_int))
      (pss_cons (ps_if (pt_cmpR op_lt (pv 1) (pe_callB call_len_seq (by rfl) T.len PySem.boot_len (pa_cons (pv 0) pa_nil)) (nomark _))
        (pss_one (ps_set (i := 2) scSeed.nd rfl (Or.inl rfl) (pe_callB call_abs (by rfl) T.abs (by decide +kernel) (pa_cons (pe_ix ix_list (pv 0) (pv 1) (fun _ _ => rfl)) pa_nil))))
        (pss_one (ps_if (pt_cmpR op_gt (pe_callB call_len_seq (by rfl) T.len PySem.boot_len (pa_cons (pv 0) pa_nil)) pe_int (nomark _))
          (pss_one (ps_set (i := 2) scSeed.nd rfl (Or.inl rfl) (pe_op op_add (pv 2) (pe_op op_mul (pe_op op_mod (pe_callTy call_int1 (by rfl) T.int (by decide +kernel) (pa_cons (pe_callB call_abs (by rfl) T.abs (by decide +kernel) (pa_cons (pe_ix ix_list (pv 0) (pe_op op_mod (pe_callTy call_int1 (by rfl) T.int (by decide +kernel) (pa_cons (pv 1) pa_nil)) (pe_callB call_len_seq (by rfl) T.len PySem.boot_len (pa_cons (pv 0) pa_nil))) (fun _ _ => rfl)) pa_nil)) pa_nil)) pe_int) pe_int))))
          pss_nil)))
      (pss_one (ps_ret (pe_lst (pa_cons (pe_ifExp (pt_cmpR op_ge (pv 2) (pe_op op_pow pe_int pe_int) (nomark _)) (pv 2) pe_int)
        (pa_cons (pe_op op_add (pe_op op_mod (pe_callTy call_int1 (by rfl) T.int (by decide +kernel) (pa_cons (pe_op op_add (pe_op op_mul (pe_op op_mod (pe_callTy call_int1 (by rfl) T.int (by decide +kernel) (pa_cons (pv 2) pa_nil)) pe_int) pe_int) (pe_op op_mul pe_int (pv 1))) pa_nil)) pe_int) pe_int) pa_nil)))))), ?_⟩
    have hk1 : -(2 ^ 64) < (7411 : Int) ∧ (7411 : Int) < 2 ^ 64 := by constructor <;> decide
    refine ⟨_, rfl, _, _, rfl, rfl, .inl hk1, _, _, rfl, rfl, ?_⟩
    refine ⟨_, rfl, _, rfl, a, _, rfl, .inl hS, _, _, rfl, rfl, _, rfl, ?_⟩
    rw [List.length_map]
    refine ite2 (fun c => ?wayA) (fun c => ?wayB)
    case' wayA =>
      have c' : k < (ns.length : Int) := of_decide_eq_true c
      have hj : k.toNat < ns.length := by omega
      refine ⟨_, rfl, _, rfl, a, _, k, .int ns[k.toNat], rfl, rfl, hS, atI_ints k0 hj, _, rfl, ?_⟩
      have hc : 0 ≤ (if ns[k.toNat] < 0 then -ns[k.toNat] else ns[k.toNat]) := by split <;> omega
      generalize (if ns[k.toNat] < 0 then -ns[k.toNat] else ns[k.toNat]) = cell at hc
    case' wayB =>
      refine ⟨_, rfl, a, _, rfl, .inl hS, _, _, rfl, rfl, _, rfl, ?_⟩
      rw [List.length_map]
      refine ite2 (fun c2 => ?wayC) (fun c2 => ?wayD)
    case' wayC =>
      have c' : (0 : Int) < (ns.length : Int) := of_decide_eq_true c2
      have r0 := Int.emod_nonneg k (show (ns.length : Int) ≠ 0 by omega)
      have r1 := Int.emod_lt_of_pos k c'
      have hj : (k % (ns.length : Int)).toNat < ns.length := by omega
      refine ⟨_, rfl, _, rfl, _, rfl, .inl ⟨_, rfl, _, rfl, a, _, rfl, .inl hS, _, _, rfl, rfl, (by rw [List.length_map]; exact c'), ?_⟩⟩
      rw [List.length_map]
      refine ⟨a, _, k % (ns.length : Int), .int ns[(k % (ns.length : Int)).toNat], rfl, rfl, hS, atI_ints r0 hj, _, rfl, .inl ⟨_, rfl, _, _, rfl, rfl, (by show (0 : Int) < 2147483629; decide), _, _, rfl, rfl, .inr (by constructor <;> decide), _, _, rfl, rfl, ?_⟩⟩
      generalize (if ns[(k % (ns.length : Int)).toNat] < 0 then -ns[(k % (ns.length : Int)).toNat] else ns[(k % (ns.length : Int)).toNat]) = z
      have z0 := Int.emod_nonneg z (by decide : (2147483629 : Int) ≠ 0)
      have hc : 0 ≤ 7411 * k + 29 + z % 2147483629 * 40093 := by omega
      generalize 7411 * k + 29 + z % 2147483629 * 40093 = cell at hc
    case' wayD =>
      have hc : 0 ≤ 7411 * k + 29 := by omega
      generalize 7411 * k + 29 = cell at hc
    all_goals (
      refine ⟨_, rfl, _, _, rfl, rfl, ⟨by decide, by decide, by decide⟩, _, _, rfl, rfl, _, rfl, ?_⟩
      have e1 := Int.emod_nonneg cell (by decide : (2147483629 : Int) ≠ 0)
      have e2 := Int.emod_lt_of_pos cell (by decide : (0 : Int) < 2147483629)
      have f1 := Int.emod_nonneg (cell % 2147483629 * 48271 + 20021 * k) (by decide : (2147483629 : Int) ≠ 0)
      have f2 := Int.emod_lt_of_pos (cell % 2147483629 * 48271 + 20021 * k) (by decide : (0 : Int) < 2147483629)
      refine ite2 (fun _ => ⟨_, rfl, ?_⟩) (fun _ => ?_)
      all_goals (
        refine ⟨_, rfl, .inl ⟨_, rfl, _, _, rfl, rfl, (by show (0 : Int) < 2147483629; decide), _, _, rfl, rfl, .inl (by constructor <;> omega), _, rfl, _, _, rfl, rfl, .inl (by constructor <;> decide), _, _, rfl, rfl, .inl ⟨_, rfl, _, _, rfl, rfl, (by show (0 : Int) < 2147483629; decide), _, _, rfl, rfl, (by show 2 ≤ sizeLine; decide), fun p hp => ?_⟩⟩⟩
        exact go p _ _ hp ⟨by omega, by omega, by omega⟩))
end
end V3

set_option Elab.async false
set_option linter.all false
set_option maxRecDepth 100000
namespace V3
open PySem L2 TL
def num (i : Int) : Str := Str.ofString (toString i)
def Am (i : Int) : Prop := i.natAbs ≤ 1000000000000
theorem am_log {i : Int} (h : Am i) : i.natAbs.log2 < 1920 := Nat.lt_of_lt_of_le (PySem.Flt.log2_lt_of (k := 40) (by decide) (by
  have : (2 : Nat) ^ 40 = 1099511627776 := by decide
  unfold Am at h
  omega)) (by decide)
theorem num_len {i : Int} (h : Am i) : (num i).length ≤ 1921 := PyProof.Rows.int_text_len_1921 (am_log h)
theorem app_len (x y : Str) : (x ++ y).length = x.length + y.length := PySem.Str.length_append x y
theorem small {n : Nat} (h : n ≤ 10000) : n ≤ sizeLine := Nat.le_trans h (by decide)
def sp1 : Str := " "
theorem tl_num' {t : Int} (h : 0 ≤ t) : tl (num t) = numL t.toNat := by
  have e : ((t.toNat : Nat) : Int) = t := by omega
  have z := tl_num t.toNat
  rw [e] at z
  exact z
theorem num_free {t : Int} {s : Nat} (h : 0 ≤ t) (hs : s < 48 ∨ 57 < s) : s ∉ tl (num t) := by
  rw [tl_num' h]
  exact numL_free hs
theorem sp_tl : tl sp1 = [32] := by decide +kernel
theorem Same.new {p : Addr} {H : Hp} {o : HO} (hp : H p = none) : Same H (upd H p o) := fun c u h => by rw [upd_ne (ne_of_none h hp)]; exact h
theorem made_same {H : Hp} {y dy : Addr} {o1 o2 : HO} (ny : H y = none) (ndy : H dy = none) : Same H (upd (upd H dy o1) y o2) := fun b o e => by
  rw [upd_ne (ne_of_none e ny), upd_ne (ne_of_none e ndy)]
  exact e
theorem made_same2 {H : Hp} {y dy : Addr} {o1 o2 o3 : HO} (ny : H y = none) (ndy : H dy = none) : Same H (upd (upd (upd H dy o1) y o2) y o3) := fun b o e => by
  rw [upd_ne (ne_of_none e ny), upd_ne (ne_of_none e ny), upd_ne (ne_of_none e ndy)]
  exact e
def SameX (b : Addr) (H H' : Hp) : Prop := ∀ c o, c ≠ b → H c = some o → H' c = some o
theorem SameX.refl {b : Addr} {H : Hp} : SameX b H H := fun _ _ _ h => h
theorem SameX.trans {b : Addr} {H H1 H2 : Hp} (s : SameX b H H1) (t : SameX b H1 H2) : SameX b H H2 := fun c o n h => t c o n (s c o n h)
theorem SameX.of {b : Addr} {H H' : Hp} (s : Same H H') : SameX b H H' := fun c o _ h => s c o h
theorem SameX.box {b : Addr} {H : Hp} {o : HO} : SameX b H (upd H b o) := fun c _ n h => by rw [upd_ne n]; exact h
def Pre (b : Addr) (H H' : Hp) : Prop := SameX b H H' ∧ ∃ u v, BoxOk u v ∧ H' b = some (box u v)
theorem Pre.trans {b : Addr} {H H1 H2 : Hp} (s : Pre b H H1) (t : Pre b H1 H2) : Pre b H H2 := ⟨s.1.trans t.1, t.2⟩
theorem Pre.then {b : Addr} {H H1 H2 : Hp} (s : Pre b H H1) (t : Same H1 H2) : Pre b H H2 := by
  obtain ⟨h, u, v, ok, e⟩ := s
  exact ⟨h.trans (SameX.of t), u, v, ok, t _ _ e⟩
theorem Pre.box {b : Addr} {H : Hp} {u v : Int} (ok : BoxOk u v) : Pre b H (upd H b (box u v)) := ⟨SameX.box, u, v, ok, upd_same⟩
theorem Pre.start {b : Addr} {H : Hp} {u v : Int} (ok : BoxOk u v) (h : H b = some (V3.box u v)) : Pre b H H := ⟨SameX.refl, u, v, ok, h⟩
def Keep (H H' : Hp) : Prop := ∀ c o, (∀ xs, o ≠ .lst xs) → H c = some o → H' c = some o
theorem Keep.of {H H' : Hp} (s : Same H H') : Keep H H' := fun c o _ h => s c o h
theorem Keep.lst {H : Hp} {D : Addr} {xs : List V} {o : HO} (hD : H D = some (.lst xs)) : Keep H (upd H D o) := fun c u n h => by
  have nc : c ≠ D := fun e => by
    subst e
    rw [hD] at h
    injection h with h
    exact n _ h.symm
  rw [upd_ne nc]
  exact h
theorem Keep.pre {H H' : Hp} {b : Addr} {xs : List V} (hb : H b = some (.lst xs)) (s : SameX b H H') : Keep H H' := fun c u n h => by
  have nc : c ≠ b := fun e => by
    subst e
    rw [hb] at h
    injection h with h
    exact n _ h.symm
  exact s c u nc h
theorem at_end {α : Type} {xs : List α} {x y : α} {i : Nat} (h : (xs ++ [x])[i]? = some y) : (i < xs.length ∧ xs[i]? = some y) ∨ (i = xs.length ∧ y = x) := by
  by_cases c : i < xs.length
  · exact .inl ⟨c, by rw [List.getElem?_append_left c] at h; exact h⟩
  · rw [List.getElem?_append_right (by omega)] at h
    obtain ⟨l, e⟩ := List.getElem?_eq_some_iff.mp h
    have z : i - xs.length = 0 := by simpa using l
    exact .inr ⟨by omega, by simp [z] at e; exact e.symm⟩
theorem at_old {α : Type} {xs : List α} {x y : α} {i : Nat} (h : xs[i]? = some y) : (xs ++ [x])[i]? = some y := by
  have l := (List.getElem?_eq_some_iff.mp h).1
  rw [List.getElem?_append_left l]
  exact h
theorem at_new {α : Type} {xs : List α} {x : α} {n : Nat} (h : xs.length = n) : (xs ++ [x])[n]? = some x := by
  subst h
  simp
theorem take_next {α : Type} {ms : List α} {m : α} {i : Nat} (h : ms[i]? = some m) : ms.take (i + 1) = ms.take i ++ [m] := by
  rw [List.take_add_one, h]
  rfl
theorem Same.upn {H H1 : Hp} {b : Addr} {o : HO} (s : Same H H1) (nb : H b = none) : Same H (upd H1 b o) := fun c u e => by
  rw [upd_ne (ne_of_none e nb)]
  exact s c u e
theorem Pre.all {b : Addr} {H H' : Hp} (p : Pre b H H') (n : H b = none) : Same H H' := fun c o h => p.1 c o (ne_of_none h n) h
end V3

set_option Elab.async false
set_option linter.all false
set_option maxRecDepth 100000
namespace V3
open PySem L2 TL
/-! rows of houses and of reports: their words and texts -/
def kindL : List Str := ["first", "new", "minus", "plus"]
def stateL : List Str := ["open", "shut"]
def deedL : List Str := ["whole", "part", "right"]
def placeL : List Str := ["now", "there"]
def whoseL : List Str := ["own", "target", "top", "deed"]
inductive Rw where
  | lt (k s d p : Str)
  | ct (k : Str) (w : Int) (o : Str)
  deriving DecidableEq
def Wt (w : Int) : Prop := w = -1 ∨ w = 0 ∨ w = 1
def Rw.ok : Rw → Prop
  | .lt k s d p => k ∈ kindL ∧ s ∈ stateL ∧ d ∈ deedL ∧ p ∈ placeL ∧ (d = "right" → k = "first" ∨ k = "new")
  | .ct k w o => k ∈ kindL ∧ Wt w ∧ o ∈ whoseL
def Rw.words : Rw → List Str
  | .lt k s d p => [k, s, d, p]
  | .ct k w o => [k, num w, o]
def Rw.text (m : Rw) : Str := Str.join sp1 m.words
def Rw.kind : Rw → Nat
  | .lt _ _ _ _ => 0
  | .ct _ _ _ => 1
theorem all_free : ∀ p ∈ kindL ++ stateL ++ deedL ++ placeL ++ whoseL ++ [num (-1), num 0, num 1], (32 ∉ tl p ∧ 10 ∉ tl p) ∧ p.length ≤ 6 := by decide +kernel
theorem wt_word {w : Int} (h : Wt w) : num w ∈ [num (-1), num 0, num 1] := by
  rcases h with rfl | rfl | rfl <;> simp
theorem word_ok {m : Rw} (h : m.ok) : ∀ p ∈ m.words, (32 ∉ tl p ∧ 10 ∉ tl p) ∧ p.length ≤ 6 := by
  intro p hp
  refine all_free p ?_
  cases m with
  | lt k s d q =>
    obtain ⟨a, b, c, e, _⟩ := h
    simp only [Rw.words, List.mem_cons, List.not_mem_nil, or_false] at hp
    simp only [List.mem_append]
    rcases hp with rfl | rfl | rfl | rfl
    · exact .inl (.inl (.inl (.inl (.inl a))))
    · exact .inl (.inl (.inl (.inl (.inr b))))
    · exact .inl (.inl (.inl (.inr c)))
    · exact .inl (.inl (.inr e))
  | ct k w o =>
    obtain ⟨a, b, c⟩ := h
    simp only [Rw.words, List.mem_cons, List.not_mem_nil, or_false] at hp
    simp only [List.mem_append]
    rcases hp with rfl | rfl | rfl
    · exact .inl (.inl (.inl (.inl (.inl a))))
    · exact .inr (wt_word b)
    · exact .inl (.inr c)
theorem rw_ne (m : Rw) : m.words ≠ [] := by cases m <;> exact (fun z => nomatch z)
theorem rw_split {m : Rw} (h : m.ok) : Txt.split m.text sp1 = m.words := by
  unfold Rw.text
  have z := split_join sp_tl (by decide +kernel) (rw_ne m) fun p hp => (word_ok h p hp).1.1
  rw [join_eq] at z
  exact z
theorem wt_inj {v w : Int} (hv : Wt v) (hw : Wt w) (e : num v = num w) : v = w := by
  have d1 : num (-1) ≠ num 0 := by decide +kernel
  have d2 : num (-1) ≠ num 1 := by decide +kernel
  have d3 : num 0 ≠ num 1 := by decide +kernel
  rcases hv with rfl | rfl | rfl <;> rcases hw with rfl | rfl | rfl <;> first | rfl | exact absurd e d1 | exact absurd e d2 | exact absurd e d3 | exact absurd e.symm d1 | exact absurd e.symm d2 | exact absurd e.symm d3
theorem rw_inj {m n : Rw} (hm : m.ok) (hn : n.ok) (h : m.text = n.text) : m = n := by
  have e : m.words = n.words := by rw [← rw_split hm, ← rw_split hn, h]
  cases m with
  | lt k s d p =>
    cases n with
    | lt k' s' d' p' =>
      simp only [Rw.words, List.cons.injEq, and_true] at e
      obtain ⟨rfl, rfl, rfl, rfl⟩ := e
      rfl
    | ct k' w' o' => simp [Rw.words] at e
  | ct k w o =>
    cases n with
    | lt k' s' d' p' => simp [Rw.words] at e
    | ct k' w' o' =>
      simp only [Rw.words, List.cons.injEq, and_true] at e
      obtain ⟨rfl, ew, rfl⟩ := e
      rw [wt_inj hm.2.1 hn.2.1 ew]
theorem rw_dec {m n : Rw} (hm : m.ok) (hn : n.ok) : decide (m.text = n.text) = decide (m = n) := by
  by_cases h : m = n
  · rw [h, decide_eq_true rfl, decide_eq_true rfl]
  · rw [decide_eq_false h, decide_eq_false (fun e => h (rw_inj hm hn e))]
/-- what the two classes write -/
theorem let_text (k s d p : Str) : Str.empty ++ k ++ " " ++ s ++ " " ++ d ++ " " ++ p = (Rw.lt k s d p).text := ext_tl (by
  unfold Rw.text
  rw [tl_join]
  have e : tl (" " : Str) = [32] := by decide +kernel
  simp only [tl_append, Rw.words, List.map, joinL, sp_tl, e]
  simp [Str.empty, tl])
theorem cnt_text (k : Str) (w : Int) (o : Str) : Str.empty ++ k ++ " " ++ num w ++ " " ++ o = (Rw.ct k w o).text := ext_tl (by
  unfold Rw.text
  rw [tl_join]
  have e : tl (" " : Str) = [32] := by decide +kernel
  simp only [tl_append, Rw.words, List.map, joinL, sp_tl, e]
  simp [Str.empty, tl])
theorem inV_str {k : Str} {L : List Str} : inV (.str k) (L.map V.str) = decide (k ∈ L) := by
  induction L with
  | nil => rfl
  | cons a r ih =>
    have e : inV (.str k) ((a :: r).map V.str) = (a == k || inV (.str k) (r.map V.str)) := rfl
    rw [e, ih]
    by_cases q : k = a
    · subst q
      simp
    · have z : (a == k) = false := Bool.eq_false_iff.mpr fun w => q (eq_of_beq w).symm
      rw [z]
      simp [q]
theorem flat_strs (L : List Str) : (L.map V.str).all flatV = true := by
  induction L with
  | nil => rfl
  | cons a r ih => simpa [flatV] using ih
/-- fields -/
theorem putF_ne {f g : Str} {v x : V} {r : List (Str × V)} (h : g ≠ f) : putF f v ((g, x) :: r) = (g, x) :: putF f v r := by
  show (if g = f then _ else _) = _
  rw [if_neg h]
theorem lk_ne {f g : Str} {v : V} {r : List (Str × V)} (h : (g == f) = false) : List.lookup g ((f, v) :: r) = List.lookup g r := by
  simp [List.lookup, h]
structure Rc where
  L : Addr
  C : Addr
def Rc.at (c : Rc) : Nat → Addr
  | 0 => c.L
  | _ => c.C
def letF (k s d p : V) : List (Str × V) := [("kind", k), ("state", s), ("deed", d), ("place", p)]
def cntF (k w o : V) : List (Str × V) := [("kind", k), ("weight", w), ("whose", o)]
def Rw.fs : Rw → List (Str × V)
  | .lt k s d p => letF (.str k) (.str s) (.str d) (.str p)
  | .ct k w o => cntF (.str k) (.int w) (.str o)
def Rw.obj (c : Rc) (dx : Addr) (m : Rw) : HO := .ins (c.at m.kind) dx m.fs
def RwAt (c : Rc) (H : Hp) (v : V) (m : Rw) : Prop := ∃ x dx, v = .ref x ∧ H x = some (m.obj c dx)
theorem RwAt.keep {c : Rc} {H H' : Hp} {v : V} {m : Rw} (h : RwAt c H v m) (s : Keep H H') : RwAt c H' v m := by
  obtain ⟨x, dx, e, hx⟩ := h
  exact ⟨x, dx, e, s _ _ (fun _ z => by cases z) hx⟩
theorem RwAt.same {c : Rc} {H H' : Hp} {v : V} {m : Rw} (h : RwAt c H v m) (s : Same H H') : RwAt c H' v m := h.keep (Keep.of s)
theorem rkind_lt (m : Rw) : m.kind < 2 := by cases m <;> (simp only [Rw.kind]; omega)
theorem let_put (k s d p : V) : putF "place" p (putF "deed" d (putF "state" s (putF "kind" k []))) = letF k s d p := by
  have a1 : ("kind" : Str) ≠ "state" := by decide +kernel
  have a2 : ("kind" : Str) ≠ "deed" := by decide +kernel
  have a3 : ("kind" : Str) ≠ "place" := by decide +kernel
  have a4 : ("state" : Str) ≠ "deed" := by decide +kernel
  have a5 : ("state" : Str) ≠ "place" := by decide +kernel
  have a6 : ("deed" : Str) ≠ "place" := by decide +kernel
  show putF "place" p (putF "deed" d (putF "state" s [("kind", k)])) = _
  rw [putF_ne a1]
  show putF "place" p (putF "deed" d [("kind", k), ("state", s)]) = _
  rw [putF_ne a2, putF_ne a4]
  show putF "place" p [("kind", k), ("state", s), ("deed", d)] = _
  rw [putF_ne a3, putF_ne a5, putF_ne a6]
  rfl
theorem cnt_put (k w o : V) : putF "whose" o (putF "weight" w (putF "kind" k [])) = cntF k w o := by
  have a1 : ("kind" : Str) ≠ "weight" := by decide +kernel
  have a2 : ("kind" : Str) ≠ "whose" := by decide +kernel
  have a3 : ("weight" : Str) ≠ "whose" := by decide +kernel
  show putF "whose" o (putF "weight" w [("kind", k)]) = _
  rw [putF_ne a1]
  show putF "whose" o [("kind", k), ("weight", w)] = _
  rw [putF_ne a2, putF_ne a3]
  rfl
theorem let_kind (k s d p : V) : (letF k s d p).lookup ("kind" : Str) = some k := rfl
theorem let_state (k s d p : V) : (letF k s d p).lookup ("state" : Str) = some s := by
  unfold letF
  rw [lk_ne (by decide +kernel)]
  rfl
theorem let_deed (k s d p : V) : (letF k s d p).lookup ("deed" : Str) = some d := by
  unfold letF
  rw [lk_ne (by decide +kernel), lk_ne (by decide +kernel)]
  rfl
theorem let_place (k s d p : V) : (letF k s d p).lookup ("place" : Str) = some p := by
  unfold letF
  rw [lk_ne (by decide +kernel), lk_ne (by decide +kernel), lk_ne (by decide +kernel)]
  rfl
theorem cnt_kind (k w o : V) : (cntF k w o).lookup ("kind" : Str) = some k := rfl
theorem cnt_weight (k w o : V) : (cntF k w o).lookup ("weight" : Str) = some w := by
  unfold cntF
  rw [lk_ne (by decide +kernel)]
  rfl
theorem cnt_whose (k w o : V) : (cntF k w o).lookup ("whose" : Str) = some o := by
  unfold cntF
  rw [lk_ne (by decide +kernel), lk_ne (by decide +kernel)]
  rfl
end V3

set_option Elab.async false
set_option linter.all false
set_option maxRecDepth 100000
namespace V3
open PySem L2 TL
abbrev sWrongWord : Stmt := top 19
abbrev sLInit : Stmt := inClass (top 17) 0
abbrev sLStr : Stmt := inClass (top 17) 2
/-! the rows of houses alone -/
structure RowH (K : PySem.W.Frag) (mg : Str → Option Value) (KA SA DA PA : Addr) : Prop where
  kinds : mg "KINDS" = some (.ref KA)
  states : mg "STATES" = some (.ref SA)
  deeds : mg "DEEDS" = some (.ref DA)
  places : mg "PLACES" = some (.ref PA)
  tK : ∀ H, SqT K H KA (kindL.map V.str)
  tS : ∀ H, SqT K H SA (stateL.map V.str)
  tD : ∀ H, SqT K H DA (deedL.map V.str)
  tP : ∀ H, SqT K H PA (placeL.map V.str)
structure BltR (mg : Str → Option Value) : Prop where
  isi : mg "isinstance" = none
  int : mg "int" = none
  bool : mg "bool" = none
  str : mg "str" = none
def spIntI : Sp := fun vs H Q _ => ∃ i : Int, vs = [.int i] ∧ Q (.bl true) H
def spWord : Sp := fun vs H Q _ => ∃ k s d p, vs = [.str k, .str s, .str d, .str p] ∧ (Rw.lt k s d p).ok ∧ ∀ H', Same H H' → Q .non H'
def spLInit (c : Rc) : Sp := fun vs H Q _ => ∃ x dx k s d p, vs = [.ref x, .str k, .str s, .str d, .str p] ∧ H x = some (.ins c.L dx []) ∧ (Rw.lt k s d p).ok ∧ ∀ H', SameX x H H' → H' x = some ((Rw.lt k s d p).obj c dx) → Q .non H'
def spRS (c : Rc) (k : Nat) : Sp := fun vs H Q _ => ∃ (x dx : Addr) (m : Rw), vs = [.ref x] ∧ H x = some (m.obj c dx) ∧ m.kind = k ∧ m.ok ∧ Q (.str m.text) H
theorem lt_put {f : Str} {v : V} {n : Nat} : ∀ {fs : List (Str × V)}, fs.length < n → (putF f v fs).length < n + 1
  | [], h => by
    show 1 < n + 1
    have : 0 < n := h
    omega
  | (g, x) :: r, h => by
    show (if g = f then (g, v) :: r else (g, x) :: putF f v r).length < n + 1
    have l : r.length + 1 < n := h
    split
    · show r.length + 1 < n + 1
      omega
    · have z := lt_put (f := f) (v := v) (n := n - 1) (fs := r) (by omega)
      show (putF f v r).length + 1 < n + 1
      omega
theorem SameX.upd {x : Addr} {H H' : Hp} {o : HO} (s : SameX x H H') : SameX x H (upd H' x o) := fun c u n h => by
  rw [upd_ne n]
  exact s c u n h
/-- what an object's class must have of its fields -/
structure LetC (K : PySem.W.Frag) (c : Rc) : Prop where
  cl : Cls K c.L
  k : NoAttr K c.L "kind"
  s : NoAttr K c.L "state"
  d : NoAttr K c.L "deed"
  p : NoAttr K c.L "place"
section
variable {P : Program} {w : World} {K : PySem.W.Frag} {mg : Str → Option Value} {base : Heap} {KA SA DA PA : Addr}
theorem scWord : FnScope ["kind", "state", "deed", "place"] ["kind", "state", "deed", "place"] (defScope sWrongWord) := ⟨rfl, rfl, rfl, by decide +kernel, rfl, by decide +kernel, by decide +kernel⟩
theorem scLInit : FnScope ["self", "kind", "state", "deed", "place", "wrong"] ["self", "kind", "state", "deed", "place"] (defScope sLInit) := ⟨rfl, rfl, rfl, by decide +kernel, rfl, by decide +kernel, by decide +kernel⟩
theorem scLStr : FnScope ["self"] ["self"] (defScope sLStr) := ⟨rfl, rfl, rfl, by decide +kernel, rfl, by decide +kernel, by decide +kernel⟩
theorem ok_word {f : Addr} {fd : FuncData} (F : Fun K "wrong_word" "wrong_word" sWrongWord f fd) (T : RowH K mg KA SA DA PA) : FnOk P w K mg base CX0 1 f fd ["kind", "state", "deed", "place"] spWord := by
  refine F.ok scWord (fun vs H Q E h => ?_) (fun cdv A outer s H vs Q E hr h => ?_)
  · obtain ⟨k, s, d, p, rfl, _⟩ := h
    rfl
  · obtain ⟨k, s, d, p, rfl, ⟨k1, s1, d1, p1, r1⟩, q⟩ := h
    refine ⟨_, pss_cons (ps_if (pt_cmpR op_notIn_seq (pv 0) (pe_glob (v := .ref KA) rfl T.kinds rfl) rfl) (pss_one (ps_ret pe_str)) pss_nil)
      (pss_cons (ps_if (pt_cmpR op_notIn_seq (pv 1) (pe_glob (v := .ref SA) rfl T.states rfl) rfl) (pss_one (ps_ret pe_str)) pss_nil)
      (pss_cons (ps_if (PW.pt (pw_or (pt_cmpR op_notIn_seq (pv 2) (pe_glob (v := .ref DA) rfl T.deeds rfl) rfl) (pw_or1 (PW.pt (pw_and (pt_cmpR op_eq (pv 2) pe_str (nomark _)) (pw_and1 (pt_cmpR op_in_seq (pv 0) (pe_tup (pa_cons pe_str (pa_cons pe_str pa_nil))) rfl))))))) (pss_one (ps_ret pe_str)) pss_nil)
      (pss_cons (ps_if (pt_cmpR op_notIn_seq (pv 3) (pe_glob (v := .ref PA) rfl T.places rfl) rfl) (pss_one (ps_ret pe_str)) pss_nil)
      (pss_one (ps_ret pe_non))))), ?_⟩
    refine ⟨_, rfl, KA, _, rfl, .inr (T.tK _), rfl, flat_strs _, _, rfl, ?_⟩
    rw [inV_str, decide_eq_true k1]
    refine iteF ⟨_, rfl, SA, _, rfl, .inr (T.tS _), rfl, flat_strs _, _, rfl, ?_⟩
    rw [inV_str, decide_eq_true s1]
    refine iteF ⟨_, rfl, DA, _, rfl, .inr (T.tD _), rfl, flat_strs _, _, rfl, ?_⟩
    rw [inV_str, decide_eq_true d1]
    refine iteF ⟨_, rfl, rfl, _, rfl, ?_⟩
    have last : ∀ H', Same H H' → Q .non H' := q
    by_cases e : d = "right"
    · subst e
      rw [decide_eq_true rfl]
      refine iteT ⟨_, rfl, (by show 2 ≤ sizeLine; decide), fun t nt => ⟨t, _, rfl, .inr (SqT.of upd_same), rfl, rfl, _, rfl, ?_⟩⟩
      have z : inV (.str k) [.str "minus", .str "plus"] = false := by
        rcases r1 rfl with rfl | rfl <;> decide +kernel
      have z2 : (if false = true then !inV (V.str k) [.str "minus", .str "plus"] else inV (V.str k) [.str "minus", .str "plus"]) = false := by rw [if_neg Bool.false_ne_true, z]
      rw [z2]
      refine iteF ⟨_, rfl, PA, _, rfl, .inr (T.tP _), rfl, flat_strs _, _, rfl, ?_⟩
      rw [inV_str, decide_eq_true p1]
      exact iteF (last _ (Same.new nt))
    · have e2 : decide (V.str d = V.str "right") = false := decide_eq_false (fun z => e (by injection z))
      rw [e2]
      refine iteF ⟨_, rfl, PA, _, rfl, .inr (T.tP _), rfl, flat_strs _, _, rfl, ?_⟩
      rw [inV_str, decide_eq_true p1]
      exact iteF (last _ (Same.refl H))
theorem ok_lInit {f : Addr} {c : Rc} {fd : FuncData} (F : Fun K "__init__" "Let.__init__" sLInit f fd) (L : LetC K c) (cW : Cal P w K mg base CX0 "wrong_word" 1 ["kind", "state", "deed", "place"] spWord) : FnOk P w K mg base CX0 2 f fd ["self", "kind", "state", "deed", "place"] (spLInit c) := by
  obtain ⟨fW, fdW, GW, mW, kW, bW⟩ := cW
  refine F.ok scLInit (fun vs H Q E h => ?_) (fun cdv A outer s H vs Q E hr h => ?_)
  · obtain ⟨x, dx, k, s, d, p, rfl, _⟩ := h
    rfl
  · obtain ⟨x, dx, k, s, d, p, rfl, hx, ok, q⟩ := h
    refine ⟨_, pss_cons (ps_set (i := 5) scLInit.nd rfl (Or.inl rfl) (pe_call GW hr rfl mW kW bW .nil pass0 (pa_cons (pv 1) (pa_cons (pv 2) (pa_cons (pv 3) (pa_cons (pv 4) pa_nil))))))
      (pss_cons (ps_if (pt_cmpR op_notN (pv 5) pe_non (nomark _)) (pss_one ps_never) pss_nil)
      (pss_cons (ps_fld (pv 0) (pv 1) rfl)
      (pss_cons (ps_fld (pv 0) (pv 2) rfl)
      (pss_cons (ps_fld (pv 0) (pv 3) rfl)
      (pss_one (ps_fld (pv 0) (pv 4) rfl)))))), ?_⟩
    refine ⟨_, rfl, _, rfl, _, rfl, _, rfl, k, s, d, p, rfl, ok, fun H1 s1 => ?_⟩
    refine ⟨_, rfl, rfl, _, rfl, iteF ?_⟩
    have hx1 := s1 _ _ hx
    refine ⟨_, rfl, _, rfl, x, c.L, dx, _, rfl, hx1, L.cl, L.k, (by show 0 < 1000; decide), ?_⟩
    refine ⟨_, rfl, _, rfl, x, c.L, dx, _, rfl, upd_same, L.cl, L.s, (by show 1 < 1000; decide), ?_⟩
    rw [upd_upd]
    refine ⟨_, rfl, _, rfl, x, c.L, dx, _, rfl, upd_same, L.cl, L.d, (lt_put (n := 999) (lt_put (n := 998) (by show 0 < 998; decide))), ?_⟩
    rw [upd_upd]
    refine ⟨_, rfl, _, rfl, x, c.L, dx, _, rfl, upd_same, L.cl, L.p, (lt_put (n := 999) (lt_put (n := 998) (lt_put (n := 997) (by show 0 < 997; decide)))), ?_⟩
    rw [upd_upd, let_put]
    exact q _ (SameX.of s1).upd upd_same
theorem ok_lStr {f : Addr} {c : Rc} {fd : FuncData} (F : Fun K "__str__" "Let.__str__" sLStr f fd) (L : LetC K c) : FnOk P w K mg base CX0 1 f fd ["self"] (spRS c 0) := by
  refine F.ok scLStr (fun vs H Q E h => ?_) (fun cdv A outer s H vs Q E hr h => ?_)
  · obtain ⟨x, dx, m, rfl, _⟩ := h
    rfl
  · obtain ⟨x, dx, m, rfl, hx, hk, ok, q⟩ := h
    cases m with
    | ct k w o => cases hk
    | lt k s d p =>
      have l : ∀ z ∈ (Rw.lt k s d p).words, z.length ≤ 6 := fun z hz => (word_ok ok z hz).2
      simp only [Rw.words, List.mem_cons, List.not_mem_nil, or_false, forall_eq_or_imp, forall_eq] at l
      obtain ⟨l1, l2, l3, l4⟩ := l
      have l0 : (Str.empty).length = 0 := rfl
      have lb : (" " : Str).length = 1 := by decide +kernel
      refine ⟨_, (pss_one (ps_ret (pe_joined (.cons (pe_fmt (pe_fld (pv 0) rfl)) (.cons pe_str (.cons (pe_fmt (pe_fld (pv 0) rfl)) (.cons pe_str (.cons (pe_fmt (pe_fld (pv 0) rfl)) (.cons pe_str (.cons (pe_fmt (pe_fld (pv 0) rfl)) .nil)))))))))), ?_⟩
      refine ⟨_, rfl, x, c.L, dx, _, _, rfl, hx, L.cl, L.k, let_kind .., .inl ⟨k, rfl, small (by omega), _, rfl, small (by rw [app_len]; omega), ?_⟩⟩
      refine ⟨_, rfl, small (by simp only [app_len]; omega), ?_⟩
      refine ⟨_, rfl, x, c.L, dx, _, _, rfl, hx, L.cl, L.s, let_state .., .inl ⟨s, rfl, small (by omega), _, rfl, small (by simp only [app_len]; omega), ?_⟩⟩
      refine ⟨_, rfl, small (by simp only [app_len]; omega), ?_⟩
      refine ⟨_, rfl, x, c.L, dx, _, _, rfl, hx, L.cl, L.d, let_deed .., .inl ⟨d, rfl, small (by omega), _, rfl, small (by simp only [app_len]; omega), ?_⟩⟩
      refine ⟨_, rfl, small (by simp only [app_len]; omega), ?_⟩
      refine ⟨_, rfl, x, c.L, dx, _, _, rfl, hx, L.cl, L.p, let_place .., .inl ⟨p, rfl, small (by omega), _, rfl, small (by simp only [app_len]; omega), ?_⟩⟩
      rw [← let_text] at q
      exact q
end
end V3

set_option Elab.async false
set_option linter.all false
set_option maxRecDepth 100000
namespace V3
open PySem L2 TL
abbrev sRows : Stmt := top 30
abbrev sLetOf : Stmt := top 34
section
variable {X : Cx} {e : Expr} {o : Expr} {to te : TE}
def rJoinK (K : PySem.W.Frag) : V → List V → Hp → VK → Prop := fun x xs H Q => ∃ a p, ∃ ys : List Str, x = .str a ∧ xs = [.ref p] ∧ (SqL K H p (ys.map V.str) ∨ SqT K H p (ys.map V.str)) ∧
  (ys.map (·.length)).sum + ys.length * a.length ≤ 16777216 ∧ Q (.str (Txt.join a ys)) H
/-- the same rules, K said -/
theorem pe_joinK {K : PySem.W.Frag} {apos pos : Pos} (ho : PE X o to) (he : PE X e te) (hK : X.K = K := by rfl) (hs : starEach [e] X.env = [(false, eval e X.env)] := by rfl) (hbase : attributeBase o "join" X.env (eval o X.env) = eval o X.env := by rfl) (hline : (apos.endLine == pos.line) = true := by rfl) :
    PE X (.Call (.Attribute o "join" apos) [e] [] pos) (tM1 (rJoinK K) to te) := by
  subst hK
  exact pe_join ho he hs hbase hline
theorem pe_ixT {K : PySem.W.Frag} {a b : Expr} {ta tb : TE} {pos : Pos} (ha : PE X a ta) (hb : PE X b tb) (hs : PlainIx b) (hK : X.K = K := by rfl) : PE X (.Subscript a b pos) (tOp (rIxT K) ta tb) := by
  subst hK
  exact pe_ix ix_tup ha hb hs
theorem pe_ixL {K : PySem.W.Frag} {a b : Expr} {ta tb : TE} {pos : Pos} (ha : PE X a ta) (hb : PE X b tb) (hs : PlainIx b) (hK : X.K = K := by rfl) : PE X (.Subscript a b pos) (tOp (rIxL K) ta tb) := by
  subst hK
  exact pe_ix ix_list ha hb hs
end
/-- a list of values that stand for those of another list -/
def Ls {α : Type} (R : V → α → Prop) (vs : List V) (ms : List α) : Prop := vs.length = ms.length ∧ ∀ (i : Nat) (m : α), ms[i]? = some m → ∃ v, vs[i]? = some v ∧ R v m
theorem Ls.nil {α : Type} {R : V → α → Prop} : Ls R [] [] := ⟨rfl, fun i m h => by simp at h⟩
theorem Ls.imp {α : Type} {R R' : V → α → Prop} {vs : List V} {ms : List α} (d : Ls R vs ms) (h : ∀ v m, R v m → R' v m) : Ls R' vs ms := ⟨d.1, fun i m e => by
  obtain ⟨v, e', r⟩ := d.2 i m e
  exact ⟨v, e', h _ _ r⟩⟩
theorem Ls.push {α : Type} {R : V → α → Prop} {vs : List V} {ms : List α} {v : V} {m : α} (d : Ls R vs ms) (t : R v m) : Ls R (vs ++ [v]) (ms ++ [m]) := by
  refine ⟨by simp [d.1], fun i n hn => ?_⟩
  rcases at_end hn with ⟨_, q⟩ | ⟨rfl, rfl⟩
  · obtain ⟨w, e, t'⟩ := d.2 i n q
    exact ⟨w, at_old e, t'⟩
  · exact ⟨v, at_new d.1, t⟩
theorem Ls.get {α : Type} {R : V → α → Prop} {vs : List V} {ms : List α} {v : V} {i : Nat} (d : Ls R vs ms) (h : vs[i]? = some v) : ∃ m, ms[i]? = some m ∧ R v m := by
  have l := (List.getElem?_eq_some_iff.mp h).1
  have e := List.getElem?_eq_getElem (l := ms) (i := i) (by rw [← d.1]; exact l)
  obtain ⟨w, q, t⟩ := d.2 i _ e
  rw [h] at q
  injection q with q
  subst q
  exact ⟨_, e, t⟩
theorem Ls.get2 {α : Type} {R : V → α → Prop} {vs : List V} {ms : List α} {v : V} {i : Nat} {m : α} (d : Ls R vs ms) (h : vs[i]? = some v) (hm : ms[i]? = some m) : R v m := by
  obtain ⟨w, q, t⟩ := d.2 i _ hm
  rw [h] at q
  injection q with q
  subst q
  exact t
/-- the tuple of a row -/
def Rw.tupV : Rw → List V
  | .lt k s d p => [.str k, .str s, .str d, .str p]
  | .ct k w o => [.str k, .int w, .str o]
def TpAt (H : Hp) (v : V) (m : Rw) : Prop := ∃ p, v = .ref p ∧ H p = some (.tup m.tupV)
theorem TpAt.keep {H H' : Hp} {v : V} {m : Rw} (h : TpAt H v m) (s : Keep H H') : TpAt H' v m := by
  obtain ⟨p, e, hp⟩ := h
  exact ⟨p, e, s _ _ (fun _ z => by cases z) hp⟩
theorem TpAt.same {H H' : Hp} {v : V} {m : Rw} (h : TpAt H v m) (s : Same H H') : TpAt H' v m := h.keep (Keep.of s)
/-- tuples of rows, each of them a row of a kind -/
def RowLs (kd : Nat) (H : Hp) (vs : List V) (ms : List Rw) : Prop := Ls (fun v m => TpAt H v m ∧ m.ok ∧ m.kind = kd) vs ms
theorem RowLs.keep {kd : Nat} {H H' : Hp} {vs : List V} {ms : List Rw} (d : RowLs kd H vs ms) (s : Keep H H') : RowLs kd H' vs ms := d.imp fun _ _ h => ⟨h.1.keep s, h.2⟩
def spRows : Sp := fun vs H Q _ => ∃ (b : Addr) (u v : Int) (n : Int), vs = [.ref b, .int n] ∧ H b = some (box u v) ∧ BoxOk u v ∧ 0 ≤ n ∧ n ≤ 100 ∧
  ∀ (D : Addr) (xs : List V) (ms : List Rw) (H' : Hp), Pre b H H' → H' D = some (.lst xs) → D ≠ b → (∀ c o, c ≠ b → H c = some o → c ≠ D) → RowLs 0 H' xs ms → (ms.length : Int) = n → Q (.ref D) H'
def spLetOf (c : Rc) : Sp := fun vs H Q _ => ∃ (v : V) (m : Rw), vs = [v] ∧ TpAt H v m ∧ m.ok ∧ m.kind = 0 ∧ ∀ (x : V) (H' : Hp), Same H H' → RwAt c H' x m → Q x H'
structure MkR (P : Program) (w : World) (K : PySem.W.Frag) (mg : Str → Option Value) (base : Heap) (name : Str) (ps : List Str) (C : Addr) (k : Nat) (spI : Sp) : Prop where
  g : mg name = some (.ref C)
  ini : ∃ (f : Addr) (fd : FuncData), FnOk P w K mg base CX0 k f fd ps spI ∧ Mk K C f ∧ Binds K fd ps []
structure BltG (mg : Str → Option Value) : Prop where
  range : mg "range" = none
  str : mg "str" = none
theorem mk_let {c : Rc} {x dx : Addr} {H : Hp} {k s d p : Str} {R : VK} {E : XK} (ok : (Rw.lt k s d p).ok) (nx : H x = none) (ndx : H dx = none) (q : ∀ H', Same H H' → RwAt c H' (.ref x) (.lt k s d p) → R .non H') :
    spLInit c [.ref x, .str k, .str s, .str d, .str p] (upd (upd H dx (.own x)) x (.ins c.L dx [])) R E :=
  ⟨x, dx, k, s, d, p, rfl, upd_same, ok, fun H' s' hx => q H' (fun a o e => s' a o (ne_of_none e nx) (made_same nx ndx a o e)) ⟨x, dx, rfl, hx⟩⟩
theorem oneOf_at {K : PySem.W.Frag} {b l : Addr} {u v : Int} {H : Hp} {xs : List V} {Q : VK} (hb : H b = some (box u v)) (ok : BoxOk u v) (ne : l ≠ b) (hl : H l = some (.lst xs)) (h1 : 1 ≤ xs.length) (h2 : xs.length ≤ 1000)
    (k : ∀ x H', x ∈ xs → Pre b H H' → Q x H') : spOneOf K [.ref b, .ref l] H Q E :=
  ⟨b, l, u, v, xs, rfl, hb, ok, ne, SqL.of hl, h1, h2, fun x _ _ hx ok' => k x _ hx (Pre.box ok')⟩
theorem oneOf_new {K : PySem.W.Frag} {b l : Addr} {u v : Int} {H : Hp} {xs : List V} {Q : VK} (hb : H b = some (box u v)) (ok : BoxOk u v) (nl : H l = none) (h1 : 1 ≤ xs.length) (h2 : xs.length ≤ 1000)
    (k : ∀ x H', x ∈ xs → Pre b H H' → Q x H') : spOneOf K [.ref b, .ref l] (upd H l (.lst xs)) Q E0 := by
  have nbl : b ≠ l := ne_of_none hb nl
  refine oneOf_at (by rw [upd_ne nbl]; exact hb) ok (Ne.symm nbl) upd_same h1 h2 fun x H' hx p => k x H' hx ⟨fun c o n e => p.1 c o n (by rw [upd_ne (ne_of_none e nl)]; exact e), p.2⟩
section
variable {P : Program} {w : World} {K : PySem.W.Frag} {mg : Str → Option Value} {base : Heap}
abbrev CalOne (P : Program) (w : World) (K : PySem.W.Frag) (mg : Str → Option Value) (base : Heap) : Prop := Cal P w K mg base CX0 "_law_one_of" 2 ["_law_box", "_law_some"] (spOneOf K)
theorem scRows : FnScope ["_law_box", "_law_many", "_law_found", "_law_turn", "_law_kind", "_law_deeds", "_law_state"] ["_law_box", "_law_many"] (defScope sRows) := ⟨rfl, rfl, rfl, by decide +kernel, rfl, by decide +kernel, by decide +kernel⟩
theorem scLetOf : FnScope ["_law_row"] ["_law_row"] (defScope sLetOf) := ⟨rfl, rfl, rfl, by decide +kernel, rfl, by decide +kernel, by decide +kernel⟩
theorem ok_letOf {f : Addr} {c : Rc} {fd : FuncData} (F : Fun K "_law_let_of" "_law_let_of" sLetOf f fd) (ML : MkR P w K mg base "Let" ["self", "kind", "state", "deed", "place"] c.L 3 (spLInit c)) : FnOk P w K mg base CX0 5 f fd ["_law_row"] (spLetOf c) := by
  obtain ⟨f1, fd1, G1, M1, b1⟩ := ML.ini
  refine F.ok scLetOf (fun vs H Q E h => ?_) (fun cdv A outer s H vs Q E hr h => ?_)
  · obtain ⟨v, m, rfl, _⟩ := h
    rfl
  · obtain ⟨v, m, rfl, ⟨p, rfl, hp⟩, ok, ek, q⟩ := h
    cases m with
    | ct _ _ _ => cases ek
    | lt k s d pl =>
      refine ⟨_, pss_one (ps_ret (pe_make (E := fun _ _ _ => False) M1 G1 hr rfl ML.g b1 .nil pass0 (pa_cons (pe_ix ix_tup (pv 0) pe_int (fun _ _ => rfl)) (pa_cons (pe_ix ix_tup (pv 0) pe_int (fun _ _ => rfl)) (pa_cons (pe_ix ix_tup (pv 0) pe_int (fun _ _ => rfl)) (pa_cons (pe_ix ix_tup (pv 0) pe_int (fun _ _ => rfl)) pa_nil)))))), ?_⟩
      refine ⟨_, rfl, p, _, 0, .str k, rfl, rfl, SqT.of hp, rfl, _, rfl, p, _, 1, .str s, rfl, rfl, SqT.of hp, rfl, _, rfl, p, _, 2, .str d, rfl, rfl, SqT.of hp, rfl, _, rfl, p, _, 3, .str pl, rfl, rfl, SqT.of hp, rfl, ?_⟩
      exact fun x dx nx ndx _ => mk_let ok nx ndx fun H' s' a => ⟨rfl, q _ _ s' a⟩
theorem ok_rows {f : Addr} {fd : FuncData} (F : Fun K "_law_rows" "_law_rows" sRows f fd) (T : BltG mg) (cO : CalOne P w K mg base) : FnOk P w K mg base CX0 3 f fd ["_law_box", "_law_many"] spRows := by
  obtain ⟨fO, fdO, GO, mO, kO, bO⟩ := cO
  refine F.ok scRows (fun vs H Q E h => ?_) (fun cdv A outer s H vs Q E hr h => ?_)
  · obtain ⟨b, u, v, n, rfl, _⟩ := h
    rfl
  · obtain ⟨b, u, v, n, rfl, hb, bk, n0, n1, k⟩ := h
    refine ⟨_, pss_cons (ps_set (i := 2) scRows.nd rfl (Or.inl rfl) (pe_lst pa_nil))
      (pss_cons (ps_for PassesOwn.never rfl (pi_range1 (by rfl) T.range (pa_cons (pv 1) pa_nil)) (pg_name (i := 3) scRows.nd rfl (Or.inl rfl))
      (pss_cons (ps_set (i := 4) scRows.nd rfl (Or.inl rfl) (pe_call GO hr rfl mO kO bO .nil pass0 (pa_cons (pv 0) (pa_cons (pe_lst (pa_cons pe_str (pa_cons pe_str (pa_cons pe_str (pa_cons pe_str (pa_cons pe_str (pa_cons pe_str pa_nil))))))) pa_nil))))
      (pss_cons (ps_set (i := 5) scRows.nd rfl (Or.inl rfl) (pe_ifExp (pt_cmpR op_in_seq (pv 4) (pe_tup (pa_cons pe_str (pa_cons pe_str pa_nil))) rfl) (pe_lst (pa_cons pe_str (pa_cons pe_str pa_nil))) (pe_lst (pa_cons pe_str (pa_cons pe_str (pa_cons pe_str pa_nil))))))
      (pss_cons (ps_set (i := 6) scRows.nd rfl (Or.inl rfl) (pe_call GO hr rfl mO kO bO .nil pass0 (pa_cons (pv 0) (pa_cons (pe_lst (pa_cons pe_str (pa_cons pe_str (pa_cons pe_str pa_nil)))) pa_nil))))
      (pss_one (ps_expr (pe_bm PySem.F.plainAttrs_list PySem.F.slot_list_append PySem.F.type_list_append mt_append (pv 2) (pa_cons (pe_tup (pa_cons (pv 4) (pa_cons (pv 6) (pa_cons (pe_call GO hr rfl mO kO bO .nil pass0 (pa_cons (pv 0) (pa_cons (pv 5) pa_nil))) (pa_cons (pe_call GO hr rfl mO kO bO .nil pass0 (pa_cons (pv 0) (pa_cons (pe_lst (pa_cons pe_str (pa_cons pe_str (pa_cons pe_str (pa_cons pe_str pa_nil))))) pa_nil))) pa_nil))))) pa_nil))))))))
      (pss_one (ps_ret (pv 2)))), ?_⟩
    refine ⟨(by show 0 ≤ sizeLine; decide), fun D nD => ?_⟩
    have nbD : b ≠ D := ne_of_none hb nD
    have nD0 : ∀ c o, c ≠ b → H c = some o → c ≠ D := fun c o _ e => ne_of_none e nD
    refine ⟨_, rfl, n, rfl, by omega, by omega, for_range (lo := 0) (n := n.toNat) (fun i σ H' => (∃ o3 o4 o5 o6 : Option V, σ = [some (.ref b), some (.int n), some (.ref D), o3, o4, o5, o6]) ∧ ∃ xs ms, Pre b H H' ∧ H' D = some (.lst xs) ∧ RowLs 0 H' xs ms ∧ ms.length = i) ?_ ?_ ?_⟩
    · exact ⟨⟨_, _, _, _, rfl⟩, [], [], ⟨SameX.of (Same.new nD), u, v, bk, by rw [upd_ne nbD]; exact hb⟩, upd_same, Ls.nil, rfl⟩
    · rintro i σ H0 hi ⟨⟨o3, o4, o5, o6, rfl⟩, xs, ms, p0, hD, rl, lm⟩
      obtain ⟨_, u0, v0, bk0, hb0⟩ := id p0
      refine ⟨_, rfl, (by show 6 ≤ sizeLine; decide), fun l1 n1 => oneOf_new hb0 bk0 n1 (by decide) (by decide) fun x1 H1 i1 p1 => ?_⟩
      have hx1 : ∃ k, x1 = .str k ∧ k ∈ kindL := by
        simp only [List.mem_cons, List.not_mem_nil, or_false] at i1
        rcases i1 with rfl | rfl | rfl | rfl | rfl | rfl <;> exact ⟨_, rfl, by decide +kernel⟩
      obtain ⟨kd, rfl, hk⟩ := hx1
      obtain ⟨_, u1, v1, bk1, hb1⟩ := id p1
      refine ⟨_, rfl, (by show 2 ≤ sizeLine; decide), fun t1 nt1 => ⟨t1, _, rfl, .inr (SqT.of upd_same), rfl, rfl, _, rfl, ?_⟩⟩
      have p2 : Pre b H1 (upd H1 t1 (.tup [.str "minus", .str "plus"])) := ⟨SameX.of (Same.new nt1), u1, v1, bk1, by rw [upd_ne (ne_of_none hb1 nt1)]; exact hb1⟩
      generalize upd H1 t1 (.tup [.str "minus", .str "plus"]) = H2 at p2
      obtain ⟨_, u2, v2, bk2, hb2⟩ := id p2
      have e0 : (if false = true then !inV (V.str kd) [.str "minus", .str "plus"] else inV (V.str kd) [.str "minus", .str "plus"]) = inV (V.str kd) [.str "minus", .str "plus"] := if_neg Bool.false_ne_true
      rw [e0]
      refine ite2 (fun c => ⟨(by show 2 ≤ sizeLine; decide), fun l2 n2 => ?wayA⟩) (fun c => ⟨(by show 3 ≤ sizeLine; decide), fun l2 n2 => ?wayB⟩)
      case' wayA =>
        have dl : ∀ z ∈ [V.str "whole", .str "part"], ∃ d, z = .str d ∧ d ∈ deedL ∧ (d = "right" → kd = "first" ∨ kd = "new") := by
          intro z hz
          simp only [List.mem_cons, List.not_mem_nil, or_false] at hz
          rcases hz with rfl | rfl
          · exact ⟨_, rfl, by decide +kernel, fun e => absurd e (by decide +kernel)⟩
          · exact ⟨_, rfl, by decide +kernel, fun e => absurd e (by decide +kernel)⟩
        have ll : 1 ≤ [V.str "whole", .str "part"].length ∧ [V.str "whole", .str "part"].length ≤ 1000 := by decide
        generalize [V.str "whole", .str "part"] = deeds at dl ll
      case' wayB =>
        have kf : kd = "first" ∨ kd = "new" := by
          have q : ∀ z ∈ kindL, inV (.str z) [.str "minus", .str "plus"] = false → z = "first" ∨ z = "new" := by decide +kernel
          exact q kd hk (Bool.eq_false_iff.mpr c)
        have dl : ∀ z ∈ [V.str "whole", .str "part", .str "right"], ∃ d, z = .str d ∧ d ∈ deedL ∧ (d = "right" → kd = "first" ∨ kd = "new") := by
          intro z hz
          simp only [List.mem_cons, List.not_mem_nil, or_false] at hz
          rcases hz with rfl | rfl | rfl <;> exact ⟨_, rfl, by decide +kernel, fun _ => kf⟩
        have ll : 1 ≤ [V.str "whole", .str "part", .str "right"].length ∧ [V.str "whole", .str "part", .str "right"].length ≤ 1000 := by decide
        generalize [V.str "whole", .str "part", .str "right"] = deeds at dl ll
      all_goals
        have p3 : Pre b H2 (upd H2 l2 (.lst deeds)) := ⟨SameX.of (Same.new n2), u2, v2, bk2, by rw [upd_ne (ne_of_none hb2 n2)]; exact hb2⟩
        have hl2 : upd H2 l2 (.lst deeds) l2 = some (.lst deeds) := upd_same
        have nlb : l2 ≠ b := Ne.symm (ne_of_none hb2 n2)
        have nlD : D ≠ l2 := ne_of_none ((p1.trans p2).1 D _ (Ne.symm nbD) hD) n2
        generalize upd H2 l2 (.lst deeds) = H3 at p3 hl2
        obtain ⟨_, u3, v3, bk3, hb3⟩ := id p3
        refine ⟨_, rfl, (by show 3 ≤ sizeLine; decide), fun l4 n4 => oneOf_new hb3 bk3 n4 (by decide) (by decide) fun x4 H4 i4 p4 => ?_⟩
        have hx4 : ∃ s, x4 = .str s ∧ s ∈ stateL := by
          simp only [List.mem_cons, List.not_mem_nil, or_false] at i4
          rcases i4 with rfl | rfl | rfl <;> exact ⟨_, rfl, by decide +kernel⟩
        obtain ⟨st, rfl, hs⟩ := hx4
        obtain ⟨_, u4, v4, bk4, hb4⟩ := id p4
        have pD4 : Pre b H0 H4 := ((p1.trans p2).trans p3).trans p4
        have hD4 := pD4.1 D _ (Ne.symm nbD) hD
        refine ⟨_, rfl, .inl ⟨rfl, _, SqL.of hD4⟩, _, rfl, _, rfl, _, rfl, _, rfl, ?_⟩
        dsimp only [tNil]
        refine oneOf_at hb4 bk4 nlb (p4.1 _ _ nlb hl2) ll.1 ll.2 fun x5 H5 i5 p5 => ?_
        obtain ⟨dd, rfl, hd, hdr⟩ := dl _ i5
        obtain ⟨_, u5, v5, bk5, hb5⟩ := id p5
        refine ⟨_, rfl, (by show 4 ≤ sizeLine; decide), fun l6 n6 => ?_⟩
        dsimp only [tNil]
        refine oneOf_new hb5 bk5 n6 (by decide) (by decide) fun x6 H6 i6 p6 => ?_
        have hx6 : ∃ s, x6 = .str s ∧ s ∈ placeL := by
          simp only [List.mem_cons, List.not_mem_nil, or_false] at i6
          rcases i6 with rfl | rfl | rfl | rfl <;> exact ⟨_, rfl, by decide +kernel⟩
        obtain ⟨pl, rfl, hp⟩ := hx6
        refine ⟨(by show 4 ≤ sizeLine; decide), fun t7 n7 => ?_⟩
        have p7 : Pre b H0 (upd H6 t7 (.tup [.str kd, .str st, .str dd, .str pl])) := ((pD4.trans p5).trans p6).then (Same.new n7)
        have t7a : TpAt (upd H6 t7 (.tup [.str kd, .str st, .str dd, .str pl])) (.ref t7) (.lt kd st dd pl) := ⟨t7, rfl, upd_same⟩
        generalize upd H6 t7 (.tup [.str kd, .str st, .str dd, .str pl]) = H7 at p7 t7a
        have hD7 := p7.1 D _ (Ne.symm nbD) hD
        have pA := p0.trans p7
        obtain ⟨sa, ua, va, bka, hba⟩ := id pA
        refine ⟨D, xs, _, rfl, rfl, hD7, small1000 (by rw [rl.1]; omega), ⟨_, _, _, _, rfl⟩, xs ++ [.ref t7], ms ++ [.lt kd st dd pl], ⟨fun c o n e => by rw [upd_ne (nD0 c o n e)]; exact sa c o n e, ua, va, bka, by rw [upd_ne nbD]; exact hba⟩, upd_same, ?_, by simp [lm]⟩
        exact RowLs.keep (kd := 0) (Ls.push (rl.keep (Keep.pre hb0 p7.1)) ⟨t7a, ⟨hk, hs, hd, hp, hdr⟩, rfl⟩) (Keep.lst hD7)
    · rintro σ H' ⟨⟨o3, o4, o5, o6, rfl⟩, xs, ms, p0, hD, rl, lm⟩
      exact ⟨_, rfl, k D xs ms H' p0 hD (Ne.symm nbD) nD0 rl (by rw [lm]; omega)⟩
end
end V3

set_option Elab.async false
set_option linter.all false
set_option maxRecDepth 100000
namespace V3
open PySem PySem.Spec PyProof.Rows L2
/-! enumerate over a tuple -/
set_option maxHeartbeats 1000000 in
theorem new_enumT (a : Addr) (its : Array Value) :
    Meets (Builtin.«enumerate.__new__» ⟨[.type "enumerate", .ref a], []⟩) (fun _ R s => s.heap.IsTuple a its ∧
      R (.ok (.ret (.ref (s.heap.push { cls := .type "tuple_iterator", data := .fields #[.ref a, .int 0 0] }).objs.size)))
        { s with heap := (s.heap.push { cls := .type "tuple_iterator", data := .fields #[.ref a, .int 0 0] }).push { cls := .type "enumerate", data := .fields #[.none, .bool false, .ref s.heap.objs.size, rawInt 0, .none, .none] } }) :=
  .of_wp fun prog w A R s h => by
    obtain ⟨hp, g, d, tk, os⟩ := s
    obtain ⟨h1, h⟩ := h
    have sb := sub_enumerate
    have q1 : ∀ {A' : Around} {E : Value → Shared → Prop} {Q : Value → Shared → Prop}, Q (.ref hp.objs.size) ⟨hp.push { cls := .type "tuple_iterator", data := .fields #[.ref a, .int 0 0] }, g, d, tk, os⟩ → wpAny (model prog w) A' (pyIter (.ref a)) Q E ⟨hp, g, d, tk, os⟩ :=
      fun q => (begins_tuple a its).iter prog w _ _ ⟨hp, g, d, tk, os⟩ _ h1 q
    wp_walk using q1
    refine wpAny_stack_any fun st => wpAny_pure ?_
    split
    · rename_i c _ _ _ _ _
      cases (c == Value.type "enumerate") <;> (wp_walk using q1; exact ⟨_, rfl, h⟩)
    · wp_walk using q1
      exact ⟨_, rfl, h⟩
theorem call_enumT {prog : Program} {w : World} {A : Around} {E : Value → Shared → Prop} {s : Shared} {a : Addr} {its : Array Value} {Q : Value → Shared → Prop} (ha : s.heap.IsTuple a its)
    (k : ∀ h', IsEnum h' (s.heap.objs.size + 1) s.heap.objs.size 0 .none → h'.IsTupleIter s.heap.objs.size a 0 → (∀ b o, s.heap.get? b = some o → h'.get? b = some o) → Q (.ref (s.heap.objs.size + 1)) { s with heap := h' }) :
    wpAny (model prog w) A (call (.type "enumerate") [.ref a]) Q E s := by
  refine callType_new F.called_enumerate (by decide) (F.typeCall_enumerate_1 _) (F.newCall_enumerate_1 _) (fun obj => F.args_object_init_2 obj _) F.entry_enumerate_new (new_enumT a its) ⟨ha, ?_⟩
  have sz : (s.heap.push { cls := .type "tuple_iterator", data := .fields #[.ref a, .int 0 0] }).objs.size = s.heap.objs.size + 1 := Heap.size_push ..
  show _ ∧ _
  rw [sz]
  have e1 : IsEnum ((s.heap.push { cls := .type "tuple_iterator", data := .fields #[.ref a, .int 0 0] }).push { cls := .type "enumerate", data := .fields #[.none, .bool false, .ref s.heap.objs.size, rawInt 0, .none, .none] }) (s.heap.objs.size + 1) s.heap.objs.size 0 .none := by
    have z := Heap.get?_push_size (s.heap.push { cls := .type "tuple_iterator", data := .fields #[.ref a, .int 0 0] }) (o := { cls := .type "enumerate", data := .fields #[.none, .bool false, .ref s.heap.objs.size, rawInt 0, .none, .none] }) rfl
    rw [sz] at z
    exact z
  exact ⟨⟨_, e1, rfl⟩, k _ e1 ⟨_, Heap.get?_push_of_some _ (Heap.get?_push_size _ rfl), rfl, rfl⟩ fun b o x => Heap.get?_push_of_some _ (Heap.get?_push_of_some _ x)⟩
/-- the tuple at a, each item in a new pair with its number -/
def Iet (K : PySem.W.Frag) (a : Addr) : It :=
  ⟨fun i H => ∃ xs x, SqT K H a xs ∧ xs[i]? = some x, fun i H v H' => ∃ T x, v = .ref T ∧ H T = none ∧ H' = upd H T (.tup [.int (i : Nat), x]) ∧ ∀ xs, SqT K H a xs → xs[i]? = some x, fun i H => ∃ xs, SqT K H a xs ∧ xs.length = i⟩
theorem turn_enumT {P : Program} {w : World} {K : PySem.W.Frag} {elts : List Expr} {kk : Nat} {tpos : Pos} (a e it : Addr) :
    Turn P w K (.Tuple elts kk tpos) (Iet K a) [e, it] e (fun i h => (∃ old, IsEnum h e it ((i : Nat) : Int) old) ∧ h.IsTupleIter it a i ∧ e ≠ it ∧ a ≠ it ∧ e ≠ a) where
  mem := by simp
  obj := fun i h st b hb => by
    obtain ⟨⟨old, g1⟩, ⟨o, ho, hc, hd⟩, _⟩ := st
    have z0 : b = e ∨ b = it := by simpa using hb
    rcases z0 with z | z
    · rw [z]
      exact ⟨_, g1, fun v q => nomatch q⟩
    · rw [z]
      exact ⟨o, ho, fun v q => by rw [hd] at q; cases q⟩
  keep := fun i h h' st k => let ⟨⟨old, g1⟩, g2, g3⟩ := st; ⟨⟨old, k e (by simp) _ g1⟩, g2.at fun o q => k it (by simp) o q, g3⟩
  item := by
    intro X hP hw hK hc i pins s σ H E I hf st hg
    subst hP hw hK
    obtain ⟨⟨old, g1⟩, g2, n1, n2, n3⟩ := st
    obtain ⟨xs, x, hq, hx⟩ := hg
    obtain ⟨its, rv, p, hz⟩ := I.tuple hq
    obtain ⟨u, hu, ru⟩ := rv.get hx
    have el : e < s.heap.objs.size := Heap.lt_size g1
    have il : it < s.heap.objs.size := by
      obtain ⟨_, q, _⟩ := g2
      exact Heap.lt_size q
    have lt : i < its.toArray.size := by
      have z := (List.getElem?_eq_some_iff.mp hu).1
      simpa using z
    refine wpAny_pyNext_enum_itemD (Draws.tuple (A := X.A.in1) (show X.A.in1.handled = none from I.ok.hd hc) it a n2 its.toArray) g1 ⟨g2, p⟩ lt n1 (by simp only [List.mem_cons, List.not_mem_nil, or_false, not_or]; exact ⟨n1, n3⟩) fun y h' tk hP ho st' hT hsz hk => ?_
    obtain rfl : y = u := by
      have z : its.toArray[i]? = some y := hP
      have z2 : its.toArray[i]? = some u := by simpa using hu
      rw [z2] at z
      exact (Option.some.inj z).symm
    refine ⟨_, rfl, wpAny_letOwnedTupleGo_enum (s := { s with heap := h', toks := tk + 1 }) ho fun h'' g1' sb => ?_⟩
    have T2 : h''.get? s.heap.objs.size = some { cls := .type "tuple", data := .seq #[.int i tk, y] } := (sb.2 _ (Nat.ne_of_gt el)).trans hT
    have new : ObjOk X.prog X.w (upd H s.heap.objs.size (.tup [.int (i : Nat), x])) h'' s.heap.objs.size (.tup [.int (i : Nat), x]) :=
      ⟨by show 2 ≤ sizeLine; decide, [.int i tk, y], .cons ⟨_, rfl⟩ (.cons ru .nil), ⟨_, T2, rfl, _, rfl⟩⟩
    have J : Inv X pins σ (upd H s.heap.objs.size (.tup [.int (i : Nat), x])) { s with heap := h'', toks := tk + 1 } :=
      I.turnedNew (ch := [e, it]) (fun b ob hb q => (sb.2 b (fun z => hb (by simp [z]))).trans (hk b ob (fun z => hb (by simp [z])) (fun z => hb (by simp [z])) q)) hf (Nat.le_refl _) new
    refine ⟨.ref s.heap.objs.size, _, J, rfl, ⟨_, x, rfl, I.hok.fresh (Nat.le_refl _), rfl, fun ys hy => by rw [I.tuple_inj hy hq]; exact hx⟩, ⟨⟨y, ?_⟩, st'.1.at fun o q => (sb.2 it (Ne.symm n1)).trans q, n1, n2, n3⟩, fun b hb => ?_⟩
    · have e1 : ((i + 1 : Nat) : Int) = (i : Int) + 1 := by omega
      rw [e1]
      exact g1'
    · have lb : b < s.heap.objs.size := by
        have z0 : b = e ∨ b = it := by simpa using hb
        rcases z0 with z | z
        · rw [z]
          exact el
        · rw [z]
          exact il
      rw [upd_ne (Nat.ne_of_lt lb)]
      exact (hf b hb).1
  done := by
    intro X hP hw hK hc i pins s σ H E I hf st hg
    subst hP hw hK
    obtain ⟨⟨old, g1⟩, g2, n1, n2, n3⟩ := st
    obtain ⟨xs, hq, hx⟩ := hg
    obtain ⟨its, rv, p, hz⟩ := I.tuple hq
    obtain ⟨f0, f1, f2, f3, f4, f5⟩ := hf it (by simp)
    have ei : i = its.toArray.size := by
      have z := rv.length
      simp only [List.size_toArray]
      omega
    exact wpAny_pyNext_enum_endD (Draws.tuple (A := X.A.in1) (show X.A.in1.handled = none from I.ok.hd hc) it a n2 its.toArray) g1 (by rw [← ei]; exact ⟨g2, p⟩) fun h' eb => ⟨rfl, I.turned (t' := s.toks) (fun b o hb q => eb b o hb q) f0 f1 f3 f4 f5⟩
  self := fun A i s Q E st h => let ⟨⟨_, g1⟩, _⟩ := st; wpAny_pyIter_enum g1 h
def iEnumT (K : PySem.W.Frag) (ta : TA) : TI := fun σ H R => ta σ H fun vs H1 => ∃ a xs, vs = [.ref a] ∧ SqT K H1 a xs ∧ R (Iet K a) H1
theorem pi_enumT {X : Cx} {e : Expr} {ta : TA} {p pos tpos : Pos} {elts : List Expr} {kk : Nat} (hg : Gl X "enumerate") (hm : X.mg "enumerate" = none) (ha : PA X [e] ta) (hs : starEach [e] X.env = [(false, eval e X.env)] := by rfl) :
    PI X (.Tuple elts kk tpos) (.Call (.Name "enumerate" p) [e] [] pos) (iEnumT X.K ta) := by
  refine ⟨fun pins s σ H R I h => ?_⟩
  refine Call_ (ld_blt I hg hm boot_enumerate (PyProof.Rows.callWith_type1 (thn (ha.run pos pins s σ H _ I h) fun us s1 ⟨vs, H1, I1, r1, a, xs, ex, hq, q⟩ => ?_) hs rfl))
  subst ex
  cases r1 with
  | cons r rr =>
    cases rr
    cases r
    obtain ⟨its, rv, p', hz⟩ := I1.tuple hq
    have al : a < s1.heap.objs.size := IsTup.lt p'
    refine call_enumT (its := its.toArray) p' fun h' he hit hk => wpAny_pyIter_enum he ?_
    have I2 : Inv X pins σ H1 { s1 with heap := h' } := I1.kept (t' := s1.toks) hk
    refine ⟨s1.heap.objs.size + 1, [s1.heap.objs.size + 1, s1.heap.objs.size], _, _, H1, rfl, I2, turn_enumT a (s1.heap.objs.size + 1) s1.heap.objs.size, ⟨⟨.none, he⟩, hit, Nat.succ_ne_self _, Nat.ne_of_lt al, Nat.ne_of_gt (Nat.lt_succ_of_lt al)⟩, fun b hb => ?_, q⟩
    have z0 : b = s1.heap.objs.size + 1 ∨ b = s1.heap.objs.size := by simpa using hb
    have le : s1.heap.objs.size ≤ b := by
      rcases z0 with z | z
      · rw [z]
        exact Nat.le_add_right _ _
      · rw [z]
        exact Nat.le_refl _
    exact I1.fpOk le (I1.hok.fresh le)
theorem walk_enumT {K : PySem.W.Frag} {a : Addr} {xs : List V} : Walk (Iet K a) xs.length (fun H => SqT K H a xs) (YPair (fun i => some (.int (i : Nat))) (fun i => xs[i]?)) := by
  refine ⟨fun i _ hi q => ⟨xs, xs[i], q, by simp [hi]⟩, fun _ q => ⟨xs, q, rfl⟩, fun i H v H' _ q y => ?_⟩
  obtain ⟨T, x, h1, h2, h3, h4⟩ := y
  exact ⟨T, .int (i : Nat), x, h1, h2, h3, rfl, h4 xs q⟩
end V3

set_option Elab.async false
set_option linter.all false
set_option maxRecDepth 100000
namespace V3
open PySem L2 TL
abbrev sIsInt : Stmt := top 1
abbrev sIsNum : Stmt := top 2
abbrev sIsRows : Stmt := top 20
abbrev sHasRow : Stmt := top 21
abbrev sHsInit : Stmt := inClass (top 18) 0
abbrev sHsLen : Stmt := inClass (top 18) 4
/-! houses -/
def checkL : List Str := ["left", "all"]
def depthL : List Str := ["depth 0", "depth 1", "depth 2", "depth 3", "depth 4"]
structure Hs where
  d : Int
  ch : Str
  rs : List Rw
  deriving DecidableEq
def Hs.ok (h : Hs) : Prop := 0 ≤ h.d ∧ h.d ≤ 4 ∧ h.ch ∈ checkL ∧ (∀ m ∈ h.rs, m.ok ∧ m.kind = 0) ∧ h.rs.length ≤ 100
def hsF (d ch q : V) : List (Str × V) := [("depth", d), ("check", ch), ("rows", q)]
theorem hs_put (d ch q : V) : putF "rows" q (putF "check" ch (putF "depth" d [])) = hsF d ch q := by
  have a1 : ("depth" : Str) ≠ "check" := by decide +kernel
  have a2 : ("depth" : Str) ≠ "rows" := by decide +kernel
  have a3 : ("check" : Str) ≠ "rows" := by decide +kernel
  show putF "rows" q (putF "check" ch [("depth", d)]) = _
  rw [putF_ne a1]
  show putF "rows" q [("depth", d), ("check", ch)] = _
  rw [putF_ne a2, putF_ne a3]
  rfl
theorem hs_d (d ch q : V) : (hsF d ch q).lookup ("depth" : Str) = some d := rfl
theorem hs_ch (d ch q : V) : (hsF d ch q).lookup ("check" : Str) = some ch := by
  unfold hsF
  rw [lk_ne (by decide +kernel)]
  rfl
theorem hs_rs (d ch q : V) : (hsF d ch q).lookup ("rows" : Str) = some q := by
  unfold hsF
  rw [lk_ne (by decide +kernel), lk_ne (by decide +kernel)]
  rfl
/-- objects of rows, one after another -/
def RwLs (c : Rc) (H : Hp) (us : List V) (ms : List Rw) : Prop := Ls (RwAt c H) us ms
theorem RwLs.keep {c : Rc} {H H' : Hp} {us : List V} {ms : List Rw} (d : RwLs c H us ms) (s : Keep H H') : RwLs c H' us ms := d.imp fun _ _ h => h.keep s
theorem RwLs.same {c : Rc} {H H' : Hp} {us : List V} {ms : List Rw} (d : RwLs c H us ms) (s : Same H H') : RwLs c H' us ms := d.keep (Keep.of s)
def HsAt (c : Rc) (C : Addr) (H : Hp) (v : V) (h : Hs) : Prop := ∃ x dx q us, v = .ref x ∧ H x = some (.ins C dx (hsF (.int h.d) (.str h.ch) (.ref q))) ∧ H q = some (.tup us) ∧ RwLs c H us h.rs
theorem HsAt.keep {c : Rc} {C : Addr} {H H' : Hp} {v : V} {h : Hs} (a : HsAt c C H v h) (s : Keep H H') : HsAt c C H' v h := by
  obtain ⟨x, dx, q, us, e, hx, hq, r⟩ := a
  exact ⟨x, dx, q, us, e, s _ _ (fun _ z => by cases z) hx, s _ _ (fun _ z => by cases z) hq, r.keep s⟩
theorem HsAt.same {c : Rc} {C : Addr} {H H' : Hp} {v : V} {h : Hs} (a : HsAt c C H v h) (s : Same H H') : HsAt c C H' v h := a.keep (Keep.of s)
structure BltK (mg : Str → Option Value) : Prop where
  isi : mg "isinstance" = none
  int : mg "int" = none
  bool : mg "bool" = none
  list : mg "list" = none
  tuple : mg "tuple" = none
  all : mg "all" = none
  len : mg "len" = none
  str : mg "str" = none
/-- the written tuples and lists of the module -/
structure HsT (K : PySem.W.Frag) (mg : Str → Option Value) (CA DA : Addr) : Prop where
  checks : mg "CHECKS" = some (.ref CA)
  depths : mg "DEPTH_LINES" = some (.ref DA)
  tC : ∀ H, SqT K H CA (checkL.map V.str)
  tD : ∀ H, SqT K H DA (depthL.map V.str)
/-- what House's class must have -/
structure HsC (K : PySem.W.Frag) (C : Addr) : Prop where
  cl : Cls K C
  d : NoAttr K C "depth"
  ch : NoAttr K C "check"
  rs : NoAttr K C "rows"
/-- what Let's class must be to isinstance -/
structure LetI (K : PySem.W.Frag) (c : Rc) : Prop where
  cl : Cls K c.L
  ca : PySem.W.findIn K (.ref c.L) "__class__" = some (some (.builtin "object.__class__"))
  mr : PySem.W.mroIn K c.L (.type "object") = some true
  gn : PySem.W.specialIn K (.builtin "object.__class__") "__get__" = some (some (.builtin "getset_descriptor.__get__"))
  tk : PySem.W.takesIn K (.builtin "object.__class__") = some true
  ki : PySem.W.kitOne K (.ref c.L) (.ref c.L) = some true
def spNumI : Sp := fun vs H Q _ => ∃ i : Int, vs = [.int i] ∧ Q (.bl (decide (0 ≤ i))) H
def spIsRows (c : Rc) : Sp := fun vs H Q _ => ∃ (a : Addr) (us : List V) (ms : List Rw), vs = [.ref a] ∧ H a = some (.lst us) ∧ RwLs c H us ms ∧ (∀ m ∈ ms, m.kind = 0) ∧ ms.length ≤ 1000 ∧ ∀ H', Same H H' → Q (.bl true) H'
def spHsInit (c : Rc) (C : Addr) : Sp := fun vs H Q _ => ∃ (x dx l : Addr) (us : List V) (h : Hs), vs = [.ref x, .int h.d, .str h.ch, .ref l] ∧ H x = some (.ins C dx []) ∧ H l = some (.lst us) ∧ RwLs c H us h.rs ∧ h.ok ∧
  ∀ H', SameX x H H' → HsAt c C H' (.ref x) h → Q .non H'
def spHsLen (c : Rc) (C : Addr) : Sp := fun vs H Q _ => ∃ (v : V) (h : Hs), vs = [v] ∧ HsAt c C H v h ∧ Q (.int (h.rs.length : Int)) H
/-- whether a whole number is the number of a row -/
def hasRow (h : Hs) (i : Int) : Bool := decide (0 ≤ i) && decide (i < (h.rs.length : Int))
def spHasRow (c : Rc) (C : Addr) : Sp := fun vs H Q _ => ∃ (v : V) (h : Hs) (i : Int), vs = [v, .int i] ∧ HsAt c C H v h ∧ Q (.bl (hasRow h i)) H
theorem kit_lt {K : PySem.W.Frag} : PySem.W.kitAny K (.type "list") [.type "list", .type "tuple"] = some true :=
  kitAny_cons (show PySem.W.kitOne K (.type "list") (.type "list") = some true from kit_ty (by decide +kernel)) (fun z => nomatch z) (fun z => rfl)
theorem repl_bl (n : Nat) : List.replicate n (V.bl true) = (List.replicate n true).map V.bl := by
  rw [List.map_replicate]
section
variable {P : Program} {w : World} {K : PySem.W.Frag} {mg : Str → Option Value} {base : Heap}
theorem scIsInt : FnScope ["value"] ["value"] (defScope sIsInt) := ⟨rfl, rfl, rfl, by decide +kernel, rfl, by decide +kernel, by decide +kernel⟩
theorem scIsNum : FnScope ["value"] ["value"] (defScope sIsNum) := ⟨rfl, rfl, rfl, by decide +kernel, rfl, by decide +kernel, by decide +kernel⟩
theorem scIsRows : FnScope ["value", "item"] ["value"] (defScope sIsRows) := ⟨rfl, rfl, rfl, by decide +kernel, rfl, by decide +kernel, by decide +kernel⟩
theorem scHasRow : FnScope ["house", "at"] ["house", "at"] (defScope sHasRow) := ⟨rfl, rfl, rfl, by decide +kernel, rfl, by decide +kernel, by decide +kernel⟩
theorem scHsInit : FnScope ["self", "depth", "check", "rows"] ["self", "depth", "check", "rows"] (defScope sHsInit) := ⟨rfl, rfl, rfl, by decide +kernel, rfl, by decide +kernel, by decide +kernel⟩
theorem scHsLen : FnScope ["self"] ["self"] (defScope sHsLen) := ⟨rfl, rfl, rfl, by decide +kernel, rfl, by decide +kernel, by decide +kernel⟩
theorem ok_intK {f : Addr} {fd : FuncData} (F : Fun K "is_integer" "is_integer" sIsInt f fd) (T : BltK mg) : FnOk P w K mg base CX0 1 f fd ["value"] spIntI := by
  refine F.ok scIsInt (fun vs H Q E h => ?_) (fun cdv A outer s H vs Q E hr h => ?_)
  · obtain ⟨v, rfl, _⟩ := h
    rfl
  · obtain ⟨i, rfl, q⟩ := h
    refine ⟨_, pss_one (ps_ret (pe_and (pe_callB call_isi (by rfl) T.isi (by decide +kernel) (pa_cons (pv 0) (pa_cons (pe_bltn (v := .ty "int") (by rfl) T.int (by decide +kernel) rfl) pa_nil)))
      (pe_one (pe_not (pe_callB call_isi (by rfl) T.isi (by decide +kernel) (pa_cons (pv 0) (pa_cons (pe_bltn (v := .ty "bool") (by rfl) T.bool (by decide +kernel) rfl) pa_nil))))))), ?_⟩
    refine ⟨_, rfl, _, _, _, _, _, rfl, .ty "int", .base (.int i), (show PySem.W.kitOne K (.type "int") (.type "int") = some true from kit_ty (by decide +kernel)), _, rfl, iteT ?_⟩
    exact ⟨_, rfl, _, _, _, _, _, rfl, .ty "bool", .base (.int i), (show PySem.W.kitOne K (.type "int") (.type "bool") = some false from kit_ty (by decide +kernel)), _, rfl, q⟩
theorem ok_numK {f : Addr} {fd : FuncData} (F : Fun K "is_number" "is_number" sIsNum f fd) (cI : Cal P w K mg base CX0 "is_integer" 1 ["value"] spIntI) : FnOk P w K mg base CX0 2 f fd ["value"] spNumI := by
  obtain ⟨fI, fdI, GI, mI, kI, bI⟩ := cI
  refine F.ok scIsNum (fun vs H Q E h => ?_) (fun cdv A outer s H vs Q E hr h => ?_)
  · obtain ⟨v, rfl, _⟩ := h
    rfl
  · obtain ⟨i, rfl, q⟩ := h
    refine ⟨_, pss_one (ps_ret (pe_and (pe_call GI hr rfl mI kI bI .nil pass0 (pa_cons (pv 0) pa_nil)) (pe_one (pe_cmpR op_ge (pv 0) pe_int (nomark _))))), ?_⟩
    exact ⟨_, rfl, i, rfl, _, rfl, iteT ⟨_, rfl, _, _, rfl, rfl, q⟩⟩
theorem ok_isRows {f : Addr} {c : Rc} {fd : FuncData} (F : Fun K "is_rows" "is_rows" sIsRows f fd) (T : BltK mg) (C : LetI K c) (gL : mg "Let" = some (.ref c.L)) : FnOk P w K mg base CX0 1 f fd ["value"] (spIsRows c) := by
  refine F.ok scIsRows (fun vs H Q E h => ?_) (fun cdv A outer s H vs Q E hr h => ?_)
  · obtain ⟨a, us, ms, rfl, _⟩ := h
    rfl
  · obtain ⟨a, us, ms, rfl, ha, rl, kd, n, k⟩ := h
    refine ⟨_, pss_one (ps_ret (pe_and (pe_callB call_isiT (by rfl) T.isi (by decide +kernel) (pa_cons (pv 0) (pa_cons (pe_tup (pa_cons (pe_bltn (v := .ty "list") (by rfl) T.list (by decide +kernel) rfl) (pa_cons (pe_bltn (v := .ty "tuple") (by rfl) T.tuple (by decide +kernel) rfl) pa_nil))) pa_nil)))
        (pe_one (pe_callB (cr_all rfl) (by rfl) T.all (by decide +kernel) (pa_cons (pe_lc (own := [("item", 1)]) (g := gName 1) (tt := tYes) (te := tCB (rIsi K) (tCons (tVar 1) (tCons (tC (.ref c.L)) tNil))) (by rfl) scIsRows.nd (pi_list (pv 0)) (blkOk_by (own := [("item", 1)]) (N := ["value", "item"]) (sc := defScope sIsRows) (by decide +kernel)) (fun _ _ _ _ _ => pg_name (i := 1) scIsRows.nd rfl (Or.inl rfl)) (fun _ _ _ _ _ => pts_nil)
          (fun _ _ _ _ _ => pe_callB call_isi (by rfl) T.isi (by decide +kernel) (pa_cons (pv 1) (pa_cons (pe_glob (v := .ref c.L) rfl gL rfl) pa_nil)))) pa_nil))))), ?_⟩
    refine ⟨_, rfl, (by show 2 ≤ sizeLine; decide), fun tp ntp => ?_⟩
    have s1 : Same H (upd H tp (.tup [.ty "list", .ty "tuple"])) := Same.new ntp
    have ht : upd H tp (.tup [.ty "list", .ty "tuple"]) tp = some (.tup [.ty "list", .ty "tuple"]) := upd_same
    generalize upd H tp (.tup [.ty "list", .ty "tuple"]) = H1 at s1 ht ⊢
    have ha1 := s1 _ _ ha
    have rl1 := rl.same s1
    have lx : us.length = ms.length := rl.1
    refine ⟨_, tp, _, _, _, _, rfl, ht, .cons (.ty "list") (.cons (.ty "tuple") .nil), .base (.lst ha1), kit_lt, _, rfl, iteT ?_⟩
    refine ⟨_, rfl, a, rfl, ⟨us, SqL.of ha1⟩, fun D nD => ?_⟩
    refine lc_list (K := K) (a := a) (xs := us) (fun i Hh => Same H1 Hh ∧ H1 D = none ∧ Hh D = some (.lst (List.replicate i (V.bl true)))) ⟨Same.new nD, nD, upd_same⟩ (fun i Hh _ p => SqL.of (p.1 _ _ ha1)) ?_ ?_
    · intro i z Hh hi p
      have il : i < us.length := (List.getElem?_eq_some_iff.mp hi).1
      obtain ⟨m, em, mz⟩ := Ls.get rl1 hi
      obtain ⟨y, dy, rfl, hy⟩ := mz.same p.1
      have km := kd m (List.mem_of_getElem? em)
      refine ⟨rfl, ?_⟩
      unfold tYes
      dsimp only
      have hy2 : Hh y = some (.ins c.L dy m.fs) := by
        rw [hy]
        show some (HO.ins (c.at m.kind) dy m.fs) = _
        rw [km]
        rfl
      refine iteT ⟨_, rfl, _, _, _, _, _, rfl, .own c.L, .base (.ins hy2 C.cl C.ca C.gn C.tk C.mr), C.ki, _, p.2.2, ?_, fun d o h => ?_, p.2.1, ?_⟩
      · rw [List.length_replicate]
        exact Nat.lt_of_lt_of_le (m := 1001) (by omega) (by decide)
      · rw [upd_ne (ne_of_none h p.2.1)]
        exact p.1 d o h
      · rw [upd_same, List.replicate_succ']
    · intro Hh p
      obtain ⟨s2, _, e⟩ := p
      refine ⟨D, List.replicate us.length true, rfl, SqL.of (by rw [e, repl_bl]), ?_⟩
      have z : (List.replicate us.length true).all id = true := by
        rw [List.all_eq_true]
        intro x hx
        rw [List.eq_of_mem_replicate hx]
        rfl
      rw [z]
      exact k _ (s1.trans s2)
theorem ok_hsInit {f CA DA C : Addr} {c : Rc} {fd : FuncData} {dvs : List V} (F : FunD K "__init__" "House.__init__" (defArgs sHsInit) (defBody sHsInit) (defScope sHsInit) dvs [] f fd) (T : BltK mg) (X : HsT K mg CA DA) (L : HsC K C)
    (cN : Cal P w K mg base CX0 "is_number" 2 ["value"] spNumI) (cR : Cal P w K mg base CX0 "is_rows" 1 ["value"] (spIsRows c)) : FnOk P w K mg base CX0 4 f fd ["self", "depth", "check", "rows"] (spHsInit c C) := by
  obtain ⟨fN, fdN, GN, mN, kN, bN⟩ := cN
  obtain ⟨fR, fdR, GR, mR, kR, bR⟩ := cR
  refine F.ok scHsInit (fun vs H Q E h => ?_) (fun cdv A outer s H vs Q E hr h => ?_)
  · obtain ⟨x, dx, l, us, h, rfl, _⟩ := h
    rfl
  · obtain ⟨x, dx, l, us, h, rfl, hx, hl, rl, ok, q⟩ := h
    obtain ⟨d0, d4, hc, hm, hn⟩ := ok
    refine ⟨_, pss_cons (ps_if (pt_not (PW.pt (pw_and (pt_val (pe_call GN (hr.mono (by decide)) rfl mN kN bN .nil pass0 (pa_cons (pv 1) pa_nil))) (pw_and1 (pt_cmpR op_lt (pv 1) (pe_callB call_len_seq (by rfl) T.len PySem.boot_len (pa_cons (pe_glob (v := .ref DA) rfl X.depths rfl) pa_nil)) (nomark _)))))) (pss_one ps_never) pss_nil)
      (pss_cons (ps_if (pt_cmpR op_notIn_seq (pv 2) (pe_glob (v := .ref CA) rfl X.checks rfl) rfl) (pss_one ps_never) pss_nil)
      (pss_cons (ps_if (pt_not (pt_val (pe_call GR (hr.mono (by decide)) rfl mR kR bR .nil pass0 (pa_cons (pv 3) pa_nil)))) (pss_one ps_never) pss_nil)
      (pss_cons (ps_fld (pv 0) (pv 1) rfl)
      (pss_cons (ps_fld (pv 0) (pv 2) rfl)
      (pss_one (ps_fld (pv 0) (pe_callTy call_tuple_of (by rfl) T.tuple (by decide +kernel) (pa_cons (pv 3) pa_nil)) rfl)))))), ?_⟩
    refine ⟨_, rfl, h.d, rfl, _, rfl, ?_⟩
    rw [decide_eq_true d0]
    refine iteT ⟨_, rfl, DA, _, rfl, .inr (X.tD _), _, _, rfl, rfl, _, rfl, ?_⟩
    rw [decide_eq_true (show h.d < ((depthL.map V.str).length : Int) by show h.d < 5; omega)]
    refine iteF ⟨_, rfl, CA, _, rfl, .inr (X.tC _), rfl, flat_strs _, _, rfl, ?_⟩
    rw [inV_str, decide_eq_true hc]
    refine iteF ⟨_, rfl, l, us, h.rs, rfl, hl, rl, fun m z => (hm m z).2, by omega, fun H1 s1 => ⟨_, rfl, iteF ?_⟩⟩
    have hx1 := s1 _ _ hx
    have hl1 := s1 _ _ hl
    have nlx : l ≠ x := fun z => by rw [z, hx] at hl; cases hl
    refine ⟨_, rfl, _, rfl, x, C, dx, _, rfl, hx1, L.cl, L.d, (by show 0 < 1000; decide), ?_⟩
    refine ⟨_, rfl, _, rfl, x, C, dx, _, rfl, upd_same, L.cl, L.ch, (by show 1 < 1000; decide), ?_⟩
    rw [upd_upd]
    refine ⟨_, rfl, l, us, rfl, .inl ⟨SqL.of (by rw [upd_ne nlx]; exact hl1), fun t nt => ?_⟩⟩
    have ntx : x ≠ t := ne_of_none upd_same nt
    refine ⟨_, rfl, x, C, dx, _, rfl, (by rw [upd_ne ntx]; exact upd_same), L.cl, L.rs, (lt_put (n := 999) (lt_put (n := 998) (by show 0 < 998; decide))), ?_⟩
    rw [hs_put]
    have nt1 : H1 t = none := by
      rw [upd_ne (Ne.symm ntx)] at nt
      exact nt
    have sx : ∀ b o, b ≠ x → H b = some o → (upd (upd (upd H1 x (HO.ins C dx (putF "check" (V.str h.ch) (putF "depth" (V.int h.d) [])))) t (.tup us)) x (.ins C dx (hsF (.int h.d) (.str h.ch) (.ref t)))) b = some o := fun b o nb e => by
      rw [upd_ne nb, upd_ne (ne_of_none (s1 _ _ e) nt1), upd_ne nb]
      exact s1 _ _ e
    refine q _ (fun b o nb e => sx b o nb e) ⟨x, dx, t, us, rfl, upd_same, by rw [upd_ne (Ne.symm ntx)]; exact upd_same, ?_⟩
    refine Ls.imp rl fun v m a => ?_
    obtain ⟨y, dy, rfl, hy⟩ := a
    have nyx : y ≠ x := fun z => by
      rw [z, hx] at hy
      have e := Option.some.inj hy
      cases m <;> cases e
    exact ⟨y, dy, rfl, sx y _ nyx hy⟩
theorem ok_hsLen {f C : Addr} {c : Rc} {fd : FuncData} (F : Fun K "__len__" "House.__len__" sHsLen f fd) (T : BltK mg) (L : HsC K C) : FnOk P w K mg base CX0 1 f fd ["self"] (spHsLen c C) := by
  refine F.ok scHsLen (fun vs H Q E h => ?_) (fun cdv A outer s H vs Q E hr h => ?_)
  · obtain ⟨v, h, rfl, _⟩ := h
    rfl
  · obtain ⟨v, h, rfl, ⟨x, dx, q, us, rfl, hx, hq, rl⟩, k⟩ := h
    refine ⟨_, pss_one (ps_ret (pe_callB call_len_seq (by rfl) T.len PySem.boot_len (pa_cons (pe_fld (pv 0) rfl) pa_nil))), ?_⟩
    rw [← rl.1] at k
    exact ⟨_, rfl, x, C, dx, _, _, rfl, hx, L.cl, L.rs, hs_rs .., q, us, rfl, .inr (SqT.of hq), k⟩
theorem ok_hasRow {f C : Addr} {c : Rc} {fd : FuncData} (F : Fun K "has_row" "has_row" sHasRow f fd) (T : BltK mg) (L : HsC K C) : FnOk P w K mg base CX0 1 f fd ["house", "at"] (spHasRow c C) := by
  refine F.ok scHasRow (fun vs H Q E h => ?_) (fun cdv A outer s H vs Q E hr h => ?_)
  · obtain ⟨v, h, i, rfl, _⟩ := h
    rfl
  · obtain ⟨v, h, i, rfl, ⟨x, dx, q, us, rfl, hx, hq, rl⟩, k⟩ := h
    refine ⟨_, pss_one (ps_ret (pe_chain op_le op_lt pe_int (pv 1) (pe_callB call_len_seq (by rfl) T.len PySem.boot_len (pa_cons (pe_fld (pv 0) rfl) pa_nil)))), ?_⟩
    refine ⟨_, rfl, _, _, rfl, rfl, _, rfl, ?_⟩
    by_cases i0 : 0 ≤ i
    · rw [decide_eq_true i0]
      refine iteT ⟨_, rfl, x, C, dx, _, _, rfl, hx, L.cl, L.rs, hs_rs .., q, us, rfl, .inr (SqT.of hq), _, _, rfl, rfl, ?_⟩
      unfold hasRow at k
      rw [decide_eq_true i0, Bool.true_and, ← rl.1] at k
      exact k
    · rw [decide_eq_false i0]
      refine iteF ?_
      unfold hasRow at k
      rw [decide_eq_false i0, Bool.false_and] at k
      exact k
end
end V3

set_option Elab.async false
set_option linter.all false
set_option maxRecDepth 100000
namespace V3
open PySem L2 TL
abbrev sHsStr : Stmt := inClass (top 18) 11
abbrev sHsEq : Stmt := inClass (top 18) 10
abbrev sPlaced : Stmt := inClass (top 18) 2
/-! houses: their texts, ==, the place that a house tells -/
def nlS : Str := "\n"
def Hs.lines (h : Hs) : List Str := (Str.empty ++ "depth " ++ num h.d) :: (Str.empty ++ "check " ++ h.ch) :: h.rs.map Rw.text
def Hs.text (h : Hs) : Str := Str.join nlS h.lines
theorem lt_len {m : Rw} (ok : m.ok) (kd : m.kind = 0) : m.text.length ≤ 27 := by
  cases m with
  | ct k w o => cases kd
  | lt k s d p =>
    have l : ∀ z ∈ (Rw.lt k s d p).words, z.length ≤ 6 := fun z hz => (word_ok ok z hz).2
    simp only [Rw.words, List.mem_cons, List.not_mem_nil, or_false, forall_eq_or_imp, forall_eq] at l
    obtain ⟨l1, l2, l3, l4⟩ := l
    have l0 : (Str.empty).length = 0 := rfl
    have lb : (" " : Str).length = 1 := by decide +kernel
    rw [← let_text]
    simp only [app_len]
    omega
theorem num_dep {d : Int} (a : 0 ≤ d) (b : d ≤ 4) : (num d).length = 1 := by
  have h : d = 0 ∨ d = 1 ∨ d = 2 ∨ d = 3 ∨ d = 4 := by omega
  rcases h with rfl | rfl | rfl | rfl | rfl <;> decide +kernel
theorem ch_len {z : Str} (h : z ∈ checkL) : z.length ≤ 4 := by
  have q : ∀ z ∈ checkL, z.length ≤ 4 := by decide +kernel
  exact q z h
theorem sum_le {n : Nat} : ∀ l : List Str, (∀ z ∈ l, z.length ≤ n) → (l.map (·.length)).sum ≤ n * l.length
  | [], _ => by simp
  | a :: r, h => by
    have h1 := h a (by simp)
    have h2 := sum_le r fun z hz => h z (by simp [hz])
    simp only [List.map_cons, List.sum_cons, List.length_cons]
    have e : n * (r.length + 1) = n * r.length + n := by rw [Nat.mul_add, Nat.mul_one]
    omega
theorem lines_len {h : Hs} (ok : h.ok) : ∀ z ∈ h.lines, z.length ≤ 30 := by
  obtain ⟨d0, d4, hc, hm, hn⟩ := ok
  intro z hz
  have e1 : ("depth " : Str).length = 6 := by decide +kernel
  have e2 : ("check " : Str).length = 6 := by decide +kernel
  have l0 : (Str.empty).length = 0 := rfl
  simp only [Hs.lines, List.mem_cons, List.mem_map] at hz
  rcases hz with rfl | rfl | ⟨m, mm, rfl⟩
  · have := num_dep d0 d4
    simp only [app_len]
    omega
  · have := ch_len hc
    simp only [app_len]
    omega
  · have := lt_len (hm m mm).1 (hm m mm).2
    omega
theorem lines_n {h : Hs} (ok : h.ok) : h.lines.length ≤ 102 := by
  have := ok.2.2.2.2
  simp only [Hs.lines, List.length_cons, List.length_map]
  omega
def spHsStr (c : Rc) (C : Addr) : Sp := fun vs H Q _ => ∃ (v : V) (h : Hs), vs = [v] ∧ HsAt c C H v h ∧ h.ok ∧ ∀ H', Same H H' → Q (.str h.text) H'
structure StrH (P : Program) (w : World) (K : PySem.W.Frag) (mg : Str → Option Value) (base : Heap) (c : Rc) : Prop where
  s : ∃ (f : Addr) (fd : FuncData), FnOk P w K mg base CX0 1 f fd ["self"] (spRS c 0) ∧ PySem.W.findIn K (.ref c.L) "__str__" = some (some (.ref f)) ∧ PySem.W.isFn K (.ref f) = true ∧ Binds K fd ["self"] []
def rStrH (c : Rc) : List V → Hp → VK → Prop := fun xs H Q => ∃ v m, xs = [v] ∧ RwAt c H v m ∧ m.ok ∧ m.kind = 0 ∧ Q (.str m.text) H
theorem call_strH {X : Cx} {c : Rc} (T : StrH X.prog X.w X.K X.mg X.base c) (room : Room 3 X.A) : CallR X (.type "str") (rStrH c) := by
  intro pins s σ H xs us Q I r h
  obtain ⟨v, m, rfl, ⟨x, dx, rfl, hx⟩, ok, kd, q⟩ := h
  obtain ⟨f, fd, G, at_, isf, bi⟩ := T.s
  have hx2 : H x = some (.ins c.L dx m.fs) := by
    rw [hx]
    show some (HO.ins (c.at m.kind) dx m.fs) = _
    rw [kd]
    rfl
  refine call_strO (E := fun _ _ _ => False) G at_ isf bi pass0 room pins s σ H _ us Q I r ⟨x, dx, m.fs, rfl, hx2, x, dx, m, rfl, hx, kd, ok, _, rfl, q⟩
theorem take_nxt {α : Type} {l : List α} {i : Nat} {x : α} (h : l[i]? = some x) : l.take (i + 1) = l.take i ++ [x] := by
  rw [List.take_add_one, h]
  rfl
/-- the first fitting row's place -/
def placeIn (k s d : Str) : List Rw → Option Str
  | [] => none
  | .lt k' s' d' p :: r => if k' = k ∧ s' = s ∧ d' = d then some p else placeIn k s d r
  | .ct _ _ _ :: r => placeIn k s d r
def optV : Option Str → V
  | some p => .str p
  | none => .non
def spPlaced (c : Rc) (C : Addr) : Sp := fun vs H Q _ => ∃ (v : V) (h : Hs) (k s d : Str), vs = [v, .str k, .str s, .str d] ∧ HsAt c C H v h ∧ h.ok ∧ k ∈ kindL ∧ s ∈ stateL ∧ d ∈ deedL ∧ ∀ H', Same H H' → Q (optV (placeIn k s d h.rs)) H'
theorem word_lay : ∀ z ∈ kindL ++ stateL ++ deedL ++ placeL, PyData.canLay0 (.str z) = true := by decide +kernel
theorem lay_k {z : Str} (h : z ∈ kindL) : PyData.canLay0 (.str z) = true := word_lay z (by simp [h])
theorem lay_s {z : Str} (h : z ∈ stateL) : PyData.canLay0 (.str z) = true := word_lay z (by simp [h])
theorem lay_d {z : Str} (h : z ∈ deedL) : PyData.canLay0 (.str z) = true := word_lay z (by simp [h])
theorem tri_shaped {a b c : Str} (ha : a ∈ kindL) (hb : b ∈ stateL) (hc : c ∈ deedL) : SeqAt.shaped (.tuple [.str a, .str b, .str c]) = true := by
  have kt : ∀ xs : List PyData, PyData.canLay0 (.tuple xs) = PyData.canLayAll0 xs := fun xs => by simp [PyData.canLay0]
  simp [SeqAt.shaped, kt, PyData.canLayAll0, lay_k ha, lay_s hb, lay_d hc, PyData.depth, PyData.depthAll]
theorem str_beq (a b : Str) : (a == b) = decide (a = b) := by
  by_cases h : a = b
  · rw [decide_eq_true h, h]
    simp
  · rw [decide_eq_false h]
    simpa using h
theorem tri_eqv (a b c a' b' c' : Str) : PyData.eqv (.tuple [.str a, .str b, .str c]) (.tuple [.str a', .str b', .str c']) = decide (a = a' ∧ b = b' ∧ c = c') := by
  simp [PyData.eqv, PyData.eqvAll, str_beq, Bool.decide_and]
/-- the two notes of a House object's own str and == -/
structure HsStr (P : Program) (w : World) (K : PySem.W.Frag) (mg : Str → Option Value) (base : Heap) (c : Rc) (C : Addr) : Prop where
  s : ∃ (f : Addr) (fd : FuncData), FnOk P w K mg base CX0 4 f fd ["self"] (spHsStr c C) ∧ PySem.W.findIn K (.ref C) "__str__" = some (some (.ref f)) ∧ PySem.W.isFn K (.ref f) = true ∧ Binds K fd ["self"] []
def rStrK (c : Rc) (C : Addr) : List V → Hp → VK → Prop := fun xs H Q => ∃ v h, xs = [v] ∧ HsAt c C H v h ∧ h.ok ∧ ∀ H', Same H H' → Q (.str h.text) H'
theorem call_strK {X : Cx} {c : Rc} {C : Addr} (T : HsStr X.prog X.w X.K X.mg X.base c C) (room : Room 6 X.A) : CallR X (.type "str") (rStrK c C) := by
  intro pins s σ H xs us Q I r h
  obtain ⟨v, h, rfl, a, ok, q⟩ := h
  obtain ⟨f, fd, G, at_, isf, bi⟩ := T.s
  obtain ⟨x, dx, q1, us1, rfl, hx, hq, rl⟩ := id a
  exact call_strO (E := fun _ _ _ => False) G at_ isf bi pass0 room pins s σ H _ us Q I r ⟨x, dx, _, rfl, hx, _, h, rfl, a, ok, fun H' sm => ⟨_, rfl, q H' sm⟩⟩
/-- what House's class must be to isinstance -/
structure HsI (K : PySem.W.Frag) (C : Addr) : Prop where
  cl : Cls K C
  ca : PySem.W.findIn K (.ref C) "__class__" = some (some (.builtin "object.__class__"))
  mr : PySem.W.mroIn K C (.type "object") = some true
  gn : PySem.W.specialIn K (.builtin "object.__class__") "__get__" = some (some (.builtin "getset_descriptor.__get__"))
  tk : PySem.W.takesIn K (.builtin "object.__class__") = some true
  ki : PySem.W.kitOne K (.ref C) (.ref C) = some true
def spHsEq (c : Rc) (C : Addr) : Sp := fun vs H Q _ => ∃ (u v : V) (h g : Hs), vs = [u, v] ∧ HsAt c C H u h ∧ HsAt c C H v g ∧ h.ok ∧ g.ok ∧ ∀ H', Same H H' → Q (.bl (decide (h.text = g.text))) H'
section
variable {P : Program} {w : World} {K : PySem.W.Frag} {mg : Str → Option Value} {base : Heap}
theorem scHsStr : FnScope ["self", "row"] ["self"] (defScope sHsStr) := ⟨rfl, rfl, rfl, by decide +kernel, rfl, by decide +kernel, by decide +kernel⟩
theorem scHsEq : FnScope ["self", "other"] ["self", "other"] (defScope sHsEq) := ⟨rfl, rfl, rfl, by decide +kernel, rfl, by decide +kernel, by decide +kernel⟩
theorem scPlaced : FnScope ["self", "kind", "state", "deed", "row"] ["self", "kind", "state", "deed"] (defScope sPlaced) := ⟨rfl, rfl, rfl, by decide +kernel, rfl, by decide +kernel, by decide +kernel⟩
theorem ok_hsStr {f C : Addr} {c : Rc} {fd : FuncData} (F : Fun K "__str__" "House.__str__" sHsStr f fd) (T : BltK mg) (S : StrH P w K mg base c) (L : HsC K C) : FnOk P w K mg base CX0 4 f fd ["self"] (spHsStr c C) := by
  refine F.ok scHsStr (fun vs H Q E h => ?_) (fun cdv A outer s H vs Q E hr h => ?_)
  · obtain ⟨v, h, rfl, _⟩ := h
    rfl
  · obtain ⟨v, h, rfl, ⟨x, dx, q, us, rfl, hx, hq, rl⟩, ok, k⟩ := h
    have lall := lines_len ok
    have ln := lines_n ok
    obtain ⟨d0, d4, hc, hm, hn⟩ := id ok
    have e1 : ("depth " : Str).length = 6 := by decide +kernel
    have e2 : ("check " : Str).length = 6 := by decide +kernel
    have l0 : (Str.empty).length = 0 := rfl
    have l1 := num_dep d0 d4
    have l2 := ch_len hc
    refine ⟨_, pss_one (ps_ret (pe_joinK pe_str (pe_lst (pa_cons (pe_joined (.cons pe_str (.cons (pe_fmt (pe_fld (pv 0) rfl)) .nil))) (pa_cons (pe_joined (.cons pe_str (.cons (pe_fmt (pe_fld (pv 0) rfl)) .nil)))
      (StX.pa_star (pe_lc (own := [("row", 1)]) (g := gName 1) (tt := tYes) (te := tCB (rStrH c) (tCons (tVar 1) tNil)) (by rfl) scHsStr.nd (pi_tup (pe_fld (pv 0) rfl)) (blkOk_by (own := [("row", 1)]) (N := ["self", "row"]) (sc := defScope sHsStr) (by decide +kernel)) (fun _ _ _ _ _ => pg_name (i := 1) scHsStr.nd rfl (Or.inl rfl)) (fun _ _ _ _ _ => pts_nil)
          (fun _ _ _ _ _ => pe_callTy (call_strH S hr) (by rfl) T.str (by decide +kernel) (pa_cons (pv 1) pa_nil))) pa_nil)))))), ?_⟩
    have am : Am h.d := by
      have z : h.d = 0 ∨ h.d = 1 ∨ h.d = 2 ∨ h.d = 3 ∨ h.d = 4 := by omega
      rcases z with z | z | z | z | z <;> (rw [z]; unfold Am; decide)
    refine ⟨⟨_, rfl⟩, _, rfl, small (by rw [app_len]; omega), ?_⟩
    refine ⟨_, rfl, x, C, dx, _, _, rfl, hx, L.cl, L.d, hs_d .., .inr ⟨h.d, rfl, am_log am, num h.d, rfl, small (by simp only [app_len]; omega), ?_⟩⟩
    refine ⟨_, rfl, small (by rw [app_len]; omega), ?_⟩
    refine ⟨_, rfl, x, C, dx, _, _, rfl, hx, L.cl, L.ch, hs_ch .., .inl ⟨h.ch, rfl, small (by omega), _, rfl, small (by simp only [app_len]; omega), ?_⟩⟩
    refine ⟨_, rfl, x, C, dx, _, _, rfl, hx, L.cl, L.rs, hs_rs .., q, rfl, ⟨us, SqT.of hq⟩, fun D nD => ?_⟩
    have lx : us.length = h.rs.length := rl.1
    refine lc_tup (K := K) (a := q) (xs := us) (fun i Hh => Same H Hh ∧ H D = none ∧ Hh D = some (.lst (((h.rs.take i).map Rw.text).map V.str))) ⟨Same.new nD, nD, upd_same⟩ (fun i Hh _ p => SqT.of (p.1 _ _ hq)) ?_ ?_
    · intro i z Hh hi p
      have il : i < us.length := (List.getElem?_eq_some_iff.mp hi).1
      obtain ⟨m, em, mz⟩ := Ls.get rl hi
      obtain ⟨mo, mk⟩ := hm m (List.mem_of_getElem? em)
      refine ⟨rfl, ?_⟩
      unfold tYes
      dsimp only
      refine iteT ⟨_, rfl, z, m, rfl, mz.same p.1, mo, mk, _, p.2.2, ?_, fun d o e => ?_, p.2.1, ?_⟩
      · rw [List.length_map, List.length_map, List.length_take]
        exact Nat.lt_of_lt_of_le (m := 1001) (by omega) (by decide)
      · rw [upd_ne (ne_of_none e p.2.1)]
        exact p.1 d o e
      · rw [upd_same, take_nxt em, List.map_append, List.map_append]
        rfl
    · intro Hh p
      obtain ⟨s2, _, e⟩ := p
      rw [lx, List.take_length] at e
      refine ⟨D, _, rfl, .inr (SqL.of e), ?_, fun t nt => ?_⟩
      · simp only [List.append_nil, List.length_cons, List.length_map]
        exact Nat.le_trans (m := 1001) (by omega) (by decide)
      refine ⟨_, t, h.lines, rfl, rfl, .inl (SqL.of ?_), ?_, ?_⟩
      · rw [upd_same, List.append_nil]
        rfl
      · have z := sum_le h.lines lall
        have e3 : ("\n" : Str).length = 1 := by decide +kernel
        rw [e3]
        omega
      · rw [join_eq]
        exact k _ (s2.trans (Same.new nt))
theorem ok_hsEq {f C : Addr} {c : Rc} {fd : FuncData} (F : Fun K "__eq__" "House.__eq__" sHsEq f fd) (T : BltK mg) (S : HsStr P w K mg base c C) (I : HsI K C) (gH : mg "House" = some (.ref C)) : FnOk P w K mg base CX0 7 f fd ["self", "other"] (spHsEq c C) := by
  refine F.ok scHsEq (fun vs H Q E h => ?_) (fun cdv A outer s H vs Q E hr h => ?_)
  · obtain ⟨u, v, h, g, rfl, _⟩ := h
    rfl
  · obtain ⟨u, v, h, g, rfl, hu, hv, ho, go, k⟩ := h
    obtain ⟨y, dy, q2, us2, rfl, hy, hq2, rl2⟩ := id hv
    refine ⟨_, pss_one (ps_ret (pe_and (pe_callB call_isi (by rfl) T.isi (by decide +kernel) (pa_cons (pv 1) (pa_cons (pe_glob (v := .ref C) rfl gH rfl) pa_nil)))
      (pe_one (pe_cmpR op_eq (pe_callTy (call_strK S hr) (by rfl) T.str (by decide +kernel) (pa_cons (pv 0) pa_nil)) (pe_callTy (call_strK S hr) (by rfl) T.str (by decide +kernel) (pa_cons (pv 1) pa_nil)) (nomark _))))), ?_⟩
    refine ⟨_, rfl, _, _, _, _, _, rfl, .own C, .base (.ins hy I.cl I.ca I.gn I.tk I.mr), I.ki, _, rfl, iteT ?_⟩
    refine ⟨_, rfl, u, h, rfl, hu, ho, fun H1 s1 => ⟨_, rfl, _, g, rfl, hv.same s1, go, fun H2 s2 => ⟨rfl, ?_⟩⟩⟩
    have e : decide (V.str h.text = V.str g.text) = decide (h.text = g.text) := by
      by_cases z : h.text = g.text
      · rw [z, decide_eq_true rfl, decide_eq_true rfl]
      · rw [decide_eq_false z, decide_eq_false (fun y => z (by injection y))]
    rw [e]
    exact k _ (s1.trans s2)
theorem ok_placed {f C : Addr} {c : Rc} {fd : FuncData} (F : Fun K "placed" "House.placed" sPlaced f fd) (L : HsC K C) (R : LetC K c) : FnOk P w K mg base CX0 2 f fd ["self", "kind", "state", "deed"] (spPlaced c C) := by
  refine F.ok scPlaced (fun vs H Q E h => ?_) (fun cdv A outer s H vs Q E hr h => ?_)
  · obtain ⟨v, h, k, s, d, rfl, _⟩ := h
    rfl
  · obtain ⟨v, h, kd, st, de, rfl, ⟨x, dx, q, us, rfl, hx, hq, rl⟩, ok, hk, hs, hd, k⟩ := h
    obtain ⟨d0, d4, hc, hm, hn⟩ := id ok
    refine ⟨_, pss_cons (ps_for PassesOwn.never rfl (pi_tup (pe_fld (pv 0) rfl)) (pg_name (i := 4) scPlaced.nd rfl (Or.inl rfl))
      (pss_one (ps_if (pt_cmpR (op_eqD hr.units) (pe_tup (pa_cons (pe_fld (pv 4) rfl) (pa_cons (pe_fld (pv 4) rfl) (pa_cons (pe_fld (pv 4) rfl) pa_nil)))) (pe_tup (pa_cons (pv 1) (pa_cons (pv 2) (pa_cons (pv 3) pa_nil)))) (nomark _)) (pss_one (ps_ret (pe_fld (pv 4) rfl))) pss_nil)))
      (pss_one (ps_ret pe_non)), ?_⟩
    refine ⟨_, rfl, x, C, dx, _, _, rfl, hx, L.cl, L.rs, hs_rs .., q, rfl, ⟨us, SqT.of hq⟩, ?_⟩
    refine for_tup (K := K) (a := q) (xs := us) (fun i σ H' => (∃ o, σ = [some (.ref x), some (.str kd), some (.str st), some (.str de), o]) ∧ Same H H' ∧ placeIn kd st de h.rs = placeIn kd st de (h.rs.drop i)) ?_ ?_ ?_ ?_
    · exact ⟨⟨_, rfl⟩, Same.refl H, rfl⟩
    · rintro i σ H' _ ⟨_, s1, _⟩
      exact SqT.of (s1 _ _ hq)
    · rintro i z σ H' hi ⟨⟨o, rfl⟩, s1, pl⟩
      obtain ⟨m, em, mz⟩ := Ls.get rl hi
      obtain ⟨mo, mk⟩ := hm m (List.mem_of_getElem? em)
      have il : i < h.rs.length := (List.getElem?_eq_some_iff.mp em).1
      have dr : h.rs.drop i = m :: h.rs.drop (i + 1) := by
        rw [List.drop_eq_getElem_cons il]
        have z := (List.getElem?_eq_some_iff.mp em).2
        rw [z]
      cases m with
      | ct _ _ _ => cases mk
      | lt k' s' d' p' =>
        obtain ⟨y, dy, rfl, hy0⟩ := mz.same s1
        have hy : H' y = some (.ins c.L dy (letF (.str k') (.str s') (.str d') (.str p'))) := hy0
        obtain ⟨k1, k2, k3, k4, _⟩ := id mo
        refine ⟨_, rfl, y, c.L, dy, _, _, rfl, hy, R.cl, R.k, let_kind .., _, rfl, y, c.L, dy, _, _, rfl, hy, R.cl, R.s, let_state .., _, rfl, y, c.L, dy, _, _, rfl, hy, R.cl, R.d, let_deed .., (by show 3 ≤ sizeLine; decide), fun t1 n1 => ?_⟩
        have s2 : Same H' (upd H' t1 (.tup [.str k', .str s', .str d'])) := Same.new n1
        have ht1 : upd H' t1 (.tup [.str k', .str s', .str d']) t1 = some (.tup [.str k', .str s', .str d']) := upd_same
        dsimp only [tNil]
        generalize upd H' t1 (.tup [.str k', .str s', .str d']) = H1 at s2 ht1 ⊢
        refine ⟨_, rfl, _, rfl, _, rfl, (by show 3 ≤ sizeLine; decide), fun t2 n2 => ?_⟩
        have s3 : Same H1 (upd H1 t2 (.tup [.str kd, .str st, .str de])) := Same.new n2
        have ht2 : upd H1 t2 (.tup [.str kd, .str st, .str de]) t2 = some (.tup [.str kd, .str st, .str de]) := upd_same
        dsimp only [tNil]
        generalize upd H1 t2 (.tup [.str kd, .str st, .str de]) = H2 at s3 ht2 ⊢
        have S := (s1.trans s2).trans s3
        refine ⟨.tuple [.str k', .str s', .str d'], .tuple [.str kd, .str st, .str de], .tup (SqT.of (s3 _ _ ht1)) (.cons (.str _) (.cons (.str _) (.cons (.str _) .nil))), .tup (SqT.of ht2) (.cons (.str _) (.cons (.str _) (.cons (.str _) .nil))), tri_shaped k1 k2 k3, tri_shaped hk hs hd, _, rfl, ?_⟩
        rw [tri_eqv]
        rw [dr, show placeIn kd st de (Rw.lt k' s' d' p' :: h.rs.drop (i + 1)) = if k' = kd ∧ s' = st ∧ d' = de then some p' else placeIn kd st de (h.rs.drop (i + 1)) from rfl] at pl
        by_cases e : k' = kd ∧ s' = st ∧ d' = de
        · rw [decide_eq_true e]
          rw [if_pos e] at pl
          refine iteT ⟨_, rfl, y, c.L, dy, _, _, rfl, (s2.trans s3) _ _ hy, R.cl, R.p, let_place .., ?_⟩
          have z := k _ S
          have pl2 : placeIn kd st de h.rs = some p' := pl
          rw [pl2] at z
          exact z
        · rw [decide_eq_false e]
          rw [if_neg e] at pl
          exact iteF ⟨⟨_, rfl⟩, S, pl⟩
    · rintro σ H' ⟨⟨o, rfl⟩, s1, pl⟩
      have z := k _ s1
      rw [rl.1, List.drop_length] at pl
      rw [pl] at z
      exact z
end
end V3

set_option Elab.async false
set_option linter.all false
set_option maxRecDepth 100000
namespace V3
open PySem PySem.Spec PyProof.Rows L2
/-! own exception classes over IndexError whose init is a def -/
abbrev ieTail : List Value := [.type "IndexError", .type "LookupError", .type "Exception", .type "BaseException", .type "object"]
/-- own classes, and then IndexError's line -/
def lineI : List Value → Bool
  | .ref _ :: r => lineI r
  | l => l == ieTail
theorem lineI_or (l : List Value) (e : lineI l = true) : (∃ c r, l = .ref c :: r ∧ lineI r = true) ∨ l = ieTail := by
  cases l with
  | nil => exact .inr (beq_iff_eq.mp e)
  | cons v r => cases v with
    | ref c => exact .inl ⟨c, r, rfl, e⟩
    | _ => exact .inr (beq_iff_eq.mp e)
theorem lineI_pass (me : Value) : ∀ l : List Value, lineI l = true → refuseLoop me "__setattr__" l = pure ()
  | [], e => absurd e (by decide)
  | v :: r, e => by
    rcases lineI_or (v :: r) e with ⟨c, r', q, h⟩ | q
    · obtain ⟨rfl, rfl⟩ := List.cons.inj q
      rw [refuseLoop_ref]
      exact lineI_pass me r h
    · rw [q]
      exact PySem.F.store_IndexError.passes me
theorem lineI_has (Y : String) : ∀ l : List Value, lineI l = true → l.contains (.type Y) = ieTail.contains (.type Y)
  | [], e => absurd e (by decide)
  | v :: r, e => by
    rcases lineI_or (v :: r) e with ⟨c, r', q, h⟩ | q
    · obtain ⟨rfl, rfl⟩ := List.cons.inj q
      rw [List.contains_cons, lineI_has Y r h]
      rfl
    · rw [q]
theorem lineI_ne {l : List Value} (e : lineI l = true) : l.isEmpty = false := by
  cases l with
  | nil => exact absurd e (by decide)
  | cons _ _ => rfl
section
open Builtin Builtin.ObjectAttr PySem.W PySem.Calls PySem.HandSPX
variable {prog : Program} {w : World} {A : Around} {E : Value → Shared → Prop} {R : Result → Shared → Prop} {hp : Heap} {g : Array GenState} {d : Drawn} {t : Nat} {os : OsState}
/-- a first field of an instance without a dict, by object's own way -/
theorem osaI {K : W.Frag} {n : Str} {tk : Tok} {v : Value} {x C : Addr} {fv : Array Value} {cd : ClassData} (Y : K.In hp) (gx : hp.get? x = some { cls := .ref C, data := .fields fv }) (gc : W.clsIn K C = some cd) (gm : lineI cd.mro = true) (gh : cd.hasDict = true) (ga : W.findIn K (.ref C) n = some none)
    (q : ∀ h' tk' dx, (∀ b o, b ≠ x → hp.get? b = some o → h'.get? b = some o) → hp.objs.size ≤ dx → dx ≠ x → h'.get? x = some { cls := .ref C, dict := some dx, data := .fields fv } → h'.Ns1 dx (fun y => if y = n then some v else none) → R (.ok (.ret .none)) ⟨h', g, d, tk', os⟩) :
    codeAny (model prog w) A (.call (.builtin "object.__setattr__") ⟨[.ref x, .str n tk, v], []⟩) R ⟨hp, g, d, t, os⟩ := by
  have J : W.InstAt hp x { cls := .ref C, data := .fields fv } C none := ⟨gx, rfl, rfl, trivial⟩
  have S := F.store_object
  have nem := lineI_ne gm
  have hasO : cd.mro.contains (.type "object") = true := (lineI_has "object" _ gm).trans (by decide +kernel)
  have xs : x ≠ hp.objs.size := Nat.ne_of_lt (Heap.lt_size gx)
  have sb : W.Looks (model prog w) hp (isInstance (.ref x) (.type "object")) true := J.type.andThen (W.looks_mroIn Y (by unfold W.mroIn; rw [gc, Option.bind_some, if_neg (by rw [nem]; decide), hasO]))
  refine codeAny_call_builtin S.slot.plain S.entry (@W.check_slot (model prog w) _ _ ⟨hp, g, d, t, os⟩ "object.__setattr__" "object" "__setattr__" (.ref x) [.str n tk, v] [] _ S.kind S.split sb (S.args (.ref x) (.str n tk) v) ?_)
  have lm : W.Looks (model prog w) hp (mroOf (.ref C)) cd.mro := (W.looks_clsIn Y gc).andThen .now
  have l3 : W.Looks (model prog w) hp (storeTaker? none) none := .now
  have lc : W.Looks (model prog w) hp (classData C) cd := W.looks_clsIn Y gc
  rw [W.osa_eq, refuse_eq]
  refine wpAny_bind (wpAny_bind (J.type.at (wpAny_bind (lm.at ?_))))
  rw [lineI_pass _ _ gm]
  refine wpAny_pure (wpAny_bind (J.type.at (wpAny_bind ((W.looks_findIn Y ga).at (wpAny_bind (l3.at ?_))))))
  show wpAny _ _ (storeInOwnDict (.ref x) (.ref C) (.str n tk) n v false) _ _ _
  obtain ⟨nm, bs, mro, ns, qn, hd, sn, sb', ab, col, del⟩ := cd
  dsimp only at gh
  subst gh
  unfold storeInOwnDict ownDictForStores
  repeat (first | with_reducible refine store_in_new ?_ ?_ | with_reducible refine wpAny_loadPart_at gx ?_ | with_reducible refine lc.at ?_ | wp_step)
  · exact ⟨_, #[], _, (Heap.get?_update_ne _ _ _ _ xs.symm).trans (Heap.get?_push_at rfl rfl), rfl, fun e he => absurd he (by simp), fun _ => rfl⟩
  · intro h' tk' hn' hs
    have gx1 : (hp.push { cls := .type "dict", data := .dict #[] }).get? x = some { cls := .ref C, data := .fields fv } := Heap.get?_push_of_some _ gx
    refine q h' tk' hp.objs.size (fun b o hb ho => ?_) (Nat.le_refl _) xs.symm ?_ hn'
    · exact (hs.2 b (Nat.ne_of_lt (Heap.lt_size ho))).trans ((Heap.get?_update_ne _ _ _ _ hb).trans (Heap.get?_push_of_some _ ho))
    · exact (hs.2 x xs).trans (Heap.get?_update_self _ gx1 rfl)
end
/-- what the written part says of such a class -/
structure OexI (K : PySem.W.Frag) (C : Addr) : Prop where
  cls : ∃ nm q N bs bm sn sub ab col dd k0 k1 k2 k3 k5, K.lookup C = some (excClassObj nm q C N bs bm true sn sub ab col dd k0 k1 k2 k3 k5 "IndexError.__new__") ∧ lineI bm = true
  sa : PySem.W.findIn K (.ref C) "__setattr__" = some (some (.builtin "object.__setattr__"))
  exC : PySem.W.subIn K (.ref C) (.type "BaseException") = some true
  tyC : PySem.W.typeIn K (.ref C) = some (.type "type")
  kC : PySem.W.keepIn K (.ref C) = true
section
variable {X : Cx} {pins : List (Addr × Obj)} {σ : L2.St} {H : Hp} {s : Shared} {a C dx : Addr} {f : Str} {y : V} {u : Value} {fs : List (Str × V)} {Q : Unit → Shared → Prop} {E : Value → Shared → Prop} {A : Around}
theorem ostI_new (T : OexI X.K C) (I : Inv X pins σ H s) (e : H a = some (exo a C none)) (no : PySem.W.findIn X.K (.ref C) f = some none) (ry : RelV y u)
    (k : ∀ dx s', H dx = none → dx ≠ a → Inv X pins σ (upd (upd H dx (exd dx [(f, y)])) a (exo a C (some dx))) s' → Q () s') : wpAny (model X.prog X.w) A (setAttr (.ref a) f u) Q E s := by
  obtain ⟨nm, q, N, bs, bm, sn, sub, ab, col, dd, k0, k1, k2, k3, k5, gC, gm⟩ := T.cls
  have gl : PySem.W.clsIn X.K C = some { name := nm, bases := bs, mro := .ref C :: bm, ns := N, qualname := q, hasDict := true, slotNames := sn, subclasses := sub, abstract := ab, collection := col, hasDel := false } := by
    unfold PySem.W.clsIn
    rw [gC] <;> rfl
  obtain ⟨t1, ho⟩ := exo_at I.hok e
  obtain ⟨hp, g, d, t, os⟩ := s
  refine PySem.W.set_plain I.kIn (ox := { cls := .ref C, dict := none, data := .fields #[.ref t1, .none, .none, .none, .bool false, .none] }) (od := none) ⟨ho, rfl, rfl, trivial⟩ T.sa ?_
  refine osaI I.kIn ho gl (show lineI (.ref C :: bm) = true from gm) rfl no (fun h' tk' dx kk dn dne hx hn => ?_)
  have fd : H dx = none := I.hok.fresh dn
  have nd : ∀ {b : Addr} {o : Obj}, hp.get? b = some o → b ≠ dx := fun {b o} z => Nat.ne_of_lt (Nat.lt_of_lt_of_le (Heap.lt_size z) dn)
  have na : ∀ {b : Addr}, H b = none → b ≠ a := fun {b} n z => by
    rw [z, e] at n
    cases n
  have U : Un X.fs [] H (upd (upd H dx (exd dx [(f, y)])) a (exo a C (some dx))) hp h' := {
    keep := fun b o z n _ _ => kk b o (na n) z
    slot := fun b o z n _ _ => ⟨o.slots, kk b o (na n) z⟩
    free := fun b o z n _ => by rw [upd_ne (na n), upd_ne (nd z)] <;> exact n
    there := fun b o z _ => by
      by_cases eb : b = a
      · exact ⟨_, by rw [eb] <;> exact hx⟩
      · exact ⟨o, kk b o eb z⟩
    tups := fun b xs z => by rw [upd_ne (at_ne e z exo_tup), upd_ne (ne_of_none z fd)] <;> exact z
    frzs := fun b o v z => by rw [upd_ne (at_ne e z exo_frz), upd_ne (ne_of_none z fd)] <;> exact z
    tbls := fun b ps z => ⟨#[], by rw [upd_ne (at_ne e z exo_tbl), upd_ne (ne_of_none z fd), z] <;> simp⟩ }
  refine k dx _ fd dne (I.un (t' := tk') U fun b o z => ?_)
  by_cases eb : b = a
  · subst eb
    rw [upd_same] at z
    cases z
    exact exo_ok hx
  · rw [upd_ne eb] at z
    by_cases ed : b = dx
    · subst ed
      rw [upd_same] at z
      cases z
      exact exd_ok hn (relO_put (f := f) (fs := []) ry fun _ => True.intro)
    · rw [upd_ne ed] at z
      refine (I.hok b o z).stay (fun c v hc y2 => ?_) (fun c hc => by rw [upd_ne (at_ne e hc exo_own), upd_ne (ne_of_none hc fd)] <;> exact hc) (fun c xs hc => by rw [upd_ne (at_ne e hc exo_tup), upd_ne (ne_of_none hc fd)] <;> exact hc)
      refine kk c v ?_ y2
      rcases hc with hc | hc
      · rw [hc]
        exact eb
      · exact at_ne e hc exo_own
end
/-- self.f = y, the first field of an instance that is being made -/
def tOstI (K : PySem.W.Frag) (f : Str) (to te : TE) : TS := fun D σ H => te σ H fun y H1 => to σ H1 fun x H2 => ∃ a C : Addr, x = .ref a ∧ OexI K C ∧ PySem.W.findIn K (.ref C) f = some none ∧
  H2 a = some (exo a C none) ∧ ∀ dx, H2 dx = none → dx ≠ a → D.nx σ (upd (upd H2 dx (exd dx [(f, y)])) a (exo a C (some dx)))
section
variable {X : Cx} {o e : Expr} {es : List Expr} {to te : TE} {ta : TA} {f : Str} {p p' pos : Pos}
theorem ps_ostI (ho : PE X o to) (he : PE X e te) (hs : swapsWith e (some (.Attribute o f p')) pos.line X.env = pure false := by rfl) : PS X (.Assign [.Attribute o f p'] e pos) (tOstI X.K f to te) := by
  refine ⟨fun pins s σ H D I h => ?_⟩
  refine plainObj_wpAny_Assign_Attribute (thn (he.run pins s σ H _ I h) fun v s1 ⟨y, H1, I1, r1, q1⟩ => thn (ho.run pins s1 σ H1 _ I1 q1) fun u s2 ⟨x, H2, I2, r2, a, C, ex, T, no, ea, q⟩ => ?_) hs
  subst ex
  obtain rfl : u = Value.ref a := r2
  exact ostI_new T I2 ea no r1 fun dx s' n ne J => ⟨σ, _, J, q dx n ne⟩
/-- C(e, ..) by its own init, C's line ending in IndexError's -/
theorem pmk_oexI {CX : CXT} {x : Str} {C fI : Addr} {k : Nat} {fd : FuncData} {ps : List Str} {sp : Sp} (T : OexI X.K C) (iC : PySem.W.findIn X.K (.ref C) "__init__" = some (some (.ref fI))) (tI : PySem.W.typeIn X.K (.ref fI) = some (.type "function"))
    (F1 : FnOk X.prog X.w X.K X.mg X.base CX k fI fd ps sp) (room : Room (k + 1) X.A) (bi : Binds X.K fd ps []) (ps' : Passes CX X (fun _ _ _ => False)) (hg : Gl X x) (hm : X.mg x = some (.ref C)) (ha : PA X (e :: es) ta)
    (nd : (x == ("__debug__" : Str)) = false := by decide) (st : starEach (e :: es) X.env = (false, eval e X.env) :: starEach es X.env := by rfl) (pl : (backTo pos (starEach es X.env)).any (·.1) = false := by rfl) :
    PMk X (.Call (.Name x p) (e :: es) [] pos) (tMkO C sp [] ta) := by
  intro pins s σ H Q I h
  obtain ⟨nm, q, N, bs, bm, sn, sub, ab, col, dd, k0, k1, k2, k3, k5, gC, gm⟩ := T.cls
  refine wpAny_Call_Name_kw (ld_glob I hg hm ?_ nd)
  refine PySem.W.callWith_K (h₀ := X.base) I.ok.mod.kin T.kC (thn (ha.run pos pins s σ H _ I h) fun us s1 ⟨vs, H1, I1, r1, hz, q1⟩ => ⟨I1.kIn, ?_⟩) st pl
  show wpAny _ _ (call (.ref C) us) _ _ _
  obtain ⟨hp, g, dr, tk, os⟩ := s1
  have sz : hp.objs.size ≤ hp.objs.size + 1 := Nat.le_succ _
  have fr : H1 (hp.objs.size + 1) = none := I1.hok.fresh sz
  have sp1 := q1 (hp.objs.size + 1) fr
  have keep2 : ∀ b o, hp.get? b = some o → ((hp.push (PySem.W.kdv_tup us)).push (PySem.HandSPX.excO C hp.objs.size)).get? b = some o := fun b o z => Heap.get?_push_of_some _ (Heap.get?_push_of_some _ z)
  have at2 : ((hp.push (PySem.W.kdv_tup us)).push (PySem.HandSPX.excO C hp.objs.size)).get? (hp.objs.size + 1) = some (PySem.HandSPX.excO C hp.objs.size) := by heap_get
  have J : Inv X pins σ (upd H1 (hp.objs.size + 1) (exo (hp.objs.size + 1) C none)) ⟨(hp.push (PySem.W.kdv_tup us)).push (PySem.HandSPX.excO C hp.objs.size), g, dr, tk, os⟩ :=
    I1.laid (t' := tk) (a := hp.objs.size + 1) (o := exo (hp.objs.size + 1) C none) (h' := (hp.push (PySem.W.kdv_tup us)).push (PySem.HandSPX.excO C hp.objs.size)) keep2 sz (exo_ok at2)
  rw [List.append_nil] at sp1
  have r2 : Vals (V.ref (hp.objs.size + 1) :: vs) (Value.ref (hp.objs.size + 1) :: us) := .cons rfl r1
  have len2 : (Value.ref (hp.objs.size + 1) :: us ++ []).length = ps.length := by
    have z := r2.length
    rw [F1.len _ _ _ _ sp1] at z
    rw [List.append_nil]
    exact z.symm
  have few : us.length ≤ sizeLine := by
    rw [← Paired.length r1, sizeLine_eq] <;> omega
  have b2 := bi _ (Value.ref (hp.objs.size + 1) :: us) J.kIn len2
  rw [List.append_nil] at b2
  refine wpAny_call (PySem.HandSPX.call_own PySem.F.excBase_IndexError (fun Y => lineI_has Y bm gm) (I1.kIn _ _ gC) (PySem.W.looks_findIn I1.kIn iC) (fun self => PySem.W.bind_fn I1.kIn self tI) few
    (codeAny_mono (F1.run _ X.stack _ _ ⟨Value.ref (hp.objs.size + 1) :: us, []⟩ (Value.ref (hp.objs.size + 1) :: us) _ _ (fun _ _ _ => False) (room.make C us []) (J.env0.make C us []) b2 r2 sp1) fun r s' z => ?_))
  cases r with
  | error er => exact ps' pins σ _ _ er s' J z
  | ok fl =>
    cases fl with
    | ret u =>
      obtain ⟨v, H2, os2, bare2, un2, ok2, rv, ev, d, fs, ea, ed, nd1, q2⟩ := z
      subst ev
      obtain ⟨h2, g2, d2, t2, os'⟩ := s'
      exact ⟨rv, mk_end (raises_own T.exC T.tyC) I1 sz keep2 un2 ok2 os2 bare2 ea ed nd1 q2⟩
    | next => exact z.elim
    | brk => exact z.elim
    | cont => exact z.elim
end
end V3

set_option Elab.async false
set_option linter.all false
set_option maxRecDepth 100000
namespace V3
open PySem L2 TL
abbrev sNrInit : Stmt := inClass (top 8) 0
abbrev sWithout : Stmt := inClass (top 18) 3
/-! NoRow; a house without some rows -/
def spIX (C : Addr) : Sp := fun vs H Q _ => ∃ (a : Addr) (y : V), vs = [.ref a, y] ∧ H a = some (exo a C none) ∧
  ∀ d, H d = none → d ≠ a → Q .non (upd (upd H d (exd d [("at", y)])) a (exo a C (some d)))
structure NrTxt (P : Program) (w : World) (K : PySem.W.Frag) (mg : Str → Option Value) (base : Heap) (C : Addr) : Prop where
  g : mg "NoRow" = some (.ref C)
  o : OexI K C
  no : PySem.W.findIn K (.ref C) "at" = some none
  ini : ∃ (f : Addr) (fd : FuncData), FnOk P w K mg base CX0 1 f fd ["self", "at"] (spIX C) ∧ PySem.W.findIn K (.ref C) "__init__" = some (some (.ref f)) ∧ PySem.W.typeIn K (.ref f) = some (.type "function") ∧ Binds K fd ["self", "at"] []
/-- behind a raise: an error with the number, all else as it was -/
def ErI (C : Addr) (H : Hp) (E : XK) (i : Int) : Prop := ∀ (d : Addr) (H' : Hp), Same H H' → H' d = some (.xd [("at", .int i)]) → E (.ref C) (some d) H'
theorem raise_sameI {H : Hp} {a d : Addr} {o1 o2 o3 o4 : HO} (na : H a = none) (nd : upd H a o1 d = none) (ne : d ≠ a) : Same H (upd (del (upd (upd (upd H a o1) d o2) a o3) a) d o4) := by
  intro b o e
  have ba : b ≠ a := ne_of_none e na
  have hd : H d = none := by
    rw [upd_ne ne] at nd
    exact nd
  have bd : b ≠ d := ne_of_none e hd
  rw [upd_ne bd, del_ne ba, upd_ne ba, upd_ne bd, upd_ne ba]
  exact e
theorem er_readI {C : Addr} {H : Hp} {E : XK} {i : Int} (h : ErI C H E i) : ∀ a, H a = none → spIX C (.ref a :: ([V.int i] ++ [])) (upd H a (exo a C none))
    (fun v H2 => v = .non ∧ ∃ (d : Addr) (fs : List (Str × V)), H2 a = some (exo a C (some d)) ∧ H2 d = some (exd d fs) ∧ H d = none ∧ E (.ref C) (some d) (upd (del H2 a) d (.xd fs))) (fun _ _ _ => False) := by
  intro a na
  refine ⟨a, _, rfl, upd_same, fun d nd ne => ⟨rfl, d, [("at", .int i)], upd_same, ?_, ?_, ?_⟩⟩
  · rw [upd_ne ne]
    exact upd_same
  · rw [upd_ne ne] at nd
    exact nd
  · exact h d _ (raise_sameI na nd ne) upd_same
/-- walking a list or a tuple -/
def iSeq (K : PySem.W.Frag) (tl : TE) : TI := fun σ H R => tl σ H fun x H1 => ∃ a, x = .ref a ∧ (((∃ xs, SqL K H1 a xs) ∧ R (Itl K a) H1) ∨ ((∃ xs, SqT K H1 a xs) ∧ R (Itt K a) H1))
theorem pi_seq {X : Cx} {tg l : Expr} {tl : TE} (hl : PE X l tl) : PI X tg l (iSeq X.K tl) := by
  refine ⟨fun pins s σ H R J h => ?_⟩
  have nw : ∀ {s1 : Shared} {H1 : Hp} {o : Obj}, Inv X pins σ H1 s1 → Inv X pins σ H1 { s1 with heap := s1.heap.push o } := fun {s1 H1 o} I1 => I1.kept (t' := s1.toks) fun b o e => PySem.Heap.get?_push_of_some _ e
  refine thn (hl.run pins s σ H _ J h) fun v s1 ⟨x, H1, I1, r1, a, ea, q1⟩ => ?_
  subst ea
  cases r1
  have fp : ∀ b ∈ [s1.heap.objs.size], FpOk X pins H1 b := fun b hb => by
    rw [List.mem_singleton.mp hb]
    exact I1.fpOk (Nat.le_refl _) (I1.hok.fresh (Nat.le_refl _))
  rcases q1 with ⟨⟨xs, hq⟩, q⟩ | ⟨⟨xs, hq⟩, q⟩
  · obtain ⟨its, rv, p, hz⟩ := I1.list hq
    exact wpAny_pyIter_list p.isList ⟨s1.heap.objs.size, [s1.heap.objs.size], _, _, H1, rfl, nw I1, turn_list a _, ⟨_, PySem.Heap.get?_push_size _ rfl, rfl, rfl⟩, fp, q⟩
  · obtain ⟨its, rv, p, hz⟩ := I1.tuple hq
    exact wpAny_pyIter_tuple (show s1.heap.IsTuple a its.toArray from p) ⟨s1.heap.objs.size, [s1.heap.objs.size], _, _, H1, rfl, nw I1, turn_tuple a _, ⟨_, PySem.Heap.get?_push_size _ rfl, rfl, rfl⟩, fp, q⟩
theorem for_seq {K : PySem.W.Frag} {a : Addr} {xs : List V} {g : TG} {tb : TS} {D : Ends} {σ : L2.St} {H : Hp} (Pv : Nat → L2.St → Hp → Prop) (h : H a = some (.lst xs) ∨ H a = some (.tup xs)) (h0 : Pv 0 σ H) (hl : ∀ i σ H', Pv i σ H' → Same H H')
    (hs : ∀ i x σ H, xs[i]? = some x → Pv i σ H → g x σ H fun σ2 H2 => tb { D with nx := Pv (i + 1), ct := Pv (i + 1), bk := D.nx } σ2 H2) (hd : ∀ σ H, Pv xs.length σ H → D.nx σ H) :
    ((∃ xs, SqL K H a xs) ∧ ∃ W : Nat → Nat → L2.St → Hp → Prop, (∃ m, W 0 m σ H) ∧ ∀ i m σ H, W i m σ H →
      ((Itl K a).stop i H ∧ D.nx σ H) ∨ ((Itl K a).go i H ∧ ∃ N : L2.St → Hp → Prop, (∀ σ' H', N σ' H' → ∃ m', m' < m ∧ W (i + 1) m' σ' H') ∧ ∀ x H', (Itl K a).yld i H x H' → g x σ H' fun σ2 H2 => tb { D with nx := N, ct := N, bk := D.nx } σ2 H2)) ∨
    ((∃ xs, SqT K H a xs) ∧ ∃ W : Nat → Nat → L2.St → Hp → Prop, (∃ m, W 0 m σ H) ∧ ∀ i m σ H, W i m σ H →
      ((Itt K a).stop i H ∧ D.nx σ H) ∨ ((Itt K a).go i H ∧ ∃ N : L2.St → Hp → Prop, (∀ σ' H', N σ' H' → ∃ m', m' < m ∧ W (i + 1) m' σ' H') ∧ ∀ x H', (Itt K a).yld i H x H' → g x σ H' fun σ2 H2 => tb { D with nx := N, ct := N, bk := D.nx } σ2 H2)) := by
  rcases h with h | h
  · exact .inl ⟨⟨xs, SqL.of h⟩, for_list Pv h0 (fun i σ H' _ z => SqL.of (hl i σ H' z _ _ h)) hs hd⟩
  · exact .inr ⟨⟨xs, SqT.of h⟩, for_tup Pv h0 (fun i σ H' _ z => SqT.of (hl i σ H' z _ _ h)) hs hd⟩
/-- the rows whose numbers, from j on, are none of these -/
def keepFrom (ns : List Int) : Nat → List Rw → List Rw
  | _, [] => []
  | j, m :: r => if ((j : Nat) : Int) ∈ ns then keepFrom ns (j + 1) r else m :: keepFrom ns (j + 1) r
theorem keep_snoc (ns : List Int) (m : Rw) : ∀ (l : List Rw) (j : Nat), keepFrom ns j (l ++ [m]) = keepFrom ns j l ++ (if ((j + l.length : Nat) : Int) ∈ ns then [] else [m])
  | [], j => by
    show (if ((j : Nat) : Int) ∈ ns then keepFrom ns (j + 1) [] else m :: keepFrom ns (j + 1) []) = [] ++ (if ((j + 0 : Nat) : Int) ∈ ns then [] else [m])
    rfl
  | a :: l, j => by
    have ih := keep_snoc ns m l (j + 1)
    have e : j + 1 + l.length = j + (a :: l).length := by
      rw [List.length_cons]
      omega
    rw [e] at ih
    show (if ((j : Nat) : Int) ∈ ns then keepFrom ns (j + 1) (l ++ [m]) else a :: keepFrom ns (j + 1) (l ++ [m])) = (if ((j : Nat) : Int) ∈ ns then keepFrom ns (j + 1) l else a :: keepFrom ns (j + 1) l) ++ _
    by_cases h : ((j : Nat) : Int) ∈ ns
    · rw [if_pos h, if_pos h, ih]
    · rw [if_neg h, if_neg h, ih, List.cons_append]
theorem keep_sub (ns : List Int) : ∀ (l : List Rw) (j : Nat), (keepFrom ns j l).length ≤ l.length ∧ ∀ m ∈ keepFrom ns j l, m ∈ l
  | [], _ => ⟨Nat.le_refl _, fun m h => by cases h⟩
  | a :: l, j => by
    obtain ⟨h1, h2⟩ := keep_sub ns l (j + 1)
    show (if ((j : Nat) : Int) ∈ ns then keepFrom ns (j + 1) l else a :: keepFrom ns (j + 1) l).length ≤ _ ∧ ∀ m ∈ (if ((j : Nat) : Int) ∈ ns then keepFrom ns (j + 1) l else a :: keepFrom ns (j + 1) l), _
    by_cases h : ((j : Nat) : Int) ∈ ns
    · rw [if_pos h]
      exact ⟨by rw [List.length_cons]; omega, fun m z => List.mem_cons_of_mem _ (h2 m z)⟩
    · rw [if_neg h]
      refine ⟨by simp only [List.length_cons]; omega, fun m z => ?_⟩
      rcases List.mem_cons.mp z with z | z
      · rw [z]
        exact List.mem_cons_self
      · exact List.mem_cons_of_mem _ (h2 m z)
def Hs.less (h : Hs) (ns : List Int) : Hs := ⟨h.d, h.ch, keepFrom ns 0 h.rs⟩
theorem less_ok {h : Hs} (ok : h.ok) (ns : List Int) : (h.less ns).ok := by
  obtain ⟨d0, d4, hc, hm, hn⟩ := ok
  obtain ⟨h1, h2⟩ := keep_sub ns h.rs 0
  exact ⟨d0, d4, hc, fun m z => hm m (h2 m z), Nat.le_trans h1 hn⟩
def badRow (h : Hs) (ns : List Int) : Option Int := ns.find? fun i => !hasRow h i
def NumsAt (K : PySem.W.Frag) (H : Hp) (p : Addr) (ns : List Int) : Prop := SqL K H p (ns.map V.int) ∨ SqT K H p (ns.map V.int)
/-- a list or a tuple of whole numbers that stays -/
def NumsIn (H : Hp) (p : Addr) (ns : List Int) : Prop := H p = some (.lst (ns.map V.int)) ∨ H p = some (.tup (ns.map V.int))
theorem NumsIn.same {H H' : Hp} {p : Addr} {ns : List Int} (h : NumsIn H p ns) (s : Same H H') : NumsIn H' p ns := h.elim (fun z => .inl (s _ _ z)) (fun z => .inr (s _ _ z))
theorem NumsIn.sq {K : PySem.W.Frag} {H : Hp} {p : Addr} {ns : List Int} (h : NumsIn H p ns) : SqL K H p (ns.map V.int) ∨ SqT K H p (ns.map V.int) := h.elim (fun z => .inl (SqL.of z)) (fun z => .inr (SqT.of z))
def spWithout (c : Rc) (C CN : Addr) : Sp := fun vs H Q E => ∃ (v : V) (p : Addr) (h : Hs) (ns : List Int), vs = [v, .ref p] ∧ HsAt c C H v h ∧ h.ok ∧ NumsIn H p ns ∧
  (badRow h ns = none → ∀ w H', Same H H' → HsAt c C H' w (h.less ns) → Q w H') ∧ ∀ i, badRow h ns = some i → ErI CN H E i
theorem flat_ints (L : List Int) : (L.map V.int).all flatV = true := by
  induction L with
  | nil => rfl
  | cons a r ih => simpa [flatV] using ih
theorem inV_int {i : Int} {L : List Int} : inV (.int i) (L.map V.int) = decide (i ∈ L) := by
  induction L with
  | nil => rfl
  | cons a r ih =>
    have e : inV (.int i) ((a :: r).map V.int) = (a == i || inV (.int i) (r.map V.int)) := rfl
    rw [e, ih]
    by_cases q : i = a
    · subst q
      simp
    · have z : (a == i) = false := Bool.eq_false_iff.mpr fun w => q (eq_of_beq w).symm
      rw [z]
      simp [q]
/-- House, how it is made -/
structure MkH (P : Program) (w : World) (K : PySem.W.Frag) (mg : Str → Option Value) (base : Heap) (c : Rc) (C : Addr) : Prop where
  g : mg "House" = some (.ref C)
  ini : ∃ (f : Addr) (fd : FuncData), FnOk P w K mg base CX0 4 f fd ["self", "depth", "check", "rows"] (spHsInit c C) ∧ Mk K C f ∧ Binds K fd ["self", "depth", "check", "rows"] []
theorem mk_house {c : Rc} {C x dx l : Addr} {H : Hp} {us : List V} {h : Hs} {R : VK} {E : XK} (hl : H l = some (.lst us)) (rl : RwLs c H us h.rs) (ok : h.ok) (nx : H x = none) (ndx : H dx = none) (q : ∀ H', Same H H' → HsAt c C H' (.ref x) h → R .non H') :
    spHsInit c C [.ref x, .int h.d, .str h.ch, .ref l] (upd (upd H dx (.own x)) x (.ins C dx [])) R E := by
  have s0 : Same H (upd (upd H dx (.own x)) x (.ins C dx [])) := made_same nx ndx
  exact ⟨x, dx, l, us, h, rfl, upd_same, s0 _ _ hl, rl.same s0, ok, fun H' s' a => q H' (fun b o e => s' b o (ne_of_none e nx) (s0 b o e)) a⟩
section
variable {P : Program} {w : World} {K : PySem.W.Frag} {mg : Str → Option Value} {base : Heap}
theorem scNrInit : FnScope ["self", "at"] ["self", "at"] (defScope sNrInit) := ⟨rfl, rfl, rfl, by decide +kernel, rfl, by decide +kernel, by decide +kernel⟩
theorem scWithout : FnScope ["self", "numbers", "at", "row"] ["self", "numbers"] (defScope sWithout) := ⟨rfl, rfl, rfl, by decide +kernel, rfl, by decide +kernel, by decide +kernel⟩
theorem ok_nrInit {f C : Addr} {fd : FuncData} (F : Fun K "__init__" "NoRow.__init__" sNrInit f fd) (o : OexI K C) (no : PySem.W.findIn K (.ref C) "at" = some none) : FnOk P w K mg base CX0 1 f fd ["self", "at"] (spIX C) := by
  refine F.ok scNrInit (fun vs H Q E h => ?_) (fun cdv A outer s H vs Q E hr h => ?_)
  · obtain ⟨a, y, rfl, _⟩ := h
    rfl
  · obtain ⟨a, y, rfl, ha, q⟩ := h
    exact ⟨_, pss_one (ps_ostI (pv 0) (pv 1)), _, rfl, _, rfl, a, C, rfl, o, no, ha, fun dx h1 h2 => q dx h1 h2⟩
theorem ok_without {f C CN : Addr} {c : Rc} {fd : FuncData} (F : Fun K "without" "House.without" sWithout f fd) (ze : mg "enumerate" = none) (L : HsC K C) (N : NrTxt P w K mg base CN) (M : MkH P w K mg base c C)
    (cR : Cal P w K mg base CX0 "has_row" 1 ["house", "at"] (spHasRow c C)) : FnOk P w K mg base (L2.CX P w) 6 f fd ["self", "numbers"] (spWithout c C CN) := by
  obtain ⟨fR, fdR, GR, mR, kR, bR⟩ := cR
  obtain ⟨fI, fdI, GI, iI, tI, bI⟩ := N.ini
  obtain ⟨fH, fdH, GH, MH, bH⟩ := M.ini
  refine F.okX scWithout (fun vs H Q E h => ?_) (fun cdv A outer s H vs Q E hr h => ?_)
  · obtain ⟨v, p, h, ns, rfl, _⟩ := h
    rfl
  · obtain ⟨v, p, h, ns, rfl, hv, ok, hp, q1, q2⟩ := h
    obtain ⟨x, dx, q, us, rfl, hx, hq, rl⟩ := id hv
    refine ⟨_, pss_cons (ps_for (passes_of rfl) rfl (pi_seq (pv 1)) (pg_name (i := 2) scWithout.nd rfl (Or.inl rfl))
      (pss_one (ps_if (pt_not (pt_val (pe_call GR (hr.mono (by decide)) rfl mR kR bR .nil pass0 (pa_cons (pv 0) (pa_cons (pv 2) pa_nil))))) (pss_one (ps_raise rfl (takes_of rfl rfl rfl rfl) (pmk_oexI N.o iI tI GI (hr.mono (by decide)) bI pass0 rfl N.g (by exact (pa_cons (pv 2) pa_nil))))) pss_nil)))
      (pss_one (ps_ret (pe_make (E := fun _ _ _ => False) MH GH (hr.mono (by decide)) rfl M.g bH .nil pass0 (pa_cons (pe_fld (pv 0) rfl) (pa_cons (pe_fld (pv 0) rfl) (pa_cons
        (pe_lc (own := [("at", 2), ("row", 3)]) (g := gTup K 2 (gCons (gName 2) (gCons (gName 3) gNil))) (tt := tTest (tOp (rIn K true) (tVar 2) (tVar 1))) (te := tVar 3) (by rfl) scWithout.nd (pi_enumT (by rfl) ze (pa_cons (pe_fld (pv 0) rfl) pa_nil)) (blkOk_by (own := [("at", 2), ("row", 3)]) (N := ["self", "numbers", "at", "row"]) (sc := defScope sWithout) (by decide +kernel))
          (fun _ _ _ _ _ => pg_tup rfl (pgs_cons (pg_name (i := 2) scWithout.nd rfl (Or.inl rfl)) (pgs_cons (pg_name (i := 3) scWithout.nd rfl (Or.inl rfl)) pgs_nil))) (fun _ _ _ _ _ => pts_one (pt_cmpR op_notIn_seq (pv 2) (pv 1) rfl))
          (fun _ _ _ _ _ => pv 3)) pa_nil)))))), ?_⟩
    refine ⟨_, rfl, p, rfl, ?_⟩
    refine for_seq (K := K) (a := p) (xs := ns.map V.int) (fun i σ H' => (∃ o2 o3, σ = [some (.ref x), some (.ref p), o2, o3]) ∧ Same H H' ∧ badRow h ns = badRow h (ns.drop i)) hp ?_ ?_ ?_ ?_
    · exact ⟨⟨_, _, rfl⟩, Same.refl H, rfl⟩
    · rintro i σ H' ⟨_, s1, _⟩
      exact s1
    · rintro i z σ H' hi ⟨⟨o2, o3, rfl⟩, s1, pl⟩
      rw [List.getElem?_map] at hi
      obtain ⟨n, hn, rfl⟩ := Option.map_eq_some_iff.mp hi
      have il : i < ns.length := (List.getElem?_eq_some_iff.mp hn).1
      have dr : ns.drop i = n :: ns.drop (i + 1) := by
        rw [List.drop_eq_getElem_cons il, (List.getElem?_eq_some_iff.mp hn).2]
      refine ⟨_, rfl, _, rfl, .ref x, h, n, rfl, hv.same s1, _, rfl, ?_⟩
      rw [dr] at pl
      cases e : hasRow h n with
      | true =>
        refine iteF ⟨⟨_, _, rfl⟩, s1, ?_⟩
        rw [pl]
        unfold badRow
        rw [List.find?_cons, e]
        rfl
      | false =>
        have z : badRow h ns = some n := by
          rw [pl]
          unfold badRow
          rw [List.find?_cons, e]
          rfl
        refine iteT ⟨_, rfl, (by show 1 ≤ 1000; decide), er_readI (fun d H2 s2 hd => q2 n z d H2 (s1.trans s2) hd)⟩
    · rintro σ H1 ⟨⟨o2, o3, rfl⟩, s1, pl⟩
      have none_bad : badRow h ns = none := by
        rw [pl, List.length_map, List.drop_length]
        rfl
      have hx1 := s1 _ _ hx
      have hq1 := s1 _ _ hq
      have rl1 := rl.same s1
      have hp1 := hp.same s1
      have lx : us.length = h.rs.length := rl.1
      obtain ⟨d0, d4, hc, hm, hn⟩ := id ok
      refine ⟨_, rfl, x, C, dx, _, _, rfl, hx1, L.cl, L.d, hs_d .., _, rfl, x, C, dx, _, _, rfl, hx1, L.cl, L.ch, hs_ch .., _, rfl, x, C, dx, _, _, rfl, hx1, L.cl, L.rs, hs_rs .., q, us, rfl, SqT.of hq1, fun D nD => ?_⟩
      refine lc_it (walk_enumT (K := K) (a := q) (xs := us)) (fun i Hh => Same H1 Hh ∧ H1 D = none ∧ ∃ acc, Hh D = some (.lst acc) ∧ Ls (RwAt c H1) acc (keepFrom ns 0 (h.rs.take i))) ⟨Same.new nD, nD, [], upd_same, Ls.nil⟩ (fun i Hh _ z => SqT.of (z.1 _ _ hq1)) ?_ ?_
      · rintro i z Hh H2 il ⟨s2, nD1, acc, hD, ra⟩ ⟨T, a, y, rfl, nT, rfl, ea, hy⟩
        obtain rfl := Option.some.inj ea
        obtain ⟨m, em, mz⟩ := Ls.get rl1 hy
        have sT : Same Hh (upd Hh T (.tup [.int (i : Nat), y])) := Same.new nT
        have hD2 := sT _ _ hD
        have hT : upd Hh T (.tup [.int (i : Nat), y]) T = some (.tup [.int (i : Nat), y]) := upd_same
        have s3 := s2.trans sT
        generalize upd Hh T (.tup [.int (i : Nat), y]) = H2 at sT hD2 hT s3 ⊢
        have lacc : acc.length ≤ 100 := by
          rw [ra.1]
          have z1 := (keep_sub ns (h.rs.take i) 0).1
          rw [List.length_take] at z1
          omega
        have tk : h.rs.take (i + 1) = h.rs.take i ++ [m] := take_nxt em
        have li : (h.rs.take i).length = i := by
          rw [List.length_take]
          omega
        have ks := keep_snoc ns m (h.rs.take i) 0
        rw [← tk, li, Nat.zero_add] at ks
        refine ⟨T, _, rfl, SqT.of hT, rfl, _, _, rfl, _, _, rfl, rfl, rfl, ?_⟩
        refine ⟨_, rfl, _, rfl, p, _, rfl, (hp1.same s3).sq, rfl, flat_ints _, _, rfl, ?_⟩
        rw [inV_int]
        by_cases mem : ((i : Nat) : Int) ∈ ns
        · rw [decide_eq_true mem]
          rw [if_pos mem, List.append_nil] at ks
          refine iteF ⟨s3, nD1, acc, hD2, ?_⟩
          rw [ks]
          exact ra
        · rw [decide_eq_false mem]
          rw [if_neg mem] at ks
          refine iteT ⟨_, rfl, acc, hD2, Nat.lt_of_lt_of_le (m := 101) (by omega) (by decide), fun b o e => ?_, nD1, _, upd_same, ?_⟩
          · rw [upd_ne (ne_of_none e nD1)]
            exact s3 b o e
          · rw [ks]
            exact ra.push mz
      · rintro Hh ⟨s2, nD1, acc, hD, ra⟩
        rw [lx, List.take_length] at ra
        have rf : RwLs c Hh acc (h.less ns).rs := Ls.imp ra fun _ _ z => z.same s2
        exact fun y dy ny ndy _ => mk_house (h := h.less ns) hD rf (less_ok ok ns) ny ndy fun H' s' a => ⟨rfl, q1 none_bad _ _ ((s1.trans s2).trans s') a⟩
end
end V3

set_option Elab.async false
set_option linter.all false
set_option maxRecDepth 100000
namespace V3
open PySem L2 TL
abbrev sHouse : Stmt := top 31
abbrev sHouseText : Stmt := top 32
abbrev sPlace : Stmt := top 33
abbrev sHouseOf : Stmt := top 35
/-! the law's own houses: depth, check, rows in a tuple -/
def HtAt (H : Hp) (v : V) (h : Hs) : Prop := ∃ p q us, v = .ref p ∧ H p = some (.tup [.int h.d, .str h.ch, .ref q]) ∧ H q = some (.tup us) ∧ RowLs 0 H us h.rs
theorem HtAt.keep {H H' : Hp} {v : V} {h : Hs} (a : HtAt H v h) (s : Keep H H') : HtAt H' v h := by
  obtain ⟨p, q, us, e, hp, hq, rl⟩ := a
  exact ⟨p, q, us, e, s _ _ (fun _ z => by cases z) hp, s _ _ (fun _ z => by cases z) hq, rl.keep s⟩
theorem HtAt.same {H H' : Hp} {v : V} {h : Hs} (a : HtAt H v h) (s : Same H H') : HtAt H' v h := a.keep (Keep.of s)
theorem Keep.preb {H H' : Hp} {b : Addr} {u v : Int} (hb : H b = some (box u v)) (s : Pre b H H') : Keep H H' := Keep.pre hb s.1
theorem emp_app (a : Str) : Str.empty ++ a = a := ext_tl (by
  rw [tl_append]
  simp [Str.empty, tl])
def spHouse : Sp := fun vs H Q _ => ∃ (b : Addr) (u v n : Int), vs = [.ref b, .int n] ∧ H b = some (box u v) ∧ BoxOk u v ∧ 1 ≤ n ∧ n ≤ 99 ∧ ∀ (x : V) (h : Hs) (H' : Hp), Pre b H H' → HtAt H' x h → h.ok → (h.rs.length : Int) ≤ n → Q x H'
def spHouseText : Sp := fun vs H Q _ => ∃ (v : V) (h : Hs), vs = [v] ∧ HtAt H v h ∧ h.ok ∧ ∀ H', Same H H' → Q (.str h.text) H'
def spPlace : Sp := fun vs H Q _ => ∃ (v : V) (h : Hs) (k s d : Str), vs = [v, .str k, .str s, .str d] ∧ HtAt H v h ∧ h.ok ∧ k ∈ kindL ∧ s ∈ stateL ∧ d ∈ deedL ∧ ∀ H', Same H H' → Q (.str ((placeIn k s d h.rs).getD Str.empty)) H'
def spHouseOf (c : Rc) (C : Addr) : Sp := fun vs H Q _ => ∃ (v : V) (h : Hs), vs = [v] ∧ HtAt H v h ∧ h.ok ∧ ∀ (x : V) (H' : Hp), Same H H' → HsAt c C H' x h → Q x H'
abbrev CalCho (P : Program) (w : World) (K : PySem.W.Frag) (mg : Str → Option Value) (base : Heap) : Prop := Cal P w K mg base CX0 "_law_choose" 1 ["_law_box", "_law_many"] spChoose
abbrev CalRws (P : Program) (w : World) (K : PySem.W.Frag) (mg : Str → Option Value) (base : Heap) : Prop := Cal P w K mg base CX0 "_law_rows" 3 ["_law_box", "_law_many"] spRows
section
variable {P : Program} {w : World} {K : PySem.W.Frag} {mg : Str → Option Value} {base : Heap}
theorem scHouse : FnScope ["_law_box", "_law_many", "_law_depth"] ["_law_box", "_law_many"] (defScope sHouse) := ⟨rfl, rfl, rfl, by decide +kernel, rfl, by decide +kernel, by decide +kernel⟩
theorem scHouseText : FnScope ["_law_house_here", "_law_lines", "_law_row"] ["_law_house_here"] (defScope sHouseText) := ⟨rfl, rfl, rfl, by decide +kernel, rfl, by decide +kernel, by decide +kernel⟩
theorem scPlace : FnScope ["_law_house_here", "_law_kind", "_law_state", "_law_deed", "_law_row"] ["_law_house_here", "_law_kind", "_law_state", "_law_deed"] (defScope sPlace) := ⟨rfl, rfl, rfl, by decide +kernel, rfl, by decide +kernel, by decide +kernel⟩
theorem scHouseOf : FnScope ["_law_house_here", "_law_row"] ["_law_house_here"] (defScope sHouseOf) := ⟨rfl, rfl, rfl, by decide +kernel, rfl, by decide +kernel, by decide +kernel⟩
theorem ok_house {f : Addr} {fd : FuncData} (F : Fun K "_law_house" "_law_house" sHouse f fd) (zt : mg "tuple" = none) (cO : CalOne P w K mg base) (cC : CalCho P w K mg base) (cR : CalRws P w K mg base) : FnOk P w K mg base CX0 4 f fd ["_law_box", "_law_many"] spHouse := by
  obtain ⟨fO, fdO, GO, mO, kO, bO⟩ := cO
  obtain ⟨fC, fdC, GC, mC, kC, bC⟩ := cC
  obtain ⟨fR, fdR, GR, mR, kR, bR⟩ := cR
  refine F.ok scHouse (fun vs H Q E h => ?_) (fun cdv A outer s H vs Q E hr h => ?_)
  · obtain ⟨b, u, v, n, rfl, _⟩ := h
    rfl
  · obtain ⟨b, u, v, n, rfl, hb, bk, n1, n2, k⟩ := h
    refine ⟨_, pss_cons (ps_set (i := 2) scHouse.nd rfl (Or.inl rfl) (pe_call GO (hr.mono (by decide)) rfl mO kO bO .nil pass0 (pa_cons (pv 0) (pa_cons (pe_lst (pa_cons pe_int (pa_cons pe_int (pa_cons pe_int (pa_cons pe_int (pa_cons pe_int (pa_cons pe_int pa_nil))))))) pa_nil))))
      (pss_one (ps_ret (pe_tup (pa_cons (pv 2) (pa_cons (pe_call GO (hr.mono (by decide)) rfl mO kO bO .nil pass0 (pa_cons (pv 0) (pa_cons (pe_lst (pa_cons pe_str (pa_cons pe_str (pa_cons pe_str pa_nil)))) pa_nil)))
        (pa_cons (pe_callTy call_tuple_of (by rfl) zt (by decide +kernel) (pa_cons (pe_call GR (hr.mono (by decide)) rfl mR kR bR .nil pass0 (pa_cons (pv 0) (pa_cons (pe_op op_add pe_int (pe_call GC (hr.mono (by decide)) rfl mC kC bC .nil pass0 (pa_cons (pv 0) (pa_cons (pv 1) pa_nil)))) pa_nil))) pa_nil)) pa_nil)))))), ?_⟩
    refine ⟨_, rfl, (by show 6 ≤ sizeLine; decide), fun l1 nl1 => oneOf_new hb bk nl1 (by decide) (by decide) fun x1 H1 i1 p1 => ?_⟩
    have hx1 : ∃ d : Int, x1 = .int d ∧ 0 ≤ d ∧ d ≤ 4 := by
      simp only [List.mem_cons, List.not_mem_nil, or_false] at i1
      rcases i1 with rfl | rfl | rfl | rfl | rfl | rfl <;> exact ⟨_, rfl, by decide, by decide⟩
    obtain ⟨d, rfl, d0, d4⟩ := hx1
    obtain ⟨_, u1, v1, bk1, hb1⟩ := id p1
    refine ⟨_, rfl, _, rfl, (by show 3 ≤ sizeLine; decide), fun l2 nl2 => ?_⟩
    dsimp only [tNil]
    refine oneOf_new hb1 bk1 nl2 (by decide) (by decide) fun x2 H2 i2 p2 => ?_
    have hx2 : ∃ z : Str, x2 = .str z ∧ z ∈ checkL := by
      simp only [List.mem_cons, List.not_mem_nil, or_false] at i2
      rcases i2 with rfl | rfl | rfl <;> exact ⟨_, rfl, by decide +kernel⟩
    obtain ⟨ch, rfl, hc⟩ := hx2
    obtain ⟨_, u2, v2, bk2, hb2⟩ := id p2
    refine ⟨_, rfl, _, rfl, _, rfl, b, u2, v2, n, rfl, hb2, bk2, n1, by omega, fun e u3 v3 e0 e1 bk3 => ?_⟩
    have p3 : Pre b H2 (upd H2 b (box u3 v3)) := Pre.box bk3
    have hb3 : upd H2 b (box u3 v3) b = some (box u3 v3) := upd_same
    dsimp only [tNil]
    generalize upd H2 b (box u3 v3) = H3 at p3 hb3 ⊢
    refine ⟨_, _, rfl, rfl, b, u3, v3, 1 + e, rfl, hb3, bk3, by omega, by omega, fun D xs ms H4 p4 hD nD hs rl lm => ?_⟩
    refine ⟨D, xs, rfl, .inl ⟨SqL.of hD, fun t nt => ?_⟩⟩
    obtain ⟨_, u4, v4, bk4, hb4⟩ := id p4
    have s5 : Same H4 (upd H4 t (.tup xs)) := Same.new nt
    have ht : upd H4 t (.tup xs) t = some (.tup xs) := upd_same
    generalize upd H4 t (.tup xs) = H5 at s5 ht ⊢
    refine ⟨(by show 3 ≤ sizeLine; decide), fun t2 nt2 => ?_⟩
    have s6 : Same H5 (upd H5 t2 (.tup [.int d, .str ch, .ref t])) := Same.new nt2
    refine k _ ⟨d, ch, ms⟩ _ (((((p1.trans p2).trans p3).trans p4).then s5).then s6) ⟨t2, t, xs, rfl, upd_same, s6 _ _ ht, (rl.keep (Keep.of s5)).keep (Keep.of s6)⟩ ⟨d0, d4, hc, fun m hm => ?_, by show ms.length ≤ 100; omega⟩ (by show (ms.length : Int) ≤ n; omega)
    obtain ⟨i, hi⟩ := List.getElem?_of_mem hm
    obtain ⟨_, _, z⟩ := rl.2 i m hi
    exact z.2
theorem ok_houseText {f : Addr} {fd : FuncData} (F : Fun K "_law_house_text" "_law_house_text" sHouseText f fd) (zs : mg "str" = none) : FnOk P w K mg base CX0 1 f fd ["_law_house_here"] spHouseText := by
  refine F.ok scHouseText (fun vs H Q E h => ?_) (fun cdv A outer s H vs Q E hr h => ?_)
  · obtain ⟨v, h, rfl, _⟩ := h
    rfl
  · obtain ⟨v, h, rfl, ⟨p, q, us, rfl, hp, hq, rl⟩, ok, k⟩ := h
    have lall := lines_len ok
    have ln := lines_n ok
    obtain ⟨d0, d4, hc, hm, hn⟩ := id ok
    refine ⟨_, pss_cons (ps_set (i := 1) scHouseText.nd rfl (Or.inl rfl) (pe_lst (pa_cons (pe_op op_add_str pe_str (pe_callTy call_str_int (by rfl) zs (by decide +kernel) (pa_cons (pe_ix ix_tup (pv 0) pe_int (fun _ _ => rfl)) pa_nil))) (pa_cons (pe_op op_add_str pe_str (pe_ix ix_tup (pv 0) pe_int (fun _ _ => rfl))) pa_nil))))
      (pss_one (ps_ret (pe_joinK pe_str (pe_op op_cat (pv 1) (pe_lc (own := [("_law_row", 2)]) (g := gName 2) (tt := tYes) (te := tM1 (rJoinK K) (tC (.str " ")) (tVar 2)) (by rfl) scHouseText.nd (pi_tup (pe_ix ix_tup (pv 0) pe_int (fun _ _ => rfl))) (blkOk_by (own := [("_law_row", 2)]) (N := ["_law_house_here", "_law_lines", "_law_row"]) (sc := defScope sHouseText) (by decide +kernel)) (fun _ _ _ _ _ => pg_name (i := 2) scHouseText.nd rfl (Or.inl rfl)) (fun _ _ _ _ _ => pts_nil)
          (fun _ _ _ _ _ => pe_joinK pe_str (pv 2))))))), ?_⟩
    have am : Am h.d := by
      have z : h.d = 0 ∨ h.d = 1 ∨ h.d = 2 ∨ h.d = 3 ∨ h.d = 4 := by omega
      rcases z with z | z | z | z | z <;> (rw [z]; unfold Am; decide)
    have e1 : ("depth " : Str).length = 6 := by decide +kernel
    have e2 : ("check " : Str).length = 6 := by decide +kernel
    have n1 := num_dep d0 d4
    have n2 := ch_len hc
    refine ⟨_, rfl, p, _, 0, _, rfl, rfl, SqT.of hp, rfl, h.d, rfl, am_log am, _, _, rfl, rfl, small ?_, ?_⟩
    · show ("depth " : Str).length + (num h.d).length ≤ 10000
      omega
    refine ⟨_, rfl, p, _, 1, _, rfl, rfl, SqT.of hp, rfl, _, _, rfl, rfl, small ?_, (by show 2 ≤ sizeLine; decide), fun l nl => ?_⟩
    · show ("check " : Str).length + h.ch.length ≤ 10000
      omega
    have s1 : Same H (upd H l (.lst [.str ("depth " ++ Str.ofString (toString h.d)), .str ("check " ++ h.ch)])) := Same.new nl
    have hl : upd H l (.lst [.str ("depth " ++ Str.ofString (toString h.d)), .str ("check " ++ h.ch)]) l = some (.lst [.str ("depth " ++ Str.ofString (toString h.d)), .str ("check " ++ h.ch)]) := upd_same
    dsimp only [gName]
    generalize upd H l (.lst [.str ("depth " ++ Str.ofString (toString h.d)), .str ("check " ++ h.ch)]) = H1 at s1 hl ⊢
    have hp1 := s1 _ _ hp
    have hq1 := s1 _ _ hq
    have rl1 : RowLs 0 H1 us h.rs := rl.keep (Keep.of s1)
    have lx : us.length = h.rs.length := rl.1
    refine ⟨⟨_, rfl⟩, _, rfl, _, rfl, p, _, 2, _, rfl, rfl, SqT.of hp1, rfl, q, rfl, ⟨us, SqT.of hq1⟩, fun D nD => ?_⟩
    refine lc_tup (K := K) (a := q) (xs := us) (fun i Hh => Same H1 Hh ∧ H1 D = none ∧ Hh D = some (.lst (((h.rs.take i).map Rw.text).map V.str))) ⟨Same.new nD, nD, upd_same⟩ (fun i Hh _ z => SqT.of (z.1 _ _ hq1)) ?_ ?_
    · rintro i z Hh hi ⟨s2, nD1, hD⟩
      have il : i < us.length := (List.getElem?_eq_some_iff.mp hi).1
      obtain ⟨m, em, tm, mo, mk⟩ := Ls.get rl1 hi
      obtain ⟨t, rfl, ht⟩ := tm.same s2
      have tl0 := lt_len mo mk
      refine ⟨rfl, ?_⟩
      unfold tYes
      dsimp only
      cases m with
      | ct _ _ _ => cases mk
      | lt k' s' d' p' =>
        have lw : ∀ z ∈ (Rw.lt k' s' d' p').words, z.length ≤ 6 := fun z hz => (word_ok mo z hz).2
        simp only [Rw.words, List.mem_cons, List.not_mem_nil, or_false, forall_eq_or_imp, forall_eq] at lw
        obtain ⟨l1, l2, l3, l4⟩ := lw
        have lb : (" " : Str).length = 1 := by decide +kernel
        refine iteT ⟨⟨_, rfl⟩, _, rfl, _, t, [k', s', d', p'], rfl, rfl, .inr (SqT.of ht), ?_, _, hD, ?_, fun b o e => ?_, nD1, ?_⟩
        · simp only [List.map, List.sum_cons, List.sum_nil, List.length_cons, List.length_nil, lb]
          omega
        · rw [List.length_map, List.length_map, List.length_take]
          exact Nat.lt_of_lt_of_le (m := 1001) (by omega) (by decide)
        · rw [upd_ne (ne_of_none e nD1)]
          exact s2 b o e
        · have e : Txt.join (" " : Str) [k', s', d', p'] = (Rw.lt k' s' d' p').text := join_eq _ _
          rw [upd_same, take_nxt em, List.map_append, List.map_append, e]
          rfl
    · rintro Hh ⟨s2, nD1, hD⟩
      rw [lx, List.take_length] at hD
      refine ⟨l, D, _, _, rfl, rfl, s2 _ _ hl, hD, ?_, fun t nt => ⟨_, t, h.lines, rfl, rfl, .inl (SqL.of ?_), ?_, ?_⟩⟩
      · simp only [List.length_map, List.length_cons, List.length_nil]
        exact Nat.le_trans (m := 1001) (by omega) (by decide)
      · rw [upd_same]
        unfold Hs.lines
        rw [emp_app, emp_app]
        rfl
      · have z := sum_le h.lines lall
        have e3 : ("\n" : Str).length = 1 := by decide +kernel
        rw [e3]
        omega
      · rw [join_eq]
        exact k _ ((s1.trans s2).trans (Same.new nt))
theorem ok_place {f : Addr} {fd : FuncData} (F : Fun K "_law_place" "_law_place" sPlace f fd) : FnOk P w K mg base CX0 2 f fd ["_law_house_here", "_law_kind", "_law_state", "_law_deed"] spPlace := by
  refine F.ok scPlace (fun vs H Q E h => ?_) (fun cdv A outer s H vs Q E hr h => ?_)
  · obtain ⟨v, h, k, s, d, rfl, _⟩ := h
    rfl
  · obtain ⟨v, h, kd, st, de, rfl, ⟨x, q, us, rfl, hx, hq, rl⟩, ok, hk, hs, hd, k⟩ := h
    obtain ⟨d0, d4, hc, hm, hn⟩ := id ok
    refine ⟨_, pss_cons (ps_for PassesOwn.never rfl (pi_tup (pe_ix ix_tup (pv 0) pe_int (fun _ _ => rfl))) (pg_name (i := 4) scPlace.nd rfl (Or.inl rfl))
      (pss_one (ps_if (pt_cmpR (op_eqD hr.units) (pe_slice sl_tup (pv 4) po_none (po_some pe_int)) (pe_tup (pa_cons (pv 1) (pa_cons (pv 2) (pa_cons (pv 3) pa_nil)))) (nomark _)) (pss_one (ps_ret (pe_ix ix_tup (pv 4) pe_int (fun _ _ => rfl)))) pss_nil)))
      (pss_one (ps_ret pe_str)), ?_⟩
    refine ⟨_, rfl, x, _, 2, _, rfl, rfl, SqT.of hx, rfl, q, rfl, ⟨us, SqT.of hq⟩, ?_⟩
    refine for_tup (K := K) (a := q) (xs := us) (fun i σ H' => (∃ o, σ = [some (.ref x), some (.str kd), some (.str st), some (.str de), o]) ∧ Same H H' ∧ placeIn kd st de h.rs = placeIn kd st de (h.rs.drop i)) ?_ ?_ ?_ ?_
    · exact ⟨⟨_, rfl⟩, Same.refl H, rfl⟩
    · rintro i σ H' _ ⟨_, s1, _⟩
      exact SqT.of (s1 _ _ hq)
    · rintro i z σ H' hi ⟨⟨o, rfl⟩, s1, pl⟩
      obtain ⟨m, em, tm, mo, mk⟩ := Ls.get rl hi
      have il : i < h.rs.length := (List.getElem?_eq_some_iff.mp em).1
      have dr : h.rs.drop i = m :: h.rs.drop (i + 1) := by
        rw [List.drop_eq_getElem_cons il]
        have z := (List.getElem?_eq_some_iff.mp em).2
        rw [z]
      cases m with
      | ct _ _ _ => cases mk
      | lt k' s' d' p' =>
        obtain ⟨y, rfl, hy0⟩ := tm.same s1
        have hy : H' y = some (.tup [.str k', .str s', .str d', .str p']) := hy0
        obtain ⟨k1, k2, k3, k4, _⟩ := id mo
        refine ⟨_, rfl, _, rfl, y, [V.str k', V.str s', V.str d', V.str p'], rfl, SqT.of hy, (by show ¬ (HT.sIx 4 0 none = 0 ∧ HT.sIx 4 4 (some 3) = 4); decide), fun t1 n1 => ?_⟩
        rw [show cutV [V.str k', V.str s', V.str d', V.str p'] none (some 3) = [V.str k', V.str s', V.str d'] from rfl]
        have s2 : Same H' (upd H' t1 (.tup [.str k', .str s', .str d'])) := Same.new n1
        have ht1 : upd H' t1 (.tup [.str k', .str s', .str d']) t1 = some (.tup [.str k', .str s', .str d']) := upd_same
        generalize upd H' t1 (.tup [.str k', .str s', .str d']) = H1 at s2 ht1 ⊢
        refine ⟨_, rfl, _, rfl, _, rfl, (by show 3 ≤ sizeLine; decide), fun t2 n2 => ?_⟩
        have s3 : Same H1 (upd H1 t2 (.tup [.str kd, .str st, .str de])) := Same.new n2
        have ht2 : upd H1 t2 (.tup [.str kd, .str st, .str de]) t2 = some (.tup [.str kd, .str st, .str de]) := upd_same
        dsimp only [tNil]
        generalize upd H1 t2 (.tup [.str kd, .str st, .str de]) = H2 at s3 ht2 ⊢
        have S := (s1.trans s2).trans s3
        refine ⟨.tuple [.str k', .str s', .str d'], .tuple [.str kd, .str st, .str de], .tup (SqT.of (s3 _ _ ht1)) (.cons (.str _) (.cons (.str _) (.cons (.str _) .nil))), .tup (SqT.of ht2) (.cons (.str _) (.cons (.str _) (.cons (.str _) .nil))), tri_shaped k1 k2 k3, tri_shaped hk hs hd, _, rfl, ?_⟩
        rw [tri_eqv]
        rw [dr, show placeIn kd st de (Rw.lt k' s' d' p' :: h.rs.drop (i + 1)) = if k' = kd ∧ s' = st ∧ d' = de then some p' else placeIn kd st de (h.rs.drop (i + 1)) from rfl] at pl
        by_cases e : k' = kd ∧ s' = st ∧ d' = de
        · rw [decide_eq_true e]
          rw [if_pos e] at pl
          refine iteT ⟨_, rfl, y, [V.str k', V.str s', V.str d', V.str p'], 3, _, rfl, rfl, SqT.of ((s2.trans s3) _ _ hy), rfl, ?_⟩
          have z := k _ S
          rw [pl] at z
          exact z
        · rw [decide_eq_false e]
          rw [if_neg e] at pl
          exact iteF ⟨⟨_, rfl⟩, S, pl⟩
    · rintro σ H' ⟨⟨o, rfl⟩, s1, pl⟩
      have z := k _ s1
      rw [rl.1, List.drop_length] at pl
      rw [pl] at z
      exact z
theorem ok_houseOf {f C : Addr} {c : Rc} {fd : FuncData} (F : Fun K "_law_house_of" "_law_house_of" sHouseOf f fd) (M : MkH P w K mg base c C) (cL : Cal P w K mg base CX0 "_law_let_of" 5 ["_law_row"] (spLetOf c)) : FnOk P w K mg base CX0 6 f fd ["_law_house_here"] (spHouseOf c C) := by
  obtain ⟨fL, fdL, GL, mL, kL, bL⟩ := cL
  obtain ⟨fH, fdH, GH, MH, bH⟩ := M.ini
  refine F.ok scHouseOf (fun vs H Q E h => ?_) (fun cdv A outer s H vs Q E hr h => ?_)
  · obtain ⟨v, h, rfl, _⟩ := h
    rfl
  · obtain ⟨v, h, rfl, ⟨x, q, us, rfl, hx, hq, rl⟩, ok, k⟩ := h
    obtain ⟨d0, d4, hc, hm, hn⟩ := id ok
    refine ⟨_, pss_one (ps_ret (pe_make (E := fun _ _ _ => False) MH GH hr rfl M.g bH .nil pass0 (pa_cons (pe_ix ix_tup (pv 0) pe_int (fun _ _ => rfl)) (pa_cons (pe_ix ix_tup (pv 0) pe_int (fun _ _ => rfl)) (pa_cons
      (pe_lc (own := [("_law_row", 1)]) (g := gName 1) (tt := tYes) (te := tCall (spLetOf c) [] E0 (tCons (tVar 1) tNil)) (by rfl) scHouseOf.nd (pi_tup (pe_ix ix_tup (pv 0) pe_int (fun _ _ => rfl))) (blkOk_by (own := [("_law_row", 1)]) (N := ["_law_house_here", "_law_row"]) (sc := defScope sHouseOf) (by decide +kernel)) (fun _ _ _ _ _ => pg_name (i := 1) scHouseOf.nd rfl (Or.inl rfl)) (fun _ _ _ _ _ => pts_nil)
          (fun _ _ _ _ _ => pe_call GL hr rfl mL kL bL .nil pass0 (pa_cons (pv 1) pa_nil))) pa_nil))))), ?_⟩
    refine ⟨_, rfl, x, _, 0, _, rfl, rfl, SqT.of hx, rfl, _, rfl, x, _, 1, _, rfl, rfl, SqT.of hx, rfl, _, rfl, x, _, 2, _, rfl, rfl, SqT.of hx, rfl, q, rfl, ⟨us, SqT.of hq⟩, fun D nD => ?_⟩
    have lx : us.length = h.rs.length := rl.1
    refine lc_tup (K := K) (a := q) (xs := us) (fun i Hh => Same H Hh ∧ H D = none ∧ ∃ acc, Hh D = some (.lst acc) ∧ RwLs c Hh acc (h.rs.take i)) ⟨Same.new nD, nD, [], upd_same, Ls.nil⟩ (fun i Hh _ z => SqT.of (z.1 _ _ hq)) ?_ ?_
    · rintro i z Hh hi ⟨s2, nD1, acc, hD, ra⟩
      obtain ⟨m, em, tm, mo, mk⟩ := Ls.get rl hi
      refine ⟨rfl, ?_⟩
      unfold tYes
      dsimp only
      refine iteT ⟨_, rfl, z, m, rfl, tm.same s2, mo, mk, fun y H' s3 ry => ⟨acc, s3 _ _ hD, ?_, ?_, nD1, _, upd_same, ?_⟩⟩
      · have z1 : acc.length = (h.rs.take i).length := ra.1
        rw [List.length_take] at z1
        exact Nat.lt_of_lt_of_le (m := 101) (by omega) (by decide)
      · intro b o e
        rw [upd_ne (ne_of_none e nD1)]
        exact s3 b o (s2 b o e)
      · rw [take_nxt em]
        have kl : Keep H' (upd H' D (.lst (acc ++ [y]))) := Keep.lst (s3 _ _ hD)
        exact ((ra.same s3).keep kl).push (ry.keep kl)
    · rintro Hh ⟨s2, nD1, acc, hD, ra⟩
      rw [lx, List.take_length] at ra
      exact fun y dy ny ndy _ => mk_house (h := h) hD ra ok ny ndy fun H' s' a => ⟨rfl, k _ _ (s2.trans s') a⟩
end
end V3

set_option Elab.async false
set_option linter.all false
set_option maxRecDepth 100000
namespace V3
open PySem L2 TL
abbrev sRefused : Stmt := top 36
/-! numbers refused -/
section
variable {X : Cx} {CX : CXT} {k : Nat} {f C : Addr} {fd : FuncData} {ps : List Str} {sp : Sp} {E : St → XK} {m : Str} {pos apos : Pos} {e o : Expr} {es : List Expr} {ta : TE} {t : TA}
/-- o.m(..) within a try -/
def tMethA (C : Addr) (m : Str) (sp : Sp) (E : St → XK) (ta : TE) (t : TA) : TE := fun σ H Q => ta σ H fun x H1 => ∃ a dx fs, x = .ref a ∧ H1 a = some (.ins C dx fs) ∧ fs.lookup m = none ∧
  t σ H1 fun vs H2 => sp (x :: vs) H2 Q (E σ)
theorem pe_methA {pl : Sem Bool} (ho : PE X o ta) (c : Cls X.K C) (me : Meth X.K C m f) (F : FnOk X.prog X.w X.K X.mg X.base CX k f fd ps sp) (room : Room k X.A) (bi : Binds X.K fd ps []) (out : ∀ σ, PassesAt CX X σ (E σ)) (ha : PA X (e :: es) t)
    (st : starEach (e :: es) X.env = (false, eval e X.env) :: starEach es X.env := by rfl) (pl' : (backTo pos (starEach es X.env)).any (·.1) = false := by rfl)
    (ht : eval (.Call (.Attribute o m apos) (e :: es) [] pos) X.env = (do
      let ov ← eval o X.env
      standAt apos.atName
      let (f, first) ← holding [ov] (getMethod ov m pl)
      callWith pos f first (backTo pos (starEach (e :: es) X.env)) (backToKw pos (keywordEach [] X.env))) := by rfl) :
    PE X (.Call (.Attribute o m apos) (e :: es) [] pos) (tMethA C m sp E ta t) := by
  refine ⟨fun pins s σ H Q J h => ?_⟩
  refine PySem.W.methodCall_KW (pl := pl) (thn (ho.run pins s σ H _ J h) fun u s1 ⟨x, H1, I1, rx, a, dx, fs, ex, ea, l, q⟩ => ?_) ht
  subst ex
  obtain rfl : u = Value.ref a := rx
  refine getmeth_ok I1 ea c me l ?_
  refine PySem.W.callWith_K (first := [.ref a]) (h₀ := X.base) J.ok.mod.kin me.kp (thn (ha.run pos pins s1 σ H1 _ I1 q) fun us s2 ⟨vs, H2, I2, r, q2⟩ => ⟨I2.kIn, ?_⟩) st pl'
  exact run_fnS (us := .ref a :: us) (vs := .ref a :: vs) F room bi (out σ) I2 (.cons rfl r) q2
end
structure NrE (K : PySem.W.Frag) (CN : Addr) : Prop where
  f : XfC K CN
  no : PySem.W.findIn K (.ref CN) "at" = some none
  te : PySem.W.exmOne K (.ref CN) (.ref CN) = some true
def optI : Option Int → V
  | some i => .int i
  | none => .non
def spRefI (c : Rc) (C : Addr) : Sp := fun vs H Q _ => ∃ (v : V) (p : Addr) (h : Hs) (ns : List Int), vs = [v, .ref p] ∧ HsAt c C H v h ∧ h.ok ∧ NumsIn H p ns ∧ ∀ H', Same H H' → Q (optI (badRow h ns)) H'
def tryB (s : Stmt) : List Stmt := match s with
  | .Try b _ _ _ _ => b
  | _ => []
def tryS (s : Stmt) : List Stmt := match s with
  | .Try _ (.ExceptHandler _ _ b _ :: _) _ _ _ => b
  | _ => []
abbrev sTryR : Stmt := (defBody sRefused).getD 1 (.Pass ⟨0, 0, 0, 0⟩)
/-- House's method without -/
structure WoTxt (P : Program) (w : World) (K : PySem.W.Frag) (mg : Str → Option Value) (base : Heap) (c : Rc) (C CN : Addr) : Prop where
  cl : Cls K C
  m : ∃ (f : Addr) (fd : FuncData), FnOk P w K mg base (L2.CX P w) 6 f fd ["self", "numbers"] (spWithout c C CN) ∧ Meth K C "without" f ∧ Binds K fd ["self", "numbers"] []
theorem hs_wo (d ch q : V) : (hsF d ch q).lookup ("without" : Str) = none := by
  unfold hsF
  rw [lk_ne (by decide +kernel), lk_ne (by decide +kernel), lk_ne (by decide +kernel)]
  rfl
def tB (c : Rc) (C CN : Addr) (W : WX) : TS := fun D σ H => tMethA C "without" (spWithout c C CN) (WE W) (tVar 0) (tCons (tVar 1) tNil) σ H fun _ H' => D.nx σ H'
def tS (CN : Addr) : Addr → Value → Option Addr → TS := fun a cls d => tAsg (tXf a cls d CN "at" (tVar 3)) (gName 2)
section
variable {P : Program} {w : World} {K : PySem.W.Frag} {mg : Str → Option Value} {base : Heap}
theorem scRefI : FnScope ["_law_made", "_law_numbers", "_law_found", "e"] ["_law_made", "_law_numbers"] (defScope sRefused) := ⟨rfl, rfl, rfl, by decide +kernel, rfl, by decide +kernel, by decide +kernel⟩
theorem ok_refI {f C CN : Addr} {c : Rc} {fd : FuncData} (F : Fun K "_law_refused" "_law_refused" sRefused f fd) (T : NrE K CN) (gN : mg "NoRow" = some (.ref CN)) (M : WoTxt P w K mg base c C CN) : FnOk P w K mg base CX0 7 f fd ["_law_made", "_law_numbers"] (spRefI c C) := by
  obtain ⟨f1, fd1, G1, M1, b1⟩ := M.m
  refine F.ok scRefI (fun vs H Q E h => ?_) (fun cdv A outer s H vs Q E hr h => ?_)
  · obtain ⟨v, p, h, ns, rfl, _⟩ := h
    rfl
  · obtain ⟨v, p, h, ns, rfl, hv, ok, hp, k⟩ := h
    refine ⟨tSeq (tAsg (tC .non) (gName 2)) (tSeq (fun D σ H => tB c C CN (wAs K (.ref CN) 3 (tS CN) (fun _ _ _ _ => False) D) D σ H) (tRet (tVar 2))), ?_, ?_⟩
    · have body1 : ∀ (W : WX) (pn : List (Addr × Obj)) (xe : Value → Shared → Prop), Takes ((cxOf CX0 P w K mg base ["_law_made", "_law_numbers", "_law_found", "e"] "_law_refused" (defScope sRefused) f cdv A outer s H E).nox.tr pn xe) W →
          PSs ((cxOf CX0 P w K mg base ["_law_made", "_law_numbers", "_law_found", "e"] "_law_refused" (defScope sRefused) f cdv A outer s H E).nox.tr pn xe) (tryB sTryR) (tB c C CN W) := by
        intro W pn xe tk
        exact pss_one (ps_expr (pe_methA (pv 0) M.cl M1 G1 hr b1 (fun σ => passAt tk σ) (pa_cons (pv 1) pa_nil)))
      have suite1 : ∀ (ax : Addr) (oe : Obj) (cls : Value) (d : Option Addr) (pn : List (Addr × Obj)), Zc cls d oe → (∃ vs, oe.data = .fields vs) →
          PSs ((cxOf CX0 P w K mg base ["_law_made", "_law_numbers", "_law_found", "e"] "_law_refused" (defScope sRefused) f cdv A outer s H E).nox.suite ax ((ax, oe) :: pn)) (tryS sTryR) (tS CN ax cls d) := by
        intro ax oe cls d pn hz hfl
        exact pss_one (ps_set (i := 2) scRefI.nd rfl (Or.inl rfl) (by exact (pe_xf T.f T.no hz hfl (pv 3))))
      have try1 : PS (cxOf CX0 P w K mg base ["_law_made", "_law_numbers", "_law_found", "e"] "_law_refused" (defScope sRefused) f cdv A outer s H E).nox sTryR (fun D σ H => tB c C CN (wAs K (.ref CN) 3 (tS CN) (fun _ _ _ _ => False) D) D σ H) :=
        ps_try_as (i := 3) (tb := fun W => tB c C CN W) (ts := tS CN) (Wout := fun _ _ _ _ => False) rfl rfl scRefI.nd rfl rfl ⟨rfl, by decide, Or.inl gN⟩ takes0
          (fun W pn xe tk _ => body1 W pn xe tk) (fun ax oe cls d pn hz hfl => suite1 ax oe cls d pn hz hfl)
      exact pss_cons (ps_set (i := 2) scRefI.nd rfl (Or.inl rfl) pe_non) (pss_cons try1 (pss_one (ps_ret (pv 2))))
    · obtain ⟨x, dx, q, us, rfl, hx, hq, rl⟩ := id hv
      refine ⟨_, rfl, x, dx, _, rfl, hx, hs_wo .., _, rfl, _, p, h, ns, rfl, hv, ok, hp, fun e w H' sm _ => ?_, fun i e d H' sm hd => ?_⟩
      · have z := k H' sm
        rw [e] at z
        exact ⟨_, rfl, z⟩
      · refine ⟨true, T.te, fun _ ax nax => ?_, fun q => Bool.noConfusion q⟩
        refine ⟨_, rfl, rfl, rfl, d, _, _, rfl, hd, rfl, _, rfl, ?_⟩
        have z := k H' sm
        rw [e] at z
        exact z
end
end V3

set_option Elab.async false
set_option linter.all false
set_option maxRecDepth 100000
namespace V3
open PySem L2 TL
abbrev sLaw : Stmt := top 37
structure BltZ (mg : Str → Option Value) : Prop where
  len : mg "len" = none
  range : mg "range" = none
  max : mg "max" = none
  min : mg "min" = none
  str : mg "str" = none
  tuple : mg "tuple" = none
  list : mg "list" = none
  enum : mg "enumerate" = none
/-- House as the law uses it -/
structure HsEnv (P : Program) (w : World) (K : PySem.W.Frag) (mg : Str → Option Value) (base : Heap) (c : Rc) (C CN : Addr) : Prop where
  sk : HsStr P w K mg base c C
  wo : WoTxt P w K mg base c C CN
  pl : ∃ (f : Addr) (fd : FuncData), FnOk P w K mg base CX0 2 f fd ["self", "kind", "state", "deed"] (spPlaced c C) ∧ Meth K C "placed" f ∧ Binds K fd ["self", "kind", "state", "deed"] []
  len : ∃ (f : Addr) (fd : FuncData), FnOk P w K mg base CX0 1 f fd ["self"] (spHsLen c C) ∧ PySem.W.findIn K (.ref C) "__len__" = some (some (.ref f)) ∧ PySem.W.isFn K (.ref f) = true ∧ Binds K fd ["self"] []
  eq : ∃ (f : Addr) (fd : FuncData), FnOk P w K mg base CX0 7 f fd ["self", "other"] (spHsEq c C) ∧ EqCls K C f ∧ Binds K fd ["self", "other"] []
  nf : PySem.W.notFirst K C (.ref C) = true
def FFh (c : Rc) (C : Addr) : Addr → Sp → XK → Prop := fun D sp _ => D = C ∧ sp = spHsEq c C
theorem op_neHs {X : Cx} {c : Rc} {C CN : Addr} (T : HsEnv X.prog X.w X.K X.mg X.base c C CN) (hr : Room 8 X.A) : OpR X (compareOp .NotEq) (rEqO X.K 7 (FFh c C) true) := op_neO (fun D sp E h => by
  obtain ⟨rfl, rfl⟩ := h
  obtain ⟨f, fd, F, ec, bi⟩ := T.eq
  exact ⟨CX0, f, fd, _, F, ec, bi, fun _ _ _ _ _ _ _ h => h.elim⟩) hr
def rLenHs (c : Rc) (C : Addr) : List V → Hp → VK → Prop := fun xs H Q => ∃ v h, xs = [v] ∧ HsAt c C H v h ∧ h.ok ∧ Q (.int (h.rs.length : Int)) H
theorem call_lenHs {X : Cx} {c : Rc} {C CN : Addr} (T : HsEnv X.prog X.w X.K X.mg X.base c C CN) (room : Room 2 X.A) : CallR X (.builtin "len") (rLenHs c C) := by
  intro pins s σ H xs us Q I r h
  obtain ⟨v, h, rfl, a, ok, q⟩ := h
  obtain ⟨f, fd, G, at_, isf, bi⟩ := T.len
  obtain ⟨x, dx, t, ys, rfl, hx, ht, mv⟩ := id a
  have n := ok.2.2.2.2
  refine call_lenO (E := fun _ _ _ => False) G at_ isf bi pass0 room pins s σ H _ us Q I r ⟨x, dx, _, rfl, hx, _, h, rfl, a, _, rfl, ⟨by omega, ?_⟩, q⟩
  exact Int.lt_of_le_of_lt (b := 1000) (by omega) (by decide)
theorem hs_pl (d ch q : V) : (hsF d ch q).lookup ("placed" : Str) = none := by
  unfold hsF
  rw [lk_ne (by decide +kernel), lk_ne (by decide +kernel), lk_ne (by decide +kernel)]
  rfl
theorem wo_at {c : Rc} {C CN : Addr} {H : Hp} {v : V} {p : Addr} {h : Hs} {ns : List Int} {Q : VK} {E : XK} (hM : HsAt c C H v h) (ok : h.ok) (hN : NumsIn H p ns) (nb : badRow h ns = none) (k : ∀ w H', Same H H' → HsAt c C H' w (h.less ns) → Q w H') : spWithout c C CN [v, .ref p] H Q E :=
  ⟨v, p, h, ns, rfl, hM, ok, hN, fun _ => k, fun i e => by
    rw [nb] at e
    cases e⟩
theorem neHs_at {K : PySem.W.Frag} {c : Rc} {C : Addr} {H : Hp} {u v : V} {h g : Hs} {R : VK} (nf : PySem.W.notFirst K C (.ref C) = true) (a1 : HsAt c C H u h) (a2 : HsAt c C H v g) (o1 : h.ok) (o2 : g.ok) (k : ∀ H', Same H H' → R (.bl (decide (h.text = g.text) != true)) H') : rEqO K 7 (FFh c C) true u v H R := by
  obtain ⟨x, dx, q, us, rfl, hx, hq, rl⟩ := id a1
  obtain ⟨y, dy, q2, us2, rfl, hy, hq2, rl2⟩ := id a2
  exact ⟨x, C, dx, _, y, C, dy, _, spHsEq c C, E0, rfl, rfl, hx, hy, ⟨rfl, rfl⟩, nf, _, _, h, g, rfl, a1, a2, o1, o2, fun H' s => ⟨_, rfl, k H' s⟩⟩
theorem keep_mem {ns ms : List Int} (e : ∀ z, z ∈ ns ↔ z ∈ ms) : ∀ (l : List Rw) (j : Nat), keepFrom ns j l = keepFrom ms j l
  | [], _ => rfl
  | a :: l, j => by
    have ih := keep_mem e l (j + 1)
    show (if ((j : Nat) : Int) ∈ ns then keepFrom ns (j + 1) l else a :: keepFrom ns (j + 1) l) = (if ((j : Nat) : Int) ∈ ms then keepFrom ms (j + 1) l else a :: keepFrom ms (j + 1) l)
    rw [ih]
    by_cases h : ((j : Nat) : Int) ∈ ns
    · rw [if_pos h, if_pos ((e _).mp h)]
    · rw [if_neg h, if_neg (fun z => h ((e _).mpr z))]
theorem keep_none : ∀ (l : List Rw) (j : Nat), keepFrom [] j l = l
  | [], _ => rfl
  | a :: l, j => by
    show (if ((j : Nat) : Int) ∈ ([] : List Int) then keepFrom [] (j + 1) l else a :: keepFrom [] (j + 1) l) = a :: l
    rw [if_neg (by simp), keep_none l (j + 1)]
theorem keep_all {ns : List Int} : ∀ (l : List Rw) (j : Nat), (∀ i : Nat, j ≤ i → i < j + l.length → ((i : Nat) : Int) ∈ ns) → keepFrom ns j l = []
  | [], _, _ => rfl
  | a :: l, j, h => by
    show (if ((j : Nat) : Int) ∈ ns then keepFrom ns (j + 1) l else a :: keepFrom ns (j + 1) l) = []
    rw [if_pos (h j (Nat.le_refl _) (by rw [List.length_cons]; omega))]
    exact keep_all l (j + 1) fun i h1 h2 => h i (by omega) (by rw [List.length_cons]; omega)
theorem bad_none {h : Hs} {ns : List Int} (k : ∀ z ∈ ns, 0 ≤ z ∧ z < (h.rs.length : Int)) : badRow h ns = none := by
  unfold badRow
  rw [List.find?_eq_none]
  intro z hz
  obtain ⟨h1, h2⟩ := k z hz
  unfold hasRow
  rw [decide_eq_true h1, decide_eq_true h2]
  decide
theorem bad_some {h : Hs} {ns ms : List Int} {o : Int} (k : ∀ z ∈ ns, 0 ≤ z ∧ z < (h.rs.length : Int)) (ho : hasRow h o = false) : badRow h (ns ++ o :: ms) = some o := by
  have z := bad_none k
  unfold badRow at z ⊢
  rw [List.find?_append, z, List.find?_cons, ho]
  rfl
theorem cut_map (ns : List Int) (lo hi : Option Int) : ∃ ms : List Int, cutV (ns.map V.int) lo hi = ms.map V.int ∧ (∀ z ∈ ms, z ∈ ns) ∧ ms.length ≤ ns.length := by
  refine ⟨(ns.drop (HT.sIx (ns.map V.int).length 0 lo)).take (HT.sIx (ns.map V.int).length (ns.map V.int).length hi - HT.sIx (ns.map V.int).length 0 lo), ?_, fun z hz => List.mem_of_mem_drop (List.mem_of_mem_take hz), ?_⟩
  · unfold cutV
    rw [List.map_take, List.map_drop]
  · rw [List.length_take, List.length_drop]
    omega
def spLaw (K : PySem.W.Frag) : Sp := fun vs H Q _ => ∃ (a : Addr) (ns : List Int), vs = [.ref a] ∧ SqL K H a (ns.map V.int) ∧ ns.length ≤ 63 ∧ ∀ H', Q (.bl true) H'
section
variable {P : Program} {w : World} {K : PySem.W.Frag} {mg : Str → Option Value} {base : Heap}
abbrev NL : List Str := ["_law_script", "_law_k", "_law_box", "_law_turn", "_law_house_here", "_law_made", "_law_many", "_law_some", "_law_numbers", "_law_less", "_law_row", "_law_place_here", "_law_odd", "_law_at"]
theorem scLaw : FnScope NL ["_law_script"] (defScope sLaw) := ⟨rfl, rfl, rfl, by decide +kernel, rfl, by decide +kernel, by decide +kernel⟩
theorem ok_law {f C CN : Addr} {c : Rc} {fd : FuncData} (F : Fun K "law" "law" sLaw f fd) (T : BltZ mg) (R : HsEnv P w K mg base c C CN)
    (cS : Cal P w K mg base CX0 "_law_seed" 1 ["_law_script", "_law_k"] (spSeed K)) (cC : CalCho P w K mg base) (cO : CalOne P w K mg base)
    (cH : Cal P w K mg base CX0 "_law_house" 4 ["_law_box", "_law_many"] spHouse) (cT : Cal P w K mg base CX0 "_law_house_text" 1 ["_law_house_here"] spHouseText)
    (cP : Cal P w K mg base CX0 "_law_place" 2 ["_law_house_here", "_law_kind", "_law_state", "_law_deed"] spPlace) (cF : Cal P w K mg base CX0 "_law_house_of" 6 ["_law_house_here"] (spHouseOf c C))
    (cR : Cal P w K mg base CX0 "_law_refused" 7 ["_law_made", "_law_numbers"] (spRefI c C)) : FnOk P w K mg base CX0 9 f fd ["_law_script"] (spLaw K) := by
  obtain ⟨fS, fdS, GS, mS, kS, bS⟩ := cS
  obtain ⟨fC, fdC, GC, mC, kC, bC⟩ := cC
  obtain ⟨fO, fdO, GO, mO, kO, bO⟩ := cO
  obtain ⟨fH, fdH, GH, mH, kH, bH⟩ := cH
  obtain ⟨fT, fdT, GT, mT, kT, bT⟩ := cT
  obtain ⟨fP, fdP, GP, mP, kP, bP⟩ := cP
  obtain ⟨fF, fdF, GF, mF, kF, bF⟩ := cF
  obtain ⟨fR, fdR, GR, mR, kR, bR⟩ := cR
  obtain ⟨fW, fdW, GW, mW, bW⟩ := R.wo.m
  obtain ⟨fQ, fdQ, GQ, mQ, bQ⟩ := R.pl
  have cl := R.wo.cl
  refine F.ok scLaw (fun vs H Q E h => ?_) (fun cdv A outer s H vs Q E hr h => ?_)
  · obtain ⟨a, ns, rfl, _⟩ := h
    rfl
  · obtain ⟨a, ns, rfl, hS, hl, k⟩ := h
    have hr1 : Room 1 _ := hr.mono (by decide)
    have hr2 : Room 2 _ := hr.mono (by decide)
    have hr4 : Room 4 _ := hr.mono (by decide)
    have hr6 : Room 6 _ := hr.mono (by decide)
    have hr7 : Room 7 _ := hr.mono (by decide)
    refine ⟨_, pss_cons (ps_for PassesOwn.never rfl (pi_range1 (by rfl) T.range (pa_cons (pe_callB (call_max2 rfl) (by rfl) T.max (by decide +kernel) (pa_cons pe_int (pa_cons (pe_callB (call_min2 rfl) (by rfl) T.min (by decide +kernel) (pa_cons pe_int (pa_cons (pe_callB call_len_seq (by rfl) T.len PySem.boot_len (pa_cons (pv 0) pa_nil)) pa_nil))) pa_nil))) pa_nil)) (pg_name (i := 1) scLaw.nd rfl (Or.inl rfl))
      (pss_cons (ps_set (i := 2) scLaw.nd rfl (Or.inr rfl) (pe_call GS hr1 rfl mS kS bS .nil pass0 (pa_cons (pv 0) (pa_cons (pv 1) pa_nil))))
      (pss_one (ps_for PassesOwn.never rfl (pi_range1 (by rfl) T.range (pa_cons pe_int pa_nil)) (pg_name (i := 3) scLaw.nd rfl (Or.inl rfl))
      (pss_cons (ps_set (i := 4) scLaw.nd rfl (Or.inl rfl) (pe_call GH hr4 rfl mH kH bH .nil pass0 (pa_cons (pv 2) (pa_cons pe_int pa_nil))))
      (pss_cons (ps_par (i := 5) (j := 6) rfl scLaw.nd rfl rfl (by decide) rfl rfl (pa_cons (pe_call GF hr6 rfl mF kF bF .nil pass0 (pa_cons (pv 4) pa_nil)) (pa_cons (pe_callB call_len_seq (by rfl) T.len PySem.boot_len (pa_cons (pe_ix ix_tup (pv 4) pe_int (fun _ _ => rfl)) pa_nil)) pa_nil)) (by rfl))
      (pss_cons (ps_set (i := 7) scLaw.nd rfl (Or.inr rfl) (pe_lc (own := [("_law_at", 13)]) (g := gName 13) (tt := tTest (tOp rEq (tCall spChoose [] E0 (tCons (tVar 2) (tCons (tC (.int 3)) tNil))) (tC (.int 0)))) (te := tVar 13) (by rfl) scLaw.nd (pi_range1 (by rfl) T.range (pa_cons (pv 6) pa_nil))
          (blkOk_by (own := [("_law_at", 13)]) (N := NL) (sc := defScope sLaw) (by decide +kernel)) (fun _ _ _ _ _ => pg_name (i := 13) scLaw.nd rfl (Or.inl rfl)) (fun _ _ _ _ _ => pts_one (pt_cmpR op_eq (pe_call GC hr1 rfl mC kC bC .nil pass0 (pa_cons (pv 2) (pa_cons pe_int pa_nil))) pe_int (nomark _))) (fun _ _ _ _ _ => pv 13)))
      (pss_cons (ps_set (i := 8) scLaw.nd rfl (Or.inl rfl) (pe_op op_cat (pe_revL (pv 7)) (pe_slice sl_list (pv 7) po_none (po_some (pe_call GC hr1 rfl mC kC bC .nil pass0 (pa_cons (pv 2) (pa_cons pe_int pa_nil)))))))
      (pss_cons (ps_set (i := 9) scLaw.nd rfl (Or.inl rfl) (pe_tup (pa_cons (pe_ix ix_tup (pv 4) pe_int (fun _ _ => rfl)) (pa_cons (pe_ix ix_tup (pv 4) pe_int (fun _ _ => rfl)) (pa_cons (pe_callTy call_tuple_of (by rfl) T.tuple (by decide +kernel) (pa_cons
          (pe_lc (own := [("_law_at", 13), ("_law_row", 10)]) (g := gTup K 2 (gCons (gName 13) (gCons (gName 10) gNil))) (tt := tTest (tOp (rIn K true) (tVar 13) (tVar 7))) (te := tVar 10) (by rfl) scLaw.nd (pi_enumT (by rfl) T.enum (pa_cons (pe_ix ix_tup (pv 4) pe_int (fun _ _ => rfl)) pa_nil)) (blkOk_by (own := [("_law_at", 13), ("_law_row", 10)]) (N := NL) (sc := defScope sLaw) (by decide +kernel))
            (fun _ _ _ _ _ => pg_tup rfl (pgs_cons (pg_name (i := 13) scLaw.nd rfl (Or.inl rfl)) (pgs_cons (pg_name (i := 10) scLaw.nd rfl (Or.inl rfl)) pgs_nil))) (fun _ _ _ _ _ => pts_one (pt_cmpR op_notIn_seq (pv 13) (pv 7) rfl)) (fun _ _ _ _ _ => pv 10)) pa_nil)) pa_nil)))))
      (pss_cons (ps_if (pt_cmpR op_ne (pe_callTy (call_strK R.sk hr6) (by rfl) T.str (by decide +kernel) (pa_cons (pe_meth (E := E0) (pv 5) cl mW GW hr6 bW .nil passL (pa_cons (pv 8) pa_nil)) pa_nil)) (pe_call GT hr1 rfl mT kT bT .nil pass0 (pa_cons (pv 9) pa_nil)) (nomark _)) (pss_one (ps_ret pe_bl)) pss_nil)
      (pss_cons (ps_for PassesOwn.never rfl (pi_tup (pe_ix ix_tup (pv 4) pe_int (fun _ _ => rfl))) (pg_name (i := 10) scLaw.nd rfl (Or.inl rfl))
        (pss_cons (ps_set (i := 11) scLaw.nd rfl (Or.inl rfl) (pe_meth (E := E0) (pe_meth (E := E0) (pv 5) cl mW GW hr6 bW .nil passL (pa_cons (pv 8) pa_nil)) cl mQ GQ hr2 bQ .nil pass0 (pa_cons (pe_ix ix_tup (pv 10) pe_int (fun _ _ => rfl)) (pa_cons (pe_ix ix_tup (pv 10) pe_int (fun _ _ => rfl)) (pa_cons (pe_ix ix_tup (pv 10) pe_int (fun _ _ => rfl)) pa_nil)))))
        (pss_one (ps_if (pt_cmpR op_ne (pe_ifExp (pt_cmpR op_isN (pv 11) pe_non (nomark _)) pe_str (pv 11)) (pe_call GP hr2 rfl mP kP bP .nil pass0 (pa_cons (pv 9) (pa_cons (pe_ix ix_tup (pv 10) pe_int (fun _ _ => rfl)) (pa_cons (pe_ix ix_tup (pv 10) pe_int (fun _ _ => rfl)) (pa_cons (pe_ix ix_tup (pv 10) pe_int (fun _ _ => rfl)) pa_nil))))) (nomark _)) (pss_one (ps_ret pe_bl)) pss_nil))))
      (pss_cons (ps_if (PW.pt (pw_or (pt_cmpR (op_neHs R hr) (pe_meth (E := E0) (pv 5) cl mW GW hr6 bW .nil passL (pa_cons (pe_callTy call_tuple_of (by rfl) T.tuple (by decide +kernel) (pa_cons (pv 8) pa_nil)) pa_nil)) (pe_call GF hr6 rfl mF kF bF .nil pass0 (pa_cons (pv 9) pa_nil)) (nomark _)) (pw_or1 (pt_cmpR (op_neHs R hr) (pe_meth (E := E0) (pv 5) cl mW GW hr6 bW .nil passL (pa_cons (pe_lst pa_nil) pa_nil)) (pv 5) (nomark _))))) (pss_one (ps_ret pe_bl)) pss_nil)
      (pss_cons (ps_if (PW.pt (pw_or (pt_cmpR op_ne (pe_callB (call_lenHs R hr2) (by rfl) T.len PySem.boot_len (pa_cons (pe_meth (E := E0) (pv 5) cl mW GW hr6 bW .nil passL (pa_cons (pe_listRg rfl (by rfl) T.list (prg_1 (by rfl) T.range (pv 6))) pa_nil)) pa_nil)) pe_int (nomark _)) (pw_or1 (pt_cmpR op_ne (pe_callTy (call_strK R.sk hr6) (by rfl) T.str (by decide +kernel) (pa_cons (pv 5) pa_nil)) (pe_call GT hr1 rfl mT kT bT .nil pass0 (pa_cons (pv 4) pa_nil)) (nomark _))))) (pss_one (ps_ret pe_bl)) pss_nil)
      (pss_cons (ps_set (i := 12) scLaw.nd rfl (Or.inl rfl) (pe_call GO hr2 rfl mO kO bO .nil pass0 (pa_cons (pv 2) (pa_cons (pe_lst (pa_cons (pe_un un_neg pe_int) (pa_cons (pv 6) (pa_cons (pe_op op_add (pv 6) pe_int) (pa_cons (pe_op op_pow pe_int pe_int) pa_nil))))) pa_nil))))
      (pss_one (ps_if (PW.pt (pw_or (pt_cmpR op_ne (pe_call GR hr7 rfl mR kR bR .nil pass0 (pa_cons (pv 5) (pa_cons (pe_op op_cat (pv 8) (pe_lst (pa_cons (pv 12) (pa_cons (pe_op op_add (pv 6) pe_int) pa_nil)))) pa_nil))) (pv 12) (nomark _)) (pw_or1 (pt_cmpR op_ne (pe_call GR hr7 rfl mR kR bR .nil pass0 (pa_cons (pv 5) (pa_cons (pe_tup (pa_cons (pv 12) pa_nil)) pa_nil))) (pv 12) (nomark _))))) (pss_one (ps_ret pe_bl)) pss_nil))))))))))))))))
      (pss_one (ps_ret pe_bl)), ?_⟩
    refine ⟨_, rfl, a, _, rfl, .inl hS, _, _, rfl, _, _, rfl, ?_⟩
    rw [List.length_map]
    have hn : (if (if (ns.length : Int) < 5 then (ns.length : Int) else 5) > 2 then (if (ns.length : Int) < 5 then (ns.length : Int) else 5) else 2) ≤ 5 ∧ 2 ≤ (if (if (ns.length : Int) < 5 then (ns.length : Int) else 5) > 2 then (if (ns.length : Int) < 5 then (ns.length : Int) else 5) else 2) := by
      constructor <;> (split <;> (try split) <;> omega)
    generalize (if (if (ns.length : Int) < 5 then (ns.length : Int) else 5) > 2 then (if (ns.length : Int) < 5 then (ns.length : Int) else 5) else 2) = n at hn
    refine ⟨n, rfl, by omega, by omega, for_range (lo := 0) (n := n.toNat) (fun i σ H' => (∃ o1 o2 o3 o4 o5 o6 o7 o8 o9 o10 o11 o12 o13 : Option V, σ = [some (.ref a), o1, o2, o3, o4, o5, o6, o7, o8, o9, o10, o11, o12, o13]) ∧ Same H H') ⟨⟨_, _, _, _, _, _, _, _, _, _, _, _, _, rfl⟩, Same.refl H⟩ ?_ ?_⟩
    · rintro i σ H0 hi ⟨⟨o1, o2, o3, o4, o5, o6, o7, o8, o9, o10, o11, o12, o13, rfl⟩, s0⟩
      refine ⟨_, rfl, _, rfl, a, ns, _, rfl, s0.seq hS, hl, by omega, by omega, fun b u v nb ok => ?_⟩
      have s1 : Same H (upd H0 b (box u v)) := fun c o e => by
        rw [upd_ne (ne_of_none (s0 c o e) nb)]
        exact s0 c o e
      have hb0 : H b = none := s0.free nb
      have hb1 : upd H0 b (box u v) b = some (box u v) := upd_same
      generalize upd H0 b (box u v) = H1 at s1 hb1
      refine ⟨3, rfl, by decide, by decide, for_range (lo := 0) (n := 3) (fun i σ H' => (∃ o1 o3 o4 o5 o6 o7 o8 o9 o10 o11 o12 o13 : Option V, σ = [some (.ref a), o1, some (.ref b), o3, o4, o5, o6, o7, o8, o9, o10, o11, o12, o13]) ∧ Pre b H1 H') ⟨⟨_, _, _, _, _, _, _, _, _, _, _, _, rfl⟩, Pre.start ok hb1⟩ ?_ ?_⟩
      · rintro j σ Hj hj ⟨⟨o1, o3, o4, o5, o6, o7, o8, o9, o10, o11, o12, o13, rfl⟩, pj⟩
        obtain ⟨_, uj, vj, okj, hbj⟩ := id pj
        refine ⟨_, rfl, b, uj, vj, 8, rfl, hbj, okj, by decide, by decide, fun x4 h H2 p2 ht hok lm => ?_⟩
        obtain ⟨p4, q4, us4, rfl, hp4, hq4, rl4⟩ := id ht
        have lx : us4.length = h.rs.length := rl4.1
        refine ⟨_, rfl, _, h, rfl, ht, hok, fun x5 H3 s3 hm => ?_⟩
        obtain ⟨xm, dm, qm, usm, rfl, hxm, hqm, rlm⟩ := id hm
        refine ⟨_, rfl, p4, _, 2, _, rfl, rfl, SqT.of (s3 _ _ hp4), rfl, q4, us4, rfl, .inr (SqT.of (s3 _ _ hq4)), ?_⟩
        refine ⟨_, _, rfl, ?_⟩
        have p3 : Pre b H1 H3 := (pj.trans p2).then s3
        have ht3 := ht.same s3
        have hp43 := s3 _ _ hp4
        have hq43 := s3 _ _ hq4
        have rl43 : RowLs 0 H3 us4 h.rs := rl4.keep (Keep.of s3)
        obtain ⟨d0, d4, hch, hmr, hnr⟩ := id hok
        obtain ⟨_, u3, v3, ok3, hb3⟩ := id p3
        have nbx : ∀ {c : Addr} {o : HO}, H3 c = some o → o ≠ box u3 v3 → c ≠ b := fun {c o} e ne z => by
          rw [z, hb3] at e
          exact ne (Option.some.inj e).symm
        -- the numbers of rows
        refine ⟨_, rfl, (us4.length : Int), rfl, by omega, by omega, fun D nD => ?_⟩
        have nbD : b ≠ D := ne_of_none hb3 nD
        refine lc_range (lo := 0) (n := (us4.length : Int).toNat) (fun i Hh => ∃ ns : List Int, Pre b H3 Hh ∧ Hh D = some (.lst (ns.map V.int)) ∧ ns.length ≤ i ∧ ∀ z ∈ ns, 0 ≤ z ∧ z < (i : Int)) ?_ ?_ ?_
        · exact ⟨[], ⟨SameX.of (Same.new nD), u3, v3, ok3, by rw [upd_ne nbD]; exact hb3⟩, upd_same, Nat.le_refl _, fun z hz => by cases hz⟩
        · rintro i2 Hh hi2 ⟨ns2, S3, hD, ln, hr2⟩
          refine ⟨rfl, ?_⟩
          obtain ⟨_, u5, v5, ok5, hb5⟩ := id S3
          refine ⟨_, rfl, b, u5, v5, 3, rfl, hb5, ok5, by decide, by decide, fun d u6 v6 e0 e3 ok6 => ⟨rfl, _, rfl, ?_⟩⟩
          have S6 : Pre b H3 (upd Hh b (box u6 v6)) := S3.trans (Pre.box ok6)
          have hD6 : upd Hh b (box u6 v6) D = some (.lst (ns2.map V.int)) := by
            rw [upd_ne (Ne.symm nbD)]
            exact hD
          have hb6 : upd Hh b (box u6 v6) b = some (box u6 v6) := upd_same
          dsimp only [tNil]
          generalize upd Hh b (box u6 v6) = H6 at S6 hD6 hb6 ⊢
          refine ite2 (fun _ => ?yes) (fun _ => ?no)
          case no => exact ⟨ns2, S6, hD6, by omega, fun z hz => ⟨(hr2 z hz).1, by have := (hr2 z hz).2; omega⟩⟩
          case yes =>
            refine ⟨_, rfl, ns2.map V.int, hD6, by rw [List.length_map]; exact Nat.lt_of_lt_of_le (m := 101) (by omega) (by decide), ns2 ++ [(i2 : Int)], ⟨fun c o n e => ?_, u6, v6, ok6, by rw [upd_ne nbD]; exact hb6⟩, ?_, by rw [List.length_append, List.length_singleton]; omega, fun z hz => ?_⟩
            · rw [upd_ne (ne_of_none e nD)]
              exact S6.1 c o n e
            · rw [upd_same, List.map_append]
              simp
            · rcases List.mem_append.mp hz with hz | hz
              · exact ⟨(hr2 z hz).1, by have := (hr2 z hz).2; omega⟩
              · rw [List.mem_singleton.mp hz]
                exact ⟨by omega, by omega⟩
        rintro H4 ⟨ns, P4, hD4, ln, hrn⟩
        have hrn' : ∀ z ∈ ns, 0 ≤ z ∧ z < (h.rs.length : Int) := fun z hz => ⟨(hrn z hz).1, by have := (hrn z hz).2; omega⟩
        have lns : ns.length ≤ 100 := by omega
        have K4 : Keep H3 H4 := Keep.preb hb3 P4
        obtain ⟨_, u4, v4, ok4, hb4⟩ := id P4
        -- the numbers in another order
        refine ⟨_, rfl, D, _, rfl, SqL.of hD4, fun p5 n5 => ?_⟩
        have s5 : Same H4 (upd H4 p5 (.lst (ns.map V.int).reverse)) := Same.new n5
        have h5 : upd H4 p5 (.lst (ns.map V.int).reverse) p5 = some (.lst (ns.map V.int).reverse) := upd_same
        generalize upd H4 p5 (.lst (ns.map V.int).reverse) = H5 at s5 h5 ⊢
        have hb5 := s5 _ _ hb4
        have nb5 : p5 ≠ b := fun z => by
          rw [z] at n5
          rw [hb4] at n5
          cases n5
        have nDb : D ≠ b := Ne.symm nbD
        refine ⟨_, rfl, _, rfl, b, u4, v4, 2, rfl, hb5, ok4, by decide, by decide, fun d u6 v6 e0 e2 ok6 => ?_⟩
        have P6 : Pre b H5 (upd H5 b (box u6 v6)) := Pre.box ok6
        have hb6 : upd H5 b (box u6 v6) b = some (box u6 v6) := upd_same
        dsimp only [tNil]
        generalize upd H5 b (box u6 v6) = H6 at P6 hb6 ⊢
        have hD6 := P6.1 D _ nDb (s5 _ _ hD4)
        have h56 := P6.1 p5 _ nb5 h5
        refine ⟨d, rfl, D, _, rfl, SqL.of hD6, fun p6 n6 => ?_⟩
        obtain ⟨ms, em, msub, mlen⟩ := cut_map ns none (some d)
        rw [em]
        have s7 : Same H6 (upd H6 p6 (.lst (ms.map V.int))) := Same.new n6
        have h67 : upd H6 p6 (.lst (ms.map V.int)) p6 = some (.lst (ms.map V.int)) := upd_same
        generalize upd H6 p6 (.lst (ms.map V.int)) = H7 at s7 h67 ⊢
        refine ⟨p5, p6, _, _, rfl, rfl, s7 _ _ h56, h67, ?_, fun p7 n7 => ?_⟩
        · rw [List.length_reverse, List.length_map, List.length_map]
          exact Nat.le_trans (m := 1000) (by omega) (by decide)
        have nb7 : p7 ≠ b := fun z => by
          rw [z, s7 _ _ hb6] at n7
          cases n7
        have enum : (ns.map V.int).reverse ++ ms.map V.int = (ns.reverse ++ ms).map V.int := by rw [List.map_append, List.map_reverse]
        rw [enum]
        have mem : ∀ z, z ∈ ns.reverse ++ ms ↔ z ∈ ns := fun z => by
          rw [List.mem_append, List.mem_reverse]
          exact ⟨fun q => q.elim id (msub z), .inl⟩
        have lnum : (ns.reverse ++ ms).length ≤ 200 := by
          rw [List.length_append, List.length_reverse]
          omega
        generalize ns.reverse ++ ms = nums at mem lnum ⊢
        have s8 : Same H7 (upd H7 p7 (.lst (nums.map V.int))) := Same.new n7
        have h78 : upd H7 p7 (.lst (nums.map V.int)) p7 = some (.lst (nums.map V.int)) := upd_same
        generalize upd H7 p7 (.lst (nums.map V.int)) = H8 at s8 h78 ⊢
        have P8 : Pre b H3 H8 := (((P4.then s5).trans P6).then s7).then s8
        have K8 : Keep H3 H8 := Keep.preb hb3 P8
        have hD8 := s8 _ _ (s7 _ _ hD6)
        have hm8 : HsAt c C H8 (.ref xm) h := hm.keep K8
        have ht8 : HtAt H8 (.ref p4) h := ht3.keep K8
        have hp8 := K8 _ _ (fun _ z => by cases z) hp43
        have hq8 := K8 _ _ (fun _ z => by cases z) hq43
        have rl8 : RowLs 0 H8 us4 h.rs := rl43.keep K8
        have pb8 : Pre b H1 H8 := p3.trans P8
        -- the rest of the rows
        refine ⟨_, rfl, p4, _, 0, _, rfl, rfl, SqT.of hp8, rfl, _, rfl, p4, _, 1, _, rfl, rfl, SqT.of hp8, rfl, _, rfl, p4, _, 2, _, rfl, rfl, SqT.of hp8, rfl, q4, us4, rfl, SqT.of hq8, fun D2 nD2 => ?_⟩
        refine lc_it (walk_enumT (K := K) (a := q4) (xs := us4)) (fun i Hh => Same H8 Hh ∧ H8 D2 = none ∧ ∃ acc, Hh D2 = some (.lst acc) ∧ RowLs 0 H8 acc (keepFrom ns 0 (h.rs.take i))) ⟨Same.new nD2, nD2, [], upd_same, Ls.nil⟩ (fun i Hh _ z => SqT.of (z.1 _ _ hq8)) ?_ ?_
        · rintro i z Hh H2' il ⟨s2, nD1, acc, hDa, ra⟩ ⟨Tq, av, y, rfl, nT, rfl, ea, hy⟩
          obtain rfl := Option.some.inj ea
          obtain ⟨m, em2, mz⟩ := Ls.get rl8 hy
          have sT : Same Hh (upd Hh Tq (.tup [.int (i : Nat), y])) := Same.new nT
          have hDa2 := sT _ _ hDa
          have hT : upd Hh Tq (.tup [.int (i : Nat), y]) Tq = some (.tup [.int (i : Nat), y]) := upd_same
          have s3' := s2.trans sT
          generalize upd Hh Tq (.tup [.int (i : Nat), y]) = H2 at sT hDa2 hT s3' ⊢
          have lacc : acc.length ≤ 100 := by
            rw [ra.1]
            have z1 := (keep_sub ns (h.rs.take i) 0).1
            rw [List.length_take] at z1
            omega
          have tk : h.rs.take (i + 1) = h.rs.take i ++ [m] := take_nxt em2
          have li : (h.rs.take i).length = i := by
            rw [List.length_take]
            omega
          have ks := keep_snoc ns m (h.rs.take i) 0
          rw [← tk, li, Nat.zero_add] at ks
          refine ⟨Tq, _, rfl, SqT.of hT, rfl, _, _, rfl, _, _, rfl, rfl, rfl, ?_⟩
          refine ⟨_, rfl, _, rfl, D, _, rfl, .inl (SqL.of (s3' _ _ hD8)), rfl, flat_ints _, _, rfl, ?_⟩
          rw [inV_int]
          by_cases mm : ((i : Nat) : Int) ∈ ns
          · rw [decide_eq_true mm]
            rw [if_pos mm, List.append_nil] at ks
            refine iteF ⟨s3', nD1, acc, hDa2, ?_⟩
            rw [ks]
            exact ra
          · rw [decide_eq_false mm]
            rw [if_neg mm] at ks
            refine iteT ⟨_, rfl, acc, hDa2, Nat.lt_of_lt_of_le (m := 101) (by omega) (by decide), fun b' o e => ?_, nD1, _, upd_same, ?_⟩
            · rw [upd_ne (ne_of_none e nD1)]
              exact s3' b' o e
            · rw [ks]
              exact Ls.push ra mz
        rintro H9 ⟨s9, nD1, acc, hDa, ra⟩
        rw [lx, List.take_length] at ra
        refine ⟨D2, acc, rfl, .inl ⟨SqL.of hDa, fun t nt => ?_⟩⟩
        have s10 : Same H9 (upd H9 t (.tup acc)) := Same.new nt
        have htt : upd H9 t (.tup acc) t = some (.tup acc) := upd_same
        generalize upd H9 t (.tup acc) = H10 at s10 htt ⊢
        refine ⟨(by show 3 ≤ sizeLine; decide), fun t2 nt2 => ?_⟩
        have s11 : Same H10 (upd H10 t2 (.tup [.int h.d, .str h.ch, .ref t])) := Same.new nt2
        have htt2 : upd H10 t2 (.tup [.int h.d, .str h.ch, .ref t]) t2 = some (.tup [.int h.d, .str h.ch, .ref t]) := upd_same
        generalize upd H10 t2 (.tup [.int h.d, .str h.ch, .ref t]) = H11 at s11 htt2 ⊢
        have S11 := (s9.trans s10).trans s11
        have lok : (h.less ns).ok := less_ok hok ns
        have hl11 : HtAt H11 (.ref t2) (h.less ns) := ⟨t2, t, acc, rfl, htt2, s11 _ _ htt, RowLs.keep (kd := 0) ra (Keep.of S11)⟩
        have hm11 := hm8.same S11
        have ht11 := ht8.same S11
        have hn11 := S11 _ _ h78
        have hp11 := S11 _ _ hp8
        have hq11 := S11 _ _ hq8
        have rl11 : RowLs 0 H11 us4 h.rs := rl8.keep (Keep.of S11)
        have pb11 : Pre b H1 H11 := pb8.then S11
        have nbad : badRow h nums = none := bad_none fun z hz => hrn' z ((mem z).mp hz)
        have eless : h.less nums = h.less ns := by
          unfold Hs.less
          rw [keep_mem mem]
        clear S11 hm8 ht8 h78 hp8 hq8 rl8 pb8 s9 s10 s11 ra hDa htt htt2 nD2 P8 K8 hD8
        -- the texts
        have hx11 := fun {H' : Hp} (z : Same H11 H') => hm11.same z
        obtain ⟨xm', dm', qm', usm', exm, hxm11, hqm11, rlm11⟩ := id hm11
        cases exm
        have meth : ∀ {H' : Hp}, Same H11 H' → H' xm = some (.ins C dm' (hsF (.int h.d) (.str h.ch) (.ref qm'))) := fun z => z _ _ hxm11
        refine ⟨_, rfl, xm, dm', _, rfl, hxm11, hs_wo .., _, rfl, wo_at hm11 hok (.inl hn11) nbad fun w1 H12 s12 a12 => ?_⟩
        refine ⟨w1, h.less nums, rfl, a12, less_ok hok nums, fun H13 s13 => ⟨_, rfl, _, h.less ns, rfl, hl11.same (s12.trans s13), lok, fun H14 s14 => ⟨rfl, _, rfl, ?_⟩⟩⟩
        rw [eless, show ∀ z : V, (!decide (z = z)) = false from fun z => by simp]
        refine iteF ?_
        have S14 : Same H11 H14 := (s12.trans s13).trans s14
        -- the places
        refine ⟨_, rfl, p4, _, 2, _, rfl, rfl, SqT.of (S14 _ _ hp11), rfl, q4, rfl, ⟨us4, SqT.of (S14 _ _ hq11)⟩, ?_⟩
        refine for_tup (K := K) (a := q4) (xs := us4) (fun i σ H' => (∃ y1 y3 y10 y11 y12 y13 : Option V, σ = [some (.ref a), y1, some (.ref b), y3, some (.ref p4), some (.ref xm), some (.int (us4.length : Int)), some (.ref D), some (.ref p7), some (.ref t2), y10, y11, y12, y13]) ∧ Same H11 H') ⟨⟨_, _, _, _, _, _, rfl⟩, S14⟩ (fun i σ H' _ z => SqT.of (z.2 _ _ hq11)) ?_ ?_
        · rintro i z σ H' hi ⟨⟨y1, y3, y10, y11, y12, y13, rfl⟩, s15⟩
          obtain ⟨m, em2, tm, mo, mk⟩ := Ls.get rl11 hi
          cases m with
          | ct _ _ _ => cases mk
          | lt k' s' d' p' =>
            obtain ⟨y, rfl, hy0⟩ := tm.same s15
            have hy : H' y = some (.tup [.str k', .str s', .str d', .str p']) := hy0
            obtain ⟨k1, k2, k3, k4, _⟩ := id mo
            refine ⟨_, rfl, xm, dm', _, rfl, meth s15, hs_wo .., _, rfl, wo_at (hm11.same s15) hok (.inl (s15 _ _ hn11)) nbad fun w2 H16 s16 a16 => ?_⟩
            obtain ⟨xw, dw, qw, usw, rfl, hxw, hqw, rlw⟩ := id a16
            have hy16 := s16 _ _ hy
            refine ⟨xw, dw, _, rfl, hxw, hs_pl .., _, rfl, y, _, 0, _, rfl, rfl, SqT.of hy16, rfl, _, rfl, y, _, 1, _, rfl, rfl, SqT.of hy16, rfl, _, rfl, y, _, 2, _, rfl, rfl, SqT.of hy16, rfl, ?_⟩
            refine ⟨_, h.less nums, k', s', d', rfl, a16, less_ok hok nums, k1, k2, k3, fun H17 s17 => ?_⟩
            have S17 := (s15.trans s16).trans s17
            have hy17 := s17 _ _ hy16
            have zz : ∀ a b : V, a = b → (!decide (a = b)) = false := fun a b q => by rw [q]; simp
            rw [eless]
            have e0 : ("" : Str) = Str.empty := by decide +kernel
            cases e : placeIn k' s' d' (h.less ns).rs with
            | none =>
              refine ⟨_, rfl, rfl, _, rfl, iteT ?_⟩
              refine ⟨_, rfl, _, rfl, y, _, 0, _, rfl, rfl, SqT.of hy17, rfl, _, rfl, y, _, 1, _, rfl, rfl, SqT.of hy17, rfl, _, rfl, y, _, 2, _, rfl, rfl, SqT.of hy17, rfl, ?_⟩
              refine ⟨_, h.less ns, k', s', d', rfl, hl11.same S17, lok, k1, k2, k3, fun H18 s18 => ⟨rfl, _, rfl, ?_⟩⟩
              rw [e, e0]
              rw [show (!decide (V.str Str.empty = V.str ((none : Option Str).getD Str.empty))) = false from by simp]
              exact iteF ⟨⟨_, _, _, _, _, _, rfl⟩, S17.trans s18⟩
            | some pl =>
              refine ⟨_, rfl, rfl, _, rfl, iteF ?_⟩
              refine ⟨_, rfl, _, rfl, _, rfl, y, _, 0, _, rfl, rfl, SqT.of hy17, rfl, _, rfl, y, _, 1, _, rfl, rfl, SqT.of hy17, rfl, _, rfl, y, _, 2, _, rfl, rfl, SqT.of hy17, rfl, ?_⟩
              refine ⟨_, h.less ns, k', s', d', rfl, hl11.same S17, lok, k1, k2, k3, fun H18 s18 => ⟨rfl, _, rfl, ?_⟩⟩
              rw [e, zz]
              · exact iteF ⟨⟨_, _, _, _, _, _, rfl⟩, S17.trans s18⟩
              · rfl
        rintro σ H15 ⟨⟨y1, y3, y10, y11, y12, y13, rfl⟩, s15⟩
        have hm15 := hm11.same s15
        have ht15 := ht11.same s15
        have hl15 := hl11.same s15
        have hn15 := s15 _ _ hn11
        have hx15 := meth s15
        -- made again
        refine ⟨_, rfl, xm, dm', _, rfl, hx15, hs_wo .., _, rfl, p7, _, rfl, .inl ⟨SqL.of hn15, fun t3 n3 => ?_⟩⟩
        have s16 : Same H15 (upd H15 t3 (.tup (nums.map V.int))) := Same.new n3
        have ht3' : upd H15 t3 (.tup (nums.map V.int)) t3 = some (.tup (nums.map V.int)) := upd_same
        dsimp only [tNil]
        generalize upd H15 t3 (.tup (nums.map V.int)) = H16 at s16 ht3' ⊢
        refine wo_at (hm15.same s16) hok (.inr ht3') nbad fun w1 H17 s17 a17 => ?_
        refine ⟨_, rfl, _, h.less ns, rfl, hl15.same (s16.trans s17), lok, fun w2 H18 s18 a18 => ?_⟩
        refine neHs_at R.nf (a17.same s18) a18 (less_ok hok nums) lok fun H19 s19 => ⟨_, rfl, ?_⟩
        rw [eless, decide_eq_true rfl]
        refine iteF ?_
        have S19 := ((s16.trans s17).trans s18).trans s19
        refine ⟨_, rfl, xm, dm', _, rfl, S19 _ _ hx15, hs_wo .., (by show 0 ≤ sizeLine; decide), fun l4 n4 => ?_⟩
        have s20 : Same H19 (upd H19 l4 (.lst [])) := Same.new n4
        have hl4 : upd H19 l4 (.lst []) l4 = some (.lst (([] : List Int).map V.int)) := upd_same
        dsimp only [tNil]
        generalize upd H19 l4 (.lst []) = H20 at s20 hl4 ⊢
        have S20 := S19.trans s20
        refine wo_at (hm15.same S20) hok (.inl hl4) (bad_none fun z hz => by cases hz) fun w3 H21 s21 a21 => ?_
        have e21 : h.less [] = h := by
          unfold Hs.less
          rw [keep_none]
        rw [e21] at a21
        refine ⟨_, rfl, ?_⟩
        refine neHs_at R.nf a21 (hm15.same (S20.trans s21)) hok hok fun H22 s22 => ⟨_, rfl, ?_⟩
        rw [decide_eq_true rfl]
        refine iteF ?_
        have S22 := (S20.trans s21).trans s22
        -- without all rows
        refine ⟨_, rfl, xm, dm', _, rfl, S22 _ _ hx15, hs_wo .., _, rfl, _, rfl, RgOk.of_le (by omega) (by omega) (by omega) (by omega), fun q5 n5' => ?_⟩
        have erg : rgV 0 (us4.length : Int) = (((List.range ((us4.length : Int) - 0).toNat).map fun i => (0 : Int) + (i : Nat))).map V.int := by
          unfold rgV
          rw [List.map_map]
          rfl
        have hall : ∀ z ∈ ((List.range ((us4.length : Int) - 0).toNat).map fun i => (0 : Int) + (i : Nat)), 0 ≤ z ∧ z < (h.rs.length : Int) := fun z hz => by
          obtain ⟨i, hi, rfl⟩ := List.mem_map.mp hz
          have := List.mem_range.mp hi
          exact ⟨by omega, by omega⟩
        have hmem : ∀ i : Nat, 0 ≤ i → i < 0 + h.rs.length → ((i : Nat) : Int) ∈ ((List.range ((us4.length : Int) - 0).toNat).map fun i => (0 : Int) + (i : Nat)) := fun i _ hi =>
          List.mem_map.mpr ⟨i, List.mem_range.mpr (by omega), by omega⟩
        rw [erg]
        generalize ((List.range ((us4.length : Int) - 0).toNat).map fun i => (0 : Int) + (i : Nat)) = all at hall hmem ⊢
        have s23 : Same H22 (upd H22 q5 (.lst (all.map V.int))) := Same.new n5'
        have hq5 : upd H22 q5 (.lst (all.map V.int)) q5 = some (.lst (all.map V.int)) := upd_same
        dsimp only [tNil]
        generalize upd H22 q5 (.lst (all.map V.int)) = H23 at s23 hq5 ⊢
        have S23 := S22.trans s23
        refine wo_at (hm15.same S23) hok (.inl hq5) (bad_none hall) fun w4 H24 s24 a24 => ?_
        refine ⟨w4, h.less all, rfl, a24, less_ok hok all, rfl, _, rfl, ?_⟩
        have e24 : (h.less all).rs.length = 0 := by
          show (keepFrom all 0 h.rs).length = 0
          rw [keep_all h.rs 0 hmem]
          rfl
        rw [e24]
        refine iteF ?_
        have S24 := S23.trans s24
        refine ⟨_, rfl, _, h, rfl, hm15.same S24, hok, fun H25 s25 => ⟨_, rfl, _, h, rfl, ht15.same (S24.trans s25), hok, fun H26 s26 => ⟨rfl, _, rfl, ?_⟩⟩⟩
        rw [show ∀ z : V, (!decide (z = z)) = false from fun z => by simp]
        refine iteF ?_
        have S26 : Same H11 H26 := s15.trans ((S24.trans s25).trans s26)
        clear S24 S23 S22 S20 S19 hm15 ht15 hl15 hn15 hx15 a24 a21 a18 a17
        -- an odd number
        have pb26 : Pre b H1 H26 := pb11.then S26
        obtain ⟨_, u26, v26, ok26, hb26⟩ := id pb26
        refine ⟨_, rfl, _, rfl, _, rfl, _, rfl, _, _, rfl, rfl, _, _, rfl, rfl, ⟨by decide, by decide, by decide⟩, (by show 4 ≤ sizeLine; decide), fun l6 n6' => ?_⟩
        dsimp only [tNil]
        refine oneOf_new hb26 ok26 n6' (by show 1 ≤ 4; decide) (by show 4 ≤ 1000; decide) fun xo H27 io p27 => ?_
        have ho : ∃ o : Int, xo = .int o ∧ hasRow h o = false := by
          have key : ∀ o : Int, (o < 0 ∨ (h.rs.length : Int) ≤ o) → hasRow h o = false := fun o q => by
            unfold hasRow
            rcases q with q | q
            · rw [decide_eq_false (by omega)]
              rfl
            · rw [decide_eq_false (p := o < (h.rs.length : Int)) (by omega), Bool.and_false]
          simp only [List.mem_cons, List.not_mem_nil, or_false] at io
          rcases io with rfl | rfl | rfl | rfl
          · exact ⟨_, rfl, key _ (.inl (by decide))⟩
          · exact ⟨_, rfl, key _ (.inr (by omega))⟩
          · exact ⟨_, rfl, key _ (.inr (by omega))⟩
          · refine ⟨_, rfl, key _ (.inr ?_)⟩
            have z : (100 : Int) ≤ (10 : Int) ^ (20 : Int).toNat := by decide
            exact Int.le_trans (by omega) z
        obtain ⟨o, rfl, hodd⟩ := ho
        have K27 : Keep H26 H27 := Keep.preb hb26 p27
        have hn27 : H27 p7 = some (.lst (nums.map V.int)) := p27.1 p7 _ nb7 (S26 _ _ hn11)
        have hm27 : HsAt c C H27 (.ref xm) h := (hm11.same S26).keep K27
        have pb27 : Pre b H1 H27 := pb26.trans p27
        have hnum : ∀ z ∈ nums, 0 ≤ z ∧ z < (h.rs.length : Int) := fun z hz => hrn' z ((mem z).mp hz)
        refine ⟨_, rfl, _, rfl, _, rfl, _, rfl, _, _, rfl, rfl, (by show 2 ≤ sizeLine; decide), fun l8 n8' => ?_⟩
        have s28 : Same H27 (upd H27 l8 (.lst [.int o, .int ((us4.length : Int) + 9)])) := Same.new n8'
        have hl8 : upd H27 l8 (.lst [.int o, .int ((us4.length : Int) + 9)]) l8 = some (.lst [.int o, .int ((us4.length : Int) + 9)]) := upd_same
        dsimp only [tNil]
        generalize upd H27 l8 (.lst [.int o, .int ((us4.length : Int) + 9)]) = H28 at s28 hl8 ⊢
        refine ⟨p7, l8, _, _, rfl, rfl, s28 _ _ hn27, hl8, ?_, fun p9 n9 => ?_⟩
        · rw [List.length_map]
          exact Nat.le_trans (m := 1000) (by show nums.length + 2 ≤ 1000; omega) (by decide)
        have e9 : nums.map V.int ++ [V.int o, V.int ((us4.length : Int) + 9)] = (nums ++ o :: [(us4.length : Int) + 9]).map V.int := by
          rw [List.map_append]
          rfl
        rw [e9]
        have s29 : Same H28 (upd H28 p9 (.lst ((nums ++ o :: [(us4.length : Int) + 9]).map V.int))) := Same.new n9
        have hp9 : upd H28 p9 (.lst ((nums ++ o :: [(us4.length : Int) + 9]).map V.int)) p9 = some (.lst ((nums ++ o :: [(us4.length : Int) + 9]).map V.int)) := upd_same
        generalize upd H28 p9 (.lst ((nums ++ o :: [(us4.length : Int) + 9]).map V.int)) = H29 at s29 hp9 ⊢
        have S29 := s28.trans s29
        refine ⟨_, p9, h, _, rfl, hm27.same S29, hok, .inl hp9, fun H30 s30 => ⟨_, rfl, ?_⟩⟩
        rw [bad_some hnum hodd]
        refine ⟨rfl, _, rfl, ?_⟩
        rw [show (!decide (optI (some o) = V.int o)) = false from by simp [optI]]
        refine iteF ?_
        have S30 := S29.trans s30
        refine ⟨_, rfl, _, rfl, (by show 1 ≤ sizeLine; decide), fun t9 m9 => ?_⟩
        have s31 : Same H30 (upd H30 t9 (.tup [.int o])) := Same.new m9
        have ht9 : upd H30 t9 (.tup [.int o]) t9 = some (.tup (([] ++ o :: [] : List Int).map V.int)) := upd_same
        dsimp only [tNil]
        generalize upd H30 t9 (.tup [.int o]) = H31 at s31 ht9 ⊢
        have S31 := S30.trans s31
        refine ⟨_, t9, h, _, rfl, hm27.same S31, hok, .inr ht9, fun H32 s32 => ⟨_, rfl, ?_⟩⟩
        rw [bad_some (ns := []) (fun z hz => by cases hz) hodd]
        refine ⟨rfl, _, rfl, ?_⟩
        rw [show (!decide (optI (some o) = V.int o)) = false from by simp [optI]]
        exact iteF ⟨⟨_, _, _, _, _, _, _, _, _, _, _, _, rfl⟩, pb27.then (S31.trans s32)⟩
      · rintro σ H2 ⟨⟨o1, o3, o4, o5, o6, o7, o8, o9, o10, o11, o12, o13, rfl⟩, pj⟩
        exact ⟨⟨_, _, _, _, _, _, _, _, _, _, _, _, _, rfl⟩, fun c o e => pj.1 c o (ne_of_none e hb0) (s1 c o e)⟩
    · rintro σ H2 ⟨⟨o1, o2, o3, o4, o5, o6, o7, o8, o9, o10, o11, o12, o13, rfl⟩, s0⟩
      exact k _
end
end V3

set_option Elab.async false
set_option maxHeartbeats 4000000
set_option linter.all false
set_option maxRecDepth 100000
namespace V3
open PySem L2
theorem kit_ref {K : PySem.W.Frag} {t C : Addr} {b : Bool} (h1 : PySem.W.isClsIn K C = true) (h2 : PySem.W.typeIn K (.ref C) = some (.type "type")) (h3 : PySem.W.subIn K (.ref t) (.ref C) = some b) (h4 : PySem.W.subIn K (.ref t) (.ref t) = some true) :
    PySem.W.kitOne K (.ref t) (.ref C) = some b := by
  unfold PySem.W.kitOne
  by_cases e : t = C
  · subst e
    rw [h4] at h3
    injection h3 with h3
    subst h3
    rw [if_pos (by simp)]
  · have n : (Value.ref t == Value.ref C) = false := by
      refine Bool.eq_false_iff.mpr fun q => e ?_
      exact Value.ref.inj (beq_iff_eq.mp q)
    rw [n, if_neg Bool.false_ne_true]
    have q : ((PySem.W.clsIn K C).isSome && PySem.W.typeIn K (.ref C) == some (.type "type")) = true := by
      have z : (PySem.W.clsIn K C).isSome = true := h1
      rw [z, h2] <;> rfl
    show (if ((PySem.W.clsIn K C).isSome && PySem.W.typeIn K (.ref C) == some (.type "type")) = true then PySem.W.subIn K (.ref t) (.ref C) else none) = some b
    rw [if_pos q]
    exact h3
theorem nf_same {K : PySem.W.Frag} {C : Addr} : PySem.W.notFirst K C (.ref C) = true := by simp [PySem.W.notFirst]
theorem all_mk {l : PySem.W.OpenLaw} {w : World} {K : PySem.W.Frag} {h : Heap} {mg : Str → Option Value} {fa f_int f_num f_ww f_isr f_hr f_seed f_choose f_one f_rows f_ho f_ht f_pc f_lo f_hf f_rf f_law LC HC CN f_li f_ls f_hi e_hi f_he f_hs f_hl f_pl f_wo f_nr KA SA DA PA KK DL : Addr} (X : K.In h) (G : h.Ns mainGlobals mg) (hfa : mg "law" = some (.ref fa))
    {od_f_int an_f_int : Option Addr} {sl_f_int : Array (Option Value)} {oc_f_int kV_f_int dc_f_int pm_f_int cd_f_int ct_f_int : Value}
    {od_f_num an_f_num : Option Addr} {sl_f_num : Array (Option Value)} {oc_f_num kV_f_num dc_f_num pm_f_num cd_f_num ct_f_num : Value}
    {od_f_ww an_f_ww : Option Addr} {sl_f_ww : Array (Option Value)} {oc_f_ww kV_f_ww dc_f_ww pm_f_ww cd_f_ww ct_f_ww : Value}
    {od_f_isr an_f_isr : Option Addr} {sl_f_isr : Array (Option Value)} {oc_f_isr kV_f_isr dc_f_isr pm_f_isr cd_f_isr ct_f_isr : Value}
    {od_f_hr an_f_hr : Option Addr} {sl_f_hr : Array (Option Value)} {oc_f_hr kV_f_hr dc_f_hr pm_f_hr cd_f_hr ct_f_hr : Value}
    {od_f_seed an_f_seed : Option Addr} {sl_f_seed : Array (Option Value)} {oc_f_seed kV_f_seed dc_f_seed pm_f_seed cd_f_seed ct_f_seed : Value}
    {od_f_choose an_f_choose : Option Addr} {sl_f_choose : Array (Option Value)} {oc_f_choose kV_f_choose dc_f_choose pm_f_choose cd_f_choose ct_f_choose : Value}
    {od_f_one an_f_one : Option Addr} {sl_f_one : Array (Option Value)} {oc_f_one kV_f_one dc_f_one pm_f_one cd_f_one ct_f_one : Value}
    {od_f_rows an_f_rows : Option Addr} {sl_f_rows : Array (Option Value)} {oc_f_rows kV_f_rows dc_f_rows pm_f_rows cd_f_rows ct_f_rows : Value}
    {od_f_ho an_f_ho : Option Addr} {sl_f_ho : Array (Option Value)} {oc_f_ho kV_f_ho dc_f_ho pm_f_ho cd_f_ho ct_f_ho : Value}
    {od_f_ht an_f_ht : Option Addr} {sl_f_ht : Array (Option Value)} {oc_f_ht kV_f_ht dc_f_ht pm_f_ht cd_f_ht ct_f_ht : Value}
    {od_f_pc an_f_pc : Option Addr} {sl_f_pc : Array (Option Value)} {oc_f_pc kV_f_pc dc_f_pc pm_f_pc cd_f_pc ct_f_pc : Value}
    {od_f_lo an_f_lo : Option Addr} {sl_f_lo : Array (Option Value)} {oc_f_lo kV_f_lo dc_f_lo pm_f_lo cd_f_lo ct_f_lo : Value}
    {od_f_hf an_f_hf : Option Addr} {sl_f_hf : Array (Option Value)} {oc_f_hf kV_f_hf dc_f_hf pm_f_hf cd_f_hf ct_f_hf : Value}
    {od_f_rf an_f_rf : Option Addr} {sl_f_rf : Array (Option Value)} {oc_f_rf kV_f_rf dc_f_rf pm_f_rf cd_f_rf ct_f_rf : Value}
    {od_f_law an_f_law : Option Addr} {sl_f_law : Array (Option Value)} {oc_f_law kV_f_law dc_f_law pm_f_law cd_f_law ct_f_law : Value}
    {od_f_li an_f_li : Option Addr} {sl_f_li : Array (Option Value)} {oc_f_li kV_f_li dc_f_li pm_f_li cd_f_li ct_f_li : Value}
    {od_f_ls an_f_ls : Option Addr} {sl_f_ls : Array (Option Value)} {oc_f_ls kV_f_ls dc_f_ls pm_f_ls cd_f_ls ct_f_ls : Value}
    {od_f_hi an_f_hi dd_f_hi : Option Addr} {sl_f_hi ds_f_hi : Array (Option Value)} {oc_f_hi kV_f_hi dc_f_hi pm_f_hi cd_f_hi ct_f_hi : Value} {T_f_hi : Addr} {n_f_hi : Nat}
    {od_f_he an_f_he : Option Addr} {sl_f_he : Array (Option Value)} {oc_f_he kV_f_he dc_f_he pm_f_he cd_f_he ct_f_he : Value}
    {od_f_hs an_f_hs : Option Addr} {sl_f_hs : Array (Option Value)} {oc_f_hs kV_f_hs dc_f_hs pm_f_hs cd_f_hs ct_f_hs : Value}
    {od_f_hl an_f_hl : Option Addr} {sl_f_hl : Array (Option Value)} {oc_f_hl kV_f_hl dc_f_hl pm_f_hl cd_f_hl ct_f_hl : Value}
    {od_f_pl an_f_pl : Option Addr} {sl_f_pl : Array (Option Value)} {oc_f_pl kV_f_pl dc_f_pl pm_f_pl cd_f_pl ct_f_pl : Value}
    {od_f_wo an_f_wo : Option Addr} {sl_f_wo : Array (Option Value)} {oc_f_wo kV_f_wo dc_f_wo pm_f_wo cd_f_wo ct_f_wo : Value}
    {nm_CN q_CN : Str} {N_CN : Addr} {bs_CN bm_CN : List Value} {sn_CN : List Str} {sub_CN : List Value} {ab_CN : Bool} {col_CN : Option Bool} {dd_CN : Option Addr} {m0_CN m1_CN m2_CN m3_CN m5_CN : Option Value}
    {od_f_nr an_f_nr : Option Addr} {sl_f_nr : Array (Option Value)} {oc_f_nr kV_f_nr dc_f_nr pm_f_nr cd_f_nr ct_f_nr : Value}
    {t0_KA t1_KA t2_KA t3_KA : Tok} {dd_KA : Option Addr} {n_KA : Nat} {ds_KA : Array (Option Value)}
    {t0_SA t1_SA : Tok} {dd_SA : Option Addr} {n_SA : Nat} {ds_SA : Array (Option Value)}
    {t0_DA t1_DA t2_DA : Tok} {dd_DA : Option Addr} {n_DA : Nat} {ds_DA : Array (Option Value)}
    {t0_PA t1_PA : Tok} {dd_PA : Option Addr} {n_PA : Nat} {ds_PA : Array (Option Value)}
    {t0_KK t1_KK : Tok} {dd_KK : Option Addr} {n_KK : Nat} {ds_KK : Array (Option Value)}
    {t0_DL t1_DL t2_DL t3_DL t4_DL : Tok} {dd_DL : Option Addr} {n_DL : Nat} {ds_DL : Array (Option Value)}
    (g_f_int : PySem.W.nsIn K mainGlobals "is_integer" = some (some (.ref f_int)))
    (l_f_int : K.lookup f_int = some ⟨oc_f_int, od_f_int, .func (PySem.W.fnOf "is_integer" "is_integer" (defArgs sIsInt) (defBody sIsInt) (defScope sIsInt) .none kV_f_int dc_f_int pm_f_int an_f_int cd_f_int ct_f_int), sl_f_int⟩)
    (c_f_int : PySem.W.codeIn K cd_f_int "is_integer" = true)
    (k_f_int : PySem.W.keepIn K (.ref f_int) = true)
    (g_f_num : PySem.W.nsIn K mainGlobals "is_number" = some (some (.ref f_num)))
    (l_f_num : K.lookup f_num = some ⟨oc_f_num, od_f_num, .func (PySem.W.fnOf "is_number" "is_number" (defArgs sIsNum) (defBody sIsNum) (defScope sIsNum) .none kV_f_num dc_f_num pm_f_num an_f_num cd_f_num ct_f_num), sl_f_num⟩)
    (c_f_num : PySem.W.codeIn K cd_f_num "is_number" = true)
    (k_f_num : PySem.W.keepIn K (.ref f_num) = true)
    (g_f_ww : PySem.W.nsIn K mainGlobals "wrong_word" = some (some (.ref f_ww)))
    (l_f_ww : K.lookup f_ww = some ⟨oc_f_ww, od_f_ww, .func (PySem.W.fnOf "wrong_word" "wrong_word" (defArgs sWrongWord) (defBody sWrongWord) (defScope sWrongWord) .none kV_f_ww dc_f_ww pm_f_ww an_f_ww cd_f_ww ct_f_ww), sl_f_ww⟩)
    (c_f_ww : PySem.W.codeIn K cd_f_ww "wrong_word" = true)
    (k_f_ww : PySem.W.keepIn K (.ref f_ww) = true)
    (g_f_isr : PySem.W.nsIn K mainGlobals "is_rows" = some (some (.ref f_isr)))
    (l_f_isr : K.lookup f_isr = some ⟨oc_f_isr, od_f_isr, .func (PySem.W.fnOf "is_rows" "is_rows" (defArgs sIsRows) (defBody sIsRows) (defScope sIsRows) .none kV_f_isr dc_f_isr pm_f_isr an_f_isr cd_f_isr ct_f_isr), sl_f_isr⟩)
    (c_f_isr : PySem.W.codeIn K cd_f_isr "is_rows" = true)
    (k_f_isr : PySem.W.keepIn K (.ref f_isr) = true)
    (g_f_hr : PySem.W.nsIn K mainGlobals "has_row" = some (some (.ref f_hr)))
    (l_f_hr : K.lookup f_hr = some ⟨oc_f_hr, od_f_hr, .func (PySem.W.fnOf "has_row" "has_row" (defArgs sHasRow) (defBody sHasRow) (defScope sHasRow) .none kV_f_hr dc_f_hr pm_f_hr an_f_hr cd_f_hr ct_f_hr), sl_f_hr⟩)
    (c_f_hr : PySem.W.codeIn K cd_f_hr "has_row" = true)
    (k_f_hr : PySem.W.keepIn K (.ref f_hr) = true)
    (g_f_seed : PySem.W.nsIn K mainGlobals "_law_seed" = some (some (.ref f_seed)))
    (l_f_seed : K.lookup f_seed = some ⟨oc_f_seed, od_f_seed, .func (PySem.W.fnOf "_law_seed" "_law_seed" (defArgs sSeed) (defBody sSeed) (defScope sSeed) .none kV_f_seed dc_f_seed pm_f_seed an_f_seed cd_f_seed ct_f_seed), sl_f_seed⟩)
    (c_f_seed : PySem.W.codeIn K cd_f_seed "_law_seed" = true)
    (k_f_seed : PySem.W.keepIn K (.ref f_seed) = true)
    (g_f_choose : PySem.W.nsIn K mainGlobals "_law_choose" = some (some (.ref f_choose)))
    (l_f_choose : K.lookup f_choose = some ⟨oc_f_choose, od_f_choose, .func (PySem.W.fnOf "_law_choose" "_law_choose" (defArgs sChoose) (defBody sChoose) (defScope sChoose) .none kV_f_choose dc_f_choose pm_f_choose an_f_choose cd_f_choose ct_f_choose), sl_f_choose⟩)
    (c_f_choose : PySem.W.codeIn K cd_f_choose "_law_choose" = true)
    (k_f_choose : PySem.W.keepIn K (.ref f_choose) = true)
    (g_f_one : PySem.W.nsIn K mainGlobals "_law_one_of" = some (some (.ref f_one)))
    (l_f_one : K.lookup f_one = some ⟨oc_f_one, od_f_one, .func (PySem.W.fnOf "_law_one_of" "_law_one_of" (defArgs sOneOf) (defBody sOneOf) (defScope sOneOf) .none kV_f_one dc_f_one pm_f_one an_f_one cd_f_one ct_f_one), sl_f_one⟩)
    (c_f_one : PySem.W.codeIn K cd_f_one "_law_one_of" = true)
    (k_f_one : PySem.W.keepIn K (.ref f_one) = true)
    (g_f_rows : PySem.W.nsIn K mainGlobals "_law_rows" = some (some (.ref f_rows)))
    (l_f_rows : K.lookup f_rows = some ⟨oc_f_rows, od_f_rows, .func (PySem.W.fnOf "_law_rows" "_law_rows" (defArgs sRows) (defBody sRows) (defScope sRows) .none kV_f_rows dc_f_rows pm_f_rows an_f_rows cd_f_rows ct_f_rows), sl_f_rows⟩)
    (c_f_rows : PySem.W.codeIn K cd_f_rows "_law_rows" = true)
    (k_f_rows : PySem.W.keepIn K (.ref f_rows) = true)
    (g_f_ho : PySem.W.nsIn K mainGlobals "_law_house" = some (some (.ref f_ho)))
    (l_f_ho : K.lookup f_ho = some ⟨oc_f_ho, od_f_ho, .func (PySem.W.fnOf "_law_house" "_law_house" (defArgs sHouse) (defBody sHouse) (defScope sHouse) .none kV_f_ho dc_f_ho pm_f_ho an_f_ho cd_f_ho ct_f_ho), sl_f_ho⟩)
    (c_f_ho : PySem.W.codeIn K cd_f_ho "_law_house" = true)
    (k_f_ho : PySem.W.keepIn K (.ref f_ho) = true)
    (g_f_ht : PySem.W.nsIn K mainGlobals "_law_house_text" = some (some (.ref f_ht)))
    (l_f_ht : K.lookup f_ht = some ⟨oc_f_ht, od_f_ht, .func (PySem.W.fnOf "_law_house_text" "_law_house_text" (defArgs sHouseText) (defBody sHouseText) (defScope sHouseText) .none kV_f_ht dc_f_ht pm_f_ht an_f_ht cd_f_ht ct_f_ht), sl_f_ht⟩)
    (c_f_ht : PySem.W.codeIn K cd_f_ht "_law_house_text" = true)
    (k_f_ht : PySem.W.keepIn K (.ref f_ht) = true)
    (g_f_pc : PySem.W.nsIn K mainGlobals "_law_place" = some (some (.ref f_pc)))
    (l_f_pc : K.lookup f_pc = some ⟨oc_f_pc, od_f_pc, .func (PySem.W.fnOf "_law_place" "_law_place" (defArgs sPlace) (defBody sPlace) (defScope sPlace) .none kV_f_pc dc_f_pc pm_f_pc an_f_pc cd_f_pc ct_f_pc), sl_f_pc⟩)
    (c_f_pc : PySem.W.codeIn K cd_f_pc "_law_place" = true)
    (k_f_pc : PySem.W.keepIn K (.ref f_pc) = true)
    (g_f_lo : PySem.W.nsIn K mainGlobals "_law_let_of" = some (some (.ref f_lo)))
    (l_f_lo : K.lookup f_lo = some ⟨oc_f_lo, od_f_lo, .func (PySem.W.fnOf "_law_let_of" "_law_let_of" (defArgs sLetOf) (defBody sLetOf) (defScope sLetOf) .none kV_f_lo dc_f_lo pm_f_lo an_f_lo cd_f_lo ct_f_lo), sl_f_lo⟩)
    (c_f_lo : PySem.W.codeIn K cd_f_lo "_law_let_of" = true)
    (k_f_lo : PySem.W.keepIn K (.ref f_lo) = true)
    (g_f_hf : PySem.W.nsIn K mainGlobals "_law_house_of" = some (some (.ref f_hf)))
    (l_f_hf : K.lookup f_hf = some ⟨oc_f_hf, od_f_hf, .func (PySem.W.fnOf "_law_house_of" "_law_house_of" (defArgs sHouseOf) (defBody sHouseOf) (defScope sHouseOf) .none kV_f_hf dc_f_hf pm_f_hf an_f_hf cd_f_hf ct_f_hf), sl_f_hf⟩)
    (c_f_hf : PySem.W.codeIn K cd_f_hf "_law_house_of" = true)
    (k_f_hf : PySem.W.keepIn K (.ref f_hf) = true)
    (g_f_rf : PySem.W.nsIn K mainGlobals "_law_refused" = some (some (.ref f_rf)))
    (l_f_rf : K.lookup f_rf = some ⟨oc_f_rf, od_f_rf, .func (PySem.W.fnOf "_law_refused" "_law_refused" (defArgs sRefused) (defBody sRefused) (defScope sRefused) .none kV_f_rf dc_f_rf pm_f_rf an_f_rf cd_f_rf ct_f_rf), sl_f_rf⟩)
    (c_f_rf : PySem.W.codeIn K cd_f_rf "_law_refused" = true)
    (k_f_rf : PySem.W.keepIn K (.ref f_rf) = true)
    (g_f_law : PySem.W.nsIn K mainGlobals "law" = some (some (.ref f_law)))
    (l_f_law : K.lookup f_law = some ⟨oc_f_law, od_f_law, .func (PySem.W.fnOf "law" "law" (defArgs sLaw) (defBody sLaw) (defScope sLaw) .none kV_f_law dc_f_law pm_f_law an_f_law cd_f_law ct_f_law), sl_f_law⟩)
    (c_f_law : PySem.W.codeIn K cd_f_law "law" = true)
    (k_f_law : PySem.W.keepIn K (.ref f_law) = true)
    (g_LC : PySem.W.nsIn K mainGlobals "Let" = some (some (.ref LC)))
    (g_HC : PySem.W.nsIn K mainGlobals "House" = some (some (.ref HC)))
    (g_CN : PySem.W.nsIn K mainGlobals "NoRow" = some (some (.ref CN)))
    (gn : PySem.W.specialIn K (.builtin "object.__class__") "__get__" = some (some (.builtin "getset_descriptor.__get__")))
    (tk : PySem.W.takesIn K (.builtin "object.__class__") = some true)
    (pg_LC : PySem.W.plainGet K LC Str.empty = true)
    (hd_LC : PySem.W.hasDictIn K LC = true)
    (po_LC : PySem.W.plainOver K LC = true)
    (sa_LC : PySem.W.findIn K (.ref LC) "__setattr__" = some (some (.builtin "object.__setattr__")))
    (mk_LC : PySem.W.makesIn K LC = true)
    (kc_LC : PySem.W.keepIn K (.ref LC) = true)
    (ca_LC : PySem.W.findIn K (.ref LC) "__class__" = some (some (.builtin "object.__class__")))
    (mo_LC : PySem.W.mroIn K LC (.type "object") = some true)
    (ss_LC : PySem.W.subIn K (.ref LC) (.ref LC) = some true)
    (ic_LC : PySem.W.isClsIn K LC = true)
    (tc_LC : PySem.W.typeIn K (.ref LC) = some (.type "type"))
    (pg_HC : PySem.W.plainGet K HC Str.empty = true)
    (hd_HC : PySem.W.hasDictIn K HC = true)
    (po_HC : PySem.W.plainOver K HC = true)
    (sa_HC : PySem.W.findIn K (.ref HC) "__setattr__" = some (some (.builtin "object.__setattr__")))
    (mk_HC : PySem.W.makesIn K HC = true)
    (kc_HC : PySem.W.keepIn K (.ref HC) = true)
    (ca_HC : PySem.W.findIn K (.ref HC) "__class__" = some (some (.builtin "object.__class__")))
    (mo_HC : PySem.W.mroIn K HC (.type "object") = some true)
    (ss_HC : PySem.W.subIn K (.ref HC) (.ref HC) = some true)
    (ic_HC : PySem.W.isClsIn K HC = true)
    (tc_HC : PySem.W.typeIn K (.ref HC) = some (.type "type"))
    (ne_HC : PySem.W.findIn K (.ref HC) "__ne__" = some (some (.builtin "object.__ne__")))
    (ob_HC : PySem.W.subIn K (.ref HC) (.type "object") = some true)
    (no_LC_kind : PySem.W.findIn K (.ref LC) "kind" = some none)
    (no_LC_state : PySem.W.findIn K (.ref LC) "state" = some none)
    (no_LC_deed : PySem.W.findIn K (.ref LC) "deed" = some none)
    (no_LC_place : PySem.W.findIn K (.ref LC) "place" = some none)
    (no_HC_depth : PySem.W.findIn K (.ref HC) "depth" = some none)
    (no_HC_check : PySem.W.findIn K (.ref HC) "check" = some none)
    (no_HC_rows : PySem.W.findIn K (.ref HC) "rows" = some none)
    (a_f_li : PySem.W.findIn K (.ref LC) "__init__" = some (some (.ref f_li)))
    (i_f_li : PySem.W.isFn K (.ref f_li) = true)
    (l_f_li : K.lookup f_li = some ⟨oc_f_li, od_f_li, .func (PySem.W.fnOf "__init__" "Let.__init__" (defArgs sLInit) (defBody sLInit) (defScope sLInit) .none kV_f_li dc_f_li pm_f_li an_f_li cd_f_li ct_f_li), sl_f_li⟩)
    (c_f_li : PySem.W.codeIn K cd_f_li "Let.__init__" = true)
    (k_f_li : PySem.W.keepIn K (.ref f_li) = true)
    (a_f_ls : PySem.W.findIn K (.ref LC) "__str__" = some (some (.ref f_ls)))
    (i_f_ls : PySem.W.isFn K (.ref f_ls) = true)
    (l_f_ls : K.lookup f_ls = some ⟨oc_f_ls, od_f_ls, .func (PySem.W.fnOf "__str__" "Let.__str__" (defArgs sLStr) (defBody sLStr) (defScope sLStr) .none kV_f_ls dc_f_ls pm_f_ls an_f_ls cd_f_ls ct_f_ls), sl_f_ls⟩)
    (c_f_ls : PySem.W.codeIn K cd_f_ls "Let.__str__" = true)
    (k_f_ls : PySem.W.keepIn K (.ref f_ls) = true)
    (a_f_hi : PySem.W.findIn K (.ref HC) "__init__" = some (some (.ref f_hi)))
    (i_f_hi : PySem.W.isFn K (.ref f_hi) = true)
    (l_f_hi : K.lookup f_hi = some ⟨oc_f_hi, od_f_hi, .func (PySem.W.fnOf "__init__" "House.__init__" (defArgs sHsInit) (defBody sHsInit) (defScope sHsInit) (.ref T_f_hi) kV_f_hi dc_f_hi pm_f_hi an_f_hi cd_f_hi ct_f_hi), sl_f_hi⟩)
    (c_f_hi : PySem.W.codeIn K cd_f_hi "House.__init__" = true)
    (k_f_hi : PySem.W.keepIn K (.ref f_hi) = true)
    (t_f_hi : K.lookup T_f_hi = some ⟨.type "tuple", dd_f_hi, .seq #[.ref e_hi] n_f_hi, ds_f_hi⟩)
    (a_f_he : PySem.W.findIn K (.ref HC) "__eq__" = some (some (.ref f_he)))
    (i_f_he : PySem.W.isFn K (.ref f_he) = true)
    (l_f_he : K.lookup f_he = some ⟨oc_f_he, od_f_he, .func (PySem.W.fnOf "__eq__" "House.__eq__" (defArgs sHsEq) (defBody sHsEq) (defScope sHsEq) .none kV_f_he dc_f_he pm_f_he an_f_he cd_f_he ct_f_he), sl_f_he⟩)
    (c_f_he : PySem.W.codeIn K cd_f_he "House.__eq__" = true)
    (k_f_he : PySem.W.keepIn K (.ref f_he) = true)
    (a_f_hs : PySem.W.findIn K (.ref HC) "__str__" = some (some (.ref f_hs)))
    (i_f_hs : PySem.W.isFn K (.ref f_hs) = true)
    (l_f_hs : K.lookup f_hs = some ⟨oc_f_hs, od_f_hs, .func (PySem.W.fnOf "__str__" "House.__str__" (defArgs sHsStr) (defBody sHsStr) (defScope sHsStr) .none kV_f_hs dc_f_hs pm_f_hs an_f_hs cd_f_hs ct_f_hs), sl_f_hs⟩)
    (c_f_hs : PySem.W.codeIn K cd_f_hs "House.__str__" = true)
    (k_f_hs : PySem.W.keepIn K (.ref f_hs) = true)
    (a_f_hl : PySem.W.findIn K (.ref HC) "__len__" = some (some (.ref f_hl)))
    (i_f_hl : PySem.W.isFn K (.ref f_hl) = true)
    (l_f_hl : K.lookup f_hl = some ⟨oc_f_hl, od_f_hl, .func (PySem.W.fnOf "__len__" "House.__len__" (defArgs sHsLen) (defBody sHsLen) (defScope sHsLen) .none kV_f_hl dc_f_hl pm_f_hl an_f_hl cd_f_hl ct_f_hl), sl_f_hl⟩)
    (c_f_hl : PySem.W.codeIn K cd_f_hl "House.__len__" = true)
    (k_f_hl : PySem.W.keepIn K (.ref f_hl) = true)
    (a_f_pl : PySem.W.findIn K (.ref HC) "placed" = some (some (.ref f_pl)))
    (i_f_pl : PySem.W.isFn K (.ref f_pl) = true)
    (l_f_pl : K.lookup f_pl = some ⟨oc_f_pl, od_f_pl, .func (PySem.W.fnOf "placed" "House.placed" (defArgs sPlaced) (defBody sPlaced) (defScope sPlaced) .none kV_f_pl dc_f_pl pm_f_pl an_f_pl cd_f_pl ct_f_pl), sl_f_pl⟩)
    (c_f_pl : PySem.W.codeIn K cd_f_pl "House.placed" = true)
    (k_f_pl : PySem.W.keepIn K (.ref f_pl) = true)
    (a_f_wo : PySem.W.findIn K (.ref HC) "without" = some (some (.ref f_wo)))
    (i_f_wo : PySem.W.isFn K (.ref f_wo) = true)
    (l_f_wo : K.lookup f_wo = some ⟨oc_f_wo, od_f_wo, .func (PySem.W.fnOf "without" "House.without" (defArgs sWithout) (defBody sWithout) (defScope sWithout) .none kV_f_wo dc_f_wo pm_f_wo an_f_wo cd_f_wo ct_f_wo), sl_f_wo⟩)
    (c_f_wo : PySem.W.codeIn K cd_f_wo "House.without" = true)
    (k_f_wo : PySem.W.keepIn K (.ref f_wo) = true)
    (x_CN : K.lookup CN = some (PySem.excClassObj nm_CN q_CN CN N_CN bs_CN bm_CN true sn_CN sub_CN ab_CN col_CN dd_CN m0_CN m1_CN m2_CN m3_CN m5_CN "IndexError.__new__"))
    (xb_CN : lineI bm_CN = true)
    (xsa_CN : PySem.W.findIn K (.ref CN) "__setattr__" = some (some (.builtin "object.__setattr__")))
    (xga_CN : PySem.W.findIn K (.ref CN) "__getattribute__" = some (some (.builtin "BaseException.__getattribute__")))
    (xgg_CN : PySem.W.findIn K (.ref CN) "__getattr__" = some none)
    (xex_CN : PySem.W.subIn K (.ref CN) (.type "BaseException") = some true)
    (xty_CN : PySem.W.typeIn K (.ref CN) = some (.type "type"))
    (xkc_CN : PySem.W.keepIn K (.ref CN) = true)
    (xhd_CN : PySem.W.hasDictIn K CN = true)
    (xis_CN : PySem.W.isClsIn K CN = true)
    (xca_CN : PySem.W.findIn K (.ref CN) "__class__" = some (some (.builtin "object.__class__")))
    (xgn_CN : PySem.W.specialIn K (.builtin "object.__class__") "__get__" = some (some (.builtin "getset_descriptor.__get__")))
    (xtk_CN : PySem.W.takesIn K (.builtin "object.__class__") = some true)
    (xmo_CN : PySem.W.mroIn K CN (.type "object") = some true)
    (xss_CN : PySem.W.subIn K (.ref CN) (.ref CN) = some true)
    (no_CN_at : PySem.W.findIn K (.ref CN) "at" = some none)
    (a_f_nr : PySem.W.findIn K (.ref CN) "__init__" = some (some (.ref f_nr)))
    (tf_nr : PySem.W.typeIn K (.ref f_nr) = some (.type "function"))
    (l_f_nr : K.lookup f_nr = some ⟨oc_f_nr, od_f_nr, .func (PySem.W.fnOf "__init__" "NoRow.__init__" (defArgs sNrInit) (defBody sNrInit) (defScope sNrInit) .none kV_f_nr dc_f_nr pm_f_nr an_f_nr cd_f_nr ct_f_nr), sl_f_nr⟩)
    (c_f_nr : PySem.W.codeIn K cd_f_nr "NoRow.__init__" = true)
    (k_f_nr : PySem.W.keepIn K (.ref f_nr) = true)
    (te_CN : PySem.W.exmOne K (.ref CN) (.ref CN) = some true)
    (g_KA : PySem.W.nsIn K mainGlobals "KINDS" = some (some (.ref KA)))
    (q_KA : K.lookup KA = some ⟨.type "tuple", dd_KA, .seq #[.str "first" t0_KA, .str "new" t1_KA, .str "minus" t2_KA, .str "plus" t3_KA] n_KA, ds_KA⟩)
    (g_SA : PySem.W.nsIn K mainGlobals "STATES" = some (some (.ref SA)))
    (q_SA : K.lookup SA = some ⟨.type "tuple", dd_SA, .seq #[.str "open" t0_SA, .str "shut" t1_SA] n_SA, ds_SA⟩)
    (g_DA : PySem.W.nsIn K mainGlobals "DEEDS" = some (some (.ref DA)))
    (q_DA : K.lookup DA = some ⟨.type "tuple", dd_DA, .seq #[.str "whole" t0_DA, .str "part" t1_DA, .str "right" t2_DA] n_DA, ds_DA⟩)
    (g_PA : PySem.W.nsIn K mainGlobals "PLACES" = some (some (.ref PA)))
    (q_PA : K.lookup PA = some ⟨.type "tuple", dd_PA, .seq #[.str "now" t0_PA, .str "there" t1_PA] n_PA, ds_PA⟩)
    (g_KK : PySem.W.nsIn K mainGlobals "CHECKS" = some (some (.ref KK)))
    (q_KK : K.lookup KK = some ⟨.type "tuple", dd_KK, .seq #[.str "left" t0_KK, .str "all" t1_KK] n_KK, ds_KK⟩)
    (g_DL : PySem.W.nsIn K mainGlobals "DEPTH_LINES" = some (some (.ref DL)))
    (q_DL : K.lookup DL = some ⟨.type "tuple", dd_DL, .seq #[.str "depth 0" t0_DL, .str "depth 1" t1_DL, .str "depth 2" t2_DL, .str "depth 3" t3_DL, .str "depth 4" t4_DL] n_DL, ds_DL⟩)
    (z_len : PySem.W.nsIn K mainGlobals "len" = some none)
    (z_abs : PySem.W.nsIn K mainGlobals "abs" = some none)
    (z_int : PySem.W.nsIn K mainGlobals "int" = some none)
    (z_isinstance : PySem.W.nsIn K mainGlobals "isinstance" = some none)
    (z_bool : PySem.W.nsIn K mainGlobals "bool" = some none)
    (z_range : PySem.W.nsIn K mainGlobals "range" = some none)
    (z_max : PySem.W.nsIn K mainGlobals "max" = some none)
    (z_min : PySem.W.nsIn K mainGlobals "min" = some none)
    (z_str : PySem.W.nsIn K mainGlobals "str" = some none)
    (z_list : PySem.W.nsIn K mainGlobals "list" = some none)
    (z_tuple : PySem.W.nsIn K mainGlobals "tuple" = some none)
    (z_all : PySem.W.nsIn K mainGlobals "all" = some none)
    (z_enumerate : PySem.W.nsIn K mainGlobals "enumerate" = some none)
    : ∃ fd : FuncData, (∀ (s : Shared) (v : Value), BindsTo s fd ⟨[v], []⟩ [("_law_script", v)]) ∧ ∀ base : Heap, K.In base → base.Ns mainGlobals mg → FnOk l.prog w K mg base CX0 9 fa fd ["_law_script"] (spLaw K) := by
  have e := hfa.symm.trans (PySem.W.mg_of X G g_f_law)
  cases e
  have F_f_int := fun_mk (st := sIsInt) l_f_int c_f_int k_f_int
  have b_f_int := F_f_int.binds (ps := ["value"]) fun _ _ _ _ _ _ us hl => match us, hl with | [_], _ => rfl
  have F_f_num := fun_mk (st := sIsNum) l_f_num c_f_num k_f_num
  have b_f_num := F_f_num.binds (ps := ["value"]) fun _ _ _ _ _ _ us hl => match us, hl with | [_], _ => rfl
  have F_f_ww := fun_mk (st := sWrongWord) l_f_ww c_f_ww k_f_ww
  have b_f_ww := F_f_ww.binds (ps := ["kind", "state", "deed", "place"]) fun _ _ _ _ _ _ us hl => match us, hl with | [_, _, _, _], _ => rfl
  have F_f_isr := fun_mk (st := sIsRows) l_f_isr c_f_isr k_f_isr
  have b_f_isr := F_f_isr.binds (ps := ["value"]) fun _ _ _ _ _ _ us hl => match us, hl with | [_], _ => rfl
  have F_f_hr := fun_mk (st := sHasRow) l_f_hr c_f_hr k_f_hr
  have b_f_hr := F_f_hr.binds (ps := ["house", "at"]) fun _ _ _ _ _ _ us hl => match us, hl with | [_, _], _ => rfl
  have F_f_seed := fun_mk (st := sSeed) l_f_seed c_f_seed k_f_seed
  have b_f_seed := F_f_seed.binds (ps := ["_law_script", "_law_k"]) fun _ _ _ _ _ _ us hl => match us, hl with | [_, _], _ => rfl
  have F_f_choose := fun_mk (st := sChoose) l_f_choose c_f_choose k_f_choose
  have b_f_choose := F_f_choose.binds (ps := ["_law_box", "_law_many"]) fun _ _ _ _ _ _ us hl => match us, hl with | [_, _], _ => rfl
  have F_f_one := fun_mk (st := sOneOf) l_f_one c_f_one k_f_one
  have b_f_one := F_f_one.binds (ps := ["_law_box", "_law_some"]) fun _ _ _ _ _ _ us hl => match us, hl with | [_, _], _ => rfl
  have F_f_rows := fun_mk (st := sRows) l_f_rows c_f_rows k_f_rows
  have b_f_rows := F_f_rows.binds (ps := ["_law_box", "_law_many"]) fun _ _ _ _ _ _ us hl => match us, hl with | [_, _], _ => rfl
  have F_f_ho := fun_mk (st := sHouse) l_f_ho c_f_ho k_f_ho
  have b_f_ho := F_f_ho.binds (ps := ["_law_box", "_law_many"]) fun _ _ _ _ _ _ us hl => match us, hl with | [_, _], _ => rfl
  have F_f_ht := fun_mk (st := sHouseText) l_f_ht c_f_ht k_f_ht
  have b_f_ht := F_f_ht.binds (ps := ["_law_house_here"]) fun _ _ _ _ _ _ us hl => match us, hl with | [_], _ => rfl
  have F_f_pc := fun_mk (st := sPlace) l_f_pc c_f_pc k_f_pc
  have b_f_pc := F_f_pc.binds (ps := ["_law_house_here", "_law_kind", "_law_state", "_law_deed"]) fun _ _ _ _ _ _ us hl => match us, hl with | [_, _, _, _], _ => rfl
  have F_f_lo := fun_mk (st := sLetOf) l_f_lo c_f_lo k_f_lo
  have b_f_lo := F_f_lo.binds (ps := ["_law_row"]) fun _ _ _ _ _ _ us hl => match us, hl with | [_], _ => rfl
  have F_f_hf := fun_mk (st := sHouseOf) l_f_hf c_f_hf k_f_hf
  have b_f_hf := F_f_hf.binds (ps := ["_law_house_here"]) fun _ _ _ _ _ _ us hl => match us, hl with | [_], _ => rfl
  have F_f_rf := fun_mk (st := sRefused) l_f_rf c_f_rf k_f_rf
  have b_f_rf := F_f_rf.binds (ps := ["_law_made", "_law_numbers"]) fun _ _ _ _ _ _ us hl => match us, hl with | [_, _], _ => rfl
  have F_f_law := fun_mk (st := sLaw) l_f_law c_f_law k_f_law
  have b_f_law := F_f_law.binds (ps := ["_law_script"]) fun _ _ _ _ _ _ us hl => match us, hl with | [_], _ => rfl
  have cl_LC : Cls K LC := ⟨pg_LC, hd_LC, po_LC, sa_LC⟩
  have cl_HC : Cls K HC := ⟨pg_HC, hd_HC, po_HC, sa_HC⟩
  have F_f_li := fun_mk (st := sLInit) l_f_li c_f_li k_f_li
  have b_f_li := F_f_li.binds (ps := ["self", "kind", "state", "deed", "place"]) fun _ _ _ _ _ _ us hl => match us, hl with | [_, _, _, _, _], _ => rfl
  have F_f_ls := fun_mk (st := sLStr) l_f_ls c_f_ls k_f_ls
  have b_f_ls := F_f_ls.binds (ps := ["self"]) fun _ _ _ _ _ _ us hl => match us, hl with | [_], _ => rfl
  have F_f_hi : FunD K "__init__" "House.__init__" (defArgs sHsInit) (defBody sHsInit) (defScope sHsInit) [.ref e_hi] [] f_hi _ := ⟨⟨_, _, _, _, _, _, _, _, _, _, rfl, l_f_hi, c_f_hi, .inr ⟨by simp, T_f_hi, _, [.ref e_hi], n_f_hi, rfl, t_f_hi, rfl, .cons rfl .nil⟩, .inl rfl⟩, k_f_hi⟩
  obtain ⟨ds_, vds_, b_f_hi⟩ := F_f_hi.binds1 (ps := ["self", "depth", "check", "rows"]) 4 1 (by simp) rfl (fun _ _ _ _ _ _ _ us its hu hi => by
    match us, its, hu, hi with
    | [_, _, _, _], [_], _, _ => exact ⟨_, rfl, rfl⟩)
  cases vds_
  have F_f_he := fun_mk (st := sHsEq) l_f_he c_f_he k_f_he
  have b_f_he := F_f_he.binds (ps := ["self", "other"]) fun _ _ _ _ _ _ us hl => match us, hl with | [_, _], _ => rfl
  have F_f_hs := fun_mk (st := sHsStr) l_f_hs c_f_hs k_f_hs
  have b_f_hs := F_f_hs.binds (ps := ["self"]) fun _ _ _ _ _ _ us hl => match us, hl with | [_], _ => rfl
  have F_f_hl := fun_mk (st := sHsLen) l_f_hl c_f_hl k_f_hl
  have b_f_hl := F_f_hl.binds (ps := ["self"]) fun _ _ _ _ _ _ us hl => match us, hl with | [_], _ => rfl
  have F_f_pl := fun_mk (st := sPlaced) l_f_pl c_f_pl k_f_pl
  have b_f_pl := F_f_pl.binds (ps := ["self", "kind", "state", "deed"]) fun _ _ _ _ _ _ us hl => match us, hl with | [_, _, _, _], _ => rfl
  have F_f_wo := fun_mk (st := sWithout) l_f_wo c_f_wo k_f_wo
  have b_f_wo := F_f_wo.binds (ps := ["self", "numbers"]) fun _ _ _ _ _ _ us hl => match us, hl with | [_, _], _ => rfl
  have ox_CN : OexI K CN := ⟨⟨_, _, _, _, _, _, _, _, _, _, _, _, _, _, _, x_CN, xb_CN⟩, xsa_CN, xex_CN, xty_CN, xkc_CN⟩
  have xc_CN : XClass K CN := ⟨xis_CN, xga_CN, xgg_CN, xex_CN, xca_CN, xgn_CN, xtk_CN, xmo_CN⟩
  have xf_CN : XfC K CN := ⟨xga_CN, xgg_CN, xex_CN, xhd_CN⟩
  have F_f_nr := fun_mk (st := sNrInit) l_f_nr c_f_nr k_f_nr
  have b_f_nr := F_f_nr.binds (ps := ["self", "at"]) fun _ _ _ _ _ _ us hl => match us, hl with | [_, _], _ => rfl
  have TA : Blt mg := ⟨PySem.W.mg_none_of X G z_len, PySem.W.mg_none_of X G z_abs, PySem.W.mg_none_of X G z_int⟩
  have TK : BltK mg := ⟨PySem.W.mg_none_of X G z_isinstance, PySem.W.mg_none_of X G z_int, PySem.W.mg_none_of X G z_bool, PySem.W.mg_none_of X G z_list, PySem.W.mg_none_of X G z_tuple, PySem.W.mg_none_of X G z_all, PySem.W.mg_none_of X G z_len, PySem.W.mg_none_of X G z_str⟩
  have TZ : BltZ mg := ⟨PySem.W.mg_none_of X G z_len, PySem.W.mg_none_of X G z_range, PySem.W.mg_none_of X G z_max, PySem.W.mg_none_of X G z_min, PySem.W.mg_none_of X G z_str, PySem.W.mg_none_of X G z_tuple, PySem.W.mg_none_of X G z_list, PySem.W.mg_none_of X G z_enumerate⟩
  have TG : BltG mg := ⟨PySem.W.mg_none_of X G z_range, PySem.W.mg_none_of X G z_str⟩
  have RT : RowH K mg KA SA DA PA := ⟨PySem.W.mg_of X G g_KA, PySem.W.mg_of X G g_SA, PySem.W.mg_of X G g_DA, PySem.W.mg_of X G g_PA, fun _ => .inr ⟨_, _, _, q_KA, rfl, rfl, by show 4 ≤ sizeLine; decide, (.cons ⟨_, rfl⟩ (.cons ⟨_, rfl⟩ (.cons ⟨_, rfl⟩ (.cons ⟨_, rfl⟩ .nil))))⟩, fun _ => .inr ⟨_, _, _, q_SA, rfl, rfl, by show 2 ≤ sizeLine; decide, (.cons ⟨_, rfl⟩ (.cons ⟨_, rfl⟩ .nil))⟩, fun _ => .inr ⟨_, _, _, q_DA, rfl, rfl, by show 3 ≤ sizeLine; decide, (.cons ⟨_, rfl⟩ (.cons ⟨_, rfl⟩ (.cons ⟨_, rfl⟩ .nil)))⟩, fun _ => .inr ⟨_, _, _, q_PA, rfl, rfl, by show 2 ≤ sizeLine; decide, (.cons ⟨_, rfl⟩ (.cons ⟨_, rfl⟩ .nil))⟩⟩
  have XT : HsT K mg KK DL := ⟨PySem.W.mg_of X G g_KK, PySem.W.mg_of X G g_DL, fun _ => .inr ⟨_, _, _, q_KK, rfl, rfl, by show 2 ≤ sizeLine; decide, (.cons ⟨_, rfl⟩ (.cons ⟨_, rfl⟩ .nil))⟩, fun _ => .inr ⟨_, _, _, q_DL, rfl, rfl, by show 5 ≤ sizeLine; decide, (.cons ⟨_, rfl⟩ (.cons ⟨_, rfl⟩ (.cons ⟨_, rfl⟩ (.cons ⟨_, rfl⟩ (.cons ⟨_, rfl⟩ .nil)))))⟩⟩
  have FL : LetC K ⟨LC, LC⟩ := ⟨cl_LC, no_LC_kind, no_LC_state, no_LC_deed, no_LC_place⟩
  have LI : LetI K ⟨LC, LC⟩ := ⟨cl_LC, ca_LC, mo_LC, gn, tk, kit_ref ic_LC tc_LC ss_LC ss_LC⟩
  have FH : HsC K HC := ⟨cl_HC, no_HC_depth, no_HC_check, no_HC_rows⟩
  have HI : HsI K HC := ⟨cl_HC, ca_HC, mo_HC, gn, tk, kit_ref ic_HC tc_HC ss_HC ss_HC⟩
  refine ⟨PySem.W.fnOf "law" "law" (defArgs sLaw) (defBody sLaw) (defScope sLaw) .none kV_f_law dc_f_law pm_f_law an_f_law cd_f_law ct_f_law, fun s v => .of_eq rfl, fun base _ _ => ?_⟩
  have q_f_int : Cal l.prog w K mg base CX0 "is_integer" 1 ["value"] spIntI := ⟨f_int, _, ok_intK F_f_int TK, PySem.W.mg_of X G g_f_int, k_f_int, b_f_int⟩
  have q_f_num : Cal l.prog w K mg base CX0 "is_number" 2 ["value"] spNumI := ⟨f_num, _, ok_numK F_f_num q_f_int, PySem.W.mg_of X G g_f_num, k_f_num, b_f_num⟩
  have q_f_ww : Cal l.prog w K mg base CX0 "wrong_word" 1 ["kind", "state", "deed", "place"] spWord := ⟨f_ww, _, ok_word F_f_ww RT, PySem.W.mg_of X G g_f_ww, k_f_ww, b_f_ww⟩
  have q_f_isr : Cal l.prog w K mg base CX0 "is_rows" 1 ["value"] (spIsRows ⟨LC, LC⟩) := ⟨f_isr, _, ok_isRows F_f_isr TK LI (PySem.W.mg_of X G g_LC), PySem.W.mg_of X G g_f_isr, k_f_isr, b_f_isr⟩
  have q_f_hr : Cal l.prog w K mg base CX0 "has_row" 1 ["house", "at"] (spHasRow ⟨LC, LC⟩ HC) := ⟨f_hr, _, ok_hasRow F_f_hr TK FH, PySem.W.mg_of X G g_f_hr, k_f_hr, b_f_hr⟩
  have q_f_choose : Cal l.prog w K mg base CX0 "_law_choose" 1 ["_law_box", "_law_many"] spChoose := ⟨f_choose, _, ok_choose F_f_choose TA, PySem.W.mg_of X G g_f_choose, k_f_choose, b_f_choose⟩
  have q_f_seed : Cal l.prog w K mg base CX0 "_law_seed" 1 ["_law_script", "_law_k"] (spSeed K) := ⟨f_seed, _, ok_seed F_f_seed TA, PySem.W.mg_of X G g_f_seed, k_f_seed, b_f_seed⟩
  have q_f_one : Cal l.prog w K mg base CX0 "_law_one_of" 2 ["_law_box", "_law_some"] (spOneOf K) := ⟨f_one, _, ok_oneOf F_f_one TA q_f_choose, PySem.W.mg_of X G g_f_one, k_f_one, b_f_one⟩
  have ML : MkR l.prog w K mg base "Let" ["self", "kind", "state", "deed", "place"] LC 3 (spLInit ⟨LC, LC⟩) := ⟨PySem.W.mg_of X G g_LC, f_li, _, (ok_lInit F_f_li FL q_f_ww).mono (by decide), ⟨mk_LC, a_f_li, i_f_li, kc_LC⟩, b_f_li⟩
  have MH : MkH l.prog w K mg base ⟨LC, LC⟩ HC := ⟨PySem.W.mg_of X G g_HC, f_hi, _, ok_hsInit F_f_hi TK XT FH q_f_num q_f_isr, ⟨mk_HC, a_f_hi, i_f_hi, kc_HC⟩, b_f_hi⟩
  have SL : StrH l.prog w K mg base ⟨LC, LC⟩ := ⟨⟨f_ls, _, ok_lStr F_f_ls FL, a_f_ls, i_f_ls, b_f_ls⟩⟩
  have SK : HsStr l.prog w K mg base ⟨LC, LC⟩ HC := ⟨⟨f_hs, _, ok_hsStr F_f_hs TK SL FH, a_f_hs, i_f_hs, b_f_hs⟩⟩
  have NR : NrTxt l.prog w K mg base CN := ⟨PySem.W.mg_of X G g_CN, ox_CN, no_CN_at, f_nr, _, ok_nrInit F_f_nr ox_CN no_CN_at, a_f_nr, tf_nr, b_f_nr⟩
  have WO : WoTxt l.prog w K mg base ⟨LC, LC⟩ HC CN := ⟨cl_HC, f_wo, _, ok_without F_f_wo (PySem.W.mg_none_of X G z_enumerate) FH NR MH q_f_hr, ⟨a_f_wo, i_f_wo, k_f_wo⟩, b_f_wo⟩
  have EN : HsEnv l.prog w K mg base ⟨LC, LC⟩ HC CN := {
    sk := SK
    wo := WO
    pl := ⟨f_pl, _, ok_placed F_f_pl FH FL, ⟨a_f_pl, i_f_pl, k_f_pl⟩, b_f_pl⟩
    len := ⟨f_hl, _, ok_hsLen F_f_hl TK FH, a_f_hl, i_f_hl, b_f_hl⟩
    eq := ⟨f_he, _, ok_hsEq F_f_he TK SK HI (PySem.W.mg_of X G g_HC), ⟨a_f_he, i_f_he, ne_HC, ob_HC⟩, b_f_he⟩
    nf := nf_same }
  have q_f_rows : Cal l.prog w K mg base CX0 "_law_rows" 3 ["_law_box", "_law_many"] spRows := ⟨f_rows, _, ok_rows F_f_rows TG q_f_one, PySem.W.mg_of X G g_f_rows, k_f_rows, b_f_rows⟩
  have q_f_ho : Cal l.prog w K mg base CX0 "_law_house" 4 ["_law_box", "_law_many"] spHouse := ⟨f_ho, _, ok_house F_f_ho (PySem.W.mg_none_of X G z_tuple) q_f_one q_f_choose q_f_rows, PySem.W.mg_of X G g_f_ho, k_f_ho, b_f_ho⟩
  have q_f_ht : Cal l.prog w K mg base CX0 "_law_house_text" 1 ["_law_house_here"] spHouseText := ⟨f_ht, _, ok_houseText F_f_ht (PySem.W.mg_none_of X G z_str), PySem.W.mg_of X G g_f_ht, k_f_ht, b_f_ht⟩
  have q_f_pc : Cal l.prog w K mg base CX0 "_law_place" 2 ["_law_house_here", "_law_kind", "_law_state", "_law_deed"] spPlace := ⟨f_pc, _, ok_place F_f_pc, PySem.W.mg_of X G g_f_pc, k_f_pc, b_f_pc⟩
  have q_f_lo : Cal l.prog w K mg base CX0 "_law_let_of" 5 ["_law_row"] (spLetOf ⟨LC, LC⟩) := ⟨f_lo, _, ok_letOf F_f_lo ML, PySem.W.mg_of X G g_f_lo, k_f_lo, b_f_lo⟩
  have q_f_hf : Cal l.prog w K mg base CX0 "_law_house_of" 6 ["_law_house_here"] (spHouseOf ⟨LC, LC⟩ HC) := ⟨f_hf, _, ok_houseOf F_f_hf MH q_f_lo, PySem.W.mg_of X G g_f_hf, k_f_hf, b_f_hf⟩
  have q_f_rf : Cal l.prog w K mg base CX0 "_law_refused" 7 ["_law_made", "_law_numbers"] (spRefI ⟨LC, LC⟩ HC) := ⟨f_rf, _, ok_refI F_f_rf ⟨xf_CN, no_CN_at, te_CN⟩ (PySem.W.mg_of X G g_CN) WO, PySem.W.mg_of X G g_f_rf, k_f_rf, b_f_rf⟩
  exact ok_law F_f_law TZ EN q_f_seed q_f_choose q_f_one q_f_ho q_f_ht q_f_pc q_f_hf q_f_rf
theorem walk {l : PySem.W.OpenLaw} {q : Program} {loose : List Str} {XP : (Str → Option Value) → Heap → Prop} {YP : World → Heap → Prop} {d : DefRec} {K : Params → PySem.W.Frag} (hn : l.most = some 63) (hdf : d.params.defaults = [])
    (hY : ∀ (w : World) (h : Heap), YP w h → (K w.params).In h)
    (F : ∀ (w : World) (mg : Str → Option Value) (fa : Addr) (h : Heap), (K w.params).In h → h.Ns mainGlobals mg → mg d.name = some (.ref fa) →
      ∃ fd : FuncData, (∀ (s : Shared) (u : Value), BindsTo s fd ⟨[u], []⟩ [("_law_script", u)]) ∧ ∀ base : Heap, (K w.params).In base → base.Ns mainGlobals mg → FnOk l.prog w (K w.params) mg base CX0 9 fa fd ["_law_script"] (spLaw (K w.params))) :
    PySem.W.WalkO q loose XP YP l.row.toRowW d [] (fun f vs => PySem.call f vs) :=
  L2.walk_of (n := 63) (k := 9) (x := "_law_script") (CX := fun _ => CX0) (sp := fun w => spLaw (K w.params)) hn (by decide) hdf ⟨rfl, by decide, by decide⟩ hY F (fun _ _ a ns hl _ hS => ⟨a, ns, rfl, hS, hl, fun _ => rfl⟩) fun _ _ _ _ _ z => z
end V3

open PySem PySem.W PyProof.Rows in
set_option maxRecDepth 100000 in
set_option maxHeartbeats 0 in
theorem PySem.Challenge.cw_contrabooks_k14_rows_left_out_holds : PySem.Challenge.rw_contrabooks_k14_rows_left_out.Holds := by
  w_on; o_law; k_head; (case hw => w_witness2)
  k_fill
  refine V3.walk (l := PySem.Challenge.rw_contrabooks_k14_rows_left_out) rfl rfl (fun w h Y => PySem.W.kIn_of Y) ?F
  case F =>
    intro w mg fa h KX G hmg
    refine' V3.all_mk KX G hmg ?g_f_int ?l_f_int ?c_f_int ?k_f_int ?g_f_num ?l_f_num ?c_f_num ?k_f_num ?g_f_ww ?l_f_ww ?c_f_ww ?k_f_ww ?g_f_isr ?l_f_isr ?c_f_isr ?k_f_isr ?g_f_hr ?l_f_hr ?c_f_hr ?k_f_hr ?g_f_seed ?l_f_seed ?c_f_seed ?k_f_seed ?g_f_choose ?l_f_choose ?c_f_choose ?k_f_choose ?g_f_one ?l_f_one ?c_f_one ?k_f_one ?g_f_rows ?l_f_rows ?c_f_rows ?k_f_rows ?g_f_ho ?l_f_ho ?c_f_ho ?k_f_ho ?g_f_ht ?l_f_ht ?c_f_ht ?k_f_ht ?g_f_pc ?l_f_pc ?c_f_pc ?k_f_pc ?g_f_lo ?l_f_lo ?c_f_lo ?k_f_lo ?g_f_hf ?l_f_hf ?c_f_hf ?k_f_hf ?g_f_rf ?l_f_rf ?c_f_rf ?k_f_rf ?g_f_law ?l_f_law ?c_f_law ?k_f_law ?g_LC ?g_HC ?g_CN ?gn ?tk ?pg_LC ?hd_LC ?po_LC ?sa_LC ?mk_LC ?kc_LC ?ca_LC ?mo_LC ?ss_LC ?ic_LC ?tc_LC ?pg_HC ?hd_HC ?po_HC ?sa_HC ?mk_HC ?kc_HC ?ca_HC ?mo_HC ?ss_HC ?ic_HC ?tc_HC ?ne_HC ?ob_HC ?no_LC_kind ?no_LC_state ?no_LC_deed ?no_LC_place ?no_HC_depth ?no_HC_check ?no_HC_rows ?a_f_li ?i_f_li ?l_f_li ?c_f_li ?k_f_li ?a_f_ls ?i_f_ls ?l_f_ls ?c_f_ls ?k_f_ls ?a_f_hi ?i_f_hi ?l_f_hi ?c_f_hi ?k_f_hi ?t_f_hi ?a_f_he ?i_f_he ?l_f_he ?c_f_he ?k_f_he ?a_f_hs ?i_f_hs ?l_f_hs ?c_f_hs ?k_f_hs ?a_f_hl ?i_f_hl ?l_f_hl ?c_f_hl ?k_f_hl ?a_f_pl ?i_f_pl ?l_f_pl ?c_f_pl ?k_f_pl ?a_f_wo ?i_f_wo ?l_f_wo ?c_f_wo ?k_f_wo ?x_CN ?xb_CN ?xsa_CN ?xga_CN ?xgg_CN ?xex_CN ?xty_CN ?xkc_CN ?xhd_CN ?xis_CN ?xca_CN ?xgn_CN ?xtk_CN ?xmo_CN ?xss_CN ?no_CN_at ?a_f_nr ?tf_nr ?l_f_nr ?c_f_nr ?k_f_nr ?te_CN ?g_KA ?q_KA ?g_SA ?q_SA ?g_DA ?q_DA ?g_PA ?q_PA ?g_KK ?q_KK ?g_DL ?q_DL ?z_len ?z_abs ?z_int ?z_isinstance ?z_bool ?z_range ?z_max ?z_min ?z_str ?z_list ?z_tuple ?z_all ?z_enumerate
    (case g_f_int => k_is)
    (case l_f_int => k_is)
    (case c_f_int => k_is)
    (case k_f_int => k_is)
    (case g_f_num => k_is)
    (case l_f_num => k_is)
    (case c_f_num => k_is)
    (case k_f_num => k_is)
    (case g_f_ww => k_is)
    (case l_f_ww => k_is)
    (case c_f_ww => k_is)
    (case k_f_ww => k_is)
    (case g_f_isr => k_is)
    (case l_f_isr => k_is)
    (case c_f_isr => k_is)
    (case k_f_isr => k_is)
    (case g_f_hr => k_is)
    (case l_f_hr => k_is)
    (case c_f_hr => k_is)
    (case k_f_hr => k_is)
    (case g_f_seed => k_is)
    (case l_f_seed => k_is)
    (case c_f_seed => k_is)
    (case k_f_seed => k_is)
    (case g_f_choose => k_is)
    (case l_f_choose => k_is)
    (case c_f_choose => k_is)
    (case k_f_choose => k_is)
    (case g_f_one => k_is)
    (case l_f_one => k_is)
    (case c_f_one => k_is)
    (case k_f_one => k_is)
    (case g_f_rows => k_is)
    (case l_f_rows => k_is)
    (case c_f_rows => k_is)
    (case k_f_rows => k_is)
    (case g_f_ho => k_is)
    (case l_f_ho => k_is)
    (case c_f_ho => k_is)
    (case k_f_ho => k_is)
    (case g_f_ht => k_is)
    (case l_f_ht => k_is)
    (case c_f_ht => k_is)
    (case k_f_ht => k_is)
    (case g_f_pc => k_is)
    (case l_f_pc => k_is)
    (case c_f_pc => k_is)
    (case k_f_pc => k_is)
    (case g_f_lo => k_is)
    (case l_f_lo => k_is)
    (case c_f_lo => k_is)
    (case k_f_lo => k_is)
    (case g_f_hf => k_is)
    (case l_f_hf => k_is)
    (case c_f_hf => k_is)
    (case k_f_hf => k_is)
    (case g_f_rf => k_is)
    (case l_f_rf => k_is)
    (case c_f_rf => k_is)
    (case k_f_rf => k_is)
    (case g_f_law => k_is)
    (case l_f_law => k_is)
    (case c_f_law => k_is)
    (case k_f_law => k_is)
    (case g_LC => k_is)
    (case g_HC => k_is)
    (case g_CN => k_is)
    (case gn => k_is)
    (case tk => k_is)
    (case pg_LC => k_is)
    (case hd_LC => k_is)
    (case po_LC => k_is)
    (case sa_LC => k_is)
    (case mk_LC => k_is)
    (case kc_LC => k_is)
    (case ca_LC => k_is)
    (case mo_LC => k_is)
    (case ss_LC => first | rfl | k_is)
    (case ic_LC => k_is)
    (case tc_LC => k_is)
    (case pg_HC => k_is)
    (case hd_HC => k_is)
    (case po_HC => k_is)
    (case sa_HC => k_is)
    (case mk_HC => k_is)
    (case kc_HC => k_is)
    (case ca_HC => k_is)
    (case mo_HC => k_is)
    (case ss_HC => first | rfl | k_is)
    (case ic_HC => k_is)
    (case tc_HC => k_is)
    (case ne_HC => k_is)
    (case ob_HC => k_is)
    (case no_LC_kind => k_is)
    (case no_LC_state => k_is)
    (case no_LC_deed => k_is)
    (case no_LC_place => k_is)
    (case no_HC_depth => k_is)
    (case no_HC_check => k_is)
    (case no_HC_rows => k_is)
    (case a_f_li => k_is)
    (case i_f_li => k_is)
    (case l_f_li => k_is)
    (case c_f_li => k_is)
    (case k_f_li => k_is)
    (case a_f_ls => k_is)
    (case i_f_ls => k_is)
    (case l_f_ls => k_is)
    (case c_f_ls => k_is)
    (case k_f_ls => k_is)
    (case a_f_hi => k_is)
    (case i_f_hi => k_is)
    (case l_f_hi => k_is)
    (case c_f_hi => k_is)
    (case k_f_hi => k_is)
    (case t_f_hi => k_is)
    (case a_f_he => k_is)
    (case i_f_he => k_is)
    (case l_f_he => k_is)
    (case c_f_he => k_is)
    (case k_f_he => k_is)
    (case a_f_hs => k_is)
    (case i_f_hs => k_is)
    (case l_f_hs => k_is)
    (case c_f_hs => k_is)
    (case k_f_hs => k_is)
    (case a_f_hl => k_is)
    (case i_f_hl => k_is)
    (case l_f_hl => k_is)
    (case c_f_hl => k_is)
    (case k_f_hl => k_is)
    (case a_f_pl => k_is)
    (case i_f_pl => k_is)
    (case l_f_pl => k_is)
    (case c_f_pl => k_is)
    (case k_f_pl => k_is)
    (case a_f_wo => k_is)
    (case i_f_wo => k_is)
    (case l_f_wo => k_is)
    (case c_f_wo => k_is)
    (case k_f_wo => k_is)
    (case x_CN => k_is)
    (case xb_CN => decide +kernel)
    (case xsa_CN => k_is)
    (case xga_CN => k_is)
    (case xgg_CN => k_is)
    (case xex_CN => k_is)
    (case xty_CN => k_is)
    (case xkc_CN => k_is)
    (case xhd_CN => k_is)
    (case xis_CN => k_is)
    (case xca_CN => k_is)
    (case xgn_CN => k_is)
    (case xtk_CN => k_is)
    (case xmo_CN => k_is)
    (case xss_CN => first | rfl | k_is)
    (case no_CN_at => k_is)
    (case a_f_nr => k_is)
    (case tf_nr => k_is)
    (case l_f_nr => k_is)
    (case c_f_nr => k_is)
    (case k_f_nr => k_is)
    (case te_CN => first | k_is | rfl)
    (case g_KA => k_is)
    (case q_KA => k_is)
    (case g_SA => k_is)
    (case q_SA => k_is)
    (case g_DA => k_is)
    (case q_DA => k_is)
    (case g_PA => k_is)
    (case q_PA => k_is)
    (case g_KK => k_is)
    (case q_KK => k_is)
    (case g_DL => k_is)
    (case q_DL => k_is)
    (case z_len => k_is)
    (case z_abs => k_is)
    (case z_int => k_is)
    (case z_isinstance => k_is)
    (case z_bool => k_is)
    (case z_range => k_is)
    (case z_max => k_is)
    (case z_min => k_is)
    (case z_str => k_is)
    (case z_list => k_is)
    (case z_tuple => k_is)
    (case z_all => k_is)
    (case z_enumerate => k_is)
#print axioms PySem.Challenge.cw_contrabooks_k14_rows_left_out_holds
