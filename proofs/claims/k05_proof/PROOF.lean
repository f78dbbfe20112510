import PyProof.Rows.All
import Wide.All
import OpenK.AllK
import Wide.FinOn
import HandS.ForExc
import HandS.Comp
import HandS.Dict
import HandS.Iter
import HandS.Text
import HandS.Wide
import HandS.FStr
import HandS.IsInst
import HandS.ExcInit
import HandS.ExcField
import HandS.OwnEq
import KE.KCallOwn
import KE.KExcIs
import PyProof.NeKinds
import HandS.RaiseMore
import HandS.ExcIs
import HandS.Defaults
import PySem.Challenge.RW_contrabooks_k05_histories_refused
set_option Elab.async false
set_option linter.all false
set_option maxRecDepth 100000
/-! Rules of our own over the hand layer: an object made whose making may raise, within a try; str(o) by its own def; isinstance of a caught error with fields. -/
namespace V3
open PySem L2 PyProof.Rows
section
variable {X : Cx} {CX : CXT} {k : Nat} {f C : Addr} {fd : FuncData} {ps : List Str} {sp : Sp} {E : L2.St → XK} {x : Str} {p pos : Pos} {e : Expr} {es : List Expr} {t : TA} {dvs : List V} {ds : List Value}
theorem make_at {pins : List (Addr × Obj)} {σ : L2.St} {H : Hp} {s : Shared} {Q : VK}
    {us : List Value} {vs : List V} (M : Mk X.K C f)
    (F : FnOk X.prog X.w X.K X.mg X.base CX k f fd ps sp)
    (room : Room (k + 1) X.A) (bi : Binds X.K fd ps ds) (va : Vals dvs ds)
    (out : PassesAt CX X σ (E σ)) (I : Inv X pins σ H s) (r : Vals vs us)
    (h : ∀ y dy, H y = none → H dy = none → dy ≠ y →
      sp (.ref y :: (vs ++ dvs)) (upd (upd H dy (.own y)) y (.ins C dy []))
        (fun v H2 => v = .non ∧ Q (.ref y) H2) (E σ)) :
    wpAny (model X.prog X.w) X.A (call (.ref C) us) (EP X pins σ Q) X.xe s := by
  have want := h (s.heap.objs.size + 1) s.heap.objs.size
    (I.hok.fresh (Nat.le_succ _)) (I.hok.fresh (Nat.le_refl _))
    (Nat.ne_of_lt (Nat.lt_succ_self _))
  have J := Inv.made (C := C) I
  have rr : Vals (V.ref (s.heap.objs.size + 1) :: (vs ++ dvs))
      (Value.ref (s.heap.objs.size + 1) :: (us ++ ds)) := .cons rfl (r.append va)
  have len : (Value.ref (s.heap.objs.size + 1) :: us ++ ds).length = ps.length := by
    have q := rr.length
    rw [F.len _ _ _ _ want] at q
    exact q.symm
  have bound := bi _ (Value.ref (s.heap.objs.size + 1) :: us) J.kIn len
  have ran := F.run _ X.stack _ _ ⟨Value.ref (s.heap.objs.size + 1) :: us, []⟩
    (Value.ref (s.heap.objs.size + 1) :: (us ++ ds)) _ _ (E σ)
    (room.make C us []) (J.env0.make C us []) bound rr want
  refine wpAny_call (make_map (f := f) I.kIn M.makes M.init
    (beq_iff_eq.mp M.fn) (codeAny_mono ran fun res s' hq => ?_))
  match res, hq with
  | .error err, hq => exact out pins _ _ err s' J hq
  | .ok (.ret u), hq =>
    obtain ⟨v, H', I3, rv, ev, q3⟩ := J.after hq
    subst ev
    exact ⟨rv, ⟨V.ref (s.heap.objs.size + 1), H', I3, rfl, q3⟩⟩
  | .ok .next, hq => exact hq.elim
  | .ok .brk, hq => exact hq.elim
  | .ok .cont, hq => exact hq.elim
/-- C(e, ..) where what its making raises is wished for at the slots -/
def tMakeS (C : Addr) (sp : Sp) (dvs : List V) (E : L2.St → XK) (t : TA) : TE :=
  fun σ H Q => t σ H fun vs H1 => ∀ y dy, H1 y = none → H1 dy = none → dy ≠ y →
    sp (.ref y :: (vs ++ dvs)) (upd (upd H1 dy (.own y)) y (.ins C dy []))
      (fun v H2 => v = .non ∧ Q (.ref y) H2) (E σ)
theorem pe_makeS (M : Mk X.K C f) (F : FnOk X.prog X.w X.K X.mg X.base CX k f fd ps sp)
    (room : Room (k + 1) X.A) (hg : Gl X x) (hm : X.mg x = some (.ref C))
    (bi : Binds X.K fd ps ds) (va : Vals dvs ds) (out : ∀ σ, PassesAt CX X σ (E σ))
    (ha : PA X (e :: es) t) (hdb : (x == ("__debug__" : Str)) = false := by decide)
    (he : starEach (e :: es) X.env = (false, eval e X.env) :: starEach es X.env := by rfl)
    (hpl : (backTo pos (starEach es X.env)).any (·.1) = false := by rfl) :
    PE X (.Call (.Name x p) (e :: es) [] pos) (tMakeS C sp dvs E t) := by
  refine ⟨fun pins s σ H Q I h => wpAny_Call_Name_kw (ld_glob I hg hm ?_ hdb)⟩
  refine PySem.W.callWith_K (h₀ := X.base) I.ok.mod.kin M.kp ?_ he hpl
  exact thn (ha.run pos pins s σ H _ I h) fun us s1 ⟨vs, H1, I1, r, q⟩ =>
    ⟨I1.kIn, make_at M F room bi va (out σ) I1 r q⟩
end
/-! str(o), o of an own class with its own __str__ -/
section
variable {X : Cx} {CX : CXT} {n : Nat} {f C : Addr} {fd : FuncData} {ps : List Str} {sp : Sp} {E : XK}
theorem room2 {A : Around} (r : Room (n + 2) A) : Room n A.in1.in1 := Room.in1 (k := n) (Room.in1 (k := n + 1) r)
def rStrO (C : Addr) (sp : Sp) (E : XK) : List V → Hp → VK → Prop := fun xs H Q =>
  ∃ a dx fs, xs = [.ref a] ∧ H a = some (.ins C dx fs) ∧
    sp [.ref a] H (fun v H' => ∃ y : Str, v = .str y ∧ Q (.str y) H') E
theorem call_strO (F : FnOk X.prog X.w X.K X.mg X.base CX n f fd ps sp)
    (at_ : PySem.W.findIn X.K (.ref C) "__str__" = some (some (.ref f)))
    (isf : PySem.W.isFn X.K (.ref f) = true) (bi : Binds X.K fd ps [])
    (out : Passes CX X E) (room : Room (n + 2) X.A) : CallR X (.type "str") (rStrO C sp E) := by
  intro pins s σ H xs us Q I r h
  obtain ⟨a, dx, fs, rfl, ha, want⟩ := h
  cases r with
  | cons r1 rn =>
    cases rn
    cases r1
    obtain ⟨mA, O, _⟩ := ins_get I.hok ha
    obtain ⟨od, J, _⟩ := O.look
    have rr := room2 room
    refine PySem.W.kso_call rr.units0 I.kIn J at_ isf ?_
    have e0 : Env0 X.prog X.w X.K X.mg X.base X.A.in1.in1 X.stack s H := I.env0.in1.in1
    have len := F.len _ _ _ _ want
    have bound : BindsTo s fd ⟨[.ref a], []⟩ (ps.zip [Value.ref a]) := by
      have b := bi s [.ref a] I.kIn (by simpa using len)
      simpa using b
    have ran := F.run X.A.in1.in1 X.stack s H ⟨[.ref a], []⟩ [.ref a] [.ref a] _ E rr e0 bound (.cons rfl .nil) want
    refine wpAny_call (codeAny_mono ran fun res s' hq => ?_)
    match res, hq with
    | .error err, hq => exact out pins σ H s err s' I hq
    | .ok (.ret u), hq =>
      obtain ⟨v, H', I', rv, y, ev, q⟩ := I.after hq
      subst ev
      obtain ⟨t, rfl⟩ := rv
      exact ⟨.str y, H', I', ⟨t, rfl⟩, q⟩
    | .ok .next, hq => exact hq.elim
    | .ok .brk, hq => exact hq.elim
    | .ok .cont, hq => exact hq.elim
end
/-! isinstance(e, c), isinstance(e, (c, ..)), e the error that the suite holds -/
structure XClass (K : PySem.W.Frag) (D : Addr) : Prop where
  is : (PySem.W.clsIn K D).isSome = true
  ga : PySem.W.findIn K (.ref D) "__getattribute__" = some (some (.builtin "BaseException.__getattribute__"))
  gt : PySem.W.findIn K (.ref D) "__getattr__" = some none
  sb : PySem.W.subIn K (.ref D) (.type "BaseException") = some true
  ca : PySem.W.findIn K (.ref D) "__class__" = some (some (.builtin "object.__class__"))
  gn : PySem.W.specialIn K (.builtin "object.__class__") "__get__" = some (some (.builtin "getset_descriptor.__get__"))
  tk : PySem.W.takesIn K (.builtin "object.__class__") = some true
  mo : PySem.W.mroIn K D (.type "object") = some true
section
variable {X : Cx} {a D : Addr} {oe : Obj} {pn : List (Addr × Obj)} {d : Option Addr}
theorem held_at {pins : List (Addr × Obj)} {σ : L2.St} {H : Hp} {s : Shared} {dd : Addr} {fs : List (Str × V)}
    (hz : Zc (.ref D) (some dd) oe) (hf : ∃ vs, oe.data = .fields vs)
    (I : Inv (X.suite a ((a, oe) :: pn)) pins σ H s) (hd : H dd = some (.xd fs)) :
    ∃ od : Obj, PySem.W.InstAt s.heap a oe D (some od) := by
  obtain ⟨ha, _⟩ := I.pin (a, oe) (List.mem_append_left _ List.mem_cons_self)
  obtain ⟨vs, hv⟩ := hf
  have hx : ObjOk X.prog X.w H s.heap dd (.xd fs) := I.hok dd _ hd
  obtain ⟨mA, hns, _⟩ := hx
  obtain ⟨od, ho, _⟩ := lookIn_ns hns
  exact ⟨od, ha, hz.1, by unfold PySem.W.notCls; rw [hv] <;> rfl, by rw [hz.2]; exact ho⟩
def rIsX (K : PySem.W.Frag) (D a : Addr) (cls : Value) (d : Option Addr) : List V → Hp → VK → Prop := fun xs H Q =>
  ∃ (dd : Addr) (fs : List (Str × V)) (c : V) (u : Value) (b : Bool), cls = .ref D ∧ d = some dd ∧ H dd = some (.xd fs) ∧
    xs = [.ref a, c] ∧ ClsV c u ∧ PySem.W.kitOne K (.ref D) u = some b ∧ Q (.bl b) H
theorem call_isX {cls : Value} (T : XClass X.K D) (hz : Zc cls d oe) (hf : ∃ vs, oe.data = .fields vs) :
    CallR (X.suite a ((a, oe) :: pn)) (.builtin "isinstance") (rIsX X.K D a cls d) := by
  intro pins s σ H xs us Q I r h
  obtain ⟨dd, fs, c, u, b, rfl, rfl, hd, rfl, k, e, q⟩ := h
  obtain ⟨u1, u2, rfl, r1, r2⟩ := vals2 r
  cases (show u1 = Value.ref a from r1)
  have e2 := k.eq r2
  subst e2
  obtain ⟨od, J⟩ := held_at hz hf I hd
  exact PySem.W.kia_one (PySem.W.kitx_exc T.is T.ga T.gt T.sb T.ca T.gn T.tk T.mo) I.kIn J e (fun z => nomatch z)
    fun tk => ⟨.bl b, H, I.tok tk, rfl, q⟩
def rIsXT (K : PySem.W.Frag) (D a : Addr) (cls : Value) (d : Option Addr) : List V → Hp → VK → Prop := fun xs H Q =>
  ∃ (dd : Addr) (fs : List (Str × V)) (tp : Addr) (cs : List V) (us : List Value) (b : Bool), cls = .ref D ∧ d = some dd ∧ H dd = some (.xd fs) ∧
    xs = [.ref a, .ref tp] ∧ H tp = some (.tup cs) ∧ Paired ClsV cs us ∧ PySem.W.kitAny K (.ref D) us = some b ∧ Q (.bl b) H
theorem call_isXT {cls : Value} (T : XClass X.K D) (hz : Zc cls d oe) (hf : ∃ vs, oe.data = .fields vs) :
    CallR (X.suite a ((a, oe) :: pn)) (.builtin "isinstance") (rIsXT X.K D a cls d) := by
  intro pins s σ H xs us Q I r h
  obtain ⟨dd, fs, tp, cs, ws, b, rfl, rfl, hd, rfl, hT, k, e, q⟩ := h
  obtain ⟨u1, u2, rfl, r1, r2⟩ := vals2 r
  cases (show u1 = Value.ref a from r1)
  cases (show u2 = Value.ref tp from r2)
  obtain ⟨od, J⟩ := held_at hz hf I hd
  have okT : ObjOk X.prog X.w H s.heap tp (.tup cs) := I.hok tp _ hT
  obtain ⟨_, items, vals, ob, got, isT, m, dat⟩ := okT
  have same := ClsV.all k vals
  subst same
  obtain ⟨c0, d0, dt0, s0⟩ := ob
  simp only at isT dat
  subst isT dat
  exact PySem.W.kia_tup (PySem.W.kitx_exc T.is T.ga T.gt T.sb T.ca T.gn T.tk T.mo) I.kIn J got e (fun z => nomatch z)
    fun tk => ⟨.bl b, H, I.tok tk, rfl, q⟩
end
end V3

set_option Elab.async false
set_option linter.all false
set_option maxRecDepth 100000
/-! Further rules of our own: C() without an own __init__, len(o) by an own __len__, repr of small values, a list against the empty one. -/
namespace V3
open PySem L2 PyProof.Rows
section
variable {X : Cx} {C : Addr} {x : Str} {p pos : Pos}
/-- what a class without an own __init__ must have to be made -/
structure Mk0 (K : PySem.W.Frag) (C : Addr) : Prop where
  makes : PySem.W.makesIn K C = true
  ini : PySem.W.findIn K (.ref C) "__init__" = some (some (.builtin "object.__init__"))
  kp : PySem.W.keepIn K (.ref C) = true
def tNew (C : Addr) : TE := fun σ H Q => ∀ y dy, H y = none → H dy = none → dy ≠ y → Q (.ref y) (upd (upd H dy (.own y)) y (.ins C dy []))
theorem pe_new0 (M : Mk0 X.K C) (hg : Gl X x) (hm : X.mg x = some (.ref C)) (hdb : (x == ("__debug__" : Str)) = false := by decide) :
    PE X (.Call (.Name x p) [] [] pos) (tNew C) := by
  refine ⟨fun pins s σ H Q I h => wpAny_Call_Name_kw (ld_glob I hg hm ?_ hdb)⟩
  refine PySem.W.callWith_K0 I.kIn M.kp ?_
  have J := Inv.made (C := C) I
  have want := h (s.heap.objs.size + 1) s.heap.objs.size (I.hok.fresh (Nat.le_succ _)) (I.hok.fresh (Nat.le_refl _)) (Nat.ne_of_lt (Nat.lt_succ_self _))
  show wpAny _ _ (call (.ref C) []) _ _ _
  have KX := I.kIn
  refine wpAny_call (make_map0 KX M.makes M.ini (fun self => PySem.W.Looks.of_pure (PySem.W.oi_bind self)) ?_)
  have Y := PySem.W.makes_of (M := model X.prog X.w) KX M.makes
  obtain ⟨hh, g, d, t, os⟩ := s
  have own : ((hh.push PySem.W.emptyDict).push (PySem.W.instObj C hh.objs.size)).get? (hh.objs.size + 1) = some (PySem.W.instObj C hh.objs.size) := by heap_get
  have ty : PySem.W.Looks (model X.prog X.w) ((hh.push PySem.W.emptyDict).push (PySem.W.instObj C hh.objs.size)) (typeOf (.ref (hh.objs.size + 1))) (.ref C) :=
    (PySem.W.Looks.ld own).andThen .now
  have sub : PySem.W.Looks (model X.prog X.w) ((hh.push PySem.W.emptyDict).push (PySem.W.instObj C hh.objs.size)) (isInstance (.ref (hh.objs.size + 1)) (.type "object")) true := ty.andThen (Y.top.keeps fun b o e => Heap.get?_push_of_some _ (Heap.get?_push_of_some _ e))
  refine codeAny_call_builtin PySem.W.oi_plain PySem.W.entry_oi
    (@PySem.W.check_slot (model X.prog X.w) _ _ _ "object.__init__" "object" "__init__" (.ref (hh.objs.size + 1)) [] [] _
      PySem.W.oi_kind PySem.W.oi_split sub (PySem.W.oi_args (.ref (hh.objs.size + 1))) ?_)
  rw [PySem.W.oi_run]
  exact wpAny_pure (And.intro rfl ⟨V.ref (hh.objs.size + 1), _, J, rfl, want⟩)
end
section
variable {X : Cx} {CX : CXT} {n : Nat} {f C : Addr} {fd : FuncData} {ps : List Str} {sp : Sp} {E : XK}
/-- len(o), o of a class with its own __len__ -/
def rLenO (C : Addr) (sp : Sp) (E : XK) : List V → Hp → VK → Prop := fun xs H Q =>
  ∃ a dx fs, xs = [.ref a] ∧ H a = some (.ins C dx fs) ∧ sp [.ref a] H (fun v H' => ∃ i : Int, v = .int i ∧ (0 ≤ i ∧ i < 2 ^ 63) ∧ Q (.int i) H') E
theorem call_lenO (F : FnOk X.prog X.w X.K X.mg X.base CX n f fd ps sp) (at_ : PySem.W.findIn X.K (.ref C) "__len__" = some (some (.ref f)))
    (isf : PySem.W.isFn X.K (.ref f) = true) (bi : Binds X.K fd ps []) (out : Passes CX X E) (room : Room (n + 1) X.A) : CallR X (.builtin "len") (rLenO C sp E) := by
  intro pins s σ H xs us Q I r h
  obtain ⟨a, dx, fs, rfl, ha, want⟩ := h
  cases r with
  | cons r1 rn =>
    cases rn
    cases r1
    obtain ⟨mA, O, _⟩ := ins_get I.hok ha
    obtain ⟨od, J, _⟩ := O.look
    obtain ⟨m, hF⟩ := I.fr
    have rr : Room n X.A.in1 := Room.in1 (k := n) room
    refine PySem.W.len_K hF I.ok.mod.kin J at_ isf ?_
    have e0 : Env0 X.prog X.w X.K X.mg X.base X.A.in1 X.stack s H := I.env0.in1
    have len := F.len _ _ _ _ want
    have bound : BindsTo s fd ⟨[.ref a], []⟩ (ps.zip [Value.ref a]) := by
      have b := bi s [.ref a] I.kIn (by simpa using len)
      simpa using b
    have ran := F.run X.A.in1 X.stack s H ⟨[.ref a], []⟩ [.ref a] [.ref a] _ E rr e0 bound (.cons rfl .nil) want
    refine wpAny_call (codeAny_mono ran fun res s' hq => ?_)
    match res, hq with
    | .error err, hq => exact out pins σ H s err s' I hq
    | .ok (.ret u), hq =>
      obtain ⟨v, H', I', rv, i, ev, hi, q⟩ := I.after hq
      subst ev
      obtain ⟨t, rfl⟩ := rv
      exact ⟨hi, .int i, H', I'.tok _, ⟨_, rfl⟩, q⟩
    | .ok .next, hq => exact hq.elim
    | .ok .brk, hq => exact hq.elim
    | .ok .cont, hq => exact hq.elim
end
section
variable {X : Cx}
theorem call_repr_str : CallR X (.builtin "repr") (fun xs H Q => ∃ z : Str, xs = [.str z] ∧ (reprText z).length ≤ sizeLine ∧ Q (.str (reprText z)) H) := by
  intro pins s σ H xs us Q I r h
  obtain ⟨z, rfl, hz, q⟩ := h
  obtain ⟨u, rfl, t, rfl⟩ := vals1 r
  exact PySem.P.repr_of_str ⟨.str _, H, I.tok _, ⟨_, rfl⟩, q⟩ hz
/-- an int or a text -/
def rRepr : List V → Hp → VK → Prop := fun xs H Q => (∃ i : Int, xs = [.int i] ∧ i.natAbs.log2 < 1920 ∧ Q (.str (toString i)) H) ∨
  (∃ z : Str, xs = [.str z] ∧ (reprText z).length ≤ sizeLine ∧ Q (.str (reprText z)) H)
theorem call_reprIS : CallR X (.builtin "repr") rRepr := by
  intro pins s σ H xs us Q I r h
  rcases h with h | h
  · exact SkE.call_repr_int pins s σ H xs us Q I r h
  · exact call_repr_str pins s σ H xs us Q I r h
/-- xs != [] -/
def rNeE : R2 := fun x y H Q => ∃ l b xs, x = .ref l ∧ y = .ref b ∧ H l = some (.lst xs) ∧ H b = some (.lst []) ∧ Q (.bl (!xs.isEmpty)) H
theorem op_neE (hu : X.A.units < cLine) : OpR X (compareOp .NotEq) rNeE := by
  intro pins s σ H x y v u Q I rx ry h
  obtain ⟨l, b, xs, rfl, rfl, hl, hb, q⟩ := h
  cases rx
  cases ry
  obtain ⟨z, its, k, r, e⟩ := I.hok l _ hl
  obtain ⟨z2, its2, k2, r2, e2⟩ := I.hok b _ hb
  cases r2
  have L1 : s.heap.IsList l its.toArray := ⟨_, e, rfl, k, rfl⟩
  have L2' : s.heap.IsList b ([] : List Value).toArray := ⟨_, e2, rfl, k2, rfl⟩
  refine PySem.W.cmp_ofNotEq ?_
  cases r with
  | nil =>
    have c := PySem.SeqAt.RcNeAt.lists (e := fun _ => true) L1 L2' rfl hu (fun j h1 _ => absurd h1 (Nat.not_lt_zero _))
    exact c X.prog X.w X.xe _ ⟨.bl false, H, I, rfl, q⟩
  | @cons x0 u0 xs0 us0 r0 rr =>
    have c := PySem.SeqAt.RcNeAt.lists_lengths L1 L2' (by simp) hu
    exact c X.prog X.w X.xe _ ⟨.bl true, H, I, rfl, q⟩
end
end V3

set_option Elab.async false
set_option linter.all false
set_option maxRecDepth 100000
namespace V3
open PySem L2
def top (i : Nat) : Stmt := PySem.Challenge.pw_contrabooks_k05_histories_refused.main.body.getD i (.Pass ⟨0, 0, 0, 0⟩)
abbrev sSeed : Stmt := top 21
abbrev sChoose : Stmt := top 22
abbrev sOneOf : Stmt := top 23
/-- the box of draws: two numbers -/
def BoxOk (u v : Int) : Prop := 0 ≤ u ∧ 1 ≤ v ∧ v ≤ 2147483629
def box (u v : Int) : HO := .lst [.int u, .int v]
def BoxAt (H : Hp) (b : Addr) : Prop := ∃ u v, BoxOk u v ∧ H b = some (box u v)
def spSeed (K : PySem.W.Frag) : Sp := fun vs H Q _ => ∃ (a : Addr) (ns : List Int) (k : Int), vs = [.ref a, .int k] ∧ SqL K H a (ns.map V.int) ∧ ns.length ≤ 63 ∧ 0 ≤ k ∧ k ≤ 100 ∧
  ∀ (p : Addr) (u v : Int), H p = none → BoxOk u v → Q (.ref p) (upd H p (box u v))
def spChoose : Sp := fun vs H Q _ => ∃ (b : Addr) (u v m : Int), vs = [.ref b, .int m] ∧ H b = some (box u v) ∧ BoxOk u v ∧ 1 ≤ m ∧ m ≤ 1000000000000 ∧
  ∀ d u' v' : Int, 0 ≤ d → d < m → BoxOk u' v' → Q (.int d) (upd H b (box u' v'))
def spOneOf (K : PySem.W.Frag) : Sp := fun vs H Q _ => ∃ (b l : Addr) (u v : Int) (xs : List V), vs = [.ref b, .ref l] ∧ H b = some (box u v) ∧ BoxOk u v ∧ l ≠ b ∧ SqL K H l xs ∧ 1 ≤ xs.length ∧ xs.length ≤ 1000 ∧
  ∀ (x : V) (u' v' : Int), x ∈ xs → BoxOk u' v' → Q x (upd H b (box u' v'))
structure Blt (mg : Str → Option Value) : Prop where
  len : mg "len" = none
  abs : mg "abs" = none
  int : mg "int" = none
/-- a def that stands at a name of the module -/
def Cal (P : Program) (w : World) (K : PySem.W.Frag) (mg : Str → Option Value) (base : Heap) (CX : CXT) (name : Str) (k : Nat) (ps : List Str) (sp : Sp) : Prop :=
  ∃ (f : Addr) (fd : FuncData), FnOk P w K mg base CX k f fd ps sp ∧ mg name = some (.ref f) ∧ PySem.W.keepIn K (.ref f) = true ∧ Binds K fd ps []
theorem seqL_ne {K : PySem.W.Frag} {H : Hp} {l b : Addr} {o : HO} {xs : List V} (ne : l ≠ b) (h : SqL K H l xs) : SqL K (upd H b o) l xs := by
  rcases h with (h | ⟨o, h⟩) | h
  · exact .inl (.inl (by rw [upd_ne ne]; exact h))
  · exact .inl (.inr ⟨o, by rw [upd_ne ne]; exact h⟩)
  · exact .inr h
theorem atI_ints {ns : List Int} {i : Int} (h0 : 0 ≤ i) (hj : i.toNat < ns.length) : atI (ns.map V.int) i = some (.int ns[i.toNat]) := by
  have e : ixN (ns.map V.int).length i = some i.toNat := by
    unfold ixN
    rw [if_pos h0, if_pos (by rw [List.length_map]; omega)]
  show (ixN (ns.map V.int).length i).bind (fun j => (ns.map V.int)[j]?) = some (.int ns[i.toNat])
  rw [e]
  show (ns.map V.int)[i.toNat]? = some (.int ns[i.toNat])
  rw [List.getElem?_map, List.getElem?_eq_getElem hj]
  rfl
section
variable {P : Program} {w : World} {K : PySem.W.Frag} {mg : Str → Option Value} {base : Heap}
theorem scSeed : FnScope ["_law_script", "_law_k", "_law_cell"] ["_law_script", "_law_k"] (defScope sSeed) := ⟨rfl, rfl, rfl, by decide +kernel, rfl, by decide +kernel, by decide +kernel⟩
theorem scChoose : FnScope ["_law_box", "_law_many", "_law_digit", "_law_first"] ["_law_box", "_law_many"] (defScope sChoose) := ⟨rfl, rfl, rfl, by decide +kernel, rfl, by decide +kernel, by decide +kernel⟩
theorem scOneOf : FnScope ["_law_box", "_law_some"] ["_law_box", "_law_some"] (defScope sOneOf) := ⟨rfl, rfl, rfl, by decide +kernel, rfl, by decide +kernel, by decide +kernel⟩
theorem ok_choose {f : Addr} {fd : FuncData} (F : Fun K "_law_choose" "_law_choose" sChoose f fd) (T : Blt mg) : FnOk P w K mg base CX0 1 f fd ["_law_box", "_law_many"] spChoose := by
  refine F.ok scChoose (fun vs H Q E h => ?_) (fun cdv A outer s H vs Q E hr h => ?_)
  · obtain ⟨b, u, v, m, rfl, _⟩ := h
    rfl
  · obtain ⟨b, u, v, m, rfl, hb, ok, m1, m2, k⟩ := h
    refine ⟨_, pss_cons (ps_if (pt_cmpR op_gt (pe_ix ix_list (pv 0) pe_int (fun _ _ => rfl)) pe_int (nomark _))
        (pss_cons (ps_set (i := 2) scChoose.nd rfl (Or.inl rfl) (pe_op op_mod (pe_callTy call_int1 (by rfl) T.int (by decide +kernel) (pa_cons (pe_ix ix_list (pv 0) pe_int (fun _ _ => rfl)) pa_nil)) (pv 1)))
        (pss_cons (ps_asg (pe_op op_fdivW (pe_ix ix_list (pv 0) pe_int (fun _ _ => rfl)) (pv 1)) (pg_sub (pv 0) pe_int set_list))
        (pss_one (ps_ret (pv 2))))) pss_nil)
      (pss_cons (ps_set (i := 3) scChoose.nd rfl (Or.inl rfl) (pe_op op_mod (pe_callTy call_int1 (by rfl) T.int (by decide +kernel) (pa_cons (pe_op op_add (pe_op op_mul (pe_ix ix_list (pv 0) pe_int (fun _ _ => rfl)) pe_int) pe_int) pa_nil)) pe_int))
      (pss_cons (ps_asg (pe_op op_add (pe_op op_mod (pe_callTy call_int1 (by rfl) T.int (by decide +kernel) (pa_cons (pe_op op_add (pe_op op_mul (pv 3) pe_int) pe_int) pa_nil)) pe_int) pe_int) (pg_sub (pv 0) pe_int set_list))
      (pss_one (ps_ret (pe_op op_mod (pe_callTy call_int1 (by rfl) T.int (by decide +kernel) (pa_cons (pe_op op_fdivW (pe_op op_add (pe_op op_mul (pv 3) pe_int) (pe_ix ix_list (pv 0) pe_int (fun _ _ => rfl))) pe_int) pa_nil)) (pv 1)))))), ?_⟩
    obtain ⟨u0, v1, v2⟩ := ok
    have hm : (0 : Int) < m := by omega
    have hw : m.natAbs < 2 ^ 40 := by
      have : (2 : Nat) ^ 40 = 1099511627776 := by decide
      omega
    refine ⟨_, rfl, b, _, 0, _, rfl, rfl, SqL.of hb, rfl, _, _, rfl, rfl, _, rfl, ?_⟩
    refine ite2 (fun c => ?_) (fun c => ?_)
    · refine ⟨_, rfl, b, _, 0, _, rfl, rfl, SqL.of hb, rfl, .inl ⟨_, rfl, _, rfl, _, _, rfl, rfl, hm, ?_⟩⟩
      refine ⟨_, rfl, b, _, 0, _, rfl, rfl, SqL.of hb, rfl, _, rfl, _, _, rfl, rfl, wide_div hm hw (by decide) (by decide), ?_⟩
      refine ⟨_, rfl, b, _, 0, 0, rfl, rfl, hb, rfl, _, rfl, ?_⟩
      exact k _ _ _ (Int.emod_nonneg _ (by omega)) (Int.emod_lt_of_pos _ hm) ⟨Int.ediv_nonneg u0 (by omega), v1, v2⟩
    · refine ⟨_, rfl, b, _, 1, _, rfl, rfl, SqL.of hb, rfl, _, _, rfl, rfl, .inl (by constructor <;> omega), _, _, rfl, rfl, .inl ⟨_, rfl, _, _, rfl, rfl, (by show (0 : Int) < 2147483563; decide), ?_⟩⟩
      have a1 := Int.emod_nonneg (v * 40014 + 11) (by decide : (2147483563 : Int) ≠ 0)
      have a2 := Int.emod_lt_of_pos (v * 40014 + 11) (by decide : (0 : Int) < 2147483563)
      refine ⟨_, rfl, _, _, rfl, rfl, .inl (by constructor <;> omega), _, _, rfl, rfl, .inl ⟨_, rfl, _, _, rfl, rfl, (by show (0 : Int) < 2147483629; decide), _, _, rfl, rfl, ?_⟩⟩
      refine ⟨_, rfl, b, _, 1, 1, rfl, rfl, hb, rfl, ?_⟩
      have b1 := Int.emod_nonneg ((v * 40014 + 11) % 2147483563 * 40692 + 2903) (by decide : (2147483629 : Int) ≠ 0)
      have b2 := Int.emod_lt_of_pos ((v * 40014 + 11) % 2147483563 * 40692 + 2903) (by decide : (0 : Int) < 2147483629)
      refine ⟨_, rfl, _, _, rfl, rfl, .inl (by constructor <;> omega), _, rfl, b, _, 1, _, rfl, rfl, SqL.of upd_same, rfl, _, _, rfl, rfl, _, _, rfl, rfl, wide_div (b := 14) (by decide) (by decide) (by decide) (by decide), .inl ⟨_, rfl, _, rfl, _, _, rfl, rfl, hm, ?_⟩⟩
      exact k _ _ _ (Int.emod_nonneg _ (by omega)) (Int.emod_lt_of_pos _ hm) ⟨u0, by omega, by omega⟩
theorem ok_oneOf {f : Addr} {fd : FuncData} (F : Fun K "_law_one_of" "_law_one_of" sOneOf f fd) (T : Blt mg) (c : Cal P w K mg base CX0 "_law_choose" 1 ["_law_box", "_law_many"] spChoose) : FnOk P w K mg base CX0 2 f fd ["_law_box", "_law_some"] (spOneOf K) := by
  obtain ⟨fC, fdC, GC, mC, kC, bC⟩ := c
  refine F.ok scOneOf (fun vs H Q E h => ?_) (fun cdv A outer s H vs Q E hr h => ?_)
  · obtain ⟨b, l, u, v, xs, rfl, _⟩ := h
    rfl
  · obtain ⟨b, l, u, v, xs, rfl, hb, ok, ne, hS, x1, x2, k⟩ := h
    refine ⟨_, pss_one (ps_ret (pe_ix ix_list (pv 1) (pe_call GC hr rfl mC kC bC .nil pass0 (pa_cons (pv 0) (pa_cons (pe_callB call_len_seq (by rfl) T.len PySem.boot_len (pa_cons (pv 1) pa_nil)) pa_nil))) (fun _ _ => rfl))), ?_⟩
    refine ⟨_, rfl, _, rfl, _, rfl, l, _, rfl, .inl hS, b, u, v, _, rfl, hb, ok, (by omega), (by omega), fun d u' v' d0 d1 ok' => ?_⟩
    have hj : d.toNat < xs.length := by omega
    refine ⟨l, xs, d, xs[d.toNat], rfl, rfl, ?_, ?_, k _ _ _ (List.getElem_mem hj) ok'⟩
    · exact seqL_ne ne hS
    · have e : ixN xs.length d = some d.toNat := by
        unfold ixN
        rw [if_pos d0, if_pos (by omega)]
      show (ixN xs.length d).bind (fun j => xs[j]?) = some xs[d.toNat]
      rw [e]
      exact List.getElem?_eq_getElem hj
theorem ok_seed {f : Addr} {fd : FuncData} (F : Fun K "_law_seed" "_law_seed" sSeed f fd) (T : Blt mg) : FnOk P w K mg base CX0 1 f fd ["_law_script", "_law_k"] (spSeed K) := by
  refine F.ok scSeed (fun vs H Q E h => ?_) (fun cdv A outer s H vs Q E hr h => ?_)
  · obtain ⟨a, ns, k, rfl, _⟩ := h
    rfl
  · obtain ⟨a, ns, k, rfl, hS, hl, k0, k1, go⟩ := h
    refine ⟨_, pss_cons (ps_set (i := 2) scSeed.nd rfl (Or.inl rfl) (pe_op op_add (pe_op op_mul pe_int (pv 1)) pe_int))
      (pss_cons (ps_if (pt_cmpR op_lt (pv 1) (pe_callB call_len_seq (by rfl) T.len PySem.boot_len (pa_cons (pv 0) pa_nil)) (nomark _))
        (pss_one (ps_set (i := 2) scSeed.nd rfl (Or.inl rfl) (pe_callB call_abs (by rfl) T.abs (by decide +kernel) (pa_cons (pe_ix ix_list (pv 0) (pv 1) (fun _ _ => rfl)) pa_nil))))
        (pss_one (ps_if (pt_cmpR op_gt (pe_callB call_len_seq (by rfl) T.len PySem.boot_len (pa_cons (pv 0) pa_nil)) pe_int (nomark _))
          (pss_one (ps_set (i := 2) scSeed.nd rfl (Or.inl rfl) (pe_op op_add (pv 2) (pe_op op_mul (pe_op op_mod (pe_callTy call_int1 (by rfl) T.int (by decide +kernel) (pa_cons (pe_callB call_abs (by rfl) T.abs (by decide +kernel) (pa_cons (pe_ix ix_list (pv 0) (pe_op op_mod (pe_callTy call_int1 (by rfl) T.int (by decide +kernel) (pa_cons (pv 1) pa_nil)) (pe_callB call_len_seq (by rfl) T.len PySem.boot_len (pa_cons (pv 0) pa_nil))) (fun _ _ => rfl)) pa_nil)) pa_nil)) pe_int) pe_int))))
          pss_nil)))
      (pss_one (ps_ret (pe_lst (pa_cons (pe_ifExp (pt_cmpR op_ge (pv 2) (pe_op op_pow pe_int pe_int) (nomark _)) (pv 2) pe_int)
        (pa_cons (pe_op op_add (pe_op op_mod (pe_callTy call_int1 (by rfl) T.int (by decide +kernel) (pa_cons (pe_op op_add (pe_op op_mul (pe_op op_mod (pe_callTy call_int1 (by rfl) T.int (by decide +kernel) (pa_cons (pv 2) pa_nil)) pe_int) pe_int) (pe_op op_mul pe_int (pv 1))) pa_nil)) pe_int) pe_int) pa_nil)))))), ?_⟩
    have hk1 : -(2 ^ 64) < (7411 : Int) ∧ (7411 : Int) < 2 ^ 64 := by constructor <;> decide
    refine ⟨_, rfl, _, _, rfl, rfl, .inl hk1, _, _, rfl, rfl, ?_⟩
    refine ⟨_, rfl, _, rfl, a, _, rfl, .inl hS, _, _, rfl, rfl, _, rfl, ?_⟩
    rw [List.length_map]
    refine ite2 (fun c => ?wayA) (fun c => ?wayB)
    case' wayA =>
      have c' : k < (ns.length : Int) := of_decide_eq_true c
      have hj : k.toNat < ns.length := by omega
      refine ⟨_, rfl, _, rfl, a, _, k, .int ns[k.toNat], rfl, rfl, hS, atI_ints k0 hj, _, rfl, ?_⟩
      have hc : 0 ≤ (if ns[k.toNat] < 0 then -ns[k.toNat] else ns[k.toNat]) := by split <;> omega
      generalize (if ns[k.toNat] < 0 then -ns[k.toNat] else ns[k.toNat]) = cell at hc
    case' wayB =>
      refine ⟨_, rfl, a, _, rfl, .inl hS, _, _, rfl, rfl, _, rfl, ?_⟩
      rw [List.length_map]
      refine ite2 (fun c2 => ?wayC) (fun c2 => ?wayD)
    case' wayC =>
      have c' : (0 : Int) < (ns.length : Int) := of_decide_eq_true c2
      have r0 := Int.emod_nonneg k (show (ns.length : Int) ≠ 0 by omega)
      have r1 := Int.emod_lt_of_pos k c'
      have hj : (k % (ns.length : Int)).toNat < ns.length := by omega
      refine ⟨_, rfl, _, rfl, _, rfl, .inl ⟨_, rfl, _, rfl, a, _, rfl, .inl hS, _, _, rfl, rfl, (by rw [List.length_map]; exact c'), ?_⟩⟩
      rw [List.length_map]
      refine ⟨a, _, k % (ns.length : Int), .int ns[(k % (ns.length : Int)).toNat], rfl, rfl, hS, atI_ints r0 hj, _, rfl, .inl ⟨_, rfl, _, _, rfl, rfl, (by show (0 : Int) < 2147483629; decide), _, _, rfl, rfl, .inr (by constructor <;> decide), _, _, rfl, rfl, ?_⟩⟩
      generalize (if ns[(k % (ns.length : Int)).toNat] < 0 then -ns[(k % (ns.length : Int)).toNat] else ns[(k % (ns.length : Int)).toNat]) = z
      have z0 := Int.emod_nonneg z (by decide : (2147483629 : Int) ≠ 0)
      have hc : 0 ≤ 7411 * k + 29 + z % 2147483629 * 40093 := by omega
      generalize 7411 * k + 29 + z % 2147483629 * 40093 = cell at hc
    case' wayD =>
      have hc : 0 ≤ 7411 * k + 29 := by omega
      generalize 7411 * k + 29 = cell at hc
    all_goals (
      refine ⟨_, rfl, _, _, rfl, rfl, ⟨by decide, by decide, by decide⟩, _, _, rfl, rfl, _, rfl, ?_⟩
      have e1 := Int.emod_nonneg cell (by decide : (2147483629 : Int) ≠ 0)
      have e2 := Int.emod_lt_of_pos cell (by decide : (0 : Int) < 2147483629)
      have f1 := Int.emod_nonneg (cell % 2147483629 * 48271 + 20021 * k) (by decide : (2147483629 : Int) ≠ 0)
      have f2 := Int.emod_lt_of_pos (cell % 2147483629 * 48271 + 20021 * k) (by decide : (0 : Int) < 2147483629)
      refine ite2 (fun _ => ⟨_, rfl, ?_⟩) (fun _ => ?_)
      all_goals (
        refine ⟨_, rfl, .inl ⟨_, rfl, _, _, rfl, rfl, (by show (0 : Int) < 2147483629; decide), _, _, rfl, rfl, .inl (by constructor <;> omega), _, rfl, _, _, rfl, rfl, .inl (by constructor <;> decide), _, _, rfl, rfl, .inl ⟨_, rfl, _, _, rfl, rfl, (by show (0 : Int) < 2147483629; decide), _, _, rfl, rfl, (by show 2 ≤ sizeLine; decide), fun p hp => ?_⟩⟩⟩
        exact go p _ _ hp ⟨by omega, by omega, by omega⟩))
end
end V3

set_option Elab.async false
set_option linter.all false
set_option maxRecDepth 100000
namespace V3
open PySem L2
abbrev sIsInt : Stmt := top 1
abbrev sIsNum : Stmt := top 2
abbrev sIsAmt : Stmt := top 3
abbrev sImInit : Stmt := inClass (top 7) 0
abbrev sBInit : Stmt := inClass (top 11) 0
abbrev sBStr : Stmt := inClass (top 11) 2
abbrev sTInit : Stmt := inClass (top 12) 0
abbrev sTStr : Stmt := inClass (top 12) 2
abbrev sRInit : Stmt := inClass (top 13) 0
abbrev sRStr : Stmt := inClass (top 13) 2
/-- any value: none of it too great -/
inductive AV (H : Hp) : V → Prop where
  | non : AV H .non
  | bl (b : Bool) : AV H (.bl b)
  | int (i : Int) (h : i.natAbs ≤ 1000000000000) : AV H (.int i)
  | str (z : Str) : AV H (.str z)
  | lst {a : Addr} {xs : List V} (h : H a = some (.lst xs)) : AV H (.ref a)
  | tup {a : Addr} {xs : List V} (h : H a = some (.tup xs)) : AV H (.ref a)
theorem AV.same {H H' : Hp} {v : V} (h : AV H v) (s : Same H H') : AV H' v := by
  cases h with
  | non => exact .non
  | bl b => exact .bl b
  | int i h => exact .int i h
  | str z => exact .str z
  | lst h => exact .lst (s _ _ h)
  | tup h => exact .tup (s _ _ h)
def isNum : V → Int → Bool
  | .int i, n => decide (n ≤ i)
  | _, _ => false
def isI : V → Bool
  | .int _ => true
  | .bl _ => true
  | _ => false
def isB : V → Bool
  | .bl _ => true
  | _ => false
theorem av_ty {K : PySem.W.Frag} {H : Hp} {v : V} (h : AV H v) : ∃ t, TyX K H v t ∧ PySem.W.kitOne K t (.type "int") = some (isI v) ∧ PySem.W.kitOne K t (.type "bool") = some (isB v) := by
  cases h with
  | non => exact ⟨_, .base .non, (show PySem.W.kitOne K (.type "NoneType") (.type "int") = some false from kit_ty (by decide +kernel)), (show PySem.W.kitOne K (.type "NoneType") (.type "bool") = some false from kit_ty (by decide +kernel))⟩
  | bl b => exact ⟨_, .base (.bl b), (show PySem.W.kitOne K (.type "bool") (.type "int") = some true from kit_ty (by decide +kernel)), (show PySem.W.kitOne K (.type "bool") (.type "bool") = some true from kit_ty (by decide +kernel))⟩
  | int i h => exact ⟨_, .base (.int i), (show PySem.W.kitOne K (.type "int") (.type "int") = some true from kit_ty (by decide +kernel)), (show PySem.W.kitOne K (.type "int") (.type "bool") = some false from kit_ty (by decide +kernel))⟩
  | str z => exact ⟨_, .base (.str z), (show PySem.W.kitOne K (.type "str") (.type "int") = some false from kit_ty (by decide +kernel)), (show PySem.W.kitOne K (.type "str") (.type "bool") = some false from kit_ty (by decide +kernel))⟩
  | lst h => exact ⟨_, .base (.lst h), (show PySem.W.kitOne K (.type "list") (.type "int") = some false from kit_ty (by decide +kernel)), (show PySem.W.kitOne K (.type "list") (.type "bool") = some false from kit_ty (by decide +kernel))⟩
  | tup h => exact ⟨_, .base (.tup h), (show PySem.W.kitOne K (.type "tuple") (.type "int") = some false from kit_ty (by decide +kernel)), (show PySem.W.kitOne K (.type "tuple") (.type "bool") = some false from kit_ty (by decide +kernel))⟩
theorem num_of {v : V} {n : Int} (h : isNum v n = true) : ∃ i : Int, v = .int i ∧ n ≤ i := by
  cases v with
  | int i => exact ⟨i, rfl, of_decide_eq_true h⟩
  | _ => cases h
structure BltB (mg : Str → Option Value) : Prop where
  isi : mg "isinstance" = none
  int : mg "int" = none
  bool : mg "bool" = none
def isIntV : V → Bool
  | .int _ => true
  | _ => false
def spInt : Sp := fun vs H Q _ => ∃ v, vs = [v] ∧ AV H v ∧ Q (.bl (isIntV v)) H
def spNum : Sp := fun vs H Q _ => ∃ v, vs = [v] ∧ AV H v ∧ Q (.bl (isNum v 0)) H
def spAmt : Sp := fun vs H Q _ => ∃ v, vs = [v] ∧ AV H v ∧ Q (.bl (isNum v 1)) H
section
variable {P : Program} {w : World} {K : PySem.W.Frag} {mg : Str → Option Value} {base : Heap}
theorem scIsNum : FnScope ["value"] ["value"] (defScope sIsNum) := ⟨rfl, rfl, rfl, by decide +kernel, rfl, by decide +kernel, by decide +kernel⟩
theorem scIsAmt : FnScope ["value"] ["value"] (defScope sIsAmt) := ⟨rfl, rfl, rfl, by decide +kernel, rfl, by decide +kernel, by decide +kernel⟩
theorem scIsInt : FnScope ["value"] ["value"] (defScope sIsInt) := ⟨rfl, rfl, rfl, by decide +kernel, rfl, by decide +kernel, by decide +kernel⟩
theorem ok_isInt {f : Addr} {fd : FuncData} (F : Fun K "is_integer" "is_integer" sIsInt f fd) (T : BltB mg) : FnOk P w K mg base CX0 1 f fd ["value"] spInt := by
  refine F.ok scIsInt (fun vs H Q E h => ?_) (fun cdv A outer s H vs Q E hr h => ?_)
  · obtain ⟨v, rfl, _⟩ := h
    rfl
  · obtain ⟨v, rfl, av, q⟩ := h
    obtain ⟨t, ty, k1, k2⟩ := av_ty (K := K) av
    refine ⟨_, pss_one (ps_ret (pe_and (pe_callB call_isi (by rfl) T.isi (by decide +kernel) (pa_cons (pv 0) (pa_cons (pe_bltn (v := .ty "int") (by rfl) T.int (by decide +kernel) rfl) pa_nil)))
      (pe_one (pe_not (pe_callB call_isi (by rfl) T.isi (by decide +kernel) (pa_cons (pv 0) (pa_cons (pe_bltn (v := .ty "bool") (by rfl) T.bool (by decide +kernel) rfl) pa_nil))))))), ?_⟩
    refine ⟨_, rfl, _, _, t, _, _, rfl, .ty "int", ty, k1, _, rfl, ?_⟩
    cases v with
    | int i =>
      refine iteT ?_
      exact ⟨_, rfl, _, _, t, _, _, rfl, .ty "bool", ty, k2, _, rfl, q⟩
    | bl b =>
      refine iteT ?_
      exact ⟨_, rfl, _, _, t, _, _, rfl, .ty "bool", ty, k2, _, rfl, q⟩
    | non => exact iteF q
    | str z => exact iteF q
    | ref a => exact iteF q
    | byt z => exact iteF q
    | flt z => exact iteF q
    | ty z => exact iteF q
theorem ok_isNum {f : Addr} {fd : FuncData} (F : Fun K "is_number" "is_number" sIsNum f fd) (c : Cal P w K mg base CX0 "is_integer" 1 ["value"] spInt) : FnOk P w K mg base CX0 2 f fd ["value"] spNum := by
  obtain ⟨fI, fdI, GI, mI, kI, bI⟩ := c
  refine F.ok scIsNum (fun vs H Q E h => ?_) (fun cdv A outer s H vs Q E hr h => ?_)
  · obtain ⟨v, rfl, _⟩ := h
    rfl
  · obtain ⟨v, rfl, av, q⟩ := h
    refine ⟨_, pss_one (ps_ret (pe_and (pe_call GI hr rfl mI kI bI .nil pass0 (pa_cons (pv 0) pa_nil)) (pe_one (pe_cmpR op_ge (pv 0) pe_int (nomark _))))), ?_⟩
    refine ⟨_, rfl, v, rfl, av, _, rfl, ?_⟩
    cases v with
    | int i => exact iteT ⟨_, rfl, _, _, rfl, rfl, q⟩
    | bl b => exact iteF q
    | non => exact iteF q
    | str z => exact iteF q
    | ref a => exact iteF q
    | byt z => exact iteF q
    | flt z => exact iteF q
    | ty z => exact iteF q
theorem ok_isAmt {f : Addr} {fd : FuncData} (F : Fun K "is_amount" "is_amount" sIsAmt f fd) (c : Cal P w K mg base CX0 "is_number" 2 ["value"] spNum) : FnOk P w K mg base CX0 3 f fd ["value"] spAmt := by
  obtain ⟨fN, fdN, GN, mN, kN, bN⟩ := c
  refine F.ok scIsAmt (fun vs H Q E h => ?_) (fun cdv A outer s H vs Q E hr h => ?_)
  · obtain ⟨v, rfl, _⟩ := h
    rfl
  · obtain ⟨v, rfl, av, q⟩ := h
    refine ⟨_, pss_one (ps_ret (pe_and (pe_call GN hr rfl mN kN bN .nil pass0 (pa_cons (pv 0) pa_nil)) (pe_one (pe_cmpR op_gt (pv 0) pe_int (nomark _))))), ?_⟩
    refine ⟨_, rfl, v, rfl, av, _, rfl, ?_⟩
    cases e : isNum v 0 with
    | false =>
      refine iteF ?_
      have z : isNum v 1 = false := by
        cases v with
        | int i =>
          have h1 : ¬ (0 : Int) ≤ i := of_decide_eq_false e
          exact decide_eq_false (by omega)
        | _ => rfl
      rw [z] at q
      exact q
    | true =>
      obtain ⟨i, rfl, hi⟩ := num_of e
      refine iteT ⟨_, rfl, _, _, rfl, rfl, ?_⟩
      have z : isNum (.int i) 1 = decide (0 < i) := by
        show decide (1 ≤ i) = decide (0 < i)
        by_cases c : 0 < i
        · rw [decide_eq_true c, decide_eq_true (show 1 ≤ i by omega)]
        · rw [decide_eq_false c, decide_eq_false (show ¬ 1 ≤ i by omega)]
      rw [z] at q
      exact q
end
end V3

set_option Elab.async false
set_option linter.all false
set_option maxRecDepth 100000
namespace V3
open PySem L2
/-! the error -/
def spIM (C : Addr) : Sp := fun vs H Q _ => ∃ (a : Addr) (y : V), vs = [.ref a, y] ∧ H a = some (exo a C none) ∧
  ∀ d, H d = none → d ≠ a → Q .non (upd (upd H d (exd d [("word", y)])) a (exo a C (some d)))
/-- what the module says of InvalidMove -/
structure ImTxt (P : Program) (w : World) (K : PySem.W.Frag) (mg : Str → Option Value) (base : Heap) (C : Addr) : Prop where
  g : mg "InvalidMove" = some (.ref C)
  o : OexC K C
  no : PySem.W.findIn K (.ref C) "word" = some none
  ini : ∃ (f : Addr) (fd : FuncData), FnOk P w K mg base CX0 1 f fd ["self", "word"] (spIM C) ∧ PySem.W.findIn K (.ref C) "__init__" = some (some (.ref f)) ∧ PySem.W.typeIn K (.ref f) = some (.type "function") ∧ Binds K fd ["self", "word"] []
/-- behind a raise: an error with the word, all else as it was -/
def Er (C : Addr) (H : Hp) (E : XK) (word : Str) : Prop := ∀ (d : Addr) (H' : Hp), Same H H' → H' d = some (.xd [("word", .str word)]) → E (.ref C) (some d) H'
section
variable {P : Program} {w : World} {K : PySem.W.Frag} {mg : Str → Option Value} {base : Heap}
theorem scImInit : FnScope ["self", "word"] ["self", "word"] (defScope sImInit) := ⟨rfl, rfl, rfl, by decide +kernel, rfl, by decide +kernel, by decide +kernel⟩
theorem ok_imInit {f C : Addr} {fd : FuncData} (F : Fun K "__init__" "InvalidMove.__init__" sImInit f fd) (o : OexC K C) (no : PySem.W.findIn K (.ref C) "word" = some none) : FnOk P w K mg base CX0 1 f fd ["self", "word"] (spIM C) := by
  refine F.ok scImInit (fun vs H Q E h => ?_) (fun cdv A outer s H vs Q E hr h => ?_)
  · obtain ⟨a, y, rfl, _⟩ := h
    rfl
  · obtain ⟨a, y, rfl, ha, q⟩ := h
    refine ⟨_, pss_one (ps_ost (pv 0) (pv 1)), ?_⟩
    exact ⟨_, rfl, _, rfl, a, C, rfl, o, no, .inl ⟨ha, fun dx h1 h2 => q dx h1 h2⟩⟩
theorem raise_same {H : Hp} {a d : Addr} {o1 o2 o3 o4 : HO} (na : H a = none) (nd : upd H a o1 d = none) (ne : d ≠ a) : Same H (upd (del (upd (upd (upd H a o1) d o2) a o3) a) d o4) := by
  intro b o e
  have ba : b ≠ a := fun z => by
    rw [z, na] at e
    cases e
  have hd : H d = none := by
    rw [upd_ne ne] at nd
    exact nd
  have bd : b ≠ d := fun z => by
    rw [z, hd] at e
    cases e
  rw [upd_ne bd, del_ne ba, upd_ne ba, upd_ne bd, upd_ne ba]
  exact e
/-- raise InvalidMove("..") in a def's own frame -/
theorem er_read {C : Addr} {H : Hp} {E : XK} {word : Str} (h : Er C H E word) : ∀ a, H a = none → spIM C (.ref a :: ([V.str word] ++ [])) (upd H a (exo a C none))
    (fun v H2 => v = .non ∧ ∃ (d : Addr) (fs : List (Str × V)), H2 a = some (exo a C (some d)) ∧ H2 d = some (exd d fs) ∧ H d = none ∧ E (.ref C) (some d) (upd (del H2 a) d (.xd fs))) (fun _ _ _ => False) := by
  intro a na
  refine ⟨a, _, rfl, upd_same, fun d nd ne => ⟨rfl, d, [("word", .str word)], upd_same, ?_, ?_, ?_⟩⟩
  · rw [upd_ne ne]
    exact upd_same
  · rw [upd_ne ne] at nd
    exact nd
  · exact h d _ (raise_same na nd ne) upd_same
/-! Begin -/
def spBegin (C CM : Addr) : Sp := fun vs H Q E => ∃ (x dx : Addr) (v : V), vs = [.ref x, v] ∧ H x = some (.ins C dx []) ∧ AV H v ∧
  (isNum v 1 = true → Q .non (upd H x (.ins C dx [("amount", v)]))) ∧ (isNum v 1 = false → Er CM H E "amount")
theorem scBInit : FnScope ["self", "amount"] ["self", "amount"] (defScope sBInit) := ⟨rfl, rfl, rfl, by decide +kernel, rfl, by decide +kernel, by decide +kernel⟩
abbrev CalNum (P : Program) (w : World) (K : PySem.W.Frag) (mg : Str → Option Value) (base : Heap) : Prop := Cal P w K mg base CX0 "is_number" 2 ["value"] spNum
abbrev CalAmt (P : Program) (w : World) (K : PySem.W.Frag) (mg : Str → Option Value) (base : Heap) : Prop := Cal P w K mg base CX0 "is_amount" 3 ["value"] spAmt
theorem ok_bInit {f C CM : Addr} {fd : FuncData} (F : Fun K "__init__" "Begin.__init__" sBInit f fd) (cl : Cls K C) (nA : NoAttr K C "amount") (cA : CalAmt P w K mg base) (M : ImTxt P w K mg base CM) : FnOk P w K mg base (L2.CX P w) 4 f fd ["self", "amount"] (spBegin C CM) := by
  obtain ⟨fA, fdA, GA, mA, kA, bA⟩ := cA
  obtain ⟨fI, fdI, GI, iI, tI, bI⟩ := M.ini
  refine F.okX scBInit (fun vs H Q E h => ?_) (fun cdv A outer s H vs Q E hr h => ?_)
  · obtain ⟨x, dx, v, rfl, _⟩ := h
    rfl
  · obtain ⟨x, dx, v, rfl, hx, av, q1, q2⟩ := h
    refine ⟨_, pss_cons (ps_if (pt_not (pt_val (pe_call GA hr rfl mA kA bA .nil pass0 (pa_cons (pv 1) pa_nil)))) (pss_one (ps_raise rfl (takes_of rfl rfl rfl rfl) (pmk_oex M.o iI tI GI (hr.mono (by decide)) bI .nil pass0 rfl M.g (by exact (pa_cons pe_str pa_nil))))) pss_nil)
      (pss_one (ps_fld (pv 0) (pv 1) rfl)), ?_⟩
    refine ⟨_, rfl, v, rfl, av, _, rfl, ?_⟩
    cases e : isNum v 1 with
    | true => exact iteF ⟨_, rfl, _, rfl, x, C, dx, _, rfl, hx, cl, nA, (by show 0 < 1000; decide), q1 e⟩
    | false => exact iteT ⟨(by show 1 ≤ 1000; decide), er_read (q2 e)⟩
/-! Take, Right -/
def two (a v : V) : List (Str × V) := [("at", a), ("amount", v)]
theorem ne_at : ¬ (("at" : Str) = "amount") := by decide +kernel
theorem put_two (a v : V) : putF "amount" v (putF "at" a []) = two a v := by
  show (if ("at" : Str) = "amount" then [(("at" : Str), v)] else (("at" : Str), a) :: putF "amount" v []) = two a v
  rw [if_neg ne_at]
  rfl
theorem two_at (a v : V) : (two a v).lookup ("at" : Str) = some a := by
  rw [← put_two, lookup_putF, if_neg ne_at, lookup_putF, if_pos rfl]
theorem two_am (a v : V) : (two a v).lookup ("amount" : Str) = some v := by
  rw [← put_two, lookup_putF, if_pos rfl]
def spTake (C CM : Addr) : Sp := fun vs H Q E => ∃ (x dx : Addr) (a v : V), vs = [.ref x, a, v] ∧ H x = some (.ins C dx []) ∧ AV H a ∧ AV H v ∧
  (isNum a 0 = true → (v = .non ∨ isNum v 1 = true) → Q .non (upd H x (.ins C dx (two a v)))) ∧ (isNum a 0 = false → Er CM H E "at") ∧
  (isNum a 0 = true → ¬ v = .non → isNum v 1 = false → Er CM H E "amount")
def spRight (C CM : Addr) : Sp := fun vs H Q E => ∃ (x dx : Addr) (a v : V), vs = [.ref x, a, v] ∧ H x = some (.ins C dx []) ∧ AV H a ∧ AV H v ∧
  (isNum a 0 = true → isNum v 1 = true → Q .non (upd H x (.ins C dx (two a v)))) ∧ (isNum a 0 = false → Er CM H E "at") ∧
  (isNum a 0 = true → isNum v 1 = false → Er CM H E "amount")
theorem scTInit : FnScope ["self", "at", "amount"] ["self", "at", "amount"] (defScope sTInit) := ⟨rfl, rfl, rfl, by decide +kernel, rfl, by decide +kernel, by decide +kernel⟩
theorem scRInit : FnScope ["self", "at", "amount"] ["self", "at", "amount"] (defScope sRInit) := ⟨rfl, rfl, rfl, by decide +kernel, rfl, by decide +kernel, by decide +kernel⟩
theorem ok_tInit {f C CM : Addr} {fd : FuncData} {dvs : List V} (F : FunD K "__init__" "Take.__init__" (defArgs sTInit) (defBody sTInit) (defScope sTInit) dvs [] f fd) (cl : Cls K C) (nT : NoAttr K C "at") (nA : NoAttr K C "amount") (cN : CalNum P w K mg base) (cA : CalAmt P w K mg base) (M : ImTxt P w K mg base CM) : FnOk P w K mg base (L2.CX P w) 4 f fd ["self", "at", "amount"] (spTake C CM) := by
  obtain ⟨fN, fdN, GN, mN, kN, bN⟩ := cN
  obtain ⟨fA, fdA, GA, mA, kA, bA⟩ := cA
  obtain ⟨fI, fdI, GI, iI, tI, bI⟩ := M.ini
  refine F.ok scTInit (fun vs H Q E h => ?_) (fun cdv A outer s H vs Q E hr h => ?_)
  · obtain ⟨x, dx, a, v, rfl, _⟩ := h
    rfl
  · obtain ⟨x, dx, a, v, rfl, hx, aa, av, q1, q2, q3⟩ := h
    refine ⟨_, pss_cons (ps_if (pt_not (pt_val (pe_call GN (hr.mono (by decide)) rfl mN kN bN .nil pass0 (pa_cons (pv 1) pa_nil)))) (pss_one (ps_raise rfl (takes_of rfl rfl rfl rfl) (pmk_oex M.o iI tI GI (hr.mono (by decide)) bI .nil pass0 rfl M.g (by exact (pa_cons pe_str pa_nil))))) pss_nil)
      (pss_cons (ps_if (PW.pt (pw_and (pt_cmpR op_notN (pv 2) pe_non (nomark _)) (pw_and1 (pt_not (pt_val (pe_call GA hr rfl mA kA bA .nil pass0 (pa_cons (pv 2) pa_nil))))))) (pss_one (ps_raise rfl (takes_of rfl rfl rfl rfl) (pmk_oex M.o iI tI GI (hr.mono (by decide)) bI .nil pass0 rfl M.g (by exact (pa_cons pe_str pa_nil))))) pss_nil)
      (pss_cons (ps_fld (pv 0) (pv 1) rfl) (pss_one (ps_fld (pv 0) (pv 2) rfl)))), ?_⟩
    refine ⟨_, rfl, a, rfl, aa, _, rfl, ?_⟩
    cases e : isNum a 0 with
    | false => exact iteT ⟨(by show 1 ≤ 1000; decide), er_read (q2 e)⟩
    | true =>
      have stores : (v = .non ∨ isNum v 1 = true) → Q .non (upd (upd H x (.ins C dx (putF "at" a []))) x (.ins C dx (putF "amount" v (putF "at" a [])))) := fun z => by
        rw [upd_upd, put_two]
        exact q1 e z
      refine iteF ⟨_, rfl, rfl, _, rfl, ?_⟩
      by_cases c : v = .non
      · rw [decide_eq_true c]
        exact iteF (iteF ⟨_, rfl, _, rfl, x, C, dx, _, rfl, hx, cl, nT, (by show 0 < 1000; decide), _, rfl, _, rfl, x, C, dx, _, rfl, upd_same, cl, nA, (by show 1 < 1000; decide), stores (.inl c)⟩)
      · rw [decide_eq_false c]
        refine iteT ⟨_, rfl, v, rfl, av, _, rfl, ?_⟩
        cases e2 : isNum v 1 with
        | false => exact iteT ⟨(by show 1 ≤ 1000; decide), er_read (q3 e c e2)⟩
        | true => exact iteF ⟨_, rfl, _, rfl, x, C, dx, _, rfl, hx, cl, nT, (by show 0 < 1000; decide), _, rfl, _, rfl, x, C, dx, _, rfl, upd_same, cl, nA, (by show 1 < 1000; decide), stores (.inr e2)⟩
theorem ok_rInit {f C CM : Addr} {fd : FuncData} (F : Fun K "__init__" "Right.__init__" sRInit f fd) (cl : Cls K C) (nT : NoAttr K C "at") (nA : NoAttr K C "amount") (cN : CalNum P w K mg base) (cA : CalAmt P w K mg base) (M : ImTxt P w K mg base CM) : FnOk P w K mg base (L2.CX P w) 4 f fd ["self", "at", "amount"] (spRight C CM) := by
  obtain ⟨fN, fdN, GN, mN, kN, bN⟩ := cN
  obtain ⟨fA, fdA, GA, mA, kA, bA⟩ := cA
  obtain ⟨fI, fdI, GI, iI, tI, bI⟩ := M.ini
  refine F.okX scRInit (fun vs H Q E h => ?_) (fun cdv A outer s H vs Q E hr h => ?_)
  · obtain ⟨x, dx, a, v, rfl, _⟩ := h
    rfl
  · obtain ⟨x, dx, a, v, rfl, hx, aa, av, q1, q2, q3⟩ := h
    refine ⟨_, pss_cons (ps_if (pt_not (pt_val (pe_call GN (hr.mono (by decide)) rfl mN kN bN .nil pass0 (pa_cons (pv 1) pa_nil)))) (pss_one (ps_raise rfl (takes_of rfl rfl rfl rfl) (pmk_oex M.o iI tI GI (hr.mono (by decide)) bI .nil pass0 rfl M.g (by exact (pa_cons pe_str pa_nil))))) pss_nil)
      (pss_cons (ps_if (pt_not (pt_val (pe_call GA hr rfl mA kA bA .nil pass0 (pa_cons (pv 2) pa_nil)))) (pss_one (ps_raise rfl (takes_of rfl rfl rfl rfl) (pmk_oex M.o iI tI GI (hr.mono (by decide)) bI .nil pass0 rfl M.g (by exact (pa_cons pe_str pa_nil))))) pss_nil)
      (pss_cons (ps_fld (pv 0) (pv 1) rfl) (pss_one (ps_fld (pv 0) (pv 2) rfl)))), ?_⟩
    refine ⟨_, rfl, a, rfl, aa, _, rfl, ?_⟩
    cases e : isNum a 0 with
    | false => exact iteT ⟨(by show 1 ≤ 1000; decide), er_read (q2 e)⟩
    | true =>
      refine iteF ⟨_, rfl, v, rfl, av, _, rfl, ?_⟩
      cases e2 : isNum v 1 with
      | false => exact iteT ⟨(by show 1 ≤ 1000; decide), er_read (q3 e e2)⟩
      | true =>
        have stores : Q .non (upd (upd H x (.ins C dx (putF "at" a []))) x (.ins C dx (putF "amount" v (putF "at" a [])))) := by
          rw [upd_upd, put_two]
          exact q1 e e2
        exact iteF ⟨_, rfl, _, rfl, x, C, dx, _, rfl, hx, cl, nT, (by show 0 < 1000; decide), _, rfl, _, rfl, x, C, dx, _, rfl, upd_same, cl, nA, (by show 1 < 1000; decide), stores⟩
/-! the texts -/
def num (i : Int) : Str := Str.ofString (toString i)
def Am (i : Int) : Prop := i.natAbs ≤ 1000000000000
theorem am_log {i : Int} (h : Am i) : i.natAbs.log2 < 1920 := Nat.lt_of_lt_of_le (PySem.Flt.log2_lt_of (k := 40) (by decide) (by
  have : (2 : Nat) ^ 40 = 1099511627776 := by decide
  unfold Am at h
  omega)) (by decide)
theorem num_len {i : Int} (h : Am i) : (num i).length ≤ 1921 := PyProof.Rows.int_text_len_1921 (am_log h)
theorem app_len (x y : Str) : (x ++ y).length = x.length + y.length := PySem.Str.length_append x y
def bText (i : Int) : Str := Str.empty ++ "begin " ++ num i
def tText (i : Int) : Str := Str.empty ++ "take " ++ num i
def tbText (i j : Int) : Str := Str.empty ++ "take " ++ num i ++ " by " ++ num j
def rText (i j : Int) : Str := Str.empty ++ "right " ++ num i ++ " to " ++ num j
def spBStr (C : Addr) : Sp := fun vs H Q _ => ∃ (x dx : Addr) (i : Int), vs = [.ref x] ∧ H x = some (.ins C dx [("amount", .int i)]) ∧ Am i ∧ Q (.str (bText i)) H
def spTStr (C : Addr) : Sp := fun vs H Q _ => ∃ (x dx : Addr) (i : Int) (v : V), vs = [.ref x] ∧ H x = some (.ins C dx (two (.int i) v)) ∧ Am i ∧
  ((v = .non ∧ Q (.str (tText i)) H) ∨ ∃ j, v = .int j ∧ Am j ∧ Q (.str (tbText i j)) H)
def spRStr (C : Addr) : Sp := fun vs H Q _ => ∃ (x dx : Addr) (i j : Int), vs = [.ref x] ∧ H x = some (.ins C dx (two (.int i) (.int j))) ∧ Am i ∧ Am j ∧ Q (.str (rText i j)) H
theorem scBStr : FnScope ["self"] ["self"] (defScope sBStr) := ⟨rfl, rfl, rfl, by decide +kernel, rfl, by decide +kernel, by decide +kernel⟩
theorem scTStr : FnScope ["self"] ["self"] (defScope sTStr) := ⟨rfl, rfl, rfl, by decide +kernel, rfl, by decide +kernel, by decide +kernel⟩
theorem scRStr : FnScope ["self"] ["self"] (defScope sRStr) := ⟨rfl, rfl, rfl, by decide +kernel, rfl, by decide +kernel, by decide +kernel⟩
theorem small {n : Nat} (h : n ≤ 10000) : n ≤ sizeLine := Nat.le_trans h (by decide)
theorem ok_bStr {f C : Addr} {fd : FuncData} (F : Fun K "__str__" "Begin.__str__" sBStr f fd) (cl : Cls K C) (nA : NoAttr K C "amount") : FnOk P w K mg base CX0 1 f fd ["self"] (spBStr C) := by
  refine F.ok scBStr (fun vs H Q E h => ?_) (fun cdv A outer s H vs Q E hr h => ?_)
  · obtain ⟨x, dx, i, rfl, _⟩ := h
    rfl
  · obtain ⟨x, dx, i, rfl, hx, am, q⟩ := h
    have l := num_len am
    refine ⟨_, pss_one (ps_ret (pe_joined (.cons pe_str (.cons (pe_fmt (pe_fld (pv 0) rfl)) .nil)))), ?_⟩
    have e1 : ("begin " : Str).length = 6 := by decide +kernel
    have e0 : (Str.empty).length = 0 := rfl
    refine ⟨_, rfl, small (by rw [app_len, e1, e0]; decide), _, rfl, x, C, dx, _, _, rfl, hx, cl, nA, rfl, .inr ⟨i, rfl, am_log am, _, rfl, small ?_, q⟩⟩
    show (Str.empty ++ "begin " ++ num i).length ≤ 10000
    rw [app_len, app_len, e1, e0]
    omega
end
end V3

set_option Elab.async false
set_option linter.all false
set_option maxRecDepth 100000
namespace V3
open PySem L2
abbrev sAny : Stmt := top 24
/-! values whose type is known; the moves' classes are mv, all known ones cs -/
inductive TK (cs : List Addr) (H : Hp) : V → Prop where
  | non : TK cs H .non
  | bl (b : Bool) : TK cs H (.bl b)
  | int (i : Int) : TK cs H (.int i)
  | str (z : Str) : TK cs H (.str z)
  | lst {a : Addr} {xs : List V} (h : H a = some (.lst xs)) : TK cs H (.ref a)
  | tup {a : Addr} {xs : List V} (h : H a = some (.tup xs)) : TK cs H (.ref a)
  | ins {a C dx : Addr} {fs : List (Str × V)} (h : H a = some (.ins C dx fs)) (c : C ∈ cs) : TK cs H (.ref a)
def seqOf : Option HO → Option (List V)
  | some (.lst xs) => some xs
  | some (.tup xs) => some xs
  | _ => none
def itemsOf (H : Hp) : V → Option (List V)
  | .ref a => seqOf (H a)
  | _ => none
def AW (cs : List Addr) (H : Hp) (v : V) : Prop := TK cs H v ∧ ∀ xs, itemsOf H v = some xs → xs.length ≤ 100 ∧ ∀ z ∈ xs, TK cs H z
def SameX (b : Addr) (H H' : Hp) : Prop := ∀ c o, c ≠ b → H c = some o → H' c = some o
theorem SameX.refl {b : Addr} {H : Hp} : SameX b H H := fun _ _ _ h => h
theorem SameX.trans {b : Addr} {H H1 H2 : Hp} (s : SameX b H H1) (t : SameX b H1 H2) : SameX b H H2 := fun c o n h => t c o n (s c o n h)
theorem SameX.of {b : Addr} {H H' : Hp} (s : Same H H') : SameX b H H' := fun c o _ h => s c o h
theorem SameX.box {b : Addr} {H : Hp} {o : HO} : SameX b H (upd H b o) := fun c _ n h => by rw [upd_ne n]; exact h
theorem Same.new {p : Addr} {H : Hp} {o : HO} (hp : H p = none) : Same H (upd H p o) := fun c u h => by rw [upd_ne (ne_of_none h hp)]; exact h
/-- all but the box is as it was, and there is a box -/
def Pre (b : Addr) (H H' : Hp) : Prop := SameX b H H' ∧ ∃ u v, BoxOk u v ∧ H' b = some (box u v)
theorem Pre.trans {b : Addr} {H H1 H2 : Hp} (s : Pre b H H1) (t : Pre b H1 H2) : Pre b H H2 := ⟨s.1.trans t.1, t.2⟩
theorem Pre.then {b : Addr} {H H1 H2 : Hp} (s : Pre b H H1) (t : Same H1 H2) : Pre b H H2 := by
  obtain ⟨h, u, v, ok, e⟩ := s
  exact ⟨h.trans (SameX.of t), u, v, ok, t _ _ e⟩
theorem Pre.box {b : Addr} {H : Hp} {u v : Int} (ok : BoxOk u v) : Pre b H (upd H b (box u v)) := ⟨SameX.box, u, v, ok, upd_same⟩
theorem Pre.start {b : Addr} {H : Hp} {u v : Int} (ok : BoxOk u v) (h : H b = some (V3.box u v)) : Pre b H H := ⟨SameX.refl, u, v, ok, h⟩
theorem TK.same {cs : List Addr} {H H' : Hp} {v : V} (h : TK cs H v) (s : Same H H') : TK cs H' v := by
  cases h with
  | non => exact .non
  | bl b => exact .bl b
  | int i => exact .int i
  | str z => exact .str z
  | lst h => exact .lst (s _ _ h)
  | tup h => exact .tup (s _ _ h)
  | ins h c => exact .ins (s _ _ h) c
theorem TK.pre {cs : List Addr} {b : Addr} {H H' : Hp} {v : V} (h : TK cs H v) (s : Pre b H H') : TK cs H' v := by
  obtain ⟨s, u, w, _, e⟩ := s
  have key : ∀ {a : Addr} {o : HO}, H a = some o → (∀ o, H' a = some o → o = (box u w) ∨ H a = some o) → True := fun _ _ => trivial
  cases h with
  | non => exact .non
  | bl b => exact .bl b
  | int i => exact .int i
  | str z => exact .str z
  | @lst a xs h =>
    by_cases q : a = b
    · rw [q]
      exact .lst e
    · exact .lst (s _ _ q h)
  | @tup a xs h =>
    by_cases q : a = b
    · rw [q]
      exact .lst e
    · exact .tup (s _ _ q h)
  | @ins a C dx fs h c =>
    by_cases q : a = b
    · rw [q]
      exact .lst e
    · exact .ins (s _ _ q h) c
theorem TK.updl {cs : List Addr} {H : Hp} {D : Addr} {xs : List V} {v : V} (h : TK cs H v) : TK cs (upd H D (.lst xs)) v := by
  cases h with
  | non => exact .non
  | bl b => exact .bl b
  | int i => exact .int i
  | str z => exact .str z
  | @lst a xs h =>
    by_cases q : a = D
    · rw [q]
      exact .lst upd_same
    · exact .lst (by rw [upd_ne q]; exact h)
  | @tup a xs h =>
    by_cases q : a = D
    · rw [q]
      exact .lst upd_same
    · exact .tup (by rw [upd_ne q]; exact h)
  | @ins a C dx fs h c =>
    by_cases q : a = D
    · rw [q]
      exact .lst upd_same
    · exact .ins (by rw [upd_ne q]; exact h) c
/-- what stands at a reference of known type -/
theorem TK.at {cs : List Addr} {H : Hp} {a : Addr} (h : TK cs H (.ref a)) : ∃ o, H a = some o ∧ ((∃ xs, o = .lst xs) ∨ (∃ xs, o = .tup xs) ∨ ∃ C dx fs, o = .ins C dx fs ∧ C ∈ cs) := by
  cases h with
  | lst h => exact ⟨_, h, .inl ⟨_, rfl⟩⟩
  | tup h => exact ⟨_, h, .inr (.inl ⟨_, rfl⟩)⟩
  | ins h c => exact ⟨_, h, .inr (.inr ⟨_, _, _, rfl, c⟩)⟩
theorem items_at {H H' : Hp} {a : Addr} (e : H' a = H a) : itemsOf H' (.ref a) = itemsOf H (.ref a) := by
  show seqOf (H' a) = seqOf (H a)
  rw [e]
theorem items_none {H : Hp} {v : V} (n : ∀ a, v ≠ .ref a) : itemsOf H v = none := by
  cases v with
  | ref a => exact absurd rfl (n a)
  | _ => rfl
theorem items_same {cs : List Addr} {H H' : Hp} {v : V} (h : TK cs H v) (s : Same H H') : itemsOf H' v = itemsOf H v := by
  by_cases n : ∃ a, v = .ref a
  · obtain ⟨a, rfl⟩ := n
    obtain ⟨o, e, _⟩ := h.at
    exact items_at ((s _ _ e).trans e.symm)
  · rw [items_none (fun a z => n ⟨a, z⟩), items_none (fun a z => n ⟨a, z⟩)]
theorem AW.same {cs : List Addr} {H H' : Hp} {v : V} (h : AW cs H v) (s : Same H H') : AW cs H' v := by
  refine ⟨h.1.same s, fun xs e => ?_⟩
  rw [items_same h.1 s] at e
  exact ⟨(h.2 xs e).1, fun z hz => ((h.2 xs e).2 z hz).same s⟩
theorem AW.pre {cs : List Addr} {b : Addr} {H H' : Hp} {v : V} (h : AW cs H v) (s : Pre b H H') : AW cs H' v := by
  refine ⟨h.1.pre s, fun xs e => ?_⟩
  by_cases n : ∃ a, v = .ref a
  · obtain ⟨a, rfl⟩ := n
    by_cases q : a = b
    · subst q
      obtain ⟨_, u, w, _, eb⟩ := s
      have z : itemsOf H' (.ref a) = some [.int u, .int w] := by
        show seqOf (H' a) = _
        rw [eb]
        rfl
      rw [z] at e
      injection e with e
      subst e
      refine ⟨by show 2 ≤ 100; decide, fun z hz => ?_⟩
      simp only [List.mem_cons, List.not_mem_nil, or_false] at hz
      rcases hz with rfl | rfl
      · exact .int _
      · exact .int _
    · obtain ⟨o, eo, _⟩ := h.1.at
      rw [items_at ((s.1 _ _ q eo).trans eo.symm)] at e
      exact ⟨(h.2 xs e).1, fun z hz => ((h.2 xs e).2 z hz).pre s⟩
  · rw [items_none (fun a z => n ⟨a, z⟩)] at e
    cases e
theorem AW.flat {cs : List Addr} {H : Hp} {v : V} (h : TK cs H v) (n : ∀ a, v ≠ .ref a) : AW cs H v := ⟨h, fun xs e => by
  rw [items_none n] at e
  cases e⟩
theorem AW.lst {cs : List Addr} {H : Hp} {a : Addr} {xs : List V} (h : H a = some (.lst xs)) (l : xs.length ≤ 100) (k : ∀ z ∈ xs, TK cs H z) : AW cs H (.ref a) := by
  refine ⟨.lst h, fun ys e => ?_⟩
  have z : itemsOf H (.ref a) = some xs := by
    show seqOf (H a) = _
    rw [h]
    rfl
  rw [z] at e
  injection e with e
  subst e
  exact ⟨l, k⟩
theorem AW.tup {cs : List Addr} {H : Hp} {a : Addr} {xs : List V} (h : H a = some (.tup xs)) (l : xs.length ≤ 100) (k : ∀ z ∈ xs, TK cs H z) : AW cs H (.ref a) := by
  refine ⟨.tup h, fun ys e => ?_⟩
  have z : itemsOf H (.ref a) = some xs := by
    show seqOf (H a) = _
    rw [h]
    rfl
  rw [z] at e
  injection e with e
  subst e
  exact ⟨l, k⟩
theorem AW.ins {cs : List Addr} {H : Hp} {a C dx : Addr} {fs : List (Str × V)} (h : H a = some (.ins C dx fs)) (c : C ∈ cs) : AW cs H (.ref a) := by
  refine ⟨.ins h c, fun ys e => ?_⟩
  have z : itemsOf H (.ref a) = none := by
    show seqOf (H a) = _
    rw [h]
    rfl
  rw [z] at e
  cases e
def spAny (cs : List Addr) (e : Nat) : Sp := fun vs H Q _ => ∃ (b : Addr) (u v : Int), vs = [.ref b, .int (e : Int)] ∧ H b = some (box u v) ∧ BoxOk u v ∧
  ∀ (y : V) (H' : Hp), Pre b H H' → AW cs H' y → Q y H'
structure BltC (mg : Str → Option Value) : Prop where
  range : mg "range" = none
  tuple : mg "tuple" = none
abbrev CalChoose (P : Program) (w : World) (K : PySem.W.Frag) (mg : Str → Option Value) (base : Heap) : Prop := Cal P w K mg base CX0 "_law_choose" 1 ["_law_box", "_law_many"] spChoose
abbrev CalOneOf (P : Program) (w : World) (K : PySem.W.Frag) (mg : Str → Option Value) (base : Heap) : Prop := Cal P w K mg base CX0 "_law_one_of" 2 ["_law_box", "_law_some"] (spOneOf K)
section
variable {P : Program} {w : World} {K : PySem.W.Frag} {mg : Str → Option Value} {base : Heap}
theorem scAny : FnScope ["_law_box", "_law_deep", "_law_form", "_law_odd", "_law_some", "_law_turn"] ["_law_box", "_law_deep"] (defScope sAny) := ⟨rfl, rfl, rfl, by decide +kernel, rfl, by decide +kernel, by decide +kernel⟩
theorem any_step {cs : List Addr} {f : Addr} {fd : FuncData} (e : Nat) (F : Fun K "_law_anything" "_law_anything" sAny f fd) (T : BltC mg) (cC : CalChoose P w K mg base) (cO : CalOneOf P w K mg base)
    (m : mg "_law_anything" = some (.ref f)) (b : Binds K fd ["_law_box", "_law_deep"] []) (spB : Sp) (G : FnOk P w K mg base CX0 (2 + e) f fd ["_law_box", "_law_deep"] spB) (hB : e = 0 ∨ ∃ e', e = e' + 1 ∧ spB = spAny cs e') :
    FnOk P w K mg base CX0 (3 + e) f fd ["_law_box", "_law_deep"] (spAny cs e) := by
  obtain ⟨fC, fdC, GC, mC, kC, bC⟩ := cC
  obtain ⟨fO, fdO, GO, mO, kO, bO⟩ := cO
  have z : 3 + e = (2 + e) + 1 := by omega
  rw [z]
  refine F.ok scAny (fun vs H Q E h => ?_) (fun cdv A outer s H vs Q E hr h => ?_)
  · obtain ⟨b, u, v, rfl, _⟩ := h
    rfl
  · obtain ⟨bx, u, v, rfl, hb, ok, k⟩ := h
    refine ⟨_, pss_cons (ps_set (i := 2) scAny.nd rfl (Or.inl rfl) (pe_call GC (hr.mono (by omega)) rfl mC kC bC .nil pass0 (pa_cons (pv 0) (pa_cons pe_int pa_nil))))
      (pss_cons (ps_if (PW.pt (pw_or (pt_cmpR op_lt (pv 1) pe_int (nomark _)) (pw_or1 (pt_cmpR op_lt (pv 2) pe_int (nomark _)))))
        (pss_cons (ps_set (i := 3) scAny.nd rfl (Or.inl rfl) (pe_lst (pa_cons pe_non (pa_cons pe_bl (pa_cons pe_bl (pa_cons pe_int (pa_cons pe_int (pa_cons pe_int (pa_cons (pe_un un_neg pe_int) (pa_cons (pe_op op_pow pe_int pe_int) (pa_cons pe_str (pa_cons pe_str (pa_cons pe_str (pa_cons (pe_tup pa_nil) (pa_cons (pe_lst pa_nil) (pa_cons pe_str (pa_cons (pe_tup (pa_cons pe_str pa_nil)) pa_nil)))))))))))))))))
          (pss_one (ps_ret (pe_call GO (hr.mono (by omega)) rfl mO kO bO .nil pass0 (pa_cons (pv 0) (pa_cons (pv 3) pa_nil))))))
        pss_nil)
      (pss_cons (ps_setLc (i := 4) (own := [("_law_turn", 5)]) (g := gName 5) (tt := tYes) (by rfl) scAny.nd rfl rfl (sw_true rfl rfl rfl (by decide +kernel))
          (pi_range1 (by rfl) T.range (pa_cons (pe_call GC (hr.mono (by omega)) rfl mC kC bC .nil pass0 (pa_cons (pv 0) (pa_cons pe_int pa_nil))) pa_nil))
          (blkOk_by (own := [("_law_turn", 5)]) (N := ["_law_box", "_law_deep", "_law_form", "_law_odd", "_law_some", "_law_turn"]) (sc := defScope sAny) (by decide +kernel))
          (fun _ _ _ _ _ => pg_name (i := 5) scAny.nd rfl (Or.inl rfl)) (fun _ _ _ _ _ => pts_nil)
          (fun _ _ _ _ _ => pe_call G hr rfl m F.kp b .nil pass0 (pa_cons (pv 0) (pa_cons (pe_op op_sub (pv 1) pe_int) pa_nil))))
      (pss_one (ps_ret (pe_ifExp (pt_cmpR op_lt (pv 2) pe_int (nomark _)) (pe_callTy call_tuple_of (by rfl) T.tuple (by decide +kernel) (pa_cons (pv 4) pa_nil)) (pv 4)))))), ?_⟩
    refine ⟨_, rfl, bx, u, v, 8, rfl, hb, ok, (by decide), (by decide), fun d u1 v1 d0 d8 ok1 => ?_⟩
    refine ⟨_, rfl, _, _, rfl, rfl, _, rfl, ?_⟩
    have S1 : Pre bx H (upd H bx (box u1 v1)) := Pre.box ok1
    have hb1 : upd H bx (box u1 v1) bx = some (box u1 v1) := upd_same
    generalize upd H bx (box u1 v1) = H1 at S1 hb1
    refine ite2 (fun c => iteT ?wayA) (fun c => ⟨_, rfl, _, _, rfl, rfl, _, rfl, ite2 (fun c5 => ?wayB) (fun c5 => ?wayC)⟩)
    case wayC =>
      have e1 : ¬ (e : Int) < 1 := of_decide_eq_false (by simpa using c)
      obtain ⟨e', he, hs⟩ : ∃ e', e = e' + 1 ∧ spB = spAny cs e' := by
        rcases hB with h | h
        · omega
        · exact h
      subst hs
      refine ⟨_, rfl, bx, u1, v1, 4, rfl, hb1, ok1, (by decide), (by decide), fun d2 u2 v2 q0 q4 ok2 => ?_⟩
      have S2 : Pre bx H (upd H1 bx (box u2 v2)) := S1.trans (Pre.box ok2)
      have hb2 : upd H1 bx (box u2 v2) bx = some (box u2 v2) := upd_same
      generalize upd H1 bx (box u2 v2) = H2 at S2 hb2
      refine ⟨d2, rfl, by omega, by omega, fun D nD => ?_⟩
      have nbD : bx ≠ D := ne_of_none hb2 nD
      refine lc_range (lo := 0) (n := d2.toNat) (fun i Hh => ∃ acc, Pre bx H2 Hh ∧ Hh D = some (.lst acc) ∧ acc.length ≤ i ∧ ∀ z ∈ acc, TK cs Hh z) ?_ ?_ ?_
      · exact ⟨[], ⟨SameX.of (Same.new nD), u2, v2, ok2, by rw [upd_ne nbD]; exact hb2⟩, upd_same, Nat.le_refl _, fun z hz => by cases hz⟩
      · rintro i Hh hi ⟨acc, S3, hD, ha, hk⟩
        refine ⟨rfl, ?_⟩
        unfold tYes
        dsimp only
        refine iteT ?_
        obtain ⟨sx, u3, v3, ok3, hb3⟩ := id S3
        refine ⟨_, rfl, _, rfl, _, _, rfl, rfl, bx, u3, v3, ?_, hb3, ok3, fun y H' S4 ay => ?_⟩
        · show [V.ref bx, V.int ((e : Int) - 1)] ++ [] = [V.ref bx, V.int (e' : Int)]
          rw [he]
          simp
        · have hD4 : H' D = some (.lst acc) := S4.1 D _ (fun q => nbD q.symm) hD
          obtain ⟨_, u', v', ok4, hb4⟩ := id S4
          refine ⟨acc, hD4, small1000 (by omega), acc ++ [y], ⟨?_, u', v', ok4, by rw [upd_ne nbD]; exact hb4⟩, upd_same, by rw [List.length_append, List.length_singleton]; omega, fun z hz => ?_⟩
          · intro cc o nc hc
            rw [upd_ne (ne_of_none hc nD)]
            exact S4.1 cc o nc (sx cc o nc hc)
          · rcases List.mem_append.mp hz with hz | hz
            · exact ((hk z hz).pre S4).updl
            · rw [List.mem_singleton.mp hz]
              exact ay.1.updl
      · rintro Hh ⟨acc, S3, hD, ha, hk⟩
        refine ⟨_, rfl, _, _, rfl, rfl, _, rfl, ite2 (fun _ => ?_) (fun _ => ?_)⟩
        · refine ⟨_, rfl, D, acc, rfl, .inl ⟨SqL.of hD, fun l nl => ?_⟩⟩
          exact k _ _ ((S2.trans S3).then (Same.new nl)) (.tup upd_same (by omega) (fun z hz => (hk z hz).same (Same.new nl)))
        · exact ⟨_, rfl, k _ _ (S2.trans S3) (.lst hD (by omega) hk)⟩
    all_goals (
      refine ⟨_, rfl, _, _, rfl, rfl, ⟨by decide, by decide, by decide⟩, (by show 0 ≤ sizeLine; decide), fun p1 n1 => ⟨(by show 0 ≤ sizeLine; decide), fun p2 n2 => ⟨(by show 1 ≤ sizeLine; decide), fun p3 n3 => ⟨(by show 15 ≤ sizeLine; decide), fun l nl => ?_⟩⟩⟩⟩
      have b1 : bx ≠ p1 := ne_of_none hb1 n1
      have hb2 : upd H1 p1 (.tup []) bx = some (box u1 v1) := by rw [upd_ne b1]; exact hb1
      have S2 : Pre bx H (upd H1 p1 (.tup [])) := S1.then (Same.new n1)
      have a1 : AW cs (upd H1 p1 (.tup [])) (.ref p1) := .tup upd_same (Nat.zero_le _) (fun z hz => by cases hz)
      generalize upd H1 p1 (.tup []) = H2 at n2 n3 nl hb2 S2 a1 ⊢
      have b2 : bx ≠ p2 := ne_of_none hb2 n2
      have hb3 : upd H2 p2 (.lst []) bx = some (box u1 v1) := by rw [upd_ne b2]; exact hb2
      have S3 : Pre bx H (upd H2 p2 (.lst [])) := S2.then (Same.new n2)
      have a2 : AW cs (upd H2 p2 (.lst [])) (.ref p2) := .lst upd_same (Nat.zero_le _) (fun z hz => by cases hz)
      have a1' := a1.same (Same.new (o := .lst []) n2)
      generalize upd H2 p2 (.lst []) = H3 at n3 nl hb3 S3 a2 a1' ⊢
      have b3 : bx ≠ p3 := ne_of_none hb3 n3
      have hb4 : upd H3 p3 (.tup [.str "shut"]) bx = some (box u1 v1) := by rw [upd_ne b3]; exact hb3
      have S4 : Pre bx H (upd H3 p3 (.tup [.str "shut"])) := S3.then (Same.new n3)
      have c3 : AW cs (upd H3 p3 (.tup [.str "shut"])) (.ref p3) := .tup upd_same (by show 1 ≤ 100; decide) (fun z hz => by rw [List.mem_singleton.mp hz]; exact .str _)
      have c2 := a2.same (Same.new (o := .tup [.str "shut"]) n3)
      have c1 := a1'.same (Same.new (o := .tup [.str "shut"]) n3)
      generalize upd H3 p3 (.tup [.str "shut"]) = H4 at nl hb4 S4 c1 c2 c3 ⊢
      have bl : bx ≠ l := ne_of_none hb4 nl
      refine ⟨_, rfl, _, rfl, bx, l, u1, v1, _, rfl, (by rw [upd_ne bl]; exact hb4), ok1, (fun q => bl q.symm), SqL.of upd_same, (by show 1 ≤ 15; decide), (by show 15 ≤ 1000; decide), fun x u' v' hx ok' => ?_⟩
      have S5 : ∀ o : HO, Pre bx H4 (upd (upd H4 l o) bx (box u' v')) := fun o => ⟨(SameX.of (Same.new nl)).trans SameX.box, u', v', ok', upd_same⟩
      refine k x _ (S4.trans (S5 _)) ?_
      simp only [List.mem_cons, List.not_mem_nil, or_false] at hx
      rcases hx with rfl | rfl | rfl | rfl | rfl | rfl | rfl | rfl | rfl | rfl | rfl | rfl | rfl | rfl | rfl
      all_goals first | exact c1.pre (S5 _) | exact c2.pre (S5 _) | exact c3.pre (S5 _) | exact .flat .non (fun a q => nomatch q) | exact .flat (.bl _) (fun a q => nomatch q) | exact .flat (.str _) (fun a q => nomatch q) | exact .flat (.int _) (fun a q => nomatch q))
theorem ok_any {cs : List Addr} {f : Addr} {fd : FuncData} (F : Fun K "_law_anything" "_law_anything" sAny f fd) (T : BltC mg) (cC : CalChoose P w K mg base) (cO : CalOneOf P w K mg base)
    (m : mg "_law_anything" = some (.ref f)) (b : Binds K fd ["_law_box", "_law_deep"] []) : ∀ e : Nat, FnOk P w K mg base CX0 (3 + e) f fd ["_law_box", "_law_deep"] (spAny cs e)
  | 0 => any_step 0 F T cC cO m b (fun _ _ _ _ => False) ⟨fun _ _ _ _ h => h.elim, fun _ _ _ _ _ _ _ _ _ _ _ _ _ h => h.elim⟩ (.inl rfl)
  | e + 1 => any_step (e + 1) F T cC cO m b (spAny cs e) ((ok_any F T cC cO m b e).mono (by omega)) (.inr ⟨e, rfl, rfl⟩)
end
end V3

set_option Elab.async false
set_option linter.all false
set_option maxRecDepth 100000
namespace V3
open PySem L2
abbrev sAnyMove : Stmt := top 25
abbrev sMade : Stmt := top 26
theorem made_same {H : Hp} {y dy : Addr} {o1 o2 : HO} (ny : H y = none) (ndy : H dy = none) : Same H (upd (upd H dy o1) y o2) := fun b o e => by
  rw [upd_ne (ne_of_none e ny), upd_ne (ne_of_none e ndy)]
  exact e
theorem made_same2 {H : Hp} {y dy : Addr} {o1 o2 o3 : HO} (ny : H y = none) (ndy : H dy = none) : Same H (upd (upd (upd H dy o1) y o2) y o3) := fun b o e => by
  rw [upd_ne (ne_of_none e ny), upd_ne (ne_of_none e ny), upd_ne (ne_of_none e ndy)]
  exact e
/-- a drawn move, as the law says it -/
def MvOk (xs : List V) : Prop := ∃ t a : Int, 0 ≤ t ∧ t ≤ 1000000000 ∧ 1 ≤ a ∧ a ≤ 1000000000000 ∧
  (xs = [.str "begin", .int a] ∨ xs = [.str "take", .int t, .int 0] ∨ xs = [.str "take", .int t, .int a] ∨ xs = [.str "right", .int t, .int a] ∨ xs = [.str "shut"])
def spMv : Sp := fun vs H Q _ => ∃ (b : Addr) (u v : Int), vs = [.ref b] ∧ H b = some (box u v) ∧ BoxOk u v ∧ ∀ (p : Addr) (xs : List V) (H' : Hp), Pre b H H' → H' p = some (.tup xs) → MvOk xs → Q (.ref p) H'
theorem pick3 (x y z d : Int) (h0 : 0 ≤ d) (h3 : d < 3) : ∃ m, atI [V.int x, V.int y, V.int z] d = some (V.int m) ∧ (m = x ∨ m = y ∨ m = z) := by
  have e : d = 0 ∨ d = 1 ∨ d = 2 := by omega
  rcases e with rfl | rfl | rfl
  · exact ⟨x, rfl, .inl rfl⟩
  · exact ⟨y, rfl, .inr (.inl rfl)⟩
  · exact ⟨z, rfl, .inr (.inr rfl)⟩
section
variable {P : Program} {w : World} {K : PySem.W.Frag} {mg : Str → Option Value} {base : Heap}
theorem scAnyMove : FnScope ["_law_box", "_law_form", "_law_at", "_law_amount"] ["_law_box"] (defScope sAnyMove) := ⟨rfl, rfl, rfl, by decide +kernel, rfl, by decide +kernel, by decide +kernel⟩
theorem ok_anyMove {f : Addr} {fd : FuncData} (F : Fun K "_law_any_move" "_law_any_move" sAnyMove f fd) (cC : CalChoose P w K mg base) : FnOk P w K mg base CX0 2 f fd ["_law_box"] spMv := by
  obtain ⟨fC, fdC, GC, mC, kC, bC⟩ := cC
  refine F.ok scAnyMove (fun vs H Q E h => ?_) (fun cdv A outer s H vs Q E hr h => ?_)
  · obtain ⟨b, u, v, rfl, _⟩ := h
    rfl
  · obtain ⟨b, u, v, rfl, hb, ok, k⟩ := h
    refine ⟨_, pss_cons (ps_par (i := 1) (j := 2) rfl scAnyMove.nd rfl rfl (by decide) rfl rfl (pa_cons (pe_call GC hr rfl mC kC bC .nil pass0 (pa_cons (pv 0) (pa_cons pe_int pa_nil)))
          (pa_cons (pe_call GC hr rfl mC kC bC .nil pass0 (pa_cons (pv 0) (pa_cons (pe_ix ix_list (pe_lst (pa_cons pe_int (pa_cons pe_int (pa_cons (pe_op op_pow pe_int pe_int) pa_nil)))) (pe_call GC hr rfl mC kC bC .nil pass0 (pa_cons (pv 0) (pa_cons pe_int pa_nil))) (fun _ _ => rfl)) pa_nil))) pa_nil)) (by rfl))
      (pss_cons (ps_set (i := 3) scAnyMove.nd rfl (Or.inl rfl) (pe_op op_add pe_int (pe_call GC hr rfl mC kC bC .nil pass0 (pa_cons (pv 0) (pa_cons (pe_ix ix_list (pe_lst (pa_cons pe_int (pa_cons pe_int (pa_cons (pe_op op_pow pe_int pe_int) pa_nil)))) (pe_call GC hr rfl mC kC bC .nil pass0 (pa_cons (pv 0) (pa_cons pe_int pa_nil))) (fun _ _ => rfl)) pa_nil)))))
      (pss_one (ps_ret (pe_ix ix_list (pe_lst (pa_cons (pe_tup (pa_cons pe_str (pa_cons (pv 3) pa_nil))) (pa_cons (pe_tup (pa_cons pe_str (pa_cons (pv 2) (pa_cons pe_int pa_nil)))) (pa_cons (pe_tup (pa_cons pe_str (pa_cons (pv 2) (pa_cons (pv 3) pa_nil)))) (pa_cons (pe_tup (pa_cons pe_str (pa_cons (pv 2) (pa_cons (pv 3) pa_nil)))) (pa_cons (pe_tup (pa_cons pe_str pa_nil)) pa_nil)))))) (pv 1) (fun _ _ => rfl))))), ?_⟩
    refine ⟨_, rfl, b, u, v, 5, rfl, hb, ok, (by decide), (by decide), fun d u1 v1 d0 d5 ok1 => ?_⟩
    have S1 : Pre b H (upd H b (box u1 v1)) := Pre.box ok1
    have hb1 : upd H b (box u1 v1) b = some (box u1 v1) := upd_same
    generalize upd H b (box u1 v1) = H1 at S1 hb1 ⊢
    refine ⟨_, rfl, _, _, rfl, rfl, ⟨by decide, by decide, by decide⟩, (by show 3 ≤ sizeLine; decide), fun l nl => ?_⟩
    have nbl : b ≠ l := ne_of_none hb1 nl
    refine ⟨_, rfl, b, u1, v1, 3, rfl, (by rw [upd_ne nbl]; exact hb1), ok1, (by decide), (by decide), fun d2 u2 v2 e0 e3 ok2 => ?_⟩
    obtain ⟨m, hm, cm⟩ := pick3 3 12 (10 ^ (9 : Int).toNat) d2 e0 e3
    have p9 : (10 : Int) ^ (9 : Int).toNat = 1000000000 := by decide
    rw [p9] at cm
    have ll : ∀ o o' : HO, upd (upd H1 l o) b o' l = some o := fun o o' => by rw [upd_ne (Ne.symm nbl)]; exact upd_same
    refine ⟨l, _, d2, .int m, rfl, rfl, SqL.of (ll _ _), hm, ?_⟩
    have S2 : ∀ o : HO, Pre b H (upd (upd H1 l o) b (box u2 v2)) := fun o => ((S1.then (Same.new nl)).trans (Pre.box ok2))
    refine ⟨b, u2, v2, m, rfl, upd_same, ok2, (by omega), (by omega), fun at_ u3 v3 a0 am ok3 => ?_⟩
    have S3 : ∀ o : HO, Pre b H (upd (upd (upd H1 l o) b (box u2 v2)) b (box u3 v3)) := fun o => (S2 o).trans (Pre.box ok3)
    refine ⟨_, _, rfl, ?_⟩
    have S3' := S3 (.lst [.int 3, .int 12, .int (10 ^ (9 : Int).toNat)])
    have hb3 : upd (upd (upd H1 l (.lst [.int 3, .int 12, .int (10 ^ (9 : Int).toNat)])) b (box u2 v2)) b (box u3 v3) b = some (box u3 v3) := upd_same
    generalize upd (upd (upd H1 l (.lst [.int 3, .int 12, .int (10 ^ (9 : Int).toNat)])) b (box u2 v2)) b (box u3 v3) = H3 at S3' hb3
    clear S3 S2 ll
    refine ⟨_, rfl, _, _, rfl, rfl, ⟨by decide, by decide, by decide⟩, (by show 3 ≤ sizeLine; decide), fun l4 nl4 => ?_⟩
    have nbl4 : b ≠ l4 := ne_of_none hb3 nl4
    refine ⟨_, rfl, b, u3, v3, 3, rfl, (by rw [upd_ne nbl4]; exact hb3), ok3, (by decide), (by decide), fun d4 u4 v4 g0 g3 ok4 => ?_⟩
    obtain ⟨m4, hm4, cm4⟩ := pick3 3 99 (10 ^ (12 : Int).toNat) d4 g0 g3
    have p12 : (10 : Int) ^ (12 : Int).toNat = 1000000000000 := by decide
    rw [p12] at cm4
    have ll4 : ∀ o o' : HO, upd (upd H3 l4 o) b o' l4 = some o := fun o o' => by rw [upd_ne (Ne.symm nbl4)]; exact upd_same
    refine ⟨l4, _, d4, .int m4, rfl, rfl, SqL.of (ll4 _ _), hm4, ?_⟩
    refine ⟨b, u4, v4, m4, rfl, upd_same, ok4, (by omega), (by omega), fun am u5 v5 am0 am1 ok5 => ?_⟩
    refine ⟨_, _, rfl, rfl, ?_⟩
    have S5 : Pre b H (upd (upd (upd H3 l4 (.lst [.int 3, .int 99, .int (10 ^ (12 : Int).toNat)])) b (box u4 v4)) b (box u5 v5)) := ((S3'.then (Same.new nl4)).trans (Pre.box ok4)).trans (Pre.box ok5)
    have hb5 : upd (upd (upd H3 l4 (.lst [.int 3, .int 99, .int (10 ^ (12 : Int).toNat)])) b (box u4 v4)) b (box u5 v5) b = some (box u5 v5) := upd_same
    generalize upd (upd (upd H3 l4 (.lst [.int 3, .int 99, .int (10 ^ (12 : Int).toNat)])) b (box u4 v4)) b (box u5 v5) = H5 at S5 hb5
    clear ll4
    -- the five forms
    refine ⟨_, rfl, (by show 2 ≤ sizeLine; decide), fun p1 n1 => ?_⟩
    have S6 := S5.then (Same.new (o := .tup [.str "begin", .int (1 + am)]) n1)
    have t1 : upd H5 p1 (.tup [.str "begin", .int (1 + am)]) p1 = some (.tup [.str "begin", .int (1 + am)]) := upd_same
    generalize upd H5 p1 (.tup [.str "begin", .int (1 + am)]) = H6 at S6 t1
    refine ⟨_, rfl, (by show 3 ≤ sizeLine; decide), fun p2 n2 => ?_⟩
    have S7 := S6.then (Same.new (o := .tup [.str "take", .int at_, .int 0]) n2)
    have s7 : Same H6 (upd H6 p2 (.tup [.str "take", .int at_, .int 0])) := Same.new n2
    have t2 : upd H6 p2 (.tup [.str "take", .int at_, .int 0]) p2 = some (.tup [.str "take", .int at_, .int 0]) := upd_same
    generalize upd H6 p2 (.tup [.str "take", .int at_, .int 0]) = H7 at S7 s7 t2
    refine ⟨_, rfl, _, rfl, (by show 3 ≤ sizeLine; decide), fun p3 n3 => ?_⟩
    have S8 := S7.then (Same.new (o := .tup [.str "take", .int at_, .int (1 + am)]) n3)
    have s8 : Same H7 (upd H7 p3 (.tup [.str "take", .int at_, .int (1 + am)])) := Same.new n3
    have t3 : upd H7 p3 (.tup [.str "take", .int at_, .int (1 + am)]) p3 = some (.tup [.str "take", .int at_, .int (1 + am)]) := upd_same
    generalize upd H7 p3 (.tup [.str "take", .int at_, .int (1 + am)]) = H8 at S8 s8 t3
    refine ⟨_, rfl, _, rfl, (by show 3 ≤ sizeLine; decide), fun p4 n4 => ?_⟩
    have S9 := S8.then (Same.new (o := .tup [.str "right", .int at_, .int (1 + am)]) n4)
    have s9 : Same H8 (upd H8 p4 (.tup [.str "right", .int at_, .int (1 + am)])) := Same.new n4
    have t4 : upd H8 p4 (.tup [.str "right", .int at_, .int (1 + am)]) p4 = some (.tup [.str "right", .int at_, .int (1 + am)]) := upd_same
    generalize upd H8 p4 (.tup [.str "right", .int at_, .int (1 + am)]) = H9 at S9 s9 t4
    refine ⟨(by show 1 ≤ sizeLine; decide), fun p5 n5 => ?_⟩
    have Sa := S9.then (Same.new (o := .tup [.str "shut"]) n5)
    have sa : Same H9 (upd H9 p5 (.tup [.str "shut"])) := Same.new n5
    have t5 : upd H9 p5 (.tup [.str "shut"]) p5 = some (.tup [.str "shut"]) := upd_same
    generalize upd H9 p5 (.tup [.str "shut"]) = Ha at Sa sa t5
    refine ⟨(by show 5 ≤ sizeLine; decide), fun l6 n6 => ?_⟩
    have sb : ∀ o : HO, Same Ha (upd Ha l6 o) := fun o => Same.new n6
    have fin : ∀ (p : Addr) (xs : List V) (o : HO), Ha p = some (.tup xs) → MvOk xs → Q (.ref p) (upd Ha l6 o) := fun p xs o e ok => k p xs _ (Sa.then (sb o)) (sb o _ _ e) ok
    have e5 : d = 0 ∨ d = 1 ∨ d = 2 ∨ d = 3 ∨ d = 4 := by omega
    have a1 : 1 ≤ 1 + am := by omega
    have a2 : 1 + am ≤ 1000000000000 := by omega
    have b2 : at_ ≤ 1000000000 := by omega
    rcases e5 with rfl | rfl | rfl | rfl | rfl
    · exact ⟨_, rfl, l6, _, 0, _, rfl, rfl, SqL.of upd_same, rfl, fin _ _ _ (sa _ _ (s9 _ _ (s8 _ _ (s7 _ _ t1)))) ⟨at_, 1 + am, a0, b2, a1, a2, .inl rfl⟩⟩
    · exact ⟨_, rfl, l6, _, 1, _, rfl, rfl, SqL.of upd_same, rfl, fin _ _ _ (sa _ _ (s9 _ _ (s8 _ _ t2))) ⟨at_, 1 + am, a0, b2, a1, a2, .inr (.inl rfl)⟩⟩
    · exact ⟨_, rfl, l6, _, 2, _, rfl, rfl, SqL.of upd_same, rfl, fin _ _ _ (sa _ _ (s9 _ _ t3)) ⟨at_, 1 + am, a0, b2, a1, a2, .inr (.inr (.inl rfl))⟩⟩
    · exact ⟨_, rfl, l6, _, 3, _, rfl, rfl, SqL.of upd_same, rfl, fin _ _ _ (sa _ _ t4) ⟨at_, 1 + am, a0, b2, a1, a2, .inr (.inr (.inr (.inl rfl)))⟩⟩
    · exact ⟨_, rfl, l6, _, 4, _, rfl, rfl, SqL.of upd_same, rfl, fin _ _ _ t5 ⟨at_, 1 + am, a0, b2, a1, a2, .inr (.inr (.inr (.inr rfl)))⟩⟩
/-! a move of the program -/
structure MkTxt (P : Program) (w : World) (K : PySem.W.Frag) (mg : Str → Option Value) (base : Heap) (name : Str) (ps : List Str) (C : Addr) (spI : Sp) (dv : List V) : Prop where
  g : mg name = some (.ref C)
  ini : ∃ (f : Addr) (fd : FuncData), FnOk P w K mg base (L2.CX P w) 4 f fd ps spI ∧ Mk K C f ∧ Binds K fd ps [] ∧ ∃ ds, Vals dv ds ∧ Binds K fd ps ds
def spMade (mv : List Addr) : Sp := fun vs H Q _ => ∃ (p : Addr) (xs : List V), vs = [.ref p] ∧ H p = some (.tup xs) ∧ MvOk xs ∧ ∀ (x C dx : Addr) (fs : List (Str × V)) (H' : Hp), Same H H' → H' x = some (.ins C dx fs) → C ∈ mv → Q (.ref x) H'
theorem scMade : FnScope ["_law_move"] ["_law_move"] (defScope sMade) := ⟨rfl, rfl, rfl, by decide +kernel, rfl, by decide +kernel, by decide +kernel⟩
theorem num_yes {i n : Int} (h : n ≤ i) : isNum (.int i) n = true := decide_eq_true h
theorem ok_made {f BC TC RC SC CM : Addr} {mv : List Addr} {fd : FuncData} (F : Fun K "_law_made" "_law_made" sMade f fd)
    (mB : MkTxt P w K mg base "Begin" ["self", "amount"] BC (spBegin BC CM) []) (mT : MkTxt P w K mg base "Take" ["self", "at", "amount"] TC (spTake TC CM) [.non]) (mR : MkTxt P w K mg base "Right" ["self", "at", "amount"] RC (spRight RC CM) [])
    (mS : Mk0 K SC) (gS : mg "Shut" = some (.ref SC)) (iB : BC ∈ mv) (iT : TC ∈ mv) (iR : RC ∈ mv) (iS : SC ∈ mv) : FnOk P w K mg base CX0 6 f fd ["_law_move"] (spMade mv) := by
  obtain ⟨f1, fd1, G1, M1, b1, _⟩ := mB.ini
  obtain ⟨f3, fd3, G3, M3, b3, ds3, vd3, c3⟩ := mT.ini
  obtain ⟨f5, fd5, G5, M5, b5, _⟩ := mR.ini
  refine F.ok scMade (fun vs H Q E h => ?_) (fun cdv A outer s H vs Q E hr h => ?_)
  · obtain ⟨p, xs, rfl, _⟩ := h
    rfl
  · obtain ⟨p, xs, rfl, hp, ok, k⟩ := h
    refine ⟨_, pss_cons (ps_if (pt_cmpR op_eq (pe_ix ix_tup (pv 0) pe_int (fun _ _ => rfl)) pe_str (nomark _)) (pss_one (ps_ret (pe_make M1 G1 hr rfl mB.g b1 .nil passL (pa_cons (pe_ix ix_tup (pv 0) pe_int (fun _ _ => rfl)) pa_nil)))) pss_nil)
      (pss_cons (ps_if (pt_cmpR op_eq (pe_ix ix_tup (pv 0) pe_int (fun _ _ => rfl)) pe_str (nomark _)) (pss_one (ps_ret (pe_new0 mS rfl gS))) pss_nil)
      (pss_cons (ps_if (pt_cmpR op_eq (pe_ix ix_tup (pv 0) pe_int (fun _ _ => rfl)) pe_str (nomark _)) (pss_one (ps_ret (pe_make M5 G5 hr rfl mR.g b5 .nil passL (pa_cons (pe_ix ix_tup (pv 0) pe_int (fun _ _ => rfl)) (pa_cons (pe_ix ix_tup (pv 0) pe_int (fun _ _ => rfl)) pa_nil))))) pss_nil)
      (pss_one (ps_ret (pe_ifExp (pt_cmpR op_eq (pe_ix ix_tup (pv 0) pe_int (fun _ _ => rfl)) pe_int (nomark _)) (pe_make M3 G3 hr rfl mT.g c3 vd3 passL (pa_cons (pe_ix ix_tup (pv 0) pe_int (fun _ _ => rfl)) pa_nil))
        (pe_make M3 G3 hr rfl mT.g b3 .nil passL (pa_cons (pe_ix ix_tup (pv 0) pe_int (fun _ _ => rfl)) (pa_cons (pe_ix ix_tup (pv 0) pe_int (fun _ _ => rfl)) pa_nil)))))))), ?_⟩
    have hS : SqT K H p xs := SqT.of hp
    obtain ⟨t, a, t0, t9, a1, a12, cs⟩ := ok
    have ta : t.natAbs ≤ 1000000000000 := by omega
    have aa : a.natAbs ≤ 1000000000000 := by omega
    have rd : ∀ (i : Int) (v : V) {B : Prop}, B → True := fun _ _ _ _ => trivial
    have e1 : decide (V.str "take" = V.str "begin") = false := by decide +kernel
    have e2 : decide (V.str "take" = V.str "shut") = false := by decide +kernel
    have e3 : decide (V.str "take" = V.str "right") = false := by decide +kernel
    have e4 : decide (V.str "right" = V.str "begin") = false := by decide +kernel
    have e5 : decide (V.str "right" = V.str "shut") = false := by decide +kernel
    have e6 : decide (V.str "shut" = V.str "begin") = false := by decide +kernel
    rcases cs with rfl | rfl | rfl | rfl | rfl
    · refine ⟨_, rfl, p, _, 0, _, rfl, rfl, hS, rfl, rfl, _, rfl, ?_⟩
      rw [decide_eq_true rfl]
      refine iteT ⟨_, rfl, p, _, 1, _, rfl, rfl, hS, rfl, fun y dy ny ndy ne => ⟨y, dy, .int a, rfl, upd_same, .int _ aa, fun _ => ⟨rfl, k y BC dy _ _ (made_same2 ny ndy) upd_same iB⟩, fun e => absurd (num_yes a1) (by rw [e]; decide)⟩⟩
    · refine ⟨_, rfl, p, _, 0, _, rfl, rfl, hS, rfl, rfl, _, rfl, ?_⟩
      rw [e1]
      refine iteF ⟨_, rfl, p, _, 0, _, rfl, rfl, hS, rfl, rfl, _, rfl, ?_⟩
      rw [e2]
      refine iteF ⟨_, rfl, p, _, 0, _, rfl, rfl, hS, rfl, rfl, _, rfl, ?_⟩
      rw [e3]
      refine iteF ⟨_, rfl, p, _, 2, _, rfl, rfl, hS, rfl, rfl, _, rfl, ?_⟩
      rw [decide_eq_true rfl]
      exact iteT ⟨_, rfl, p, _, 1, _, rfl, rfl, hS, rfl, fun y dy ny ndy ne => ⟨y, dy, .int t, .non, rfl, upd_same, .int _ ta, .non, fun _ _ => ⟨rfl, k y TC dy _ _ (made_same2 ny ndy) upd_same iT⟩, fun e => absurd (num_yes t0) (by rw [e]; decide), fun _ c => absurd rfl c⟩⟩
    · refine ⟨_, rfl, p, _, 0, _, rfl, rfl, hS, rfl, rfl, _, rfl, ?_⟩
      rw [e1]
      refine iteF ⟨_, rfl, p, _, 0, _, rfl, rfl, hS, rfl, rfl, _, rfl, ?_⟩
      rw [e2]
      refine iteF ⟨_, rfl, p, _, 0, _, rfl, rfl, hS, rfl, rfl, _, rfl, ?_⟩
      rw [e3]
      refine iteF ⟨_, rfl, p, _, 2, _, rfl, rfl, hS, rfl, rfl, _, rfl, ?_⟩
      rw [decide_eq_false (show ¬ V.int a = V.int 0 from fun z => by injection z with z; omega)]
      exact iteF ⟨_, rfl, p, _, 1, _, rfl, rfl, hS, rfl, _, rfl, p, _, 2, _, rfl, rfl, hS, rfl, fun y dy ny ndy ne => ⟨y, dy, .int t, .int a, rfl, upd_same, .int _ ta, .int _ aa, fun _ _ => ⟨rfl, k y TC dy _ _ (made_same2 ny ndy) upd_same iT⟩, fun e => absurd (num_yes t0) (by rw [e]; decide), fun _ _ e => absurd (num_yes a1) (by rw [e]; decide)⟩⟩
    · refine ⟨_, rfl, p, _, 0, _, rfl, rfl, hS, rfl, rfl, _, rfl, ?_⟩
      rw [e4]
      refine iteF ⟨_, rfl, p, _, 0, _, rfl, rfl, hS, rfl, rfl, _, rfl, ?_⟩
      rw [e5]
      refine iteF ⟨_, rfl, p, _, 0, _, rfl, rfl, hS, rfl, rfl, _, rfl, ?_⟩
      rw [decide_eq_true rfl]
      exact iteT ⟨_, rfl, p, _, 1, _, rfl, rfl, hS, rfl, _, rfl, p, _, 2, _, rfl, rfl, hS, rfl, fun y dy ny ndy ne => ⟨y, dy, .int t, .int a, rfl, upd_same, .int _ ta, .int _ aa, fun _ _ => ⟨rfl, k y RC dy _ _ (made_same2 ny ndy) upd_same iR⟩, fun e => absurd (num_yes t0) (by rw [e]; decide), fun _ e => absurd (num_yes a1) (by rw [e]; decide)⟩⟩
    · refine ⟨_, rfl, p, _, 0, _, rfl, rfl, hS, rfl, rfl, _, rfl, ?_⟩
      rw [e6]
      refine iteF ⟨_, rfl, p, _, 0, _, rfl, rfl, hS, rfl, rfl, _, rfl, ?_⟩
      rw [decide_eq_true rfl]
      exact iteT fun y dy ny ndy ne => k y SC dy _ _ (made_same ny ndy) upd_same iS
end
end V3

set_option Elab.async false
set_option linter.all false
set_option maxRecDepth 100000
namespace V3
open PySem L2
abbrev sIsMoves : Stmt := top 16
abbrev sHInit : Stmt := inClass (top 15) 0
abbrev sHLen : Stmt := inClass (top 15) 2
/-- is it an instance of one of the classes of moves -/
def isMvO (mv : List Addr) : Option HO → Bool
  | some (.ins C _ _) => decide (C ∈ mv)
  | _ => false
def isMv (mv : List Addr) (H : Hp) : V → Bool
  | .ref a => isMvO mv (H a)
  | _ => false
/-- are all items moves, if it is a list or a tuple -/
def okV (mv : List Addr) (H : Hp) (v : V) : Bool := match itemsOf H v with
  | some xs => xs.all (isMv mv H)
  | none => false
/-- what the written part says of the classes cs, of which mv are moves (MV their base) -/
structure ClsF (K : PySem.W.Frag) (mv cs : List Addr) (MV : Addr) : Prop where
  cl : ∀ C ∈ cs, Cls K C ∧ PySem.W.findIn K (.ref C) "__class__" = some (some (.builtin "object.__class__")) ∧ PySem.W.mroIn K C (.type "object") = some true ∧
    PySem.W.subIn K (.ref C) (.type "list") = some false ∧ PySem.W.subIn K (.ref C) (.type "tuple") = some false ∧ PySem.W.kitOne K (.ref C) (.ref MV) = some (decide (C ∈ mv))
  gn : PySem.W.specialIn K (.builtin "object.__class__") "__get__" = some (some (.builtin "getset_descriptor.__get__"))
  tk : PySem.W.takesIn K (.builtin "object.__class__") = some true
  is : PySem.W.isClsIn K MV = true
  ty : PySem.W.typeIn K (.ref MV) = some (.type "type")
  flat : PySem.W.subIn K (.type "NoneType") (.ref MV) = some false ∧ PySem.W.subIn K (.type "bool") (.ref MV) = some false ∧ PySem.W.subIn K (.type "int") (.ref MV) = some false ∧
    PySem.W.subIn K (.type "str") (.ref MV) = some false ∧ PySem.W.subIn K (.type "list") (.ref MV) = some false ∧ PySem.W.subIn K (.type "tuple") (.ref MV) = some false
theorem kit_tr {K : PySem.W.Frag} {T : String} {C : Addr} (h1 : PySem.W.isClsIn K C = true) (h2 : PySem.W.typeIn K (.ref C) = some (.type "type")) {b : Bool} (h3 : PySem.W.subIn K (.type T) (.ref C) = some b) : PySem.W.kitOne K (.type T) (.ref C) = some b := by
  unfold PySem.W.kitOne
  rw [if_neg (by intro z; cases (beq_iff_eq.mp z))]
  have q : ((PySem.W.clsIn K C).isSome && PySem.W.typeIn K (.ref C) == some (.type "type")) = true := by
    have z : (PySem.W.clsIn K C).isSome = true := h1
    rw [z, h2] <;> rfl
  show (if ((PySem.W.clsIn K C).isSome && PySem.W.typeIn K (.ref C) == some (.type "type")) = true then PySem.W.subIn K (.type T) (.ref C) else none) = some b
  rw [if_pos q]
  exact h3
theorem kit_rt {K : PySem.W.Frag} {T : String} {C : Addr} {b : Bool} (hm : PySem.W.kitMeta T = true) (h3 : PySem.W.subIn K (.ref C) (.type T) = some b) : PySem.W.kitOne K (.ref C) (.type T) = some b := by
  unfold PySem.W.kitOne
  rw [if_neg (by intro z; cases (beq_iff_eq.mp z))]
  show (if PySem.W.kitMeta T = true then PySem.W.subIn K (.ref C) (.type T) else none) = some b
  rw [if_pos hm]
  exact h3
theorem kit2 {K : PySem.W.Frag} {t : Value} {b1 b2 : Bool} (h1 : PySem.W.kitOne K t (.type "list") = some b1) (h2 : PySem.W.kitOne K t (.type "tuple") = some b2) : PySem.W.kitAny K t [.type "list", .type "tuple"] = some (b1 || b2) := by
  refine kitAny_cons h1 (fun z => kitAny_cons h2 (fun z2 => ?_) (fun z2 => ?_)) (fun z => ?_)
  · rw [z, z2]
    exact kitAny_nil
  · rw [z, z2]
    rfl
  · rw [z]
    rfl
/-- its type, and what isinstance says of it -/
theorem tk_ty {K : PySem.W.Frag} {mv cs : List Addr} {MV : Addr} {H : Hp} {v : V} (F : ClsF K mv cs MV) (h : TK cs H v) : ∃ t, TyX K H v t ∧ PySem.W.kitAny K t [.type "list", .type "tuple"] = some (itemsOf H v).isSome ∧ PySem.W.kitOne K t (.ref MV) = some (isMv mv H v) := by
  obtain ⟨f1, f2, f3, f4, f5, f6⟩ := F.flat
  have k (n m : String) {b : Bool} (h : kitB n m = some b) : PySem.W.kitOne K (.type n) (.type m) = some b := kit_ty h
  cases h with
  | non => exact ⟨_, .base .non, kit2 (b1 := false) (b2 := false) (k "NoneType" "list" (by decide +kernel)) (k "NoneType" "tuple" (by decide +kernel)), kit_tr F.is F.ty f1⟩
  | bl b => exact ⟨_, .base (.bl b), kit2 (b1 := false) (b2 := false) (k "bool" "list" (by decide +kernel)) (k "bool" "tuple" (by decide +kernel)), kit_tr F.is F.ty f2⟩
  | int i => exact ⟨_, .base (.int i), kit2 (b1 := false) (b2 := false) (k "int" "list" (by decide +kernel)) (k "int" "tuple" (by decide +kernel)), kit_tr F.is F.ty f3⟩
  | str z => exact ⟨_, .base (.str z), kit2 (b1 := false) (b2 := false) (k "str" "list" (by decide +kernel)) (k "str" "tuple" (by decide +kernel)), kit_tr F.is F.ty f4⟩
  | @lst a xs h =>
    have e : (itemsOf H (.ref a)).isSome = true := by
      show (seqOf (H a)).isSome = true
      rw [h]
      rfl
    have e2 : isMv mv H (.ref a) = false := by
      show isMvO mv (H a) = false
      rw [h]
      rfl
    rw [e, e2]
    exact ⟨_, .base (.lst h), kit2 (b1 := true) (b2 := false) (k "list" "list" (by decide +kernel)) (k "list" "tuple" (by decide +kernel)), kit_tr F.is F.ty f5⟩
  | @tup a xs h =>
    have e : (itemsOf H (.ref a)).isSome = true := by
      show (seqOf (H a)).isSome = true
      rw [h]
      rfl
    have e2 : isMv mv H (.ref a) = false := by
      show isMvO mv (H a) = false
      rw [h]
      rfl
    rw [e, e2]
    exact ⟨_, .base (.tup h), kit2 (b1 := false) (b2 := true) (k "tuple" "list" (by decide +kernel)) (k "tuple" "tuple" (by decide +kernel)), kit_tr F.is F.ty f6⟩
  | @ins a C dx fs h c =>
    obtain ⟨cl, ca, mo, sl, st, km⟩ := F.cl C c
    have e : (itemsOf H (.ref a)).isSome = false := by
      show (seqOf (H a)).isSome = false
      rw [h]
      rfl
    have e2 : isMv mv H (.ref a) = decide (C ∈ mv) := by
      show isMvO mv (H a) = _
      rw [h]
      rfl
    rw [e, e2]
    exact ⟨_, .base (.ins h cl ca F.gn F.tk mo), kit2 (b1 := false) (b2 := false) (kit_rt (by decide +kernel) sl) (kit_rt (by decide +kernel) st), km⟩
theorem isMv_same {mv cs : List Addr} {H H' : Hp} {v : V} (h : TK cs H v) (s : Same H H') : isMv mv H' v = isMv mv H v := by
  cases h with
  | non => rfl
  | bl b => rfl
  | int i => rfl
  | str z => rfl
  | @lst a xs h =>
    show isMvO mv (H' a) = isMvO mv (H a)
    rw [h, s _ _ h]
  | @tup a xs h =>
    show isMvO mv (H' a) = isMvO mv (H a)
    rw [h, s _ _ h]
  | @ins a C dx fs h c =>
    show isMvO mv (H' a) = isMvO mv (H a)
    rw [h, s _ _ h]
theorem all_congr {f g : V → Bool} : ∀ {xs : List V}, (∀ z ∈ xs, f z = g z) → xs.all f = xs.all g
  | [], _ => rfl
  | x :: xs, h => by
    rw [List.all_cons, List.all_cons, h x (List.mem_cons_self ..), all_congr fun z hz => h z (List.mem_cons_of_mem _ hz)]
theorem okV_same {mv cs : List Addr} {H H' : Hp} {v : V} (h : AW cs H v) (s : Same H H') : okV mv H' v = okV mv H v := by
  unfold okV
  rw [items_same h.1 s]
  cases e : itemsOf H v with
  | none => rfl
  | some xs => exact all_congr fun z hz => isMv_same ((h.2 xs e).2 z hz) s
def spIsMoves (mv cs : List Addr) : Sp := fun vs H Q _ => ∃ v, vs = [v] ∧ AW cs H v ∧ ∀ H', Same H H' → Q (.bl (okV mv H v)) H'
structure BltD (mg : Str → Option Value) : Prop where
  isi : mg "isinstance" = none
  list : mg "list" = none
  tuple : mg "tuple" = none
  all : mg "all" = none
section
variable {P : Program} {w : World} {K : PySem.W.Frag} {mg : Str → Option Value} {base : Heap}
theorem scIsMoves : FnScope ["value", "item"] ["value"] (defScope sIsMoves) := ⟨rfl, rfl, rfl, by decide +kernel, rfl, by decide +kernel, by decide +kernel⟩
/-- [isinstance(item, Move) for item in value]: what the new list holds behind i items -/
def Told (mv cs : List Addr) (H : Hp) (xs : List V) (D : Addr) (i : Nat) (Hh : Hp) : Prop := Same H Hh ∧ H D = none ∧ Hh D = some (.lst ((xs.take i).map fun z => V.bl (isMv mv H z)))
theorem take_next {α : Type} : ∀ {l : List α} {i : Nat} {x : α}, l[i]? = some x → l.take (i + 1) = l.take i ++ [x]
  | [], i, x, h => by simp at h
  | a :: l, 0, x, h => by
    have e : a = x := Option.some.inj h
    subst e
    rfl
  | a :: l, i + 1, x, h => by
    have ih := take_next (l := l) (i := i) (x := x) h
    show a :: l.take (i + 1) = a :: l.take i ++ [x]
    rw [ih]
    rfl
theorem told_turn {mv cs : List Addr} {MV D : Addr} {H Hh : Hp} {xs : List V} {i : Nat} {z : V} {σ : L2.St} (C : ClsF K mv cs MV) (kz : ∀ z ∈ xs, TK cs H z) (l : xs.length ≤ 100) (hi : xs[i]? = some z) (p : Told mv cs H xs D i Hh) (hσ : σ[1]? = some (some z)) :
    tCB (rIsi K) (tCons (tVar 1) (tCons (tC (.ref MV)) tNil)) σ Hh (fun y H4 => ∃ acc, H4 D = some (.lst acc) ∧ acc.length < sizeLine ∧ Told mv cs H xs D (i + 1) (upd H4 D (.lst (acc ++ [y])))) := by
  obtain ⟨s1, n, e⟩ := p
  have hz : z ∈ xs := List.mem_of_getElem? hi
  obtain ⟨t, ty, _, km⟩ := tk_ty (K := K) C ((kz z hz).same s1)
  refine ⟨_, hσ, _, _, t, _, _, rfl, .own MV, ty, km, _, e, ?_, fun c o h => ?_, n, ?_⟩
  · refine small1000 ?_
    rw [List.length_map, List.length_take]
    omega
  · rw [upd_ne (ne_of_none h n)]
    exact s1 c o h
  · rw [upd_same, take_next hi, List.map_append, isMv_same (kz z hz) s1]
    rfl
theorem told_end {mv cs : List Addr} {D : Addr} {H Hh : Hp} {xs : List V} {Q : VK} (p : Told mv cs H xs D xs.length Hh) (k : ∀ H', Same H H' → Q (.bl (xs.all (isMv mv H))) H') : rAll K [.ref D] Hh Q := by
  obtain ⟨s1, n, e⟩ := p
  refine ⟨D, xs.map (isMv mv H), rfl, SqL.of (by rw [e, List.take_length, List.map_map]; rfl), ?_⟩
  have z : (xs.map (isMv mv H)).all id = xs.all (isMv mv H) := by
    rw [List.all_map]
    rfl
  rw [z]
  exact k _ s1
/-- isinstance(value, (list, tuple)) and all([..]) -/
theorem ok_isMoves {f MV : Addr} {mv cs : List Addr} {fd : FuncData} (F : Fun K "is_moves" "is_moves" sIsMoves f fd) (T : BltD mg) (C : ClsF K mv cs MV) (gM : mg "Move" = some (.ref MV)) : FnOk P w K mg base CX0 1 f fd ["value"] (spIsMoves mv cs) := by
  refine F.ok scIsMoves (fun vs H Q E h => ?_) (fun cdv A outer s H vs Q E hr h => ?_)
  · obtain ⟨v, rfl, _⟩ := h
    rfl
  · obtain ⟨v, rfl, aw, k⟩ := h
    by_cases isT : ∃ a xs, v = .ref a ∧ H a = some (.tup xs)
    · obtain ⟨a, xs, rfl, ha⟩ := isT
      have ei : itemsOf H (.ref a) = some xs := by
        show seqOf (H a) = _
        rw [ha]
        rfl
      obtain ⟨l100, kz⟩ := aw.2 xs ei
      refine ⟨_, pss_one (ps_ret (pe_and (pe_callB call_isiT (by rfl) T.isi (by decide +kernel) (pa_cons (pv 0) (pa_cons (pe_tup (pa_cons (pe_bltn (v := .ty "list") (by rfl) T.list (by decide +kernel) rfl) (pa_cons (pe_bltn (v := .ty "tuple") (by rfl) T.tuple (by decide +kernel) rfl) pa_nil))) pa_nil)))
        (pe_one (pe_callB (cr_all rfl) (by rfl) T.all (by decide +kernel) (pa_cons (pe_lc (own := [("item", 1)]) (g := gName 1) (tt := tYes) (te := tCB (rIsi K) (tCons (tVar 1) (tCons (tC (.ref MV)) tNil))) (by rfl) scIsMoves.nd (pi_tup (pv 0)) (blkOk_by (own := [("item", 1)]) (N := ["value", "item"]) (sc := defScope sIsMoves) (by decide +kernel)) (fun _ _ _ _ _ => pg_name (i := 1) scIsMoves.nd rfl (Or.inl rfl)) (fun _ _ _ _ _ => pts_nil)
          (fun _ _ _ _ _ => pe_callB call_isi (by rfl) T.isi (by decide +kernel) (pa_cons (pv 1) (pa_cons (pe_glob (v := .ref MV) rfl gM rfl) pa_nil)))) pa_nil))))), ?_⟩
      refine ⟨_, rfl, (by show 2 ≤ sizeLine; decide), fun tp ntp => ?_⟩
      have s1 : Same H (upd H tp (.tup [.ty "list", .ty "tuple"])) := Same.new ntp
      have aw1 := aw.same s1
      have k1 : ∀ H', Same (upd H tp (.tup [.ty "list", .ty "tuple"])) H' → Q (.bl (xs.all (isMv mv (upd H tp (.tup [.ty "list", .ty "tuple"]))))) H' := fun H' s2 => by
        rw [all_congr fun z hz => isMv_same (kz z hz) s1]
        have q := k H' (s1.trans s2)
        unfold okV at q
        rw [ei] at q
        exact q
      have kz1 : ∀ z ∈ xs, TK cs (upd H tp (.tup [.ty "list", .ty "tuple"])) z := fun z hz => (kz z hz).same s1
      obtain ⟨t, ty, ka, km⟩ := tk_ty (K := K) C aw1.1
      rw [items_same aw.1 s1, ei] at ka
      refine ⟨_, tp, _, t, _, _, rfl, upd_same, .cons (.ty "list") (.cons (.ty "tuple") .nil), ty, ka, _, rfl, iteT ?_⟩
      refine ⟨_, rfl, a, rfl, ⟨xs, SqT.of (s1 _ _ ha)⟩, fun D nD => ?_⟩
      refine lc_tup (K := K) (a := a) (xs := xs) (fun i Hh => Told mv cs (upd H tp (.tup [.ty "list", .ty "tuple"])) xs D i Hh) ⟨Same.new nD, nD, upd_same⟩ (fun i Hh _ p => SqT.of (p.1 _ _ (s1 _ _ ha))) ?_ ?_
      · intro i z Hh hi p
        refine ⟨rfl, ?_⟩
        unfold tYes
        dsimp only
        exact iteT (told_turn C kz1 l100 hi p rfl)
      · intro Hh p
        exact told_end p k1
    · refine ⟨_, pss_one (ps_ret (pe_and (pe_callB call_isiT (by rfl) T.isi (by decide +kernel) (pa_cons (pv 0) (pa_cons (pe_tup (pa_cons (pe_bltn (v := .ty "list") (by rfl) T.list (by decide +kernel) rfl) (pa_cons (pe_bltn (v := .ty "tuple") (by rfl) T.tuple (by decide +kernel) rfl) pa_nil))) pa_nil)))
        (pe_one (pe_callB (cr_all rfl) (by rfl) T.all (by decide +kernel) (pa_cons (pe_lc (own := [("item", 1)]) (g := gName 1) (tt := tYes) (te := tCB (rIsi K) (tCons (tVar 1) (tCons (tC (.ref MV)) tNil))) (by rfl) scIsMoves.nd (pi_list (pv 0)) (blkOk_by (own := [("item", 1)]) (N := ["value", "item"]) (sc := defScope sIsMoves) (by decide +kernel)) (fun _ _ _ _ _ => pg_name (i := 1) scIsMoves.nd rfl (Or.inl rfl)) (fun _ _ _ _ _ => pts_nil)
          (fun _ _ _ _ _ => pe_callB call_isi (by rfl) T.isi (by decide +kernel) (pa_cons (pv 1) (pa_cons (pe_glob (v := .ref MV) rfl gM rfl) pa_nil)))) pa_nil))))), ?_⟩
      refine ⟨_, rfl, (by show 2 ≤ sizeLine; decide), fun tp ntp => ?_⟩
      have s1 : Same H (upd H tp (.tup [.ty "list", .ty "tuple"])) := Same.new ntp
      have aw1 := aw.same s1
      obtain ⟨t, ty, ka, km⟩ := tk_ty (K := K) C aw1.1
      rw [items_same aw.1 s1] at ka
      refine ⟨_, tp, _, t, _, _, rfl, upd_same, .cons (.ty "list") (.cons (.ty "tuple") .nil), ty, ka, _, rfl, ?_⟩
      cases ei : itemsOf H v with
      | none =>
        refine iteF ?_
        have q := k _ s1
        unfold okV at q
        rw [ei] at q
        exact q
      | some xs =>
        refine iteT ?_
        obtain ⟨l100, kz⟩ := aw.2 xs ei
        obtain ⟨a, rfl, ha⟩ : ∃ a, v = .ref a ∧ H a = some (.lst xs) := by
          by_cases n : ∃ a, v = .ref a
          · obtain ⟨a, rfl⟩ := n
            obtain ⟨o, eo, c⟩ := aw.1.at
            have q : seqOf (H a) = some xs := ei
            rw [eo] at q
            rcases c with ⟨ys, rfl⟩ | ⟨ys, rfl⟩ | ⟨_, _, _, rfl, _⟩
            · injection q with q
              subst q
              exact ⟨a, rfl, eo⟩
            · exact absurd ⟨a, ys, rfl, eo⟩ isT
            · cases q
          · rw [items_none (fun a z => n ⟨a, z⟩)] at ei
            cases ei
        have k1 : ∀ H', Same (upd H tp (.tup [.ty "list", .ty "tuple"])) H' → Q (.bl (xs.all (isMv mv (upd H tp (.tup [.ty "list", .ty "tuple"]))))) H' := fun H' s2 => by
          rw [all_congr fun z hz => isMv_same (kz z hz) s1]
          have q := k H' (s1.trans s2)
          unfold okV at q
          rw [ei] at q
          exact q
        have kz1 : ∀ z ∈ xs, TK cs (upd H tp (.tup [.ty "list", .ty "tuple"])) z := fun z hz => (kz z hz).same s1
        refine ⟨_, rfl, a, rfl, ⟨xs, SqL.of (s1 _ _ ha)⟩, fun D nD => ?_⟩
        refine lc_list (K := K) (a := a) (xs := xs) (fun i Hh => Told mv cs (upd H tp (.tup [.ty "list", .ty "tuple"])) xs D i Hh) ⟨Same.new nD, nD, upd_same⟩ (fun i Hh _ p => SqL.of (p.1 _ _ (s1 _ _ ha))) ?_ ?_
        · intro i z Hh hi p
          refine ⟨rfl, ?_⟩
          unfold tYes
          dsimp only
          exact iteT (told_turn C kz1 l100 hi p rfl)
        · intro Hh p
          exact told_end p k1
end
end V3

set_option Elab.async false
set_option linter.all false
set_option maxRecDepth 100000
namespace V3
open PySem L2
abbrev sRefused : Stmt := top 27
abbrev sDue : Stmt := top 28
def hist (C dx q : Addr) : HO := .ins C dx [("moves", .ref q)]
def spHInit (mv cs : List Addr) (C CM : Addr) : Sp := fun vs H Q E => ∃ (x dx : Addr) (v : V), vs = [.ref x, v] ∧ H x = some (.ins C dx []) ∧ AW cs H v ∧ C ∈ cs ∧
  (∀ xs, itemsOf H v = some xs → okV mv H v = true → ∀ (q : Addr) (H' : Hp), (∀ c o, c ≠ x → H c = some o → H' c = some o) → H' x = some (hist C dx q) → H' q = some (.tup xs) → Q .non H') ∧
  (okV mv H v = false → Er CM H E "moves")
def spHLen (C : Addr) : Sp := fun vs H Q _ => ∃ (x dx q : Addr) (xs : List V), vs = [.ref x] ∧ H x = some (hist C dx q) ∧ H q = some (.tup xs) ∧ Q (.int (xs.length : Int)) H
section
variable {P : Program} {w : World} {K : PySem.W.Frag} {mg : Str → Option Value} {base : Heap}
theorem scHInit : FnScope ["self", "moves"] ["self", "moves"] (defScope sHInit) := ⟨rfl, rfl, rfl, by decide +kernel, rfl, by decide +kernel, by decide +kernel⟩
theorem scHLen : FnScope ["self"] ["self"] (defScope sHLen) := ⟨rfl, rfl, rfl, by decide +kernel, rfl, by decide +kernel, by decide +kernel⟩
abbrev CalIsMoves (P : Program) (w : World) (K : PySem.W.Frag) (mg : Str → Option Value) (base : Heap) (mv cs : List Addr) : Prop := Cal P w K mg base CX0 "is_moves" 1 ["value"] (spIsMoves mv cs)
theorem seq_of_ok {mv cs : List Addr} {H : Hp} {v : V} (aw : AW cs H v) (h : okV mv H v = true) : ∃ a xs, v = .ref a ∧ itemsOf H v = some xs ∧ (H a = some (.lst xs) ∨ H a = some (.tup xs)) := by
  unfold okV at h
  cases ei : itemsOf H v with
  | none =>
    rw [ei] at h
    cases h
  | some xs =>
    by_cases n : ∃ a, v = .ref a
    · obtain ⟨a, rfl⟩ := n
      obtain ⟨o, eo, c⟩ := aw.1.at
      have q : seqOf (H a) = some xs := ei
      rw [eo] at q
      rcases c with ⟨ys, rfl⟩ | ⟨ys, rfl⟩ | ⟨_, _, _, rfl, _⟩
      · injection q with q
        subst q
        exact ⟨a, ys, rfl, rfl, .inl eo⟩
      · injection q with q
        subst q
        exact ⟨a, ys, rfl, rfl, .inr eo⟩
      · cases q
    · rw [items_none (fun a z => n ⟨a, z⟩)] at ei
      cases ei
theorem ok_hInit {f C CM : Addr} {mv cs : List Addr} {fd : FuncData} {dvs : List V} (F : FunD K "__init__" "History.__init__" (defArgs sHInit) (defBody sHInit) (defScope sHInit) dvs [] f fd) (cl : Cls K C) (nM : NoAttr K C "moves") (cI : CalIsMoves P w K mg base mv cs) (M : ImTxt P w K mg base CM) (zt : mg "tuple" = none) :
    FnOk P w K mg base (L2.CX P w) 3 f fd ["self", "moves"] (spHInit mv cs C CM) := by
  obtain ⟨fA, fdA, GA, mA, kA, bA⟩ := cI
  obtain ⟨fI, fdI, GI, iI, tI, bI⟩ := M.ini
  refine F.ok scHInit (fun vs H Q E h => ?_) (fun cdv A outer s H vs Q E hr h => ?_)
  · obtain ⟨x, dx, v, rfl, _⟩ := h
    rfl
  · obtain ⟨x, dx, v, rfl, hx, aw, hc, q1, q2⟩ := h
    refine ⟨_, pss_cons (ps_if (pt_not (pt_val (pe_call GA (hr.mono (by decide)) rfl mA kA bA .nil pass0 (pa_cons (pv 1) pa_nil)))) (pss_one (ps_raise rfl (takes_of rfl rfl rfl rfl) (pmk_oex M.o iI tI GI hr bI .nil pass0 rfl M.g (by exact (pa_cons pe_str pa_nil))))) pss_nil)
      (pss_one (ps_fld (pv 0) (pe_callTy call_tuple_of (by rfl) zt (by decide +kernel) (pa_cons (pv 1) pa_nil)) rfl)), ?_⟩
    refine ⟨_, rfl, v, rfl, aw, fun H1 s1 => ⟨_, rfl, ?_⟩⟩
    cases e : okV mv H v with
    | false => exact iteT ⟨(by show 1 ≤ 1000; decide), er_read (fun d H' s2 hd => q2 e d H' (s1.trans s2) hd)⟩
    | true =>
      obtain ⟨a, xs, rfl, ei, hseq⟩ := seq_of_ok aw e
      have hx1 := s1 _ _ hx
      refine iteF ⟨_, rfl, a, xs, rfl, ?_⟩
      rcases hseq with hl | ht
      · refine .inl ⟨SqL.of (s1 _ _ hl), fun l nl => ?_⟩
        have nxl : x ≠ l := ne_of_none hx1 nl
        refine ⟨_, rfl, x, C, dx, _, rfl, (by rw [upd_ne nxl]; exact hx1), cl, nM, (by show 0 < 1000; decide), ?_⟩
        refine q1 xs ei e l _ (fun c o nc h => ?_) upd_same ?_
        · rw [upd_ne nc, upd_ne (ne_of_none (s1 _ _ h) nl)]
          exact s1 _ _ h
        · rw [upd_ne (Ne.symm nxl)]
          exact upd_same
      · refine .inr ⟨SqT.of (s1 _ _ ht), ?_⟩
        have nax : a ≠ x := ne_of ht hx (by intro z; cases z)
        refine ⟨_, rfl, x, C, dx, _, rfl, hx1, cl, nM, (by show 0 < 1000; decide), ?_⟩
        refine q1 xs ei e a _ (fun c o nc h => ?_) upd_same ?_
        · rw [upd_ne nc]
          exact s1 _ _ h
        · rw [upd_ne nax]
          exact s1 _ _ ht
theorem ok_hLen {f C : Addr} {fd : FuncData} (F : Fun K "__len__" "History.__len__" sHLen f fd) (cl : Cls K C) (nM : NoAttr K C "moves") (zl : mg "len" = none) : FnOk P w K mg base CX0 1 f fd ["self"] (spHLen C) := by
  refine F.ok scHLen (fun vs H Q E h => ?_) (fun cdv A outer s H vs Q E hr h => ?_)
  · obtain ⟨x, dx, q, xs, rfl, _⟩ := h
    rfl
  · obtain ⟨x, dx, q, xs, rfl, hx, hq, k⟩ := h
    refine ⟨_, pss_one (ps_ret (pe_callB call_len_seq (by rfl) zl PySem.boot_len (pa_cons (pe_fld (pv 0) rfl) pa_nil))), ?_⟩
    exact ⟨_, rfl, x, C, dx, _, _, rfl, hx, cl, nM, rfl, q, xs, rfl, .inr (SqT.of hq), k⟩
/-! what is said of any value -/
def dueV (mv : List Addr) (H : Hp) (v : V) : V := match itemsOf H v with
  | some xs => if xs.all (isMv mv H) = true then .int (xs.length : Int) else .str "moves"
  | none => .str "moves"
def spDue (mv cs : List Addr) : Sp := fun vs H Q _ => ∃ v, vs = [v] ∧ AW cs H v ∧ ∀ H', Same H H' → Q (dueV mv H v) H'
theorem scDue : FnScope ["_law_value", "_law_one"] ["_law_value"] (defScope sDue) := ⟨rfl, rfl, rfl, by decide +kernel, rfl, by decide +kernel, by decide +kernel⟩
theorem filter_empty {f : V → Bool} : ∀ xs : List V, (xs.filter fun z => !f z).isEmpty = xs.all f
  | [] => rfl
  | x :: xs => by
    rw [List.filter_cons, List.all_cons]
    cases e : f x with
    | true =>
      rw [if_neg (by decide)]
      simpa using filter_empty xs
    | false =>
      rw [if_pos (by decide)]
      rfl
/-- the items that are no moves -/
def Kept (mv : List Addr) (H : Hp) (xs : List V) (D : Addr) (i : Nat) (Hh : Hp) : Prop := Same H Hh ∧ H D = none ∧ Hh D = some (.lst ((xs.take i).filter fun z => !isMv mv H z))
theorem kept_turn {mv cs : List Addr} {MV D : Addr} {H Hh : Hp} {xs : List V} {i : Nat} {z : V} {σ : L2.St} (C : ClsF K mv cs MV) (kz : ∀ z ∈ xs, TK cs H z) (l : xs.length ≤ 100) (hi : xs[i]? = some z) (p : Kept mv H xs D i Hh) (hσ : σ[1]? = some (some z)) :
    tNot (tB (tCB (rIsi K) (tCons (tVar 1) (tCons (tC (.ref MV)) tNil)))) σ Hh (fun b H3 => if b = true then tVar 1 σ H3 (fun y H4 => ∃ acc, H4 D = some (.lst acc) ∧ acc.length < sizeLine ∧ Kept mv H xs D (i + 1) (upd H4 D (.lst (acc ++ [y])))) else Kept mv H xs D (i + 1) H3) := by
  obtain ⟨s1, n, e⟩ := p
  have hz : z ∈ xs := List.mem_of_getElem? hi
  obtain ⟨t, ty, _, km⟩ := tk_ty (K := K) C ((kz z hz).same s1)
  rw [isMv_same (kz z hz) s1] at km
  refine ⟨_, hσ, _, _, t, _, _, rfl, .own MV, ty, km, _, rfl, ?_⟩
  cases m : isMv mv H z with
  | true =>
    refine iteF ⟨s1, n, ?_⟩
    rw [e, take_next hi, List.filter_append, List.filter_cons, if_neg (by rw [m]; decide)]
    simp
  | false =>
    refine iteT ⟨_, hσ, _, e, ?_, fun c o h => ?_, n, ?_⟩
    · refine small1000 (Nat.le_trans (List.length_filter_le _ _) ?_)
      rw [List.length_take]
      omega
    · rw [upd_ne (ne_of_none h n)]
      exact s1 c o h
    · rw [upd_same, take_next hi, List.filter_append, List.filter_cons, if_pos (by rw [m]; decide)]
      rfl
theorem ok_due {f MV : Addr} {mv cs : List Addr} {fd : FuncData} (F : Fun K "_law_due" "_law_due" sDue f fd) (T : BltD mg) (zl : mg "len" = none) (C : ClsF K mv cs MV) (gM : mg "Move" = some (.ref MV)) : FnOk P w K mg base CX0 1 f fd ["_law_value"] (spDue mv cs) := by
  refine F.ok scDue (fun vs H Q E h => ?_) (fun cdv A outer s H vs Q E hr h => ?_)
  · obtain ⟨v, rfl, _⟩ := h
    rfl
  · obtain ⟨v, rfl, aw, k⟩ := h
    by_cases isT : ∃ a xs, v = .ref a ∧ H a = some (.tup xs)
    · obtain ⟨a, xs, rfl, ha⟩ := isT
      have ei : itemsOf H (.ref a) = some xs := by
        show seqOf (H a) = _
        rw [ha]
        rfl
      obtain ⟨l100, kz⟩ := aw.2 xs ei
      refine ⟨_, pss_cons (ps_if (pt_not (pt_val (pe_callB call_isiT (by rfl) T.isi (by decide +kernel) (pa_cons (pv 0) (pa_cons (pe_tup (pa_cons (pe_bltn (v := .ty "list") (by rfl) T.list (by decide +kernel) rfl) (pa_cons (pe_bltn (v := .ty "tuple") (by rfl) T.tuple (by decide +kernel) rfl) pa_nil))) pa_nil))))) (pss_one (ps_ret pe_str)) pss_nil)
      (pss_one (ps_ret (pe_ifExp (pt_cmpR (op_neE hr.units0) (pe_lc (own := [("_law_one", 1)]) (g := gName 1) (tt := tNot (tB (tCB (rIsi K) (tCons (tVar 1) (tCons (tC (.ref MV)) tNil))))) (te := tVar 1) (by rfl) scDue.nd (pi_tup (pv 0)) (blkOk_by (own := [("_law_one", 1)]) (N := ["_law_value", "_law_one"]) (sc := defScope sDue) (by decide +kernel)) (fun _ _ _ _ _ => pg_name (i := 1) scDue.nd rfl (Or.inl rfl))
          (fun _ _ _ _ _ => pts_one (pt_not (pt_val (pe_callB call_isi (by rfl) T.isi (by decide +kernel) (pa_cons (pv 1) (pa_cons (pe_glob (v := .ref MV) rfl gM rfl) pa_nil)))))) (fun _ _ _ _ _ => pv 1)) (pe_lst pa_nil) (nomark _)) pe_str (pe_callB call_len_seq (by rfl) zl PySem.boot_len (pa_cons (pv 0) pa_nil))))), ?_⟩
      refine ⟨_, rfl, (by show 2 ≤ sizeLine; decide), fun tp ntp => ?_⟩
      have s1 : Same H (upd H tp (.tup [.ty "list", .ty "tuple"])) := Same.new ntp
      have aw1 := aw.same s1
      have kk : ∀ H', Same (upd H tp (.tup [.ty "list", .ty "tuple"])) H' → Q (if xs.all (isMv mv (upd H tp (.tup [.ty "list", .ty "tuple"]))) = true then .int (xs.length : Int) else .str "moves") H' := fun H' s2 => by
        rw [all_congr fun z hz => isMv_same (kz z hz) s1]
        have q := k H' (s1.trans s2)
        unfold dueV at q
        rw [ei] at q
        exact q
      have kz1 : ∀ z ∈ xs, TK cs (upd H tp (.tup [.ty "list", .ty "tuple"])) z := fun z hz => (kz z hz).same s1
      obtain ⟨t, ty, ka, km⟩ := tk_ty (K := K) C aw1.1
      rw [items_same aw.1 s1, ei] at ka
      refine ⟨_, tp, _, t, _, _, rfl, upd_same, .cons (.ty "list") (.cons (.ty "tuple") .nil), ty, ka, _, rfl, iteF ?_⟩
      · skip
        refine ⟨_, rfl, a, rfl, ⟨xs, SqT.of (s1 _ _ ha)⟩, fun D nD => ?_⟩
        refine lc_tup (K := K) (a := a) (xs := xs) (fun i Hh => Kept mv (upd H tp (.tup [.ty "list", .ty "tuple"])) xs D i Hh) ⟨Same.new nD, nD, upd_same⟩ (fun i Hh _ p => SqT.of (p.1 _ _ (s1 _ _ ha))) ?_ ?_
        · intro i z Hh hi p
          exact ⟨rfl, kept_turn C kz1 l100 hi p rfl⟩
        · intro Hh p
          refine ⟨Nat.zero_le _, fun b nb => ?_⟩
          obtain ⟨s2, nD', eD⟩ := p
          rw [List.take_length] at eD
          have s3 : Same Hh (upd Hh b (.lst [])) := Same.new nb
          refine ⟨D, b, _, rfl, rfl, s3 _ _ eD, upd_same, _, rfl, ?_⟩
          rw [filter_empty]
          cases ea : xs.all (isMv mv (upd H tp (.tup [.ty "list", .ty "tuple"]))) with
          | true =>
            rw [ea] at kk
            exact iteF ⟨_, rfl, a, xs, rfl, .inr (SqT.of (s3 _ _ (s2 _ _ (s1 _ _ ha)))), kk _ (s2.trans s3)⟩
          | false =>
            rw [ea] at kk
            exact iteT (kk _ (s2.trans s3))
    · refine ⟨_, pss_cons (ps_if (pt_not (pt_val (pe_callB call_isiT (by rfl) T.isi (by decide +kernel) (pa_cons (pv 0) (pa_cons (pe_tup (pa_cons (pe_bltn (v := .ty "list") (by rfl) T.list (by decide +kernel) rfl) (pa_cons (pe_bltn (v := .ty "tuple") (by rfl) T.tuple (by decide +kernel) rfl) pa_nil))) pa_nil))))) (pss_one (ps_ret pe_str)) pss_nil)
      (pss_one (ps_ret (pe_ifExp (pt_cmpR (op_neE hr.units0) (pe_lc (own := [("_law_one", 1)]) (g := gName 1) (tt := tNot (tB (tCB (rIsi K) (tCons (tVar 1) (tCons (tC (.ref MV)) tNil))))) (te := tVar 1) (by rfl) scDue.nd (pi_list (pv 0)) (blkOk_by (own := [("_law_one", 1)]) (N := ["_law_value", "_law_one"]) (sc := defScope sDue) (by decide +kernel)) (fun _ _ _ _ _ => pg_name (i := 1) scDue.nd rfl (Or.inl rfl))
          (fun _ _ _ _ _ => pts_one (pt_not (pt_val (pe_callB call_isi (by rfl) T.isi (by decide +kernel) (pa_cons (pv 1) (pa_cons (pe_glob (v := .ref MV) rfl gM rfl) pa_nil)))))) (fun _ _ _ _ _ => pv 1)) (pe_lst pa_nil) (nomark _)) pe_str (pe_callB call_len_seq (by rfl) zl PySem.boot_len (pa_cons (pv 0) pa_nil))))), ?_⟩
      refine ⟨_, rfl, (by show 2 ≤ sizeLine; decide), fun tp ntp => ?_⟩
      have s1 : Same H (upd H tp (.tup [.ty "list", .ty "tuple"])) := Same.new ntp
      have aw1 := aw.same s1
      obtain ⟨t, ty, ka, km⟩ := tk_ty (K := K) C aw1.1
      rw [items_same aw.1 s1] at ka
      refine ⟨_, tp, _, t, _, _, rfl, upd_same, .cons (.ty "list") (.cons (.ty "tuple") .nil), ty, ka, _, rfl, ?_⟩
      cases ei : itemsOf H v with
      | none =>
        refine iteT ?_
        have q := k _ s1
        unfold dueV at q
        rw [ei] at q
        exact q
      | some xs =>
        refine iteF ?_
        obtain ⟨l100, kz⟩ := aw.2 xs ei
        obtain ⟨a, rfl, ha⟩ : ∃ a, v = .ref a ∧ H a = some (.lst xs) := by
          by_cases n : ∃ a, v = .ref a
          · obtain ⟨a, rfl⟩ := n
            obtain ⟨o, eo, c⟩ := aw.1.at
            have q : seqOf (H a) = some xs := ei
            rw [eo] at q
            rcases c with ⟨ys, rfl⟩ | ⟨ys, rfl⟩ | ⟨_, _, _, rfl, _⟩
            · injection q with q
              subst q
              exact ⟨a, rfl, eo⟩
            · exact absurd ⟨a, ys, rfl, eo⟩ isT
            · cases q
          · rw [items_none (fun a z => n ⟨a, z⟩)] at ei
            cases ei
        have kk : ∀ H', Same (upd H tp (.tup [.ty "list", .ty "tuple"])) H' → Q (if xs.all (isMv mv (upd H tp (.tup [.ty "list", .ty "tuple"]))) = true then .int (xs.length : Int) else .str "moves") H' := fun H' s2 => by
          rw [all_congr fun z hz => isMv_same (kz z hz) s1]
          have q := k H' (s1.trans s2)
          unfold dueV at q
          rw [ei] at q
          exact q
        have kz1 : ∀ z ∈ xs, TK cs (upd H tp (.tup [.ty "list", .ty "tuple"])) z := fun z hz => (kz z hz).same s1
        refine ⟨_, rfl, a, rfl, ⟨xs, SqL.of (s1 _ _ ha)⟩, fun D nD => ?_⟩
        refine lc_list (K := K) (a := a) (xs := xs) (fun i Hh => Kept mv (upd H tp (.tup [.ty "list", .ty "tuple"])) xs D i Hh) ⟨Same.new nD, nD, upd_same⟩ (fun i Hh _ p => SqL.of (p.1 _ _ (s1 _ _ ha))) ?_ ?_
        · intro i z Hh hi p
          exact ⟨rfl, kept_turn C kz1 l100 hi p rfl⟩
        · intro Hh p
          refine ⟨Nat.zero_le _, fun b nb => ?_⟩
          obtain ⟨s2, nD', eD⟩ := p
          rw [List.take_length] at eD
          have s3 : Same Hh (upd Hh b (.lst [])) := Same.new nb
          refine ⟨D, b, _, rfl, rfl, s3 _ _ eD, upd_same, _, rfl, ?_⟩
          rw [filter_empty]
          cases ea : xs.all (isMv mv (upd H tp (.tup [.ty "list", .ty "tuple"]))) with
          | true =>
            rw [ea] at kk
            exact iteF ⟨_, rfl, a, xs, rfl, .inl (SqL.of (s3 _ _ (s2 _ _ (s1 _ _ ha)))), kk _ (s2.trans s3)⟩
          | false =>
            rw [ea] at kk
            exact iteT (kk _ (s2.trans s3))
end
end V3

set_option Elab.async false
set_option linter.all false
set_option maxRecDepth 100000
namespace V3
open PySem L2
theorem dueV_same {mv cs : List Addr} {H H' : Hp} {v : V} (h : AW cs H v) (s : Same H H') : dueV mv H' v = dueV mv H v := by
  unfold dueV
  rw [items_same h.1 s]
  cases e : itemsOf H v with
  | none => rfl
  | some xs =>
    show (if xs.all (isMv mv H') = true then _ else _) = (if xs.all (isMv mv H) = true then _ else _)
    rw [all_congr fun z hz => isMv_same ((h.2 xs e).2 z hz) s]
theorem due_ok {mv : List Addr} {H : Hp} {v : V} {xs : List V} (ei : itemsOf H v = some xs) (h : okV mv H v = true) : dueV mv H v = .int (xs.length : Int) := by
  unfold okV at h
  unfold dueV
  rw [ei] at h ⊢
  exact if_pos h
theorem due_no {mv : List Addr} {H : Hp} {v : V} (h : okV mv H v = false) : dueV mv H v = .str "moves" := by
  unfold okV at h
  unfold dueV
  cases ei : itemsOf H v with
  | none => rfl
  | some xs =>
    rw [ei] at h
    exact if_neg (by
      have z : xs.all (isMv mv H) = false := h
      rw [z]
      decide)
def spRefused (mv cs : List Addr) : Sp := fun vs H Q _ => ∃ v, vs = [v] ∧ AW cs H v ∧ ∀ H', Same H H' → Q (dueV mv H v) H'
structure ErTxt (K : PySem.W.Frag) (mg : Str → Option Value) (CM CB CT : Addr) : Prop where
  x : XClass K CM
  f : XfC K CM
  no : PySem.W.findIn K (.ref CM) "word" = some none
  gB : mg "BookError" = some (.ref CB)
  gT : mg "InvalidText" = some (.ref CT)
  iB : PySem.W.kitOne K (.ref CM) (.ref CB) = some true
  iT : PySem.W.kitOne K (.ref CM) (.ref CT) = some false
  te : PySem.W.exmOne K (.ref CM) (.ref CM) = some true
  len : mg "len" = none
  isi : mg "isinstance" = none
def tryBody (s : Stmt) : List Stmt := match s with
  | .Try b _ _ _ _ => b
  | _ => []
def trySuite (s : Stmt) : List Stmt := match s with
  | .Try _ (.ExceptHandler _ _ b _ :: _) _ _ _ => b
  | _ => []
abbrev sTry : Stmt := (defBody sRefused).getD 1 (.Pass ⟨0, 0, 0, 0⟩)
def t_body (C CM : Addr) (mv cs : List Addr) (W : WX) : TS := tAsg (tCB (rLenO C (spHLen C) E0) (tCons (tMakeS C (spHInit mv cs C CM) [] (WE W) (tCons (tVar 0) tNil)) tNil)) (gName 1)
def t_suite (K : PySem.W.Frag) (CM CB CT : Addr) : Addr → Value → Option Addr → TS := fun a cls d =>
  tAsg (tIf (tAnd (tB (tCB (rIsX K CM a cls d) (tCons (tVar 2) (tCons (tC (.ref CB)) tNil)))) (tNot (tB (tCB (rIsX K CM a cls d) (tCons (tVar 2) (tCons (tC (.ref CT)) tNil)))))) (tXf a cls d CM "word" (tVar 2)) (tC (.str "odd"))) (gName 1)
def t_try (K : PySem.W.Frag) (C CM CB CT : Addr) (mv cs : List Addr) : TS := fun D σ H => t_body C CM mv cs (wAs K (.ref CM) 2 (t_suite K CM CB CT) (fun _ _ _ _ => False) D) D σ H
section
variable {P : Program} {w : World} {K : PySem.W.Frag} {mg : Str → Option Value} {base : Heap}
theorem pe_lenMade {X : Cx} {C f1 f2 : Addr} {name : Str} {fd1 fd2 : FuncData} {ps : List Str} {spI spL : Sp} {W : WX} {ta : TA} {e : Expr} {es : List Expr} {p1 p2 p3 p4 : Pos}
    (G1 : FnOk X.prog X.w X.K X.mg X.base (L2.CX X.prog X.w) 4 f1 fd1 ps spI) (M1 : Mk X.K C f1) (b1 : Binds X.K fd1 ps []) (gC : X.mg name = some (.ref C)) (hC : Gl X name)
    (G2 : FnOk X.prog X.w X.K X.mg X.base CX0 1 f2 fd2 ["self"] spL) (S2 : PySem.W.findIn X.K (.ref C) "__len__" = some (some (.ref f2))) (i2 : PySem.W.isFn X.K (.ref f2) = true) (b2 : Binds X.K fd2 ["self"] [])
    (hr : Room 5 X.A) (hS : Gl X "len") (mS : X.mg "len" = none) (tk : Takes X W) (ha : PA X (e :: es) ta)
    (hdb : (name == ("__debug__" : Str)) = false := by decide)
    (he : starEach (e :: es) X.env = (false, eval e X.env) :: starEach es X.env := by rfl) (hpl : (backTo p3 (starEach es X.env)).any (·.1) = false := by rfl) :
    PE X (.Call (.Name "len" p1) [.Call (.Name name p2) (e :: es) [] p3] [] p4) (tCB (rLenO C spL E0) (tCons (tMakeS C spI [] (WE W) ta) tNil)) := by
  have made : PE X (.Call (.Name name p2) (e :: es) [] p3) (tMakeS C spI [] (WE W) ta) := pe_makeS M1 G1 hr hC gC b1 .nil (fun σ => passAt tk σ) ha hdb he hpl
  exact pe_callB (call_lenO G2 S2 i2 b2 pass0 (hr.mono (by decide))) hS mS (by decide +kernel) (pa_cons made pa_nil)
theorem scRefused : FnScope ["_law_value", "_law_found", "e"] ["_law_value"] (defScope sRefused) := ⟨rfl, rfl, rfl, by decide +kernel, rfl, by decide +kernel, by decide +kernel⟩
theorem ok_refused {f HC CM CB CT fL : Addr} {mv cs : List Addr} {fd fdL : FuncData} (F : Fun K "_law_refused" "_law_refused" sRefused f fd) (T : ErTxt K mg CM CB CT) (gM : mg "InvalidMove" = some (.ref CM))
    (mH : MkTxt P w K mg base "History" ["self", "moves"] HC (spHInit mv cs HC CM) []) (hc : HC ∈ cs)
    (GL : FnOk P w K mg base CX0 1 fL fdL ["self"] (spHLen HC)) (SL : PySem.W.findIn K (.ref HC) "__len__" = some (some (.ref fL))) (iL : PySem.W.isFn K (.ref fL) = true) (bL : Binds K fdL ["self"] []) :
    FnOk P w K mg base CX0 6 f fd ["_law_value"] (spRefused mv cs) := by
  obtain ⟨f1, fd1, G1, M1, b1, _⟩ := mH.ini
  refine F.ok scRefused (fun vs H Q E h => ?_) (fun cdv A outer s H vs Q E hr h => ?_)
  · obtain ⟨v, rfl, _⟩ := h
    rfl
  · obtain ⟨v, rfl, aw, k⟩ := h
    refine ⟨tSeq (tAsg (tC .non) (gName 1)) (tSeq (t_try K HC CM CB CT mv cs) (tRet (tVar 1))), ?_, ?_⟩
    · have made1 : ∀ (W : WX) (pn : List (Addr × Obj)) (xe : Value → Shared → Prop), Takes ((cxOf CX0 P w K mg base ["_law_value", "_law_found", "e"] "_law_refused" (defScope sRefused) f cdv A outer s H E).nox.tr pn xe) W →
          PSs ((cxOf CX0 P w K mg base ["_law_value", "_law_found", "e"] "_law_refused" (defScope sRefused) f cdv A outer s H E).nox.tr pn xe) (tryBody sTry) (t_body HC CM mv cs W) := by
        intro W pn xe tk
        exact pss_one (ps_set (i := 1) scRefused.nd rfl (Or.inl rfl) (by exact (pe_lenMade G1 M1 b1 mH.g rfl GL SL iL bL hr rfl T.len tk (by exact (pa_cons (pv 0) pa_nil)))))
      have suite1 : ∀ (ax : Addr) (oe : Obj) (cls : Value) (d : Option Addr) (pn : List (Addr × Obj)), Zc cls d oe → (∃ vs, oe.data = .fields vs) →
          PSs ((cxOf CX0 P w K mg base ["_law_value", "_law_found", "e"] "_law_refused" (defScope sRefused) f cdv A outer s H E).nox.suite ax ((ax, oe) :: pn)) (trySuite sTry) (t_suite K CM CB CT ax cls d) := by
        intro ax oe cls d pn hz hfl
        exact pss_one (ps_set (i := 1) scRefused.nd rfl (Or.inl rfl) (by exact (pe_ifExp (PW.pt (pw_and (pt_val (pe_callB (call_isX T.x hz hfl) (by rfl) T.isi (by decide +kernel) (by exact (pa_cons (pv 2) (pa_cons (pe_glob rfl T.gB rfl) pa_nil))))) (pw_and1 (pt_not (pt_val (pe_callB (call_isX T.x hz hfl) (by rfl) T.isi (by decide +kernel) (by exact (pa_cons (pv 2) (pa_cons (pe_glob rfl T.gT rfl) pa_nil))))))))) (pe_xf T.f T.no hz hfl (pv 2)) pe_str)))
      have try1 : PS (cxOf CX0 P w K mg base ["_law_value", "_law_found", "e"] "_law_refused" (defScope sRefused) f cdv A outer s H E).nox sTry (t_try K HC CM CB CT mv cs) :=
        ps_try_as (i := 2) (tb := fun W => t_body HC CM mv cs W) (ts := t_suite K CM CB CT) (Wout := fun _ _ _ _ => False) rfl rfl scRefused.nd rfl rfl ⟨rfl, by decide, Or.inl gM⟩ takes0
          (fun W pn xe tk _ => made1 W pn xe tk) (fun ax oe cls d pn hz hfl => suite1 ax oe cls d pn hz hfl)
      exact pss_cons (ps_set (i := 1) scRefused.nd rfl (Or.inl rfl) pe_non) (pss_cons try1 (pss_one (ps_ret (pv 1))))
    · refine ⟨_, rfl, fun y dy ny ndy ne => ?_⟩
      have s0 : Same H (upd (upd H dy (.own y)) y (.ins HC dy [])) := made_same ny ndy
      refine ⟨y, dy, v, rfl, upd_same, aw.same s0, hc, fun xs ei e q H' keep hx hq => ⟨rfl, ?_⟩, fun e d H' sm hd => ?_⟩
      · rw [items_same aw.1 s0] at ei
        rw [okV_same aw s0] at e
        refine ⟨y, dy, _, rfl, hx, y, dy, q, xs, rfl, hx, hq, (xs.length : Int), rfl, ⟨by omega, ?_⟩, _, rfl, ?_⟩
        · have l := (aw.2 xs ei).1
          omega
        · have z := k H' (fun c o h => keep c o (fun z => by rw [z, ny] at h; cases h) (s0 c o h))
          rw [due_ok ei e] at z
          exact z
      · rw [okV_same aw s0] at e
        refine ⟨true, T.te, fun _ ax nax => ?_, fun q => Bool.noConfusion q⟩
        refine ⟨_, rfl, d, _, _, _, _, rfl, rfl, hd, rfl, .own CB, T.iB, _, rfl, iteT ⟨_, rfl, d, _, _, _, _, rfl, rfl, hd, rfl, .own CT, T.iT, _, rfl, ?_⟩⟩
        refine iteT ⟨_, rfl, rfl, rfl, d, _, _, rfl, hd, rfl, _, rfl, ?_⟩
        have z := k H' (s0.trans sm)
        rw [due_no e] at z
        exact z
end
end V3

set_option Elab.async false
set_option linter.all false
set_option maxRecDepth 100000
namespace V3
open PySem L2
abbrev sLaw : Stmt := top 29
/-- how an int or a short text is shown -/
def shown : V → Str
  | .int i => num i
  | .str z => reprText z
  | _ => Str.empty
theorem shown_due {mv cs : List Addr} {H H' : Hp} {v : V} {Q : VK} (aw : AW cs H v) (q : Q (.str (shown (dueV mv H v))) H') : rRepr [dueV mv H v] H' Q := by
  unfold dueV at q ⊢
  cases ei : itemsOf H v with
  | none =>
    rw [ei] at q
    exact .inr ⟨_, rfl, small (by decide +kernel), q⟩
  | some xs =>
    rw [ei] at q
    show rRepr [if xs.all (isMv mv H) = true then .int (xs.length : Int) else .str "moves"] H' Q
    have q' : Q (.str (shown (if xs.all (isMv mv H) = true then .int (xs.length : Int) else .str "moves"))) H' := q
    by_cases e : xs.all (isMv mv H) = true
    · rw [if_pos e] at q' ⊢
      refine .inl ⟨_, rfl, am_log ?_, q'⟩
      have l := (aw.2 xs ei).1
      show ((xs.length : Int)).natAbs ≤ 1000000000000
      omega
    · rw [if_neg e] at q' ⊢
      exact .inr ⟨_, rfl, small (by decide +kernel), q'⟩
theorem cut_mem {xs : List V} {lo hi : Option Int} {z : V} (h : z ∈ cutV xs lo hi) : z ∈ xs := by
  unfold cutV at h
  exact List.mem_of_mem_drop (List.mem_of_mem_take h)
theorem isMv_pre {mv : List Addr} {b : Addr} {H H' : Hp} {u v : Int} {z : V} (hb : H b = some (box u v)) (h : isMv mv H z = true) (s : SameX b H H') : isMv mv H' z = true := by
  cases z with
  | ref a =>
    have q : isMvO mv (H a) = true := h
    show isMvO mv (H' a) = true
    cases e : H a with
    | none =>
      rw [e] at q
      cases q
    | some o =>
      rw [e] at q
      have n : a ≠ b := fun z => by
        rw [z, hb] at e
        injection e with e
        rw [← e] at q
        cases q
      rw [s _ _ n e]
      exact q
  | _ => cases h
theorem isMv_keep {mv : List Addr} {H H' : Hp} {z : V} (h : isMv mv H z = true) (s : Same H H') : isMv mv H' z = true := by
  cases z with
  | ref a =>
    have q : isMvO mv (H a) = true := h
    show isMvO mv (H' a) = true
    cases e : H a with
    | none =>
      rw [e] at q
      cases q
    | some o =>
      rw [s _ _ e]
      rw [e] at q
      exact q
  | _ => cases h
/-- a list of moves at D -/
def Good (mv cs : List Addr) (H : Hp) (D : Addr) (acc : List V) : Prop := H D = some (.lst acc) ∧ acc.length ≤ 4 ∧ ∀ z ∈ acc, TK cs H z ∧ isMv mv H z = true
theorem Good.pre {mv cs : List Addr} {b D : Addr} {H H' : Hp} {u v : Int} {acc : List V} (g : Good mv cs H D acc) (n : D ≠ b) (hb : H b = some (box u v)) (s : Pre b H H') : Good mv cs H' D acc :=
  ⟨s.1 _ _ n g.1, g.2.1, fun z hz => ⟨(g.2.2 z hz).1.pre s, isMv_pre hb (g.2.2 z hz).2 s.1⟩⟩
theorem Good.same {mv cs : List Addr} {D : Addr} {H H' : Hp} {acc : List V} (g : Good mv cs H D acc) (s : Same H H') : Good mv cs H' D acc :=
  ⟨s _ _ g.1, g.2.1, fun z hz => ⟨(g.2.2 z hz).1.same s, isMv_keep (g.2.2 z hz).2 s⟩⟩
theorem Good.aw {mv cs : List Addr} {D : Addr} {H : Hp} {acc : List V} (g : Good mv cs H D acc) : AW cs H (.ref D) := .lst g.1 (by have := g.2.1; omega) fun z hz => (g.2.2 z hz).1
theorem Good.ok {mv cs : List Addr} {D : Addr} {H : Hp} {acc : List V} (g : Good mv cs H D acc) : okV mv H (.ref D) = true := by
  have e : itemsOf H (.ref D) = some acc := by
    show seqOf (H D) = _
    rw [g.1]
    rfl
  unfold okV
  rw [e]
  exact List.all_eq_true.mpr fun z hz => (g.2.2 z hz).2
def spLaw (K : PySem.W.Frag) : Sp := fun vs H Q _ => ∃ (a : Addr) (ns : List Int), vs = [.ref a] ∧ SqL K H a (ns.map V.int) ∧ ns.length ≤ 63 ∧ ∀ H', Q (.bl true) H'
structure BltL (mg : Str → Option Value) : Prop where
  len : mg "len" = none
  range : mg "range" = none
  max : mg "max" = none
  min : mg "min" = none
  tuple : mg "tuple" = none
  repr : mg "repr" = none
section
variable {P : Program} {w : World} {K : PySem.W.Frag} {mg : Str → Option Value} {base : Heap}
theorem scLaw : FnScope ["_law_script", "_law_k", "_law_box", "_law_turn", "_law_good", "_law_at", "_law_odd", "_law_some", "_law_value", "_law_step"] ["_law_script"] (defScope sLaw) := ⟨rfl, rfl, rfl, by decide +kernel, rfl, by decide +kernel, by decide +kernel⟩
theorem ok_law {f HC CM : Addr} {mv cs : List Addr} {fd : FuncData} (F : Fun K "law" "law" sLaw f fd) (T : BltL mg) (cS : Cal P w K mg base CX0 "_law_seed" 1 ["_law_script", "_law_k"] (spSeed K)) (cO : CalOneOf P w K mg base) (cC : CalChoose P w K mg base)
    (cA3 : Cal P w K mg base CX0 "_law_anything" 6 ["_law_box", "_law_deep"] (spAny cs 3)) (cA4 : Cal P w K mg base CX0 "_law_anything" 7 ["_law_box", "_law_deep"] (spAny cs 4))
    (cM : Cal P w K mg base CX0 "_law_any_move" 2 ["_law_box"] spMv) (cD : Cal P w K mg base CX0 "_law_made" 6 ["_law_move"] (spMade mv)) (cR : Cal P w K mg base CX0 "_law_refused" 6 ["_law_value"] (spRefused mv cs)) (cU : Cal P w K mg base CX0 "_law_due" 1 ["_law_value"] (spDue mv cs))
    (mH : MkTxt P w K mg base "History" ["self", "moves"] HC (spHInit mv cs HC CM) []) (hc : HC ∈ cs) (sub : ∀ C ∈ mv, C ∈ cs) : FnOk P w K mg base CX0 8 f fd ["_law_script"] (spLaw K) := by
  obtain ⟨fS, fdS, GS, mS, kS, bS⟩ := cS
  obtain ⟨fO, fdO, GO, mO, kO, bO⟩ := cO
  obtain ⟨fC, fdC, GC, mC, kC, bC⟩ := cC
  obtain ⟨fA, fdA, GA, mA, kA, bA⟩ := cA3
  obtain ⟨fA4, fdA4, GA4, mA4, kA4, bA4⟩ := cA4
  obtain ⟨fM, fdM, GM, mM, kM, bM⟩ := cM
  obtain ⟨fD, fdD, GD, mD, kD, bD⟩ := cD
  obtain ⟨fR, fdR, GR, mR, kR, bR⟩ := cR
  obtain ⟨fU, fdU, GU, mU, kU, bU⟩ := cU
  obtain ⟨f1, fd1, G1, M1, b1, _⟩ := mH.ini
  refine F.ok scLaw (fun vs H Q E h => ?_) (fun cdv A outer s H vs Q E hr h => ?_)
  · obtain ⟨a, ns, rfl, _⟩ := h
    rfl
  · obtain ⟨a, ns, rfl, hS, hl, k⟩ := h
    have hr1 : Room 1 _ := hr.mono (by decide)
    have hr2 : Room 2 _ := hr.mono (by decide)
    have hr4 : Room 4 _ := hr.mono (by decide)
    have hr5 : Room 5 _ := hr.mono (by decide)
    have hr6 : Room 6 _ := hr.mono (by decide)
    refine ⟨_, pss_cons (ps_for PassesOwn.never rfl (pi_range1 (by rfl) T.range (pa_cons (pe_callB (call_max2 rfl) (by rfl) T.max (by decide +kernel) (pa_cons pe_int (pa_cons (pe_callB (call_min2 rfl) (by rfl) T.min (by decide +kernel) (pa_cons pe_int (pa_cons (pe_callB call_len_seq (by rfl) T.len PySem.boot_len (pa_cons (pv 0) pa_nil)) pa_nil))) pa_nil))) pa_nil)) (pg_name (i := 1) scLaw.nd rfl (Or.inl rfl))
        (pss_cons (ps_set (i := 2) scLaw.nd rfl (Or.inr rfl) (pe_call GS hr1 rfl mS kS bS .nil pass0 (pa_cons (pv 0) (pa_cons (pv 1) pa_nil))))
        (pss_one (ps_for PassesOwn.never rfl (pi_range1 (by rfl) T.range (pa_cons pe_int pa_nil)) (pg_name (i := 3) scLaw.nd rfl (Or.inl rfl))
          (pss_cons (ps_setLc (i := 4) (own := [("_law_step", 9)]) (g := gName 9) (tt := tYes) (by rfl) scLaw.nd rfl rfl (sw_true rfl rfl rfl (by decide +kernel))
              (pi_range1 (by rfl) T.range (pa_cons (pe_call GC hr1 rfl mC kC bC .nil pass0 (pa_cons (pv 2) (pa_cons pe_int pa_nil))) pa_nil))
              (blkOk_by (own := [("_law_step", 9)]) (N := ["_law_script", "_law_k", "_law_box", "_law_turn", "_law_good", "_law_at", "_law_odd", "_law_some", "_law_value", "_law_step"]) (sc := defScope sLaw) (by decide +kernel))
              (fun _ _ _ _ _ => pg_name (i := 9) scLaw.nd rfl (Or.inl rfl)) (fun _ _ _ _ _ => pts_nil)
              (fun _ _ _ _ _ => pe_call GD hr6 rfl mD kD bD .nil pass0 (pa_cons (pe_call GM hr2 rfl mM kM bM .nil pass0 (pa_cons (pv 2) pa_nil)) pa_nil)))
          (pss_cons (ps_set (i := 5) scLaw.nd rfl (Or.inl rfl) (pe_call GC hr1 rfl mC kC bC .nil pass0 (pa_cons (pv 2) (pa_cons (pe_op op_add (pe_callB call_len_seq (by rfl) T.len PySem.boot_len (pa_cons (pv 4) pa_nil)) pe_int) pa_nil))))
          (pss_cons (ps_set (i := 6) scLaw.nd rfl (Or.inl rfl) (pe_lst (pa_cons (pe_call GA hr6 rfl mA kA bA .nil pass0 (pa_cons (pv 2) (pa_cons pe_int pa_nil))) (pa_cons pe_str (pa_cons pe_str (pa_cons (pv 4) (pa_cons (pe_callTy call_tuple_of (by rfl) T.tuple (by decide +kernel) (pa_cons (pv 4) pa_nil)) (pa_cons (pe_make M1 G1 hr5 rfl mH.g b1 .nil passL (pa_cons (pv 4) pa_nil)) (pa_cons pe_int (pa_cons pe_non pa_nil))))))))))
          (pss_cons (ps_set (i := 6) scLaw.nd rfl (Or.inl rfl) (pe_call GO hr2 rfl mO kO bO .nil pass0 (pa_cons (pv 2) (pa_cons (pv 6) pa_nil))))
          (pss_cons (ps_set (i := 7) scLaw.nd rfl (Or.inl rfl) (pe_lst (pa_cons (pv 4) (pa_cons (pe_callTy call_tuple_of (by rfl) T.tuple (by decide +kernel) (pa_cons (pv 4) pa_nil))
              (pa_cons (pe_op op_cat (pe_op op_cat (pe_slice sl_list (pv 4) po_none (po_some (pv 5))) (pe_lst (pa_cons (pv 6) pa_nil))) (pe_slice sl_list (pv 4) (po_some (pv 5)) po_none))
              (pa_cons (pe_tup (pa_cons (pv 6) pa_nil)) (pa_cons (pv 6) (pa_cons (pe_make M1 G1 hr5 rfl mH.g b1 .nil passL (pa_cons (pv 4) pa_nil)) pa_nil))))))))
          (pss_one (ps_for PassesOwn.never rfl (pi_list (pe_op op_cat (pv 7) (pe_lst (pa_cons (pe_call GA4 hr rfl mA4 kA4 bA4 .nil pass0 (pa_cons (pv 2) (pa_cons pe_int pa_nil))) pa_nil)))) (pg_name (i := 8) scLaw.nd rfl (Or.inl rfl))
            (pss_one (ps_if (pt_cmpR op_ne (pe_callB call_reprIS (by rfl) T.repr (by decide +kernel) (pa_cons (pe_call GR hr6 rfl mR kR bR .nil pass0 (pa_cons (pv 8) pa_nil)) pa_nil)) (pe_callB call_reprIS (by rfl) T.repr (by decide +kernel) (pa_cons (pe_call GU hr1 rfl mU kU bU .nil pass0 (pa_cons (pv 8) pa_nil)) pa_nil)) (nomark _)) (pss_one (ps_ret pe_bl)) pss_nil)))))))))))))
      (pss_one (ps_ret pe_bl)), ?_⟩
    refine ⟨_, rfl, a, _, rfl, .inl hS, _, _, rfl, _, _, rfl, ?_⟩
    rw [List.length_map]
    have hn : (if (if (ns.length : Int) < 4 then (ns.length : Int) else 4) > 2 then (if (ns.length : Int) < 4 then (ns.length : Int) else 4) else 2) ≤ 5 ∧ 2 ≤ (if (if (ns.length : Int) < 4 then (ns.length : Int) else 4) > 2 then (if (ns.length : Int) < 4 then (ns.length : Int) else 4) else 2) := by
      constructor <;> (split <;> (try split) <;> omega)
    generalize (if (if (ns.length : Int) < 4 then (ns.length : Int) else 4) > 2 then (if (ns.length : Int) < 4 then (ns.length : Int) else 4) else 2) = n at hn
    refine ⟨n, rfl, by omega, by omega, for_range (lo := 0) (n := n.toNat) (fun i σ H' => (∃ o1 o2 o3 o4 o5 o6 o7 o8 o9 : Option V, σ = [some (.ref a), o1, o2, o3, o4, o5, o6, o7, o8, o9]) ∧ Same H H') ⟨⟨_, _, _, _, _, _, _, _, _, rfl⟩, Same.refl H⟩ ?_ ?_⟩
    · rintro i σ H0 hi ⟨⟨o1, o2, o3, o4, o5, o6, o7, o8, o9, rfl⟩, s0⟩
      refine ⟨_, rfl, _, rfl, a, ns, _, rfl, s0.seq hS, hl, by omega, by omega, fun b u v nb ok => ?_⟩
      have s1 : Same H (upd H0 b (box u v)) := fun c o e => by
        rw [upd_ne (ne_of_none (s0 c o e) nb)]
        exact s0 c o e
      have hb0 : H b = none := s0.free nb
      refine ⟨8, rfl, by decide, by decide, for_range (lo := 0) (n := 8) (fun j σ H' => (∃ o3 o4 o5 o6 o7 o8 o9 : Option V, σ = [some (.ref a), some (.int (0 + (i : Int))), some (.ref b), o3, o4, o5, o6, o7, o8, o9]) ∧ Pre b H H') ⟨⟨_, _, _, _, _, _, _, rfl⟩, SameX.of s1, u, v, ok, upd_same⟩ ?_ ?_⟩
      · clear ok u v s1 s0
        rintro j σ H1 hj ⟨⟨o3, o4, o5, o6, o7, o8, o9, rfl⟩, s1⟩
        obtain ⟨_, u, v, ok, hb⟩ := id s1
        -- good
        refine ⟨_, rfl, b, u, v, 5, rfl, hb, ok, (by decide), (by decide), fun d2 u2 v2 q0 q5 ok2 => ?_⟩
        have S2 : Pre b H (upd H1 b (box u2 v2)) := s1.trans (Pre.box ok2)
        have hb2 : upd H1 b (box u2 v2) b = some (box u2 v2) := upd_same
        generalize upd H1 b (box u2 v2) = H2 at S2 hb2
        refine ⟨d2, rfl, by omega, by omega, fun D nD => ?_⟩
        have nbD : b ≠ D := ne_of_none hb2 nD
        refine lc_range (lo := 0) (n := d2.toNat) (fun i Hh => ∃ acc, Pre b H2 Hh ∧ Hh D = some (.lst acc) ∧ acc.length ≤ i ∧ ∀ z ∈ acc, TK cs Hh z ∧ isMv mv Hh z = true) ?_ ?_ ?_
        · exact ⟨[], ⟨SameX.of (Same.new nD), u2, v2, ok2, by rw [upd_ne nbD]; exact hb2⟩, upd_same, Nat.le_refl _, fun z hz => by cases hz⟩
        · rintro i2 Hh hi2 ⟨acc, S3, hD, ha, hk⟩
          refine ⟨rfl, ?_⟩
          unfold tYes
          dsimp only
          refine iteT ?_
          obtain ⟨sx, u3, v3, ok3, hb3⟩ := id S3
          refine ⟨_, rfl, b, u3, v3, rfl, hb3, ok3, fun p xs H4 S4 hp mok => ?_⟩
          refine ⟨p, xs, rfl, hp, mok, fun x C dx fs H5 s5 hx hC => ?_⟩
          have S5 : Pre b Hh H5 := S4.then s5
          have hD5 : H5 D = some (.lst acc) := S5.1 D _ (fun q => nbD q.symm) hD
          obtain ⟨_, u', v', ok5, hb5⟩ := id S5
          have nxD : x ≠ D := ne_of hx hD5 (by intro z; cases z)
          refine ⟨acc, hD5, small1000 (by omega), acc ++ [.ref x], ⟨?_, u', v', ok5, by rw [upd_ne nbD]; exact hb5⟩, upd_same, by rw [List.length_append, List.length_singleton]; omega, fun z hz => ?_⟩
          · intro cc o nc hcc
            rw [upd_ne (ne_of_none hcc nD)]
            exact S5.1 cc o nc (sx cc o nc hcc)
          · have keep : ∀ z, isMv mv H5 z = true → isMv mv (upd H5 D (.lst (acc ++ [.ref x]))) z = true := fun z q => by
              cases z with
              | ref a2 =>
                have q2 : isMvO mv (H5 a2) = true := q
                show isMvO mv (upd H5 D _ a2) = true
                have n2 : a2 ≠ D := fun z => by
                  rw [z, hD5] at q2
                  cases q2
                rw [upd_ne n2]
                exact q2
              | _ => cases q
            rcases List.mem_append.mp hz with hz | hz
            · exact ⟨((hk z hz).1.pre S5).updl, keep z (isMv_pre hb3 (hk z hz).2 S5.1)⟩
            · rw [List.mem_singleton.mp hz]
              refine ⟨(TK.ins hx (sub C hC)).updl, keep _ ?_⟩
              show isMvO mv (H5 x) = true
              rw [hx]
              exact decide_eq_true hC
        · rintro H3 ⟨acc, S3, hD, ha, hk⟩
          obtain ⟨_, u3, v3, ok3, hb3⟩ := id S3
          have g3 : Good mv cs H3 D acc := ⟨hD, by omega, hk⟩
          have P3 : Pre b H H3 := S2.trans S3
          have nDb : D ≠ b := Ne.symm nbD
          -- at
          refine ⟨_, rfl, _, rfl, D, acc, rfl, .inl (SqL.of hD), _, _, rfl, rfl, b, u3, v3, _, rfl, hb3, ok3, (by omega), (by omega), fun at_ u4 v4 at0 at1 ok4 => ?_⟩
          have g4 : Good mv cs (upd H3 b (box u4 v4)) D acc := g3.pre nDb hb3 (Pre.box ok4)
          have P4 : Pre b H (upd H3 b (box u4 v4)) := P3.trans (Pre.box ok4)
          have hb4 : upd H3 b (box u4 v4) b = some (box u4 v4) := upd_same
          generalize upd H3 b (box u4 v4) = H4 at g4 P4 hb4
          -- odd
          refine ⟨_, rfl, b, u4, v4, rfl, hb4, ok4, fun y H5 S5 ay => ?_⟩
          have g5 := g4.pre nDb hb4 S5
          have P5 := P4.trans S5
          obtain ⟨_, u5, v5, ok5, hb5⟩ := id S5
          refine ⟨_, rfl, _, rfl, D, acc, rfl, .inl ⟨SqL.of g5.1, fun tq ntq => ?_⟩⟩
          have s6 : Same H5 (upd H5 tq (.tup acc)) := Same.new ntq
          have g6 := g5.same s6
          have ay6 := ay.same s6
          have at6 : AW cs (upd H5 tq (.tup acc)) (.ref tq) := .tup upd_same (by omega) fun z hz => (g6.2.2 z hz).1
          have P6 := P5.then s6
          have hb6 := s6 _ _ hb5
          generalize upd H5 tq (.tup acc) = H6 at g6 ay6 at6 P6 hb6
          refine ⟨_, rfl, fun y1 dy ny ndy ne => ?_⟩
          have sm : Same H6 (upd (upd H6 dy (.own y1)) y1 (.ins HC dy [])) := made_same ny ndy
          refine ⟨y1, dy, .ref D, rfl, upd_same, (g6.same sm).aw, hc, fun xs ei e q H7 keep hx hq => ⟨rfl, ?_⟩, fun e => absurd (g6.same sm).ok (by rw [e]; decide)⟩
          have s7 : Same H6 H7 := fun c o h => keep c o (fun z => by rw [z, ny] at h; cases h) (sm c o h)
          have g7 := g6.same s7
          have ay7 := ay6.same s7
          have at7 := at6.same s7
          have ah7 : AW cs H7 (.ref y1) := .ins hx hc
          have P7 := P6.then s7
          have hb7 := s7 _ _ hb6
          refine ⟨(by show 8 ≤ sizeLine; decide), fun l nl => ?_⟩
          have bl : b ≠ l := ne_of_none hb7 nl
          refine ⟨_, rfl, _, rfl, b, l, u5, v5, _, rfl, (by rw [upd_ne bl]; exact hb7), ok5, (fun q => bl q.symm), SqL.of upd_same, (by show 1 ≤ 8; decide), (by show 8 ≤ 1000; decide), fun od u9 v9 hod ok9 => ?_⟩
          have S9 : Pre b H7 (upd (upd H7 l (.lst [y, .str "shut", .str "begin 1", .ref D, .ref tq, .ref y1, .int 3, .non])) b (box u9 v9)) := ⟨(SameX.of (Same.new nl)).trans SameX.box, u9, v9, ok9, upd_same⟩
          have ao7 : AW cs H7 od := by
            simp only [List.mem_cons, List.not_mem_nil, or_false] at hod
            rcases hod with rfl | rfl | rfl | rfl | rfl | rfl | rfl | rfl
            · exact ay7
            · exact .flat (.str _) (fun a q => nomatch q)
            · exact .flat (.str _) (fun a q => nomatch q)
            · exact g7.aw
            · exact at7
            · exact ah7
            · exact .flat (.int _) (fun a q => nomatch q)
            · exact .flat .non (fun a q => nomatch q)
          have g9 := g7.pre nDb hb7 S9
          have ao9 := ao7.pre S9
          have P9 := P7.trans S9
          have hb9 : upd (upd H7 l (.lst [y, .str "shut", .str "begin 1", .ref D, .ref tq, .ref y1, .int 3, .non])) b (box u9 v9) b = some (box u9 v9) := upd_same
          generalize upd (upd H7 l (.lst [y, .str "shut", .str "begin 1", .ref D, .ref tq, .ref y1, .int 3, .non])) b (box u9 v9) = H9 at g9 ao9 P9 hb9
          clear hod
          -- some
          refine ⟨_, rfl, _, rfl, D, acc, rfl, .inl ⟨SqL.of g9.1, fun t2 nt2 => ?_⟩⟩
          have sa : Same H9 (upd H9 t2 (.tup acc)) := Same.new nt2
          have ga := g9.same sa
          have at2 : AW cs (upd H9 t2 (.tup acc)) (.ref t2) := .tup upd_same (by omega) fun z hz => (ga.2.2 z hz).1
          generalize upd H9 t2 (.tup acc) = Ha at sa ga at2
          refine ⟨_, rfl, _, rfl, _, rfl, D, acc, rfl, SqL.of ga.1, fun p3 n3 => ?_⟩
          have sb : Same Ha (upd Ha p3 (.lst (cutV acc none (some at_)))) := Same.new n3
          have c3 : upd Ha p3 (.lst (cutV acc none (some at_))) p3 = some (.lst (cutV acc none (some at_))) := upd_same
          generalize upd Ha p3 (.lst (cutV acc none (some at_))) = Hb at sb c3
          refine ⟨_, rfl, (by show 1 ≤ sizeLine; decide), fun p4 n4 => ?_⟩
          have sc : Same Hb (upd Hb p4 (.lst [od])) := Same.new n4
          have c4 : upd Hb p4 (.lst [od]) p4 = some (.lst [od]) := upd_same
          generalize upd Hb p4 (.lst [od]) = Hc at sc c4
          have l1 := cutV_length acc none (some at_)
          have l2 := cutV_length acc (some at_) none
          have la := g9.2.1
          refine ⟨p3, p4, _, _, rfl, rfl, sc _ _ c3, c4, small (by show (cutV acc none (some at_)).length + 1 ≤ 10000; omega), fun p5 n5 => ?_⟩
          have sd : Same Hc (upd Hc p5 (.lst (cutV acc none (some at_) ++ [od]))) := Same.new n5
          have c5 : upd Hc p5 (.lst (cutV acc none (some at_) ++ [od])) p5 = some (.lst (cutV acc none (some at_) ++ [od])) := upd_same
          generalize upd Hc p5 (.lst (cutV acc none (some at_) ++ [od])) = Hd at sd c5
          have gd : Good mv cs Hd D acc := ((ga.same sb).same sc).same sd
          refine ⟨_, rfl, _, rfl, _, rfl, D, acc, rfl, SqL.of gd.1, fun p6 n6 => ?_⟩
          have se : Same Hd (upd Hd p6 (.lst (cutV acc (some at_) none))) := Same.new n6
          have c6 : upd Hd p6 (.lst (cutV acc (some at_) none)) p6 = some (.lst (cutV acc (some at_) none)) := upd_same
          generalize upd Hd p6 (.lst (cutV acc (some at_) none)) = He at se c6
          refine ⟨p5, p6, _, _, rfl, rfl, se _ _ c5, c6, small (by rw [List.length_append, List.length_singleton]; omega), fun p7 n7 => ?_⟩
          have sf : Same He (upd He p7 (.lst (cutV acc none (some at_) ++ [od] ++ cutV acc (some at_) none))) := Same.new n7
          have c7 : upd He p7 (.lst (cutV acc none (some at_) ++ [od] ++ cutV acc (some at_) none)) p7 = some (.lst (cutV acc none (some at_) ++ [od] ++ cutV acc (some at_) none)) := upd_same
          generalize upd He p7 (.lst (cutV acc none (some at_) ++ [od] ++ cutV acc (some at_) none)) = Hf at sf c7
          have s9f : Same H9 Hf := ((((sa.trans sb).trans sc).trans sd).trans se).trans sf
          have aof := ao9.same s9f
          have gf := g9.same s9f
          have ap7 : AW cs Hf (.ref p7) := by
            refine .lst c7 (by rw [List.length_append, List.length_append, List.length_singleton]; omega) fun z hz => ?_
            rcases List.mem_append.mp hz with hz | hz
            · rcases List.mem_append.mp hz with hz | hz
              · exact (gf.2.2 z (cut_mem hz)).1
              · rw [List.mem_singleton.mp hz]
                exact aof.1
            · exact (gf.2.2 z (cut_mem hz)).1
          have atf := at2.same ((((sb.trans sc).trans sd).trans se).trans sf)
          refine ⟨_, rfl, (by show 1 ≤ sizeLine; decide), fun p8 n8 => ?_⟩
          have sg : Same Hf (upd Hf p8 (.tup [od])) := Same.new n8
          have ap8 : AW cs (upd Hf p8 (.tup [od])) (.ref p8) := .tup upd_same (by show 1 ≤ 100; decide) fun z hz => by
            rw [List.mem_singleton.mp hz]
            exact aof.1.same sg
          generalize upd Hf p8 (.tup [od]) = Hg at sg ap8
          refine ⟨_, rfl, _, rfl, fun y2 dy2 ny2 ndy2 ne2 => ?_⟩
          have sm2 : Same Hg (upd (upd Hg dy2 (.own y2)) y2 (.ins HC dy2 [])) := made_same ny2 ndy2
          have gg := gf.same sg
          refine ⟨y2, dy2, .ref D, rfl, upd_same, (gg.same sm2).aw, hc, fun xs2 ei2 e2 q2 Hh keep2 hx2 hq2 => ⟨rfl, ?_⟩, fun e => absurd (gg.same sm2).ok (by rw [e]; decide)⟩
          have sh : Same Hg Hh := fun c o h => keep2 c o (fun z => by rw [z, ny2] at h; cases h) (sm2 c o h)
          have ay2 : AW cs Hh (.ref y2) := .ins hx2 hc
          have sfh := sg.trans sh
          refine ⟨(by show 6 ≤ sizeLine; decide), fun l9 nl9 => ?_⟩
          have si : Same Hh (upd Hh l9 (.lst [.ref D, .ref t2, .ref p7, .ref p8, od, .ref y2])) := Same.new nl9
          have c9 : upd Hh l9 (.lst [.ref D, .ref t2, .ref p7, .ref p8, od, .ref y2]) l9 = some (.lst [.ref D, .ref t2, .ref p7, .ref p8, od, .ref y2]) := upd_same
          have six : ∀ z ∈ [V.ref D, .ref t2, .ref p7, .ref p8, od, .ref y2], AW cs (upd Hh l9 (.lst [.ref D, .ref t2, .ref p7, .ref p8, od, .ref y2])) z := by
            intro z hz
            simp only [List.mem_cons, List.not_mem_nil, or_false] at hz
            rcases hz with rfl | rfl | rfl | rfl | rfl | rfl
            · exact ((gf.same sfh).same si).aw
            · exact (atf.same sfh).same si
            · exact (ap7.same sfh).same si
            · exact (ap8.same sh).same si
            · exact (aof.same sfh).same si
            · exact ay2.same si
          have Pi : Pre b H (upd Hh l9 (.lst [.ref D, .ref t2, .ref p7, .ref p8, od, .ref y2])) := ((P9.then s9f).then sfh).then si
          have hbi := si _ _ (sfh _ _ (s9f _ _ hb9))
          generalize upd Hh l9 (.lst [.ref D, .ref t2, .ref p7, .ref p8, od, .ref y2]) = Hi at c9 six Pi hbi
          -- each value
          refine ⟨_, rfl, _, rfl, b, u9, v9, rfl, hbi, ok9, fun y4 Hj Sj ay4 => ?_⟩
          refine ⟨(by show 1 ≤ sizeLine; decide), fun l5 nl5 => ?_⟩
          have nl9b : l9 ≠ b := fun z => by
            rw [z, hbi] at c9
            injection c9 with c9
            injection c9 with c9
            cases c9
          have sk : Same Hj (upd Hj l5 (.lst [y4])) := Same.new nl5
          refine ⟨l9, l5, _, _, rfl, rfl, sk _ _ (Sj.1 _ _ nl9b c9), upd_same, small (by show 6 + 1 ≤ 10000; decide), fun l6 nl6 => ?_⟩
          have sl : Same (upd Hj l5 (.lst [y4])) (upd (upd Hj l5 (.lst [y4])) l6 (.lst ([.ref D, .ref t2, .ref p7, .ref p8, od, .ref y2] ++ [y4]))) := Same.new nl6
          have all7 : ∀ z ∈ [V.ref D, .ref t2, .ref p7, .ref p8, od, .ref y2] ++ [y4], AW cs (upd (upd Hj l5 (.lst [y4])) l6 (.lst ([.ref D, .ref t2, .ref p7, .ref p8, od, .ref y2] ++ [y4]))) z := by
            intro z hz
            rcases List.mem_append.mp hz with hz | hz
            · exact (((six z hz).pre Sj).same sk).same sl
            · rw [List.mem_singleton.mp hz]
              exact (ay4.same sk).same sl
          have Pl : Pre b H (upd (upd Hj l5 (.lst [y4])) l6 (.lst ([.ref D, .ref t2, .ref p7, .ref p8, od, .ref y2] ++ [y4]))) := ((Pi.trans Sj).then sk).then sl
          have cl : upd (upd Hj l5 (.lst [y4])) l6 (.lst ([.ref D, .ref t2, .ref p7, .ref p8, od, .ref y2] ++ [y4])) l6 = some (.lst ([.ref D, .ref t2, .ref p7, .ref p8, od, .ref y2] ++ [y4])) := upd_same
          generalize upd (upd Hj l5 (.lst [y4])) l6 (.lst ([.ref D, .ref t2, .ref p7, .ref p8, od, .ref y2] ++ [y4])) = Hl at all7 Pl cl
          refine ⟨l6, rfl, ⟨_, SqL.of cl⟩, for_list (K := K) (a := l6) (xs := [.ref D, .ref t2, .ref p7, .ref p8, od, .ref y2] ++ [y4])
            (fun m σ H' => (∃ o3 o4 o5 o6 o7 o8 o9 : Option V, σ = [some (.ref a), some (.int (0 + (i : Int))), some (.ref b), o3, o4, o5, o6, o7, o8, o9]) ∧ Same Hl H') ⟨⟨_, _, _, _, _, _, _, rfl⟩, Same.refl Hl⟩ (fun m σ H' _ ⟨_, sq⟩ => SqL.of (sq _ _ cl)) ?_ ?_⟩
          · rintro m z σ H' hz ⟨⟨o3, o4, o5, o6, o7, o8, o9, rfl⟩, sq⟩
            have awz : AW cs H' z := (all7 z (List.mem_of_getElem? hz)).same sq
            refine ⟨_, rfl, z, rfl, awz, fun H2 t2 => ?_⟩
            dsimp only [tNil]
            refine shown_due awz ?_
            refine ⟨_, rfl, z, rfl, awz.same t2, fun H3 t3 => ?_⟩
            dsimp only [tNil]
            refine shown_due (awz.same t2) ?_
            rw [dueV_same awz t2]
            refine ⟨rfl, _, rfl, ?_⟩
            rw [decide_eq_true rfl]
            exact iteF ⟨⟨_, _, _, _, _, _, _, rfl⟩, (sq.trans t2).trans t3⟩
          · rintro σ H' ⟨⟨o3, o4, o5, o6, o7, o8, o9, rfl⟩, sq⟩
            exact ⟨⟨_, _, _, _, _, _, _, rfl⟩, Pl.then sq⟩
      · rintro σ H' ⟨⟨o3, o4, o5, o6, o7, o8, o9, rfl⟩, s2, _⟩
        exact ⟨⟨_, _, _, _, _, _, _, _, _, rfl⟩, fun c o e => s2 c o (fun z => by rw [z, hb0] at e; cases e) e⟩
    · rintro σ H' ⟨⟨o1, o2, o3, o4, o5, o6, o7, o8, o9, rfl⟩, s0⟩
      exact k _
end
end V3

set_option Elab.async false
set_option linter.all false
set_option maxRecDepth 100000
namespace V3
open PySem L2
theorem kit_ref {K : PySem.W.Frag} {t C : Addr} {b : Bool} (h1 : PySem.W.isClsIn K C = true) (h2 : PySem.W.typeIn K (.ref C) = some (.type "type")) (h3 : PySem.W.subIn K (.ref t) (.ref C) = some b) (h4 : PySem.W.subIn K (.ref t) (.ref t) = some true) :
    PySem.W.kitOne K (.ref t) (.ref C) = some b := by
  unfold PySem.W.kitOne
  by_cases e : t = C
  · subst e
    rw [h4] at h3
    injection h3 with h3
    subst h3
    rw [if_pos (by simp)]
  · have n : (Value.ref t == Value.ref C) = false := by
      refine Bool.eq_false_iff.mpr fun q => e ?_
      exact Value.ref.inj (beq_iff_eq.mp q)
    rw [n, if_neg Bool.false_ne_true]
    have q : ((PySem.W.clsIn K C).isSome && PySem.W.typeIn K (.ref C) == some (.type "type")) = true := by
      have z : (PySem.W.clsIn K C).isSome = true := h1
      rw [z, h2] <;> rfl
    show (if ((PySem.W.clsIn K C).isSome && PySem.W.typeIn K (.ref C) == some (.type "type")) = true then PySem.W.subIn K (.ref t) (.ref C) else none) = some b
    rw [if_pos q]
    exact h3
theorem all_mk {l : PySem.W.OpenLaw} {w : World} {K : PySem.W.Frag} {h : Heap} {mg : Str → Option Value} {fa f_int f_num f_amt f_ism f_seed f_choose f_one f_any f_am f_made f_ref f_due f_law CM CK CT MV BC TC RC SC HC f_im f_bi f_ti f_ri f_hi e_hi f_hl : Addr} (X : K.In h) (G : h.Ns mainGlobals mg) (hfa : mg "law" = some (.ref fa))
    {od_f_int an_f_int : Option Addr} {sl_f_int : Array (Option Value)} {oc_f_int kV_f_int dc_f_int pm_f_int cd_f_int ct_f_int : Value}
    {od_f_num an_f_num : Option Addr} {sl_f_num : Array (Option Value)} {oc_f_num kV_f_num dc_f_num pm_f_num cd_f_num ct_f_num : Value}
    {od_f_amt an_f_amt : Option Addr} {sl_f_amt : Array (Option Value)} {oc_f_amt kV_f_amt dc_f_amt pm_f_amt cd_f_amt ct_f_amt : Value}
    {od_f_ism an_f_ism : Option Addr} {sl_f_ism : Array (Option Value)} {oc_f_ism kV_f_ism dc_f_ism pm_f_ism cd_f_ism ct_f_ism : Value}
    {od_f_seed an_f_seed : Option Addr} {sl_f_seed : Array (Option Value)} {oc_f_seed kV_f_seed dc_f_seed pm_f_seed cd_f_seed ct_f_seed : Value}
    {od_f_choose an_f_choose : Option Addr} {sl_f_choose : Array (Option Value)} {oc_f_choose kV_f_choose dc_f_choose pm_f_choose cd_f_choose ct_f_choose : Value}
    {od_f_one an_f_one : Option Addr} {sl_f_one : Array (Option Value)} {oc_f_one kV_f_one dc_f_one pm_f_one cd_f_one ct_f_one : Value}
    {od_f_any an_f_any : Option Addr} {sl_f_any : Array (Option Value)} {oc_f_any kV_f_any dc_f_any pm_f_any cd_f_any ct_f_any : Value}
    {od_f_am an_f_am : Option Addr} {sl_f_am : Array (Option Value)} {oc_f_am kV_f_am dc_f_am pm_f_am cd_f_am ct_f_am : Value}
    {od_f_made an_f_made : Option Addr} {sl_f_made : Array (Option Value)} {oc_f_made kV_f_made dc_f_made pm_f_made cd_f_made ct_f_made : Value}
    {od_f_ref an_f_ref : Option Addr} {sl_f_ref : Array (Option Value)} {oc_f_ref kV_f_ref dc_f_ref pm_f_ref cd_f_ref ct_f_ref : Value}
    {od_f_due an_f_due : Option Addr} {sl_f_due : Array (Option Value)} {oc_f_due kV_f_due dc_f_due pm_f_due cd_f_due ct_f_due : Value}
    {od_f_law an_f_law : Option Addr} {sl_f_law : Array (Option Value)} {oc_f_law kV_f_law dc_f_law pm_f_law cd_f_law ct_f_law : Value}
    {nm_CM q_CM : Str} {N_CM : Addr} {bs_CM bm_CM : List Value} {sn_CM : List Str} {sub_CM : List Value} {ab_CM : Bool} {col_CM : Option Bool} {dd_CM : Option Addr} {m0_CM m1_CM m2_CM m3_CM m5_CM : Option Value}
    {od_f_im an_f_im : Option Addr} {sl_f_im : Array (Option Value)} {oc_f_im kV_f_im dc_f_im pm_f_im cd_f_im ct_f_im : Value}
    {od_f_bi an_f_bi : Option Addr} {sl_f_bi : Array (Option Value)} {oc_f_bi kV_f_bi dc_f_bi pm_f_bi cd_f_bi ct_f_bi : Value}
    {od_f_ti an_f_ti dd_f_ti : Option Addr} {sl_f_ti ds_f_ti : Array (Option Value)} {oc_f_ti kV_f_ti dc_f_ti pm_f_ti cd_f_ti ct_f_ti : Value} {T_f_ti : Addr} {n_f_ti : Nat}
    {od_f_ri an_f_ri : Option Addr} {sl_f_ri : Array (Option Value)} {oc_f_ri kV_f_ri dc_f_ri pm_f_ri cd_f_ri ct_f_ri : Value}
    {od_f_hi an_f_hi dd_f_hi : Option Addr} {sl_f_hi ds_f_hi : Array (Option Value)} {oc_f_hi kV_f_hi dc_f_hi pm_f_hi cd_f_hi ct_f_hi : Value} {T_f_hi : Addr} {n_f_hi : Nat}
    {od_f_hl an_f_hl : Option Addr} {sl_f_hl : Array (Option Value)} {oc_f_hl kV_f_hl dc_f_hl pm_f_hl cd_f_hl ct_f_hl : Value}
    (g_f_int : PySem.W.nsIn K mainGlobals "is_integer" = some (some (.ref f_int)))
    (l_f_int : K.lookup f_int = some ⟨oc_f_int, od_f_int, .func (PySem.W.fnOf "is_integer" "is_integer" (defArgs sIsInt) (defBody sIsInt) (defScope sIsInt) .none kV_f_int dc_f_int pm_f_int an_f_int cd_f_int ct_f_int), sl_f_int⟩)
    (c_f_int : PySem.W.codeIn K cd_f_int "is_integer" = true)
    (k_f_int : PySem.W.keepIn K (.ref f_int) = true)
    (g_f_num : PySem.W.nsIn K mainGlobals "is_number" = some (some (.ref f_num)))
    (l_f_num : K.lookup f_num = some ⟨oc_f_num, od_f_num, .func (PySem.W.fnOf "is_number" "is_number" (defArgs sIsNum) (defBody sIsNum) (defScope sIsNum) .none kV_f_num dc_f_num pm_f_num an_f_num cd_f_num ct_f_num), sl_f_num⟩)
    (c_f_num : PySem.W.codeIn K cd_f_num "is_number" = true)
    (k_f_num : PySem.W.keepIn K (.ref f_num) = true)
    (g_f_amt : PySem.W.nsIn K mainGlobals "is_amount" = some (some (.ref f_amt)))
    (l_f_amt : K.lookup f_amt = some ⟨oc_f_amt, od_f_amt, .func (PySem.W.fnOf "is_amount" "is_amount" (defArgs sIsAmt) (defBody sIsAmt) (defScope sIsAmt) .none kV_f_amt dc_f_amt pm_f_amt an_f_amt cd_f_amt ct_f_amt), sl_f_amt⟩)
    (c_f_amt : PySem.W.codeIn K cd_f_amt "is_amount" = true)
    (k_f_amt : PySem.W.keepIn K (.ref f_amt) = true)
    (g_f_ism : PySem.W.nsIn K mainGlobals "is_moves" = some (some (.ref f_ism)))
    (l_f_ism : K.lookup f_ism = some ⟨oc_f_ism, od_f_ism, .func (PySem.W.fnOf "is_moves" "is_moves" (defArgs sIsMoves) (defBody sIsMoves) (defScope sIsMoves) .none kV_f_ism dc_f_ism pm_f_ism an_f_ism cd_f_ism ct_f_ism), sl_f_ism⟩)
    (c_f_ism : PySem.W.codeIn K cd_f_ism "is_moves" = true)
    (k_f_ism : PySem.W.keepIn K (.ref f_ism) = true)
    (g_f_seed : PySem.W.nsIn K mainGlobals "_law_seed" = some (some (.ref f_seed)))
    (l_f_seed : K.lookup f_seed = some ⟨oc_f_seed, od_f_seed, .func (PySem.W.fnOf "_law_seed" "_law_seed" (defArgs sSeed) (defBody sSeed) (defScope sSeed) .none kV_f_seed dc_f_seed pm_f_seed an_f_seed cd_f_seed ct_f_seed), sl_f_seed⟩)
    (c_f_seed : PySem.W.codeIn K cd_f_seed "_law_seed" = true)
    (k_f_seed : PySem.W.keepIn K (.ref f_seed) = true)
    (g_f_choose : PySem.W.nsIn K mainGlobals "_law_choose" = some (some (.ref f_choose)))
    (l_f_choose : K.lookup f_choose = some ⟨oc_f_choose, od_f_choose, .func (PySem.W.fnOf "_law_choose" "_law_choose" (defArgs sChoose) (defBody sChoose) (defScope sChoose) .none kV_f_choose dc_f_choose pm_f_choose an_f_choose cd_f_choose ct_f_choose), sl_f_choose⟩)
    (c_f_choose : PySem.W.codeIn K cd_f_choose "_law_choose" = true)
    (k_f_choose : PySem.W.keepIn K (.ref f_choose) = true)
    (g_f_one : PySem.W.nsIn K mainGlobals "_law_one_of" = some (some (.ref f_one)))
    (l_f_one : K.lookup f_one = some ⟨oc_f_one, od_f_one, .func (PySem.W.fnOf "_law_one_of" "_law_one_of" (defArgs sOneOf) (defBody sOneOf) (defScope sOneOf) .none kV_f_one dc_f_one pm_f_one an_f_one cd_f_one ct_f_one), sl_f_one⟩)
    (c_f_one : PySem.W.codeIn K cd_f_one "_law_one_of" = true)
    (k_f_one : PySem.W.keepIn K (.ref f_one) = true)
    (g_f_any : PySem.W.nsIn K mainGlobals "_law_anything" = some (some (.ref f_any)))
    (l_f_any : K.lookup f_any = some ⟨oc_f_any, od_f_any, .func (PySem.W.fnOf "_law_anything" "_law_anything" (defArgs sAny) (defBody sAny) (defScope sAny) .none kV_f_any dc_f_any pm_f_any an_f_any cd_f_any ct_f_any), sl_f_any⟩)
    (c_f_any : PySem.W.codeIn K cd_f_any "_law_anything" = true)
    (k_f_any : PySem.W.keepIn K (.ref f_any) = true)
    (g_f_am : PySem.W.nsIn K mainGlobals "_law_any_move" = some (some (.ref f_am)))
    (l_f_am : K.lookup f_am = some ⟨oc_f_am, od_f_am, .func (PySem.W.fnOf "_law_any_move" "_law_any_move" (defArgs sAnyMove) (defBody sAnyMove) (defScope sAnyMove) .none kV_f_am dc_f_am pm_f_am an_f_am cd_f_am ct_f_am), sl_f_am⟩)
    (c_f_am : PySem.W.codeIn K cd_f_am "_law_any_move" = true)
    (k_f_am : PySem.W.keepIn K (.ref f_am) = true)
    (g_f_made : PySem.W.nsIn K mainGlobals "_law_made" = some (some (.ref f_made)))
    (l_f_made : K.lookup f_made = some ⟨oc_f_made, od_f_made, .func (PySem.W.fnOf "_law_made" "_law_made" (defArgs sMade) (defBody sMade) (defScope sMade) .none kV_f_made dc_f_made pm_f_made an_f_made cd_f_made ct_f_made), sl_f_made⟩)
    (c_f_made : PySem.W.codeIn K cd_f_made "_law_made" = true)
    (k_f_made : PySem.W.keepIn K (.ref f_made) = true)
    (g_f_ref : PySem.W.nsIn K mainGlobals "_law_refused" = some (some (.ref f_ref)))
    (l_f_ref : K.lookup f_ref = some ⟨oc_f_ref, od_f_ref, .func (PySem.W.fnOf "_law_refused" "_law_refused" (defArgs sRefused) (defBody sRefused) (defScope sRefused) .none kV_f_ref dc_f_ref pm_f_ref an_f_ref cd_f_ref ct_f_ref), sl_f_ref⟩)
    (c_f_ref : PySem.W.codeIn K cd_f_ref "_law_refused" = true)
    (k_f_ref : PySem.W.keepIn K (.ref f_ref) = true)
    (g_f_due : PySem.W.nsIn K mainGlobals "_law_due" = some (some (.ref f_due)))
    (l_f_due : K.lookup f_due = some ⟨oc_f_due, od_f_due, .func (PySem.W.fnOf "_law_due" "_law_due" (defArgs sDue) (defBody sDue) (defScope sDue) .none kV_f_due dc_f_due pm_f_due an_f_due cd_f_due ct_f_due), sl_f_due⟩)
    (c_f_due : PySem.W.codeIn K cd_f_due "_law_due" = true)
    (k_f_due : PySem.W.keepIn K (.ref f_due) = true)
    (g_f_law : PySem.W.nsIn K mainGlobals "law" = some (some (.ref f_law)))
    (l_f_law : K.lookup f_law = some ⟨oc_f_law, od_f_law, .func (PySem.W.fnOf "law" "law" (defArgs sLaw) (defBody sLaw) (defScope sLaw) .none kV_f_law dc_f_law pm_f_law an_f_law cd_f_law ct_f_law), sl_f_law⟩)
    (c_f_law : PySem.W.codeIn K cd_f_law "law" = true)
    (k_f_law : PySem.W.keepIn K (.ref f_law) = true)
    (g_CM : PySem.W.nsIn K mainGlobals "InvalidMove" = some (some (.ref CM)))
    (g_CK : PySem.W.nsIn K mainGlobals "BookError" = some (some (.ref CK)))
    (g_CT : PySem.W.nsIn K mainGlobals "InvalidText" = some (some (.ref CT)))
    (g_MV : PySem.W.nsIn K mainGlobals "Move" = some (some (.ref MV)))
    (g_BC : PySem.W.nsIn K mainGlobals "Begin" = some (some (.ref BC)))
    (g_TC : PySem.W.nsIn K mainGlobals "Take" = some (some (.ref TC)))
    (g_RC : PySem.W.nsIn K mainGlobals "Right" = some (some (.ref RC)))
    (g_SC : PySem.W.nsIn K mainGlobals "Shut" = some (some (.ref SC)))
    (g_HC : PySem.W.nsIn K mainGlobals "History" = some (some (.ref HC)))
    (x_CM : K.lookup CM = some (PySem.excClassObj nm_CM q_CM CM N_CM bs_CM bm_CM true sn_CM sub_CM ab_CM col_CM dd_CM m0_CM m1_CM m2_CM m3_CM m5_CM "ValueError.__new__"))
    (xb_CM : PySem.HandSPX.refsVE bm_CM = true)
    (xsa_CM : PySem.W.findIn K (.ref CM) "__setattr__" = some (some (.builtin "object.__setattr__")))
    (xga_CM : PySem.W.findIn K (.ref CM) "__getattribute__" = some (some (.builtin "BaseException.__getattribute__")))
    (xgg_CM : PySem.W.findIn K (.ref CM) "__getattr__" = some none)
    (xex_CM : PySem.W.subIn K (.ref CM) (.type "BaseException") = some true)
    (xty_CM : PySem.W.typeIn K (.ref CM) = some (.type "type"))
    (xkc_CM : PySem.W.keepIn K (.ref CM) = true)
    (xhd_CM : PySem.W.hasDictIn K CM = true)
    (xis_CM : PySem.W.isClsIn K CM = true)
    (xca_CM : PySem.W.findIn K (.ref CM) "__class__" = some (some (.builtin "object.__class__")))
    (xgn_CM : PySem.W.specialIn K (.builtin "object.__class__") "__get__" = some (some (.builtin "getset_descriptor.__get__")))
    (xtk_CM : PySem.W.takesIn K (.builtin "object.__class__") = some true)
    (xmo_CM : PySem.W.mroIn K CM (.type "object") = some true)
    (xss_CM : PySem.W.subIn K (.ref CM) (.ref CM) = some true)
    (no_CM_word : PySem.W.findIn K (.ref CM) "word" = some none)
    (a_f_im : PySem.W.findIn K (.ref CM) "__init__" = some (some (.ref f_im)))
    (tf_im : PySem.W.typeIn K (.ref f_im) = some (.type "function"))
    (l_f_im : K.lookup f_im = some ⟨oc_f_im, od_f_im, .func (PySem.W.fnOf "__init__" "InvalidMove.__init__" (defArgs sImInit) (defBody sImInit) (defScope sImInit) .none kV_f_im dc_f_im pm_f_im an_f_im cd_f_im ct_f_im), sl_f_im⟩)
    (c_f_im : PySem.W.codeIn K cd_f_im "InvalidMove.__init__" = true)
    (k_f_im : PySem.W.keepIn K (.ref f_im) = true)
    (is_CK : PySem.W.isClsIn K CK = true)
    (ty_CK : PySem.W.typeIn K (.ref CK) = some (.type "type"))
    (su_CK : PySem.W.subIn K (.ref CM) (.ref CK) = some true)
    (is_CT : PySem.W.isClsIn K CT = true)
    (ty_CT : PySem.W.typeIn K (.ref CT) = some (.type "type"))
    (su_CT : PySem.W.subIn K (.ref CM) (.ref CT) = some false)
    (is_MV : PySem.W.isClsIn K MV = true)
    (ty_MV : PySem.W.typeIn K (.ref MV) = some (.type "type"))
    (fl_NoneType : PySem.W.subIn K (.type "NoneType") (.ref MV) = some false)
    (fl_bool : PySem.W.subIn K (.type "bool") (.ref MV) = some false)
    (fl_int : PySem.W.subIn K (.type "int") (.ref MV) = some false)
    (fl_str : PySem.W.subIn K (.type "str") (.ref MV) = some false)
    (fl_list : PySem.W.subIn K (.type "list") (.ref MV) = some false)
    (fl_tuple : PySem.W.subIn K (.type "tuple") (.ref MV) = some false)
    (pg_BC : PySem.W.plainGet K BC Str.empty = true)
    (hd_BC : PySem.W.hasDictIn K BC = true)
    (po_BC : PySem.W.plainOver K BC = true)
    (sa_BC : PySem.W.findIn K (.ref BC) "__setattr__" = some (some (.builtin "object.__setattr__")))
    (mk_BC : PySem.W.makesIn K BC = true)
    (kc_BC : PySem.W.keepIn K (.ref BC) = true)
    (ca_BC : PySem.W.findIn K (.ref BC) "__class__" = some (some (.builtin "object.__class__")))
    (mo_BC : PySem.W.mroIn K BC (.type "object") = some true)
    (sl_BC : PySem.W.subIn K (.ref BC) (.type "list") = some false)
    (st_BC : PySem.W.subIn K (.ref BC) (.type "tuple") = some false)
    (sm_BC : PySem.W.subIn K (.ref BC) (.ref MV) = some true)
    (ss_BC : PySem.W.subIn K (.ref BC) (.ref BC) = some true)
    (pg_TC : PySem.W.plainGet K TC Str.empty = true)
    (hd_TC : PySem.W.hasDictIn K TC = true)
    (po_TC : PySem.W.plainOver K TC = true)
    (sa_TC : PySem.W.findIn K (.ref TC) "__setattr__" = some (some (.builtin "object.__setattr__")))
    (mk_TC : PySem.W.makesIn K TC = true)
    (kc_TC : PySem.W.keepIn K (.ref TC) = true)
    (ca_TC : PySem.W.findIn K (.ref TC) "__class__" = some (some (.builtin "object.__class__")))
    (mo_TC : PySem.W.mroIn K TC (.type "object") = some true)
    (sl_TC : PySem.W.subIn K (.ref TC) (.type "list") = some false)
    (st_TC : PySem.W.subIn K (.ref TC) (.type "tuple") = some false)
    (sm_TC : PySem.W.subIn K (.ref TC) (.ref MV) = some true)
    (ss_TC : PySem.W.subIn K (.ref TC) (.ref TC) = some true)
    (pg_RC : PySem.W.plainGet K RC Str.empty = true)
    (hd_RC : PySem.W.hasDictIn K RC = true)
    (po_RC : PySem.W.plainOver K RC = true)
    (sa_RC : PySem.W.findIn K (.ref RC) "__setattr__" = some (some (.builtin "object.__setattr__")))
    (mk_RC : PySem.W.makesIn K RC = true)
    (kc_RC : PySem.W.keepIn K (.ref RC) = true)
    (ca_RC : PySem.W.findIn K (.ref RC) "__class__" = some (some (.builtin "object.__class__")))
    (mo_RC : PySem.W.mroIn K RC (.type "object") = some true)
    (sl_RC : PySem.W.subIn K (.ref RC) (.type "list") = some false)
    (st_RC : PySem.W.subIn K (.ref RC) (.type "tuple") = some false)
    (sm_RC : PySem.W.subIn K (.ref RC) (.ref MV) = some true)
    (ss_RC : PySem.W.subIn K (.ref RC) (.ref RC) = some true)
    (pg_SC : PySem.W.plainGet K SC Str.empty = true)
    (hd_SC : PySem.W.hasDictIn K SC = true)
    (po_SC : PySem.W.plainOver K SC = true)
    (sa_SC : PySem.W.findIn K (.ref SC) "__setattr__" = some (some (.builtin "object.__setattr__")))
    (mk_SC : PySem.W.makesIn K SC = true)
    (kc_SC : PySem.W.keepIn K (.ref SC) = true)
    (ca_SC : PySem.W.findIn K (.ref SC) "__class__" = some (some (.builtin "object.__class__")))
    (mo_SC : PySem.W.mroIn K SC (.type "object") = some true)
    (sl_SC : PySem.W.subIn K (.ref SC) (.type "list") = some false)
    (st_SC : PySem.W.subIn K (.ref SC) (.type "tuple") = some false)
    (sm_SC : PySem.W.subIn K (.ref SC) (.ref MV) = some true)
    (ss_SC : PySem.W.subIn K (.ref SC) (.ref SC) = some true)
    (pg_HC : PySem.W.plainGet K HC Str.empty = true)
    (hd_HC : PySem.W.hasDictIn K HC = true)
    (po_HC : PySem.W.plainOver K HC = true)
    (sa_HC : PySem.W.findIn K (.ref HC) "__setattr__" = some (some (.builtin "object.__setattr__")))
    (mk_HC : PySem.W.makesIn K HC = true)
    (kc_HC : PySem.W.keepIn K (.ref HC) = true)
    (ca_HC : PySem.W.findIn K (.ref HC) "__class__" = some (some (.builtin "object.__class__")))
    (mo_HC : PySem.W.mroIn K HC (.type "object") = some true)
    (sl_HC : PySem.W.subIn K (.ref HC) (.type "list") = some false)
    (st_HC : PySem.W.subIn K (.ref HC) (.type "tuple") = some false)
    (sm_HC : PySem.W.subIn K (.ref HC) (.ref MV) = some false)
    (ss_HC : PySem.W.subIn K (.ref HC) (.ref HC) = some true)
    (no_BC_amount : PySem.W.findIn K (.ref BC) "amount" = some none)
    (no_TC_at : PySem.W.findIn K (.ref TC) "at" = some none)
    (no_TC_amount : PySem.W.findIn K (.ref TC) "amount" = some none)
    (no_RC_at : PySem.W.findIn K (.ref RC) "at" = some none)
    (no_RC_amount : PySem.W.findIn K (.ref RC) "amount" = some none)
    (no_HC_moves : PySem.W.findIn K (.ref HC) "moves" = some none)
    (a_f_bi : PySem.W.findIn K (.ref BC) "__init__" = some (some (.ref f_bi)))
    (i_f_bi : PySem.W.isFn K (.ref f_bi) = true)
    (l_f_bi : K.lookup f_bi = some ⟨oc_f_bi, od_f_bi, .func (PySem.W.fnOf "__init__" "Begin.__init__" (defArgs sBInit) (defBody sBInit) (defScope sBInit) .none kV_f_bi dc_f_bi pm_f_bi an_f_bi cd_f_bi ct_f_bi), sl_f_bi⟩)
    (c_f_bi : PySem.W.codeIn K cd_f_bi "Begin.__init__" = true)
    (k_f_bi : PySem.W.keepIn K (.ref f_bi) = true)
    (a_f_ti : PySem.W.findIn K (.ref TC) "__init__" = some (some (.ref f_ti)))
    (i_f_ti : PySem.W.isFn K (.ref f_ti) = true)
    (l_f_ti : K.lookup f_ti = some ⟨oc_f_ti, od_f_ti, .func (PySem.W.fnOf "__init__" "Take.__init__" (defArgs sTInit) (defBody sTInit) (defScope sTInit) (.ref T_f_ti) kV_f_ti dc_f_ti pm_f_ti an_f_ti cd_f_ti ct_f_ti), sl_f_ti⟩)
    (c_f_ti : PySem.W.codeIn K cd_f_ti "Take.__init__" = true)
    (k_f_ti : PySem.W.keepIn K (.ref f_ti) = true)
    (t_f_ti : K.lookup T_f_ti = some ⟨.type "tuple", dd_f_ti, .seq #[.none] n_f_ti, ds_f_ti⟩)
    (a_f_ri : PySem.W.findIn K (.ref RC) "__init__" = some (some (.ref f_ri)))
    (i_f_ri : PySem.W.isFn K (.ref f_ri) = true)
    (l_f_ri : K.lookup f_ri = some ⟨oc_f_ri, od_f_ri, .func (PySem.W.fnOf "__init__" "Right.__init__" (defArgs sRInit) (defBody sRInit) (defScope sRInit) .none kV_f_ri dc_f_ri pm_f_ri an_f_ri cd_f_ri ct_f_ri), sl_f_ri⟩)
    (c_f_ri : PySem.W.codeIn K cd_f_ri "Right.__init__" = true)
    (k_f_ri : PySem.W.keepIn K (.ref f_ri) = true)
    (oi_SC : PySem.W.findIn K (.ref SC) "__init__" = some (some (.builtin "object.__init__")))
    (a_f_hi : PySem.W.findIn K (.ref HC) "__init__" = some (some (.ref f_hi)))
    (i_f_hi : PySem.W.isFn K (.ref f_hi) = true)
    (l_f_hi : K.lookup f_hi = some ⟨oc_f_hi, od_f_hi, .func (PySem.W.fnOf "__init__" "History.__init__" (defArgs sHInit) (defBody sHInit) (defScope sHInit) (.ref T_f_hi) kV_f_hi dc_f_hi pm_f_hi an_f_hi cd_f_hi ct_f_hi), sl_f_hi⟩)
    (c_f_hi : PySem.W.codeIn K cd_f_hi "History.__init__" = true)
    (k_f_hi : PySem.W.keepIn K (.ref f_hi) = true)
    (t_f_hi : K.lookup T_f_hi = some ⟨.type "tuple", dd_f_hi, .seq #[.ref e_hi] n_f_hi, ds_f_hi⟩)
    (a_f_hl : PySem.W.findIn K (.ref HC) "__len__" = some (some (.ref f_hl)))
    (i_f_hl : PySem.W.isFn K (.ref f_hl) = true)
    (l_f_hl : K.lookup f_hl = some ⟨oc_f_hl, od_f_hl, .func (PySem.W.fnOf "__len__" "History.__len__" (defArgs sHLen) (defBody sHLen) (defScope sHLen) .none kV_f_hl dc_f_hl pm_f_hl an_f_hl cd_f_hl ct_f_hl), sl_f_hl⟩)
    (c_f_hl : PySem.W.codeIn K cd_f_hl "History.__len__" = true)
    (k_f_hl : PySem.W.keepIn K (.ref f_hl) = true)
    (z_len : PySem.W.nsIn K mainGlobals "len" = some none)
    (z_abs : PySem.W.nsIn K mainGlobals "abs" = some none)
    (z_int : PySem.W.nsIn K mainGlobals "int" = some none)
    (z_isinstance : PySem.W.nsIn K mainGlobals "isinstance" = some none)
    (z_bool : PySem.W.nsIn K mainGlobals "bool" = some none)
    (z_range : PySem.W.nsIn K mainGlobals "range" = some none)
    (z_tuple : PySem.W.nsIn K mainGlobals "tuple" = some none)
    (z_list : PySem.W.nsIn K mainGlobals "list" = some none)
    (z_all : PySem.W.nsIn K mainGlobals "all" = some none)
    (z_max : PySem.W.nsIn K mainGlobals "max" = some none)
    (z_min : PySem.W.nsIn K mainGlobals "min" = some none)
    (z_repr : PySem.W.nsIn K mainGlobals "repr" = some none)
    : ∃ fd : FuncData, (∀ (s : Shared) (v : Value), BindsTo s fd ⟨[v], []⟩ [("_law_script", v)]) ∧ ∀ base : Heap, K.In base → base.Ns mainGlobals mg → FnOk l.prog w K mg base CX0 8 fa fd ["_law_script"] (spLaw K) := by
  have e := hfa.symm.trans (PySem.W.mg_of X G g_f_law)
  cases e
  have F_f_int := fun_mk (st := sIsInt) l_f_int c_f_int k_f_int
  have b_f_int := F_f_int.binds (ps := ["value"]) fun _ _ _ _ _ _ us hl => match us, hl with | [_], _ => rfl
  have F_f_num := fun_mk (st := sIsNum) l_f_num c_f_num k_f_num
  have b_f_num := F_f_num.binds (ps := ["value"]) fun _ _ _ _ _ _ us hl => match us, hl with | [_], _ => rfl
  have F_f_amt := fun_mk (st := sIsAmt) l_f_amt c_f_amt k_f_amt
  have b_f_amt := F_f_amt.binds (ps := ["value"]) fun _ _ _ _ _ _ us hl => match us, hl with | [_], _ => rfl
  have F_f_ism := fun_mk (st := sIsMoves) l_f_ism c_f_ism k_f_ism
  have b_f_ism := F_f_ism.binds (ps := ["value"]) fun _ _ _ _ _ _ us hl => match us, hl with | [_], _ => rfl
  have F_f_seed := fun_mk (st := sSeed) l_f_seed c_f_seed k_f_seed
  have b_f_seed := F_f_seed.binds (ps := ["_law_script", "_law_k"]) fun _ _ _ _ _ _ us hl => match us, hl with | [_, _], _ => rfl
  have F_f_choose := fun_mk (st := sChoose) l_f_choose c_f_choose k_f_choose
  have b_f_choose := F_f_choose.binds (ps := ["_law_box", "_law_many"]) fun _ _ _ _ _ _ us hl => match us, hl with | [_, _], _ => rfl
  have F_f_one := fun_mk (st := sOneOf) l_f_one c_f_one k_f_one
  have b_f_one := F_f_one.binds (ps := ["_law_box", "_law_some"]) fun _ _ _ _ _ _ us hl => match us, hl with | [_, _], _ => rfl
  have F_f_any := fun_mk (st := sAny) l_f_any c_f_any k_f_any
  have b_f_any := F_f_any.binds (ps := ["_law_box", "_law_deep"]) fun _ _ _ _ _ _ us hl => match us, hl with | [_, _], _ => rfl
  have F_f_am := fun_mk (st := sAnyMove) l_f_am c_f_am k_f_am
  have b_f_am := F_f_am.binds (ps := ["_law_box"]) fun _ _ _ _ _ _ us hl => match us, hl with | [_], _ => rfl
  have F_f_made := fun_mk (st := sMade) l_f_made c_f_made k_f_made
  have b_f_made := F_f_made.binds (ps := ["_law_move"]) fun _ _ _ _ _ _ us hl => match us, hl with | [_], _ => rfl
  have F_f_ref := fun_mk (st := sRefused) l_f_ref c_f_ref k_f_ref
  have b_f_ref := F_f_ref.binds (ps := ["_law_value"]) fun _ _ _ _ _ _ us hl => match us, hl with | [_], _ => rfl
  have F_f_due := fun_mk (st := sDue) l_f_due c_f_due k_f_due
  have b_f_due := F_f_due.binds (ps := ["_law_value"]) fun _ _ _ _ _ _ us hl => match us, hl with | [_], _ => rfl
  have F_f_law := fun_mk (st := sLaw) l_f_law c_f_law k_f_law
  have b_f_law := F_f_law.binds (ps := ["_law_script"]) fun _ _ _ _ _ _ us hl => match us, hl with | [_], _ => rfl
  have ox_CM : OexC K CM := ⟨⟨_, _, _, _, _, _, _, _, _, _, _, _, _, _, _, x_CM, xb_CM⟩, xsa_CM, xex_CM, xty_CM, xkc_CM⟩
  have xc_CM : XClass K CM := ⟨xis_CM, xga_CM, xgg_CM, xex_CM, xca_CM, xgn_CM, xtk_CM, xmo_CM⟩
  have xf_CM : XfC K CM := ⟨xga_CM, xgg_CM, xex_CM, xhd_CM⟩
  have F_f_im := fun_mk (st := sImInit) l_f_im c_f_im k_f_im
  have b_f_im := F_f_im.binds (ps := ["self", "word"]) fun _ _ _ _ _ _ us hl => match us, hl with | [_, _], _ => rfl
  have cl_BC : Cls K BC := ⟨pg_BC, hd_BC, po_BC, sa_BC⟩
  have cl_TC : Cls K TC := ⟨pg_TC, hd_TC, po_TC, sa_TC⟩
  have cl_RC : Cls K RC := ⟨pg_RC, hd_RC, po_RC, sa_RC⟩
  have cl_SC : Cls K SC := ⟨pg_SC, hd_SC, po_SC, sa_SC⟩
  have cl_HC : Cls K HC := ⟨pg_HC, hd_HC, po_HC, sa_HC⟩
  have F_f_bi := fun_mk (st := sBInit) l_f_bi c_f_bi k_f_bi
  have b_f_bi := F_f_bi.binds (ps := ["self", "amount"]) fun _ _ _ _ _ _ us hl => match us, hl with | [_, _], _ => rfl
  have F_f_ti : FunD K "__init__" "Take.__init__" (defArgs sTInit) (defBody sTInit) (defScope sTInit) [.non] [] f_ti _ := ⟨⟨_, _, _, _, _, _, _, _, _, _, rfl, l_f_ti, c_f_ti, .inr ⟨by simp, T_f_ti, _, [.none], n_f_ti, rfl, t_f_ti, rfl, .cons rfl .nil⟩, .inl rfl⟩, k_f_ti⟩
  obtain ⟨ds_, vds_, b_f_ti⟩ := F_f_ti.binds1 (ps := ["self", "at", "amount"]) 3 1 (by simp) rfl (fun _ _ _ _ _ _ _ us its hu hi => by
    match us, its, hu, hi with
    | [_, _, _], [_], _, _ => exact ⟨_, rfl, rfl⟩)
  cases vds_
  obtain ⟨es_f_ti, ve_f_ti, cb_f_ti⟩ := F_f_ti.binds1 (ps := ["self", "at", "amount"]) 2 0 (by simp) rfl (fun _ _ _ _ _ _ _ us its hu hi => by
    match us, its, hu, hi with
    | [_, _], [_], _, _ => exact ⟨_, rfl, rfl⟩)
  have F_f_ri := fun_mk (st := sRInit) l_f_ri c_f_ri k_f_ri
  have b_f_ri := F_f_ri.binds (ps := ["self", "at", "amount"]) fun _ _ _ _ _ _ us hl => match us, hl with | [_, _, _], _ => rfl
  have F_f_hi : FunD K "__init__" "History.__init__" (defArgs sHInit) (defBody sHInit) (defScope sHInit) [.ref e_hi] [] f_hi _ := ⟨⟨_, _, _, _, _, _, _, _, _, _, rfl, l_f_hi, c_f_hi, .inr ⟨by simp, T_f_hi, _, [.ref e_hi], n_f_hi, rfl, t_f_hi, rfl, .cons rfl .nil⟩, .inl rfl⟩, k_f_hi⟩
  obtain ⟨ds_, vds_, b_f_hi⟩ := F_f_hi.binds1 (ps := ["self", "moves"]) 2 1 (by simp) rfl (fun _ _ _ _ _ _ _ us its hu hi => by
    match us, its, hu, hi with
    | [_, _], [_], _, _ => exact ⟨_, rfl, rfl⟩)
  cases vds_
  have F_f_hl := fun_mk (st := sHLen) l_f_hl c_f_hl k_f_hl
  have b_f_hl := F_f_hl.binds (ps := ["self"]) fun _ _ _ _ _ _ us hl => match us, hl with | [_], _ => rfl
  have TA : Blt mg := ⟨PySem.W.mg_none_of X G z_len, PySem.W.mg_none_of X G z_abs, PySem.W.mg_none_of X G z_int⟩
  have TB : BltB mg := ⟨PySem.W.mg_none_of X G z_isinstance, PySem.W.mg_none_of X G z_int, PySem.W.mg_none_of X G z_bool⟩
  have TC' : BltC mg := ⟨PySem.W.mg_none_of X G z_range, PySem.W.mg_none_of X G z_tuple⟩
  have TD : BltD mg := ⟨PySem.W.mg_none_of X G z_isinstance, PySem.W.mg_none_of X G z_list, PySem.W.mg_none_of X G z_tuple, PySem.W.mg_none_of X G z_all⟩
  have TL : BltL mg := ⟨PySem.W.mg_none_of X G z_len, PySem.W.mg_none_of X G z_range, PySem.W.mg_none_of X G z_max, PySem.W.mg_none_of X G z_min, PySem.W.mg_none_of X G z_tuple, PySem.W.mg_none_of X G z_repr⟩
  have te : PySem.W.exmOne K (.ref CM) (.ref CM) = some true := by
    have e1 : (PySem.W.subIn K (.ref CM) (.type "BaseException") == some true) = true := by rw [xex_CM] <;> rfl
    have e2 : ((PySem.W.clsIn K CM).isSome && PySem.W.typeIn K (.ref CM) == some (.type "type")) = true := by
      have q : (PySem.W.clsIn K CM).isSome = true := xis_CM
      rw [q, xty_CM] <;> rfl
    show (if (PySem.W.subIn K (.ref CM) (.type "BaseException") == some true) = true then (if ((PySem.W.clsIn K CM).isSome && PySem.W.typeIn K (.ref CM) == some (.type "type")) = true then PySem.W.subIn K (.ref CM) (.ref CM) else none) else none) = some true
    rw [if_pos e1, if_pos e2]
    exact xss_CM
  have TE : ErTxt K mg CM CK CT := ⟨xc_CM, xf_CM, no_CM_word, PySem.W.mg_of X G g_CK, PySem.W.mg_of X G g_CT, kit_ref is_CK ty_CK su_CK xss_CM, kit_ref is_CT ty_CT su_CT xss_CM, te, PySem.W.mg_none_of X G z_len, PySem.W.mg_none_of X G z_isinstance⟩
  have nHC : ¬ HC ∈ [BC, TC, RC, SC] := by
    intro z
    simp only [List.mem_cons, List.not_mem_nil, or_false] at z
    rcases z with rfl | rfl | rfl | rfl
    · rw [sm_HC] at sm_BC; cases sm_BC
    · rw [sm_HC] at sm_TC; cases sm_TC
    · rw [sm_HC] at sm_RC; cases sm_RC
    · rw [sm_HC] at sm_SC; cases sm_SC
  have CF : ClsF K [BC, TC, RC, SC] [BC, TC, RC, SC, HC] MV := by
    refine ⟨fun C hC => ?_, xgn_CM, xtk_CM, is_MV, ty_MV, fl_NoneType, fl_bool, fl_int, fl_str, fl_list, fl_tuple⟩
    simp only [List.mem_cons, List.not_mem_nil, or_false] at hC
    rcases hC with h | h | h | h | h
    · rw [h]; exact ⟨cl_BC, ca_BC, mo_BC, sl_BC, st_BC, by rw [show decide (BC ∈ [BC, TC, RC, SC]) = true from by simp]; exact kit_ref is_MV ty_MV sm_BC ss_BC⟩
    · rw [h]; exact ⟨cl_TC, ca_TC, mo_TC, sl_TC, st_TC, by rw [show decide (TC ∈ [BC, TC, RC, SC]) = true from by simp]; exact kit_ref is_MV ty_MV sm_TC ss_TC⟩
    · rw [h]; exact ⟨cl_RC, ca_RC, mo_RC, sl_RC, st_RC, by rw [show decide (RC ∈ [BC, TC, RC, SC]) = true from by simp]; exact kit_ref is_MV ty_MV sm_RC ss_RC⟩
    · rw [h]; exact ⟨cl_SC, ca_SC, mo_SC, sl_SC, st_SC, by rw [show decide (SC ∈ [BC, TC, RC, SC]) = true from by simp]; exact kit_ref is_MV ty_MV sm_SC ss_SC⟩
    · rw [h]; exact ⟨cl_HC, ca_HC, mo_HC, sl_HC, st_HC, by rw [show decide (HC ∈ [BC, TC, RC, SC]) = false from decide_eq_false nHC]; exact kit_ref is_MV ty_MV sm_HC ss_HC⟩
  refine ⟨PySem.W.fnOf "law" "law" (defArgs sLaw) (defBody sLaw) (defScope sLaw) .none kV_f_law dc_f_law pm_f_law an_f_law cd_f_law ct_f_law, fun s v => .of_eq rfl, fun base _ _ => ?_⟩
  have cI : Cal l.prog w K mg base CX0 "is_integer" 1 ["value"] spInt := ⟨f_int, _, ok_isInt F_f_int TB, PySem.W.mg_of X G g_f_int, k_f_int, b_f_int⟩
  have cN : CalNum l.prog w K mg base := ⟨f_num, _, ok_isNum F_f_num cI, PySem.W.mg_of X G g_f_num, k_f_num, b_f_num⟩
  have cA : CalAmt l.prog w K mg base := ⟨f_amt, _, ok_isAmt F_f_amt cN, PySem.W.mg_of X G g_f_amt, k_f_amt, b_f_amt⟩
  have cI : CalIsMoves l.prog w K mg base [BC, TC, RC, SC] [BC, TC, RC, SC, HC] := ⟨f_ism, _, ok_isMoves F_f_ism TD CF (PySem.W.mg_of X G g_MV), PySem.W.mg_of X G g_f_ism, k_f_ism, b_f_ism⟩
  have cC : CalChoose l.prog w K mg base := ⟨f_choose, _, ok_choose F_f_choose TA, PySem.W.mg_of X G g_f_choose, k_f_choose, b_f_choose⟩
  have cO : CalOneOf l.prog w K mg base := ⟨f_one, _, ok_oneOf F_f_one TA cC, PySem.W.mg_of X G g_f_one, k_f_one, b_f_one⟩
  have cS : Cal l.prog w K mg base CX0 "_law_seed" 1 ["_law_script", "_law_k"] (spSeed K) := ⟨f_seed, _, ok_seed F_f_seed TA, PySem.W.mg_of X G g_f_seed, k_f_seed, b_f_seed⟩
  have cY3 : Cal l.prog w K mg base CX0 "_law_anything" 6 ["_law_box", "_law_deep"] (spAny [BC, TC, RC, SC, HC] 3) := ⟨f_any, _, ok_any F_f_any TC' cC cO (PySem.W.mg_of X G g_f_any) b_f_any 3, PySem.W.mg_of X G g_f_any, k_f_any, b_f_any⟩
  have cY4 : Cal l.prog w K mg base CX0 "_law_anything" 7 ["_law_box", "_law_deep"] (spAny [BC, TC, RC, SC, HC] 4) := ⟨f_any, _, ok_any F_f_any TC' cC cO (PySem.W.mg_of X G g_f_any) b_f_any 4, PySem.W.mg_of X G g_f_any, k_f_any, b_f_any⟩
  have im : ImTxt l.prog w K mg base CM := ⟨PySem.W.mg_of X G g_CM, ox_CM, no_CM_word, f_im, _, ok_imInit F_f_im ox_CM no_CM_word, a_f_im, tf_im, b_f_im⟩
  have mB : MkTxt l.prog w K mg base "Begin" ["self", "amount"] BC (spBegin BC CM) [] := ⟨PySem.W.mg_of X G g_BC, f_bi, _, ok_bInit F_f_bi cl_BC no_BC_amount cA im, ⟨mk_BC, a_f_bi, i_f_bi, kc_BC⟩, b_f_bi, [], .nil, b_f_bi⟩
  have mT : MkTxt l.prog w K mg base "Take" ["self", "at", "amount"] TC (spTake TC CM) [.non] := ⟨PySem.W.mg_of X G g_TC, f_ti, _, ok_tInit F_f_ti cl_TC no_TC_at no_TC_amount cN cA im, ⟨mk_TC, a_f_ti, i_f_ti, kc_TC⟩, b_f_ti, es_f_ti, ve_f_ti, cb_f_ti⟩
  have mR : MkTxt l.prog w K mg base "Right" ["self", "at", "amount"] RC (spRight RC CM) [] := ⟨PySem.W.mg_of X G g_RC, f_ri, _, ok_rInit F_f_ri cl_RC no_RC_at no_RC_amount cN cA im, ⟨mk_RC, a_f_ri, i_f_ri, kc_RC⟩, b_f_ri, [], .nil, b_f_ri⟩
  have mH : MkTxt l.prog w K mg base "History" ["self", "moves"] HC (spHInit [BC, TC, RC, SC] [BC, TC, RC, SC, HC] HC CM) [] := ⟨PySem.W.mg_of X G g_HC, f_hi, _, (ok_hInit F_f_hi cl_HC no_HC_moves cI im (PySem.W.mg_none_of X G z_tuple)).mono (by decide), ⟨mk_HC, a_f_hi, i_f_hi, kc_HC⟩, b_f_hi, [], .nil, b_f_hi⟩
  have GL : FnOk l.prog w K mg base CX0 1 f_hl _ ["self"] (spHLen HC) := ok_hLen F_f_hl cl_HC no_HC_moves (PySem.W.mg_none_of X G z_len)
  have cM : Cal l.prog w K mg base CX0 "_law_any_move" 2 ["_law_box"] spMv := ⟨f_am, _, ok_anyMove F_f_am cC, PySem.W.mg_of X G g_f_am, k_f_am, b_f_am⟩
  have cD : Cal l.prog w K mg base CX0 "_law_made" 6 ["_law_move"] (spMade [BC, TC, RC, SC]) := ⟨f_made, _, ok_made F_f_made mB mT mR ⟨mk_SC, oi_SC, kc_SC⟩ (PySem.W.mg_of X G g_SC) (by simp) (by simp) (by simp) (by simp), PySem.W.mg_of X G g_f_made, k_f_made, b_f_made⟩
  have cR : Cal l.prog w K mg base CX0 "_law_refused" 6 ["_law_value"] (spRefused [BC, TC, RC, SC] [BC, TC, RC, SC, HC]) := ⟨f_ref, _, ok_refused F_f_ref TE (PySem.W.mg_of X G g_CM) mH (by simp) GL a_f_hl i_f_hl b_f_hl, PySem.W.mg_of X G g_f_ref, k_f_ref, b_f_ref⟩
  have cU : Cal l.prog w K mg base CX0 "_law_due" 1 ["_law_value"] (spDue [BC, TC, RC, SC] [BC, TC, RC, SC, HC]) := ⟨f_due, _, ok_due F_f_due TD (PySem.W.mg_none_of X G z_len) CF (PySem.W.mg_of X G g_MV), PySem.W.mg_of X G g_f_due, k_f_due, b_f_due⟩
  exact ok_law F_f_law TL cS cO cC cY3 cY4 cM cD cR cU mH (by simp) (fun C hC => by simp only [List.mem_cons, List.not_mem_nil, or_false] at hC ⊢; rcases hC with rfl | rfl | rfl | rfl <;> simp)
theorem walk {l : PySem.W.OpenLaw} {q : Program} {loose : List Str} {XP : (Str → Option Value) → Heap → Prop} {YP : World → Heap → Prop} {d : DefRec} {K : Params → PySem.W.Frag} (hn : l.most = some 63) (hdf : d.params.defaults = [])
    (hY : ∀ (w : World) (h : Heap), YP w h → (K w.params).In h)
    (F : ∀ (w : World) (mg : Str → Option Value) (fa : Addr) (h : Heap), (K w.params).In h → h.Ns mainGlobals mg → mg d.name = some (.ref fa) →
      ∃ fd : FuncData, (∀ (s : Shared) (u : Value), BindsTo s fd ⟨[u], []⟩ [("_law_script", u)]) ∧ ∀ base : Heap, (K w.params).In base → base.Ns mainGlobals mg → FnOk l.prog w (K w.params) mg base CX0 8 fa fd ["_law_script"] (spLaw (K w.params))) :
    PySem.W.WalkO q loose XP YP l.row.toRowW d [] (fun f vs => PySem.call f vs) :=
  L2.walk_of (n := 63) (k := 8) (x := "_law_script") (CX := fun _ => CX0) (sp := fun w => spLaw (K w.params)) hn (by decide) hdf ⟨rfl, by decide, by decide⟩ hY F (fun _ _ a ns hl _ hS => ⟨a, ns, rfl, hS, hl, fun _ => rfl⟩) fun _ _ _ _ _ z => z
end V3

open PySem PySem.W PyProof.Rows in
set_option maxRecDepth 100000 in
set_option maxHeartbeats 0 in
theorem PySem.Challenge.cw_contrabooks_k05_histories_refused_holds : PySem.Challenge.rw_contrabooks_k05_histories_refused.Holds := by
  w_on; o_law; k_head; (case hw => w_witness2)
  k_fill
  refine V3.walk (l := PySem.Challenge.rw_contrabooks_k05_histories_refused) rfl rfl (fun w h Y => PySem.W.kIn_of Y) ?F
  case F =>
    intro w mg fa h KX G hmg
    refine' V3.all_mk KX G hmg ?g_f_int ?l_f_int ?c_f_int ?k_f_int ?g_f_num ?l_f_num ?c_f_num ?k_f_num ?g_f_amt ?l_f_amt ?c_f_amt ?k_f_amt ?g_f_ism ?l_f_ism ?c_f_ism ?k_f_ism ?g_f_seed ?l_f_seed ?c_f_seed ?k_f_seed ?g_f_choose ?l_f_choose ?c_f_choose ?k_f_choose ?g_f_one ?l_f_one ?c_f_one ?k_f_one ?g_f_any ?l_f_any ?c_f_any ?k_f_any ?g_f_am ?l_f_am ?c_f_am ?k_f_am ?g_f_made ?l_f_made ?c_f_made ?k_f_made ?g_f_ref ?l_f_ref ?c_f_ref ?k_f_ref ?g_f_due ?l_f_due ?c_f_due ?k_f_due ?g_f_law ?l_f_law ?c_f_law ?k_f_law ?g_CM ?g_CK ?g_CT ?g_MV ?g_BC ?g_TC ?g_RC ?g_SC ?g_HC ?x_CM ?xb_CM ?xsa_CM ?xga_CM ?xgg_CM ?xex_CM ?xty_CM ?xkc_CM ?xhd_CM ?xis_CM ?xca_CM ?xgn_CM ?xtk_CM ?xmo_CM ?xss_CM ?no_CM_word ?a_f_im ?tf_im ?l_f_im ?c_f_im ?k_f_im ?is_CK ?ty_CK ?su_CK ?is_CT ?ty_CT ?su_CT ?is_MV ?ty_MV ?fl_NoneType ?fl_bool ?fl_int ?fl_str ?fl_list ?fl_tuple ?pg_BC ?hd_BC ?po_BC ?sa_BC ?mk_BC ?kc_BC ?ca_BC ?mo_BC ?sl_BC ?st_BC ?sm_BC ?ss_BC ?pg_TC ?hd_TC ?po_TC ?sa_TC ?mk_TC ?kc_TC ?ca_TC ?mo_TC ?sl_TC ?st_TC ?sm_TC ?ss_TC ?pg_RC ?hd_RC ?po_RC ?sa_RC ?mk_RC ?kc_RC ?ca_RC ?mo_RC ?sl_RC ?st_RC ?sm_RC ?ss_RC ?pg_SC ?hd_SC ?po_SC ?sa_SC ?mk_SC ?kc_SC ?ca_SC ?mo_SC ?sl_SC ?st_SC ?sm_SC ?ss_SC ?pg_HC ?hd_HC ?po_HC ?sa_HC ?mk_HC ?kc_HC ?ca_HC ?mo_HC ?sl_HC ?st_HC ?sm_HC ?ss_HC ?no_BC_amount ?no_TC_at ?no_TC_amount ?no_RC_at ?no_RC_amount ?no_HC_moves ?a_f_bi ?i_f_bi ?l_f_bi ?c_f_bi ?k_f_bi ?a_f_ti ?i_f_ti ?l_f_ti ?c_f_ti ?k_f_ti ?t_f_ti ?a_f_ri ?i_f_ri ?l_f_ri ?c_f_ri ?k_f_ri ?oi_SC ?a_f_hi ?i_f_hi ?l_f_hi ?c_f_hi ?k_f_hi ?t_f_hi ?a_f_hl ?i_f_hl ?l_f_hl ?c_f_hl ?k_f_hl ?z_len ?z_abs ?z_int ?z_isinstance ?z_bool ?z_range ?z_tuple ?z_list ?z_all ?z_max ?z_min ?z_repr
    (case g_f_int => k_is)
    (case l_f_int => k_is)
    (case c_f_int => k_is)
    (case k_f_int => k_is)
    (case g_f_num => k_is)
    (case l_f_num => k_is)
    (case c_f_num => k_is)
    (case k_f_num => k_is)
    (case g_f_amt => k_is)
    (case l_f_amt => k_is)
    (case c_f_amt => k_is)
    (case k_f_amt => k_is)
    (case g_f_ism => k_is)
    (case l_f_ism => k_is)
    (case c_f_ism => k_is)
    (case k_f_ism => k_is)
    (case g_f_seed => k_is)
    (case l_f_seed => k_is)
    (case c_f_seed => k_is)
    (case k_f_seed => k_is)
    (case g_f_choose => k_is)
    (case l_f_choose => k_is)
    (case c_f_choose => k_is)
    (case k_f_choose => k_is)
    (case g_f_one => k_is)
    (case l_f_one => k_is)
    (case c_f_one => k_is)
    (case k_f_one => k_is)
    (case g_f_any => k_is)
    (case l_f_any => k_is)
    (case c_f_any => k_is)
    (case k_f_any => k_is)
    (case g_f_am => k_is)
    (case l_f_am => k_is)
    (case c_f_am => k_is)
    (case k_f_am => k_is)
    (case g_f_made => k_is)
    (case l_f_made => k_is)
    (case c_f_made => k_is)
    (case k_f_made => k_is)
    (case g_f_ref => k_is)
    (case l_f_ref => k_is)
    (case c_f_ref => k_is)
    (case k_f_ref => k_is)
    (case g_f_due => k_is)
    (case l_f_due => k_is)
    (case c_f_due => k_is)
    (case k_f_due => k_is)
    (case g_f_law => k_is)
    (case l_f_law => k_is)
    (case c_f_law => k_is)
    (case k_f_law => k_is)
    (case g_CM => k_is)
    (case g_CK => k_is)
    (case g_CT => k_is)
    (case g_MV => k_is)
    (case g_BC => k_is)
    (case g_TC => k_is)
    (case g_RC => k_is)
    (case g_SC => k_is)
    (case g_HC => k_is)
    (case x_CM => k_is)
    (case xb_CM => decide +kernel)
    (case xsa_CM => k_is)
    (case xga_CM => k_is)
    (case xgg_CM => k_is)
    (case xex_CM => k_is)
    (case xty_CM => k_is)
    (case xkc_CM => k_is)
    (case xhd_CM => k_is)
    (case xis_CM => k_is)
    (case xca_CM => k_is)
    (case xgn_CM => k_is)
    (case xtk_CM => k_is)
    (case xmo_CM => k_is)
    (case xss_CM => first | rfl | k_is)
    (case no_CM_word => k_is)
    (case a_f_im => k_is)
    (case tf_im => k_is)
    (case l_f_im => k_is)
    (case c_f_im => k_is)
    (case k_f_im => k_is)
    (case is_CK => k_is)
    (case ty_CK => k_is)
    (case su_CK => k_is)
    (case is_CT => k_is)
    (case ty_CT => k_is)
    (case su_CT => k_is)
    (case is_MV => k_is)
    (case ty_MV => k_is)
    (case fl_NoneType => k_is)
    (case fl_bool => k_is)
    (case fl_int => k_is)
    (case fl_str => k_is)
    (case fl_list => k_is)
    (case fl_tuple => k_is)
    (case pg_BC => k_is)
    (case hd_BC => k_is)
    (case po_BC => k_is)
    (case sa_BC => k_is)
    (case mk_BC => k_is)
    (case kc_BC => k_is)
    (case ca_BC => k_is)
    (case mo_BC => k_is)
    (case sl_BC => k_is)
    (case st_BC => k_is)
    (case sm_BC => k_is)
    (case ss_BC => first | rfl | k_is)
    (case pg_TC => k_is)
    (case hd_TC => k_is)
    (case po_TC => k_is)
    (case sa_TC => k_is)
    (case mk_TC => k_is)
    (case kc_TC => k_is)
    (case ca_TC => k_is)
    (case mo_TC => k_is)
    (case sl_TC => k_is)
    (case st_TC => k_is)
    (case sm_TC => k_is)
    (case ss_TC => first | rfl | k_is)
    (case pg_RC => k_is)
    (case hd_RC => k_is)
    (case po_RC => k_is)
    (case sa_RC => k_is)
    (case mk_RC => k_is)
    (case kc_RC => k_is)
    (case ca_RC => k_is)
    (case mo_RC => k_is)
    (case sl_RC => k_is)
    (case st_RC => k_is)
    (case sm_RC => k_is)
    (case ss_RC => first | rfl | k_is)
    (case pg_SC => k_is)
    (case hd_SC => k_is)
    (case po_SC => k_is)
    (case sa_SC => k_is)
    (case mk_SC => k_is)
    (case kc_SC => k_is)
    (case ca_SC => k_is)
    (case mo_SC => k_is)
    (case sl_SC => k_is)
    (case st_SC => k_is)
    (case sm_SC => k_is)
    (case ss_SC => first | rfl | k_is)
    (case pg_HC => k_is)
    (case hd_HC => k_is)
    (case po_HC => k_is)
    (case sa_HC => k_is)
    (case mk_HC => k_is)
    (case kc_HC => k_is)
    (case ca_HC => k_is)
    (case mo_HC => k_is)
    (case sl_HC => k_is)
    (case st_HC => k_is)
    (case sm_HC => k_is)
    (case ss_HC => first | rfl | k_is)
    (case no_BC_amount => k_is)
    (case no_TC_at => k_is)
    (case no_TC_amount => k_is)
    (case no_RC_at => k_is)
    (case no_RC_amount => k_is)
    (case no_HC_moves => k_is)
    (case a_f_bi => k_is)
    (case i_f_bi => k_is)
    (case l_f_bi => k_is)
    (case c_f_bi => k_is)
    (case k_f_bi => k_is)
    (case a_f_ti => k_is)
    (case i_f_ti => k_is)
    (case l_f_ti => k_is)
    (case c_f_ti => k_is)
    (case k_f_ti => k_is)
    (case t_f_ti => k_is)
    (case a_f_ri => k_is)
    (case i_f_ri => k_is)
    (case l_f_ri => k_is)
    (case c_f_ri => k_is)
    (case k_f_ri => k_is)
    (case oi_SC => k_is)
    (case a_f_hi => k_is)
    (case i_f_hi => k_is)
    (case l_f_hi => k_is)
    (case c_f_hi => k_is)
    (case k_f_hi => k_is)
    (case t_f_hi => k_is)
    (case a_f_hl => k_is)
    (case i_f_hl => k_is)
    (case l_f_hl => k_is)
    (case c_f_hl => k_is)
    (case k_f_hl => k_is)
    (case z_len => k_is)
    (case z_abs => k_is)
    (case z_int => k_is)
    (case z_isinstance => k_is)
    (case z_bool => k_is)
    (case z_range => k_is)
    (case z_tuple => k_is)
    (case z_list => k_is)
    (case z_all => k_is)
    (case z_max => k_is)
    (case z_min => k_is)
    (case z_repr => k_is)
#print axioms PySem.Challenge.cw_contrabooks_k05_histories_refused_holds
