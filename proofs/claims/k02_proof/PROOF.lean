import PyProof.Rows.All
import Wide.All
import OpenK.AllK
import Wide.FinOn
import HandS.ForExc
import HandS.Comp
import HandS.Dict
import HandS.Iter
import HandS.Text
import HandS.Wide
import HandS.FStr
import HandS.IsInst
import HandS.ExcInit
import HandS.ExcField
import HandS.OwnEq
import KE.KCallOwn
import KE.KExcIs
import PyProof.NeKinds
import HandS.RaiseMore
import HandS.ExcIs
import HandS.Defaults
import HandS.Star
import HandS.ClsMeth
import HandS.StrMore
import PyProof.InstEq
import PyProof.Rows.NestShow
import HandS.Ends
import HandS.Zip
import HandS.Walk
import PySem.Challenge.RW_contrabooks_k02_moves_made
set_option Elab.async false
set_option linter.all false
set_option maxRecDepth 100000
/-! Rules of our own over the hand layer: an object made whose making may raise, within a try; str(o) by its own def; isinstance of a caught error with fields. -/
namespace V3
open PySem L2 PyProof.Rows
section
variable {X : Cx} {CX : CXT} {k : Nat} {f C : Addr} {fd : FuncData} {ps : List Str} {sp : Sp} {E : L2.St → XK} {x : Str} {p pos : Pos} {e : Expr} {es : List Expr} {t : TA} {dvs : List V} {ds : List Value}
theorem make_at {pins : List (Addr × Obj)} {σ : L2.St} {H : Hp} {s : Shared} {Q : VK}
    {us : List Value} {vs : List V} (M : Mk X.K C f)
    (F : FnOk X.prog X.w X.K X.mg X.base CX k f fd ps sp)
    (room : Room (k + 1) X.A) (bi : Binds X.K fd ps ds) (va : Vals dvs ds)
    (out : PassesAt CX X σ (E σ)) (I : Inv X pins σ H s) (r : Vals vs us)
    (h : ∀ y dy, H y = none → H dy = none → dy ≠ y →
      sp (.ref y :: (vs ++ dvs)) (upd (upd H dy (.own y)) y (.ins C dy []))
        (fun v H2 => v = .non ∧ Q (.ref y) H2) (E σ)) :
    wpAny (model X.prog X.w) X.A (call (.ref C) us) (EP X pins σ Q) X.xe s := by
  have want := h (s.heap.objs.size + 1) s.heap.objs.size
    (I.hok.fresh (Nat.le_succ _)) (I.hok.fresh (Nat.le_refl _))
    (Nat.ne_of_lt (Nat.lt_succ_self _))
  have J := Inv.made (C := C) I
  have rr : Vals (V.ref (s.heap.objs.size + 1) :: (vs ++ dvs))
      (Value.ref (s.heap.objs.size + 1) :: (us ++ ds)) := .cons rfl (r.append va)
  have len : (Value.ref (s.heap.objs.size + 1) :: us ++ ds).length = ps.length := by
    have q := rr.length
    rw [F.len _ _ _ _ want] at q
    exact q.symm
  have bound := bi _ (Value.ref (s.heap.objs.size + 1) :: us) J.kIn len
  have ran := F.run _ X.stack _ _ ⟨Value.ref (s.heap.objs.size + 1) :: us, []⟩
    (Value.ref (s.heap.objs.size + 1) :: (us ++ ds)) _ _ (E σ)
    (room.make C us []) (J.env0.make C us []) bound rr want
  refine wpAny_call (make_map (f := f) I.kIn M.makes M.init
    (beq_iff_eq.mp M.fn) (codeAny_mono ran fun res s' hq => ?_))
  match res, hq with
  | .error err, hq => exact out pins _ _ err s' J hq
  | .ok (.ret u), hq =>
    obtain ⟨v, H', I3, rv, ev, q3⟩ := J.after hq
    subst ev
    exact ⟨rv, ⟨V.ref (s.heap.objs.size + 1), H', I3, rfl, q3⟩⟩
  | .ok .next, hq => exact hq.elim
  | .ok .brk, hq => exact hq.elim
  | .ok .cont, hq => exact hq.elim
/-- C(e, ..) where what its making raises is wished for at the slots -/
def tMakeS (C : Addr) (sp : Sp) (dvs : List V) (E : L2.St → XK) (t : TA) : TE :=
  fun σ H Q => t σ H fun vs H1 => ∀ y dy, H1 y = none → H1 dy = none → dy ≠ y →
    sp (.ref y :: (vs ++ dvs)) (upd (upd H1 dy (.own y)) y (.ins C dy []))
      (fun v H2 => v = .non ∧ Q (.ref y) H2) (E σ)
theorem pe_makeS (M : Mk X.K C f) (F : FnOk X.prog X.w X.K X.mg X.base CX k f fd ps sp)
    (room : Room (k + 1) X.A) (hg : Gl X x) (hm : X.mg x = some (.ref C))
    (bi : Binds X.K fd ps ds) (va : Vals dvs ds) (out : ∀ σ, PassesAt CX X σ (E σ))
    (ha : PA X (e :: es) t) (hdb : (x == ("__debug__" : Str)) = false := by decide)
    (he : starEach (e :: es) X.env = (false, eval e X.env) :: starEach es X.env := by rfl)
    (hpl : (backTo pos (starEach es X.env)).any (·.1) = false := by rfl) :
    PE X (.Call (.Name x p) (e :: es) [] pos) (tMakeS C sp dvs E t) := by
  refine ⟨fun pins s σ H Q I h => wpAny_Call_Name_kw (ld_glob I hg hm ?_ hdb)⟩
  refine PySem.W.callWith_K (h₀ := X.base) I.ok.mod.kin M.kp ?_ he hpl
  exact thn (ha.run pos pins s σ H _ I h) fun us s1 ⟨vs, H1, I1, r, q⟩ =>
    ⟨I1.kIn, make_at M F room bi va (out σ) I1 r q⟩
end
/-! str(o), o of an own class with its own __str__ -/
section
variable {X : Cx} {CX : CXT} {n : Nat} {f C : Addr} {fd : FuncData} {ps : List Str} {sp : Sp} {E : XK}
theorem room2 {A : Around} (r : Room (n + 2) A) : Room n A.in1.in1 := Room.in1 (k := n) (Room.in1 (k := n + 1) r)
def rStrO (C : Addr) (sp : Sp) (E : XK) : List V → Hp → VK → Prop := fun xs H Q =>
  ∃ a dx fs, xs = [.ref a] ∧ H a = some (.ins C dx fs) ∧
    sp [.ref a] H (fun v H' => ∃ y : Str, v = .str y ∧ Q (.str y) H') E
theorem call_strO (F : FnOk X.prog X.w X.K X.mg X.base CX n f fd ps sp)
    (at_ : PySem.W.findIn X.K (.ref C) "__str__" = some (some (.ref f)))
    (isf : PySem.W.isFn X.K (.ref f) = true) (bi : Binds X.K fd ps [])
    (out : Passes CX X E) (room : Room (n + 2) X.A) : CallR X (.type "str") (rStrO C sp E) := by
  intro pins s σ H xs us Q I r h
  obtain ⟨a, dx, fs, rfl, ha, want⟩ := h
  cases r with
  | cons r1 rn =>
    cases rn
    cases r1
    obtain ⟨mA, O, _⟩ := ins_get I.hok ha
    obtain ⟨od, J, _⟩ := O.look
    have rr := room2 room
    refine PySem.W.kso_call rr.units0 I.kIn J at_ isf ?_
    have e0 : Env0 X.prog X.w X.K X.mg X.base X.A.in1.in1 X.stack s H := I.env0.in1.in1
    have len := F.len _ _ _ _ want
    have bound : BindsTo s fd ⟨[.ref a], []⟩ (ps.zip [Value.ref a]) := by
      have b := bi s [.ref a] I.kIn (by simpa using len)
      simpa using b
    have ran := F.run X.A.in1.in1 X.stack s H ⟨[.ref a], []⟩ [.ref a] [.ref a] _ E rr e0 bound (.cons rfl .nil) want
    refine wpAny_call (codeAny_mono ran fun res s' hq => ?_)
    match res, hq with
    | .error err, hq => exact out pins σ H s err s' I hq
    | .ok (.ret u), hq =>
      obtain ⟨v, H', I', rv, y, ev, q⟩ := I.after hq
      subst ev
      obtain ⟨t, rfl⟩ := rv
      exact ⟨.str y, H', I', ⟨t, rfl⟩, q⟩
    | .ok .next, hq => exact hq.elim
    | .ok .brk, hq => exact hq.elim
    | .ok .cont, hq => exact hq.elim
end
/-! isinstance(e, c), isinstance(e, (c, ..)), e the error that the suite holds -/
structure XClass (K : PySem.W.Frag) (D : Addr) : Prop where
  is : (PySem.W.clsIn K D).isSome = true
  ga : PySem.W.findIn K (.ref D) "__getattribute__" = some (some (.builtin "BaseException.__getattribute__"))
  gt : PySem.W.findIn K (.ref D) "__getattr__" = some none
  sb : PySem.W.subIn K (.ref D) (.type "BaseException") = some true
  ca : PySem.W.findIn K (.ref D) "__class__" = some (some (.builtin "object.__class__"))
  gn : PySem.W.specialIn K (.builtin "object.__class__") "__get__" = some (some (.builtin "getset_descriptor.__get__"))
  tk : PySem.W.takesIn K (.builtin "object.__class__") = some true
  mo : PySem.W.mroIn K D (.type "object") = some true
section
variable {X : Cx} {a D : Addr} {oe : Obj} {pn : List (Addr × Obj)} {d : Option Addr}
theorem held_at {pins : List (Addr × Obj)} {σ : L2.St} {H : Hp} {s : Shared} {dd : Addr} {fs : List (Str × V)}
    (hz : Zc (.ref D) (some dd) oe) (hf : ∃ vs, oe.data = .fields vs)
    (I : Inv (X.suite a ((a, oe) :: pn)) pins σ H s) (hd : H dd = some (.xd fs)) :
    ∃ od : Obj, PySem.W.InstAt s.heap a oe D (some od) := by
  obtain ⟨ha, _⟩ := I.pin (a, oe) (List.mem_append_left _ List.mem_cons_self)
  obtain ⟨vs, hv⟩ := hf
  have hx : ObjOk X.prog X.w H s.heap dd (.xd fs) := I.hok dd _ hd
  obtain ⟨mA, hns, _⟩ := hx
  obtain ⟨od, ho, _⟩ := lookIn_ns hns
  exact ⟨od, ha, hz.1, by unfold PySem.W.notCls; rw [hv] <;> rfl, by rw [hz.2]; exact ho⟩
def rIsX (K : PySem.W.Frag) (D a : Addr) (cls : Value) (d : Option Addr) : List V → Hp → VK → Prop := fun xs H Q =>
  ∃ (dd : Addr) (fs : List (Str × V)) (c : V) (u : Value) (b : Bool), cls = .ref D ∧ d = some dd ∧ H dd = some (.xd fs) ∧
    xs = [.ref a, c] ∧ ClsV c u ∧ PySem.W.kitOne K (.ref D) u = some b ∧ Q (.bl b) H
theorem call_isX {cls : Value} (T : XClass X.K D) (hz : Zc cls d oe) (hf : ∃ vs, oe.data = .fields vs) :
    CallR (X.suite a ((a, oe) :: pn)) (.builtin "isinstance") (rIsX X.K D a cls d) := by
  intro pins s σ H xs us Q I r h
  obtain ⟨dd, fs, c, u, b, rfl, rfl, hd, rfl, k, e, q⟩ := h
  obtain ⟨u1, u2, rfl, r1, r2⟩ := vals2 r
  cases (show u1 = Value.ref a from r1)
  have e2 := k.eq r2
  subst e2
  obtain ⟨od, J⟩ := held_at hz hf I hd
  exact PySem.W.kia_one (PySem.W.kitx_exc T.is T.ga T.gt T.sb T.ca T.gn T.tk T.mo) I.kIn J e (fun z => nomatch z)
    fun tk => ⟨.bl b, H, I.tok tk, rfl, q⟩
def rIsXT (K : PySem.W.Frag) (D a : Addr) (cls : Value) (d : Option Addr) : List V → Hp → VK → Prop := fun xs H Q =>
  ∃ (dd : Addr) (fs : List (Str × V)) (tp : Addr) (cs : List V) (us : List Value) (b : Bool), cls = .ref D ∧ d = some dd ∧ H dd = some (.xd fs) ∧
    xs = [.ref a, .ref tp] ∧ H tp = some (.tup cs) ∧ Paired ClsV cs us ∧ PySem.W.kitAny K (.ref D) us = some b ∧ Q (.bl b) H
theorem call_isXT {cls : Value} (T : XClass X.K D) (hz : Zc cls d oe) (hf : ∃ vs, oe.data = .fields vs) :
    CallR (X.suite a ((a, oe) :: pn)) (.builtin "isinstance") (rIsXT X.K D a cls d) := by
  intro pins s σ H xs us Q I r h
  obtain ⟨dd, fs, tp, cs, ws, b, rfl, rfl, hd, rfl, hT, k, e, q⟩ := h
  obtain ⟨u1, u2, rfl, r1, r2⟩ := vals2 r
  cases (show u1 = Value.ref a from r1)
  cases (show u2 = Value.ref tp from r2)
  obtain ⟨od, J⟩ := held_at hz hf I hd
  have okT : ObjOk X.prog X.w H s.heap tp (.tup cs) := I.hok tp _ hT
  obtain ⟨_, items, vals, ob, got, isT, m, dat⟩ := okT
  have same := ClsV.all k vals
  subst same
  obtain ⟨c0, d0, dt0, s0⟩ := ob
  simp only at isT dat
  subst isT dat
  exact PySem.W.kia_tup (PySem.W.kitx_exc T.is T.ga T.gt T.sb T.ca T.gn T.tk T.mo) I.kIn J got e (fun z => nomatch z)
    fun tk => ⟨.bl b, H, I.tok tk, rfl, q⟩
end
end V3

set_option Elab.async false
set_option linter.all false
set_option maxRecDepth 100000
/-! Further rules of our own: C() without an own __init__, len(o) by an own __len__, repr of small values, a list against the empty one. -/
namespace V3
open PySem L2 PyProof.Rows
section
variable {X : Cx} {C : Addr} {x : Str} {p pos : Pos}
/-- what a class without an own __init__ must have to be made -/
structure Mk0 (K : PySem.W.Frag) (C : Addr) : Prop where
  makes : PySem.W.makesIn K C = true
  ini : PySem.W.findIn K (.ref C) "__init__" = some (some (.builtin "object.__init__"))
  kp : PySem.W.keepIn K (.ref C) = true
def tNew (C : Addr) : TE := fun σ H Q => ∀ y dy, H y = none → H dy = none → dy ≠ y → Q (.ref y) (upd (upd H dy (.own y)) y (.ins C dy []))
theorem pe_new0 (M : Mk0 X.K C) (hg : Gl X x) (hm : X.mg x = some (.ref C)) (hdb : (x == ("__debug__" : Str)) = false := by decide) :
    PE X (.Call (.Name x p) [] [] pos) (tNew C) := by
  refine ⟨fun pins s σ H Q I h => wpAny_Call_Name_kw (ld_glob I hg hm ?_ hdb)⟩
  refine PySem.W.callWith_K0 I.kIn M.kp ?_
  have J := Inv.made (C := C) I
  have want := h (s.heap.objs.size + 1) s.heap.objs.size (I.hok.fresh (Nat.le_succ _)) (I.hok.fresh (Nat.le_refl _)) (Nat.ne_of_lt (Nat.lt_succ_self _))
  show wpAny _ _ (call (.ref C) []) _ _ _
  have KX := I.kIn
  refine wpAny_call (make_map0 KX M.makes M.ini (fun self => PySem.W.Looks.of_pure (PySem.W.oi_bind self)) ?_)
  have Y := PySem.W.makes_of (M := model X.prog X.w) KX M.makes
  obtain ⟨hh, g, d, t, os⟩ := s
  have own : ((hh.push PySem.W.emptyDict).push (PySem.W.instObj C hh.objs.size)).get? (hh.objs.size + 1) = some (PySem.W.instObj C hh.objs.size) := by heap_get
  have ty : PySem.W.Looks (model X.prog X.w) ((hh.push PySem.W.emptyDict).push (PySem.W.instObj C hh.objs.size)) (typeOf (.ref (hh.objs.size + 1))) (.ref C) :=
    (PySem.W.Looks.ld own).andThen .now
  have sub : PySem.W.Looks (model X.prog X.w) ((hh.push PySem.W.emptyDict).push (PySem.W.instObj C hh.objs.size)) (isInstance (.ref (hh.objs.size + 1)) (.type "object")) true := ty.andThen (Y.top.keeps fun b o e => Heap.get?_push_of_some _ (Heap.get?_push_of_some _ e))
  refine codeAny_call_builtin PySem.W.oi_plain PySem.W.entry_oi
    (@PySem.W.check_slot (model X.prog X.w) _ _ _ "object.__init__" "object" "__init__" (.ref (hh.objs.size + 1)) [] [] _
      PySem.W.oi_kind PySem.W.oi_split sub (PySem.W.oi_args (.ref (hh.objs.size + 1))) ?_)
  rw [PySem.W.oi_run]
  exact wpAny_pure (And.intro rfl ⟨V.ref (hh.objs.size + 1), _, J, rfl, want⟩)
end
section
variable {X : Cx} {CX : CXT} {n : Nat} {f C : Addr} {fd : FuncData} {ps : List Str} {sp : Sp} {E : XK}
/-- len(o), o of a class with its own __len__ -/
def rLenO (C : Addr) (sp : Sp) (E : XK) : List V → Hp → VK → Prop := fun xs H Q =>
  ∃ a dx fs, xs = [.ref a] ∧ H a = some (.ins C dx fs) ∧ sp [.ref a] H (fun v H' => ∃ i : Int, v = .int i ∧ (0 ≤ i ∧ i < 2 ^ 63) ∧ Q (.int i) H') E
theorem call_lenO (F : FnOk X.prog X.w X.K X.mg X.base CX n f fd ps sp) (at_ : PySem.W.findIn X.K (.ref C) "__len__" = some (some (.ref f)))
    (isf : PySem.W.isFn X.K (.ref f) = true) (bi : Binds X.K fd ps []) (out : Passes CX X E) (room : Room (n + 1) X.A) : CallR X (.builtin "len") (rLenO C sp E) := by
  intro pins s σ H xs us Q I r h
  obtain ⟨a, dx, fs, rfl, ha, want⟩ := h
  cases r with
  | cons r1 rn =>
    cases rn
    cases r1
    obtain ⟨mA, O, _⟩ := ins_get I.hok ha
    obtain ⟨od, J, _⟩ := O.look
    obtain ⟨m, hF⟩ := I.fr
    have rr : Room n X.A.in1 := Room.in1 (k := n) room
    refine PySem.W.len_K hF I.ok.mod.kin J at_ isf ?_
    have e0 : Env0 X.prog X.w X.K X.mg X.base X.A.in1 X.stack s H := I.env0.in1
    have len := F.len _ _ _ _ want
    have bound : BindsTo s fd ⟨[.ref a], []⟩ (ps.zip [Value.ref a]) := by
      have b := bi s [.ref a] I.kIn (by simpa using len)
      simpa using b
    have ran := F.run X.A.in1 X.stack s H ⟨[.ref a], []⟩ [.ref a] [.ref a] _ E rr e0 bound (.cons rfl .nil) want
    refine wpAny_call (codeAny_mono ran fun res s' hq => ?_)
    match res, hq with
    | .error err, hq => exact out pins σ H s err s' I hq
    | .ok (.ret u), hq =>
      obtain ⟨v, H', I', rv, i, ev, hi, q⟩ := I.after hq
      subst ev
      obtain ⟨t, rfl⟩ := rv
      exact ⟨hi, .int i, H', I'.tok _, ⟨_, rfl⟩, q⟩
    | .ok .next, hq => exact hq.elim
    | .ok .brk, hq => exact hq.elim
    | .ok .cont, hq => exact hq.elim
end
section
variable {X : Cx}
theorem call_repr_str : CallR X (.builtin "repr") (fun xs H Q => ∃ z : Str, xs = [.str z] ∧ (reprText z).length ≤ sizeLine ∧ Q (.str (reprText z)) H) := by
  intro pins s σ H xs us Q I r h
  obtain ⟨z, rfl, hz, q⟩ := h
  obtain ⟨u, rfl, t, rfl⟩ := vals1 r
  exact PySem.P.repr_of_str ⟨.str _, H, I.tok _, ⟨_, rfl⟩, q⟩ hz
/-- an int or a text -/
def rRepr : List V → Hp → VK → Prop := fun xs H Q => (∃ i : Int, xs = [.int i] ∧ i.natAbs.log2 < 1920 ∧ Q (.str (toString i)) H) ∨
  (∃ z : Str, xs = [.str z] ∧ (reprText z).length ≤ sizeLine ∧ Q (.str (reprText z)) H)
theorem call_reprIS : CallR X (.builtin "repr") rRepr := by
  intro pins s σ H xs us Q I r h
  rcases h with h | h
  · exact SkE.call_repr_int pins s σ H xs us Q I r h
  · exact call_repr_str pins s σ H xs us Q I r h
/-- xs != [] -/
def rNeE : R2 := fun x y H Q => ∃ l b xs, x = .ref l ∧ y = .ref b ∧ H l = some (.lst xs) ∧ H b = some (.lst []) ∧ Q (.bl (!xs.isEmpty)) H
theorem op_neE (hu : X.A.units < cLine) : OpR X (compareOp .NotEq) rNeE := by
  intro pins s σ H x y v u Q I rx ry h
  obtain ⟨l, b, xs, rfl, rfl, hl, hb, q⟩ := h
  cases rx
  cases ry
  obtain ⟨z, its, k, r, e⟩ := I.hok l _ hl
  obtain ⟨z2, its2, k2, r2, e2⟩ := I.hok b _ hb
  cases r2
  have L1 : s.heap.IsList l its.toArray := ⟨_, e, rfl, k, rfl⟩
  have L2' : s.heap.IsList b ([] : List Value).toArray := ⟨_, e2, rfl, k2, rfl⟩
  refine PySem.W.cmp_ofNotEq ?_
  cases r with
  | nil =>
    have c := PySem.SeqAt.RcNeAt.lists (e := fun _ => true) L1 L2' rfl hu (fun j h1 _ => absurd h1 (Nat.not_lt_zero _))
    exact c X.prog X.w X.xe _ ⟨.bl false, H, I, rfl, q⟩
  | @cons x0 u0 xs0 us0 r0 rr =>
    have c := PySem.SeqAt.RcNeAt.lists_lengths L1 L2' (by simp) hu
    exact c X.prog X.w X.xe _ ⟨.bl true, H, I, rfl, q⟩
end
end V3

set_option Elab.async false
set_option linter.all false
set_option maxRecDepth 100000
namespace V3
open PySem L2
def top (i : Nat) : Stmt := PySem.Challenge.pw_contrabooks_k02_moves_made.main.body.getD i (.Pass ⟨0, 0, 0, 0⟩)
abbrev sSeed : Stmt := top 14
abbrev sChoose : Stmt := top 15
abbrev sOneOf : Stmt := top 16
/-- the box of draws: two numbers -/
def BoxOk (u v : Int) : Prop := 0 ≤ u ∧ 1 ≤ v ∧ v ≤ 2147483629
def box (u v : Int) : HO := .lst [.int u, .int v]
def BoxAt (H : Hp) (b : Addr) : Prop := ∃ u v, BoxOk u v ∧ H b = some (box u v)
def spSeed (K : PySem.W.Frag) : Sp := fun vs H Q _ => ∃ (a : Addr) (ns : List Int) (k : Int), vs = [.ref a, .int k] ∧ SqL K H a (ns.map V.int) ∧ ns.length ≤ 63 ∧ 0 ≤ k ∧ k ≤ 100 ∧
  ∀ (p : Addr) (u v : Int), H p = none → BoxOk u v → Q (.ref p) (upd H p (box u v))
def spChoose : Sp := fun vs H Q _ => ∃ (b : Addr) (u v m : Int), vs = [.ref b, .int m] ∧ H b = some (box u v) ∧ BoxOk u v ∧ 1 ≤ m ∧ m ≤ 1000000000000 ∧
  ∀ d u' v' : Int, 0 ≤ d → d < m → BoxOk u' v' → Q (.int d) (upd H b (box u' v'))
def spOneOf (K : PySem.W.Frag) : Sp := fun vs H Q _ => ∃ (b l : Addr) (u v : Int) (xs : List V), vs = [.ref b, .ref l] ∧ H b = some (box u v) ∧ BoxOk u v ∧ l ≠ b ∧ SqL K H l xs ∧ 1 ≤ xs.length ∧ xs.length ≤ 1000 ∧
  ∀ (x : V) (u' v' : Int), x ∈ xs → BoxOk u' v' → Q x (upd H b (box u' v'))
structure Blt (mg : Str → Option Value) : Prop where
  len : mg "len" = none
  abs : mg "abs" = none
  int : mg "int" = none
/-- a def that stands at a name of the module -/
def Cal (P : Program) (w : World) (K : PySem.W.Frag) (mg : Str → Option Value) (base : Heap) (CX : CXT) (name : Str) (k : Nat) (ps : List Str) (sp : Sp) : Prop :=
  ∃ (f : Addr) (fd : FuncData), FnOk P w K mg base CX k f fd ps sp ∧ mg name = some (.ref f) ∧ PySem.W.keepIn K (.ref f) = true ∧ Binds K fd ps []
theorem seqL_ne {K : PySem.W.Frag} {H : Hp} {l b : Addr} {o : HO} {xs : List V} (ne : l ≠ b) (h : SqL K H l xs) : SqL K (upd H b o) l xs := by
  rcases h with (h | ⟨o, h⟩) | h
  · exact .inl (.inl (by rw [upd_ne ne]; exact h))
  · exact .inl (.inr ⟨o, by rw [upd_ne ne]; exact h⟩)
  · exact .inr h
theorem atI_ints {ns : List Int} {i : Int} (h0 : 0 ≤ i) (hj : i.toNat < ns.length) : atI (ns.map V.int) i = some (.int ns[i.toNat]) := by
  have e : ixN (ns.map V.int).length i = some i.toNat := by
    unfold ixN
    rw [if_pos h0, if_pos (by rw [List.length_map]; omega)]
  show (ixN (ns.map V.int).length i).bind (fun j => (ns.map V.int)[j]?) = some (.int ns[i.toNat])
  rw [e]
  show (ns.map V.int)[i.toNat]? = some (.int ns[i.toNat])
  rw [List.getElem?_map, List.getElem?_eq_getElem hj]
  rfl
section
variable {P : Program} {w : World} {K : PySem.W.Frag} {mg : Str → Option Value} {base : Heap}
theorem scSeed : FnScope ["_law_script", "_law_k", "_law_cell"] ["_law_script", "_law_k"] (defScope sSeed) := ⟨rfl, rfl, rfl, by decide +kernel, rfl, by decide +kernel, by decide +kernel⟩
theorem scChoose : FnScope ["_law_box", "_law_many", "_law_digit", "_law_first"] ["_law_box", "_law_many"] (defScope sChoose) := ⟨rfl, rfl, rfl, by decide +kernel, rfl, by decide +kernel, by decide +kernel⟩
theorem scOneOf : FnScope ["_law_box", "_law_some"] ["_law_box", "_law_some"] (defScope sOneOf) := ⟨rfl, rfl, rfl, by decide +kernel, rfl, by decide +kernel, by decide +kernel⟩
theorem ok_choose {f : Addr} {fd : FuncData} (F : Fun K "_law_choose" "_law_choose" sChoose f fd) (T : Blt mg) : FnOk P w K mg base CX0 1 f fd ["_law_box", "_law_many"] spChoose := by
  refine F.ok scChoose (fun vs H Q E h => ?_) (fun cdv A outer s H vs Q E hr h => ?_)
  · obtain ⟨b, u, v, m, rfl, _⟩ := h
    rfl
  · obtain ⟨b, u, v, m, rfl, hb, ok, m1, m2, k⟩ := h
    refine ⟨_, pss_cons (ps_if (pt_cmpR op_gt (pe_ix ix_list (pv 0) pe_int (fun _ _ => rfl)) pe_int (nomark _))
        (pss_cons (ps_set (i := 2) scChoose.nd rfl (Or.inl rfl) (pe_op op_mod (pe_callTy call_int1 (by rfl) T.int (by decide +kernel) (pa_cons (pe_ix ix_list (pv 0) pe_int (fun _ _ => rfl)) pa_nil)) (pv 1)))
        (pss_cons (ps_asg (pe_op op_fdivW (pe_ix ix_list (pv 0) pe_int (fun _ _ => rfl)) (pv 1)) (pg_sub (pv 0) pe_int set_list))
        (pss_one (ps_ret (pv 2))))) pss_nil)
      (pss_cons (ps_set (i := 3) scChoose.nd rfl (Or.inl rfl) (pe_op op_mod (pe_callTy call_int1 (by rfl) T.int (by decide +kernel) (pa_cons (pe_op op_add (pe_op op_mul (pe_ix ix_list (pv 0) pe_int (fun _ _ => rfl)) pe_int) pe_int) pa_nil)) pe_int))
      (pss_cons (ps_asg (pe_op op_add (pe_op op_mod (pe_callTy call_int1 (by rfl) T.int (by decide +kernel) (pa_cons (pe_op op_add (pe_op op_mul (pv 3) pe_int) pe_int) pa_nil)) pe_int) pe_int) (pg_sub (pv 0) pe_int set_list))
      (pss_one (ps_ret (pe_op op_mod (pe_callTy call_int1 (by rfl) T.int (by decide +kernel) (pa_cons (pe_op op_fdivW (pe_op op_add (pe_op op_mul (pv 3) pe_int) (pe_ix ix_list (pv 0) pe_int (fun _ _ => rfl))) pe_int) pa_nil)) (pv 1)))))), ?_⟩
    obtain ⟨u0, v1, v2⟩ := ok
    have hm : (0 : Int) < m := by omega
    have hw : m.natAbs < 2 ^ 40 := by
      have : (2 : Nat) ^ 40 = 1099511627776 := by decide
      omega
    refine ⟨_, rfl, b, _, 0, _, rfl, rfl, SqL.of hb, rfl, _, _, rfl, rfl, _, rfl, ?_⟩
    refine ite2 (fun c => ?_) (fun c => ?_)
    · refine ⟨_, rfl, b, _, 0, _, rfl, rfl, SqL.of hb, rfl, .inl ⟨_, rfl, _, rfl, _, _, rfl, rfl, hm, ?_⟩⟩
      refine ⟨_, rfl, b, _, 0, _, rfl, rfl, SqL.of hb, rfl, _, rfl, _, _, rfl, rfl, wide_div hm hw (by decide) (by decide), ?_⟩
      refine ⟨_, rfl, b, _, 0, 0, rfl, rfl, hb, rfl, _, rfl, ?_⟩
      exact k _ _ _ (Int.emod_nonneg _ (by omega)) (Int.emod_lt_of_pos _ hm) ⟨Int.ediv_nonneg u0 (by omega), v1, v2⟩
    · refine ⟨_, rfl, b, _, 1, _, rfl, rfl, SqL.of hb, rfl, _, _, rfl, rfl, .inl (by constructor <;> omega), _, _, rfl, rfl, .inl ⟨_, rfl, _, _, rfl, rfl, (by show (0 : Int) < 2147483563; decide), ?_⟩⟩
      have a1 := Int.emod_nonneg (v * 40014 + 11) (by decide : (2147483563 : Int) ≠ 0)
      have a2 := Int.emod_lt_of_pos (v * 40014 + 11) (by decide : (0 : Int) < 2147483563)
      refine ⟨_, rfl, _, _, rfl, rfl, .inl (by constructor <;> omega), _, _, rfl, rfl, .inl ⟨_, rfl, _, _, rfl, rfl, (by show (0 : Int) < 2147483629; decide), _, _, rfl, rfl, ?_⟩⟩
      refine ⟨_, rfl, b, _, 1, 1, rfl, rfl, hb, rfl, ?_⟩
      have b1 := Int.emod_nonneg ((v * 40014 + 11) % 2147483563 * 40692 + 2903) (by decide : (2147483629 : Int) ≠ 0)
      have b2 := Int.emod_lt_of_pos ((v * 40014 + 11) % 2147483563 * 40692 + 2903) (by decide : (0 : Int) < 2147483629)
      refine ⟨_, rfl, _, _, rfl, rfl, .inl (by constructor <;> omega), _, rfl, b, _, 1, _, rfl, rfl, SqL.of upd_same, rfl, _, _, rfl, rfl, _, _, rfl, rfl, wide_div (b := 14) (by decide) (by decide) (by decide) (by decide), .inl ⟨_, rfl, _, rfl, _, _, rfl, rfl, hm, ?_⟩⟩
      exact k _ _ _ (Int.emod_nonneg _ (by omega)) (Int.emod_lt_of_pos _ hm) ⟨u0, by omega, by omega⟩
theorem ok_oneOf {f : Addr} {fd : FuncData} (F : Fun K "_law_one_of" "_law_one_of" sOneOf f fd) (T : Blt mg) (c : Cal P w K mg base CX0 "_law_choose" 1 ["_law_box", "_law_many"] spChoose) : FnOk P w K mg base CX0 2 f fd ["_law_box", "_law_some"] (spOneOf K) := by
  obtain ⟨fC, fdC, GC, mC, kC, bC⟩ := c
  refine F.ok scOneOf (fun vs H Q E h => ?_) (fun cdv A outer s H vs Q E hr h => ?_)
  · obtain ⟨b, l, u, v, xs, rfl, _⟩ := h
    rfl
  · obtain ⟨b, l, u, v, xs, rfl, hb, ok, ne, hS, x1, x2, k⟩ := h
    refine ⟨_, pss_one (ps_ret (pe_ix ix_list (pv 1) (pe_call GC hr rfl mC kC bC .nil pass0 (pa_cons (pv 0) (pa_cons (pe_callB call_len_seq (by rfl) T.len PySem.boot_len (pa_cons (pv 1) pa_nil)) pa_nil))) (fun _ _ => rfl))), ?_⟩
    refine ⟨_, rfl, _, rfl, _, rfl, l, _, rfl, .inl hS, b, u, v, _, rfl, hb, ok, (by omega), (by omega), fun d u' v' d0 d1 ok' => ?_⟩
    have hj : d.toNat < xs.length := by omega
    refine ⟨l, xs, d, xs[d.toNat], rfl, rfl, ?_, ?_, k _ _ _ (List.getElem_mem hj) ok'⟩
    · exact seqL_ne ne hS
    · have e : ixN xs.length d = some d.toNat := by
        unfold ixN
        rw [if_pos d0, if_pos (by omega)]
      show (ixN xs.length d).bind (fun j => xs[j]?) = some xs[d.toNat]
      rw [e]
      exact List.getElem?_eq_getElem hj
theorem ok_seed {f : Addr} {fd : FuncData} (F : Fun K "_law_seed" "_law_seed" sSeed f fd) (T : Blt mg) : FnOk P w K mg base CX0 1 f fd ["_law_script", "_law_k"] (spSeed K) := by
  refine F.ok scSeed (fun vs H Q E h => ?_) (fun cdv A outer s H vs Q E hr h => ?_)
  · obtain ⟨a, ns, k, rfl, _⟩ := h
    rfl
  · obtain ⟨a, ns, k, rfl, hS, hl, k0, k1, go⟩ := h
    refine ⟨_, pss_cons (ps_set (i := 2) scSeed.nd rfl (Or.inl rfl) (pe_op op_add (pe_op op_mul pe_int (pv 1)) pe_int))
      (pss_cons (ps_if (pt_cmpR op_lt (pv 1) (pe_callB call_len_seq (by rfl) T.len PySem.boot_len (pa_cons (pv 0) pa_nil)) (nomark _))
        (pss_one (ps_set (i := 2) scSeed.nd rfl (Or.inl rfl) (pe_callB call_abs (by rfl) T.abs (by decide +kernel) (pa_cons (pe_ix ix_list (pv 0) (pv 1) (fun _ _ => rfl)) pa_nil))))
        (pss_one (ps_if (pt_cmpR op_gt (pe_callB call_len_seq (by rfl) T.len PySem.boot_len (pa_cons (pv 0) pa_nil)) pe_int (nomark _))
          (pss_one (ps_set (i := 2) scSeed.nd rfl (Or.inl rfl) (pe_op op_add (pv 2) (pe_op op_mul (pe_op op_mod (pe_callTy call_int1 (by rfl) T.int (by decide +kernel) (pa_cons (pe_callB call_abs (by rfl) T.abs (by decide +kernel) (pa_cons (pe_ix ix_list (pv 0) (pe_op op_mod (pe_callTy call_int1 (by rfl) T.int (by decide +kernel) (pa_cons (pv 1) pa_nil)) (pe_callB call_len_seq (by rfl) T.len PySem.boot_len (pa_cons (pv 0) pa_nil))) (fun _ _ => rfl)) pa_nil)) pa_nil)) pe_int) pe_int))))
          pss_nil)))
      (pss_one (ps_ret (pe_lst (pa_cons (pe_ifExp (pt_cmpR op_ge (pv 2) (pe_op op_pow pe_int pe_int) (nomark _)) (pv 2) pe_int)
        (pa_cons (pe_op op_add (pe_op op_mod (pe_callTy call_int1 (by rfl) T.int (by decide +kernel) (pa_cons (pe_op op_add (pe_op op_mul (pe_op op_mod (pe_callTy call_int1 (by rfl) T.int (by decide +kernel) (pa_cons (pv 2) pa_nil)) pe_int) pe_int) (pe_op op_mul pe_int (pv 1))) pa_nil)) pe_int) pe_int) pa_nil)))))), ?_⟩
    have hk1 : -(2 ^ 64) < (7411 : Int) ∧ (7411 : Int) < 2 ^ 64 := by constructor <;> decide
    refine ⟨_, rfl, _, _, rfl, rfl, .inl hk1, _, _, rfl, rfl, ?_⟩
    refine ⟨_, rfl, _, rfl, a, _, rfl, .inl hS, _, _, rfl, rfl, _, rfl, ?_⟩
    rw [List.length_map]
    refine ite2 (fun c => ?wayA) (fun c => ?wayB)
    case' wayA =>
      have c' : k < (ns.length : Int) := of_decide_eq_true c
      have hj : k.toNat < ns.length := by omega
      refine ⟨_, rfl, _, rfl, a, _, k, .int ns[k.toNat], rfl, rfl, hS, atI_ints k0 hj, _, rfl, ?_⟩
      have hc : 0 ≤ (if ns[k.toNat] < 0 then -ns[k.toNat] else ns[k.toNat]) := by split <;> omega
      generalize (if ns[k.toNat] < 0 then -ns[k.toNat] else ns[k.toNat]) = cell at hc
    case' wayB =>
      refine ⟨_, rfl, a, _, rfl, .inl hS, _, _, rfl, rfl, _, rfl, ?_⟩
      rw [List.length_map]
      refine ite2 (fun c2 => ?wayC) (fun c2 => ?wayD)
    case' wayC =>
      have c' : (0 : Int) < (ns.length : Int) := of_decide_eq_true c2
      have r0 := Int.emod_nonneg k (show (ns.length : Int) ≠ 0 by omega)
      have r1 := Int.emod_lt_of_pos k c'
      have hj : (k % (ns.length : Int)).toNat < ns.length := by omega
      refine ⟨_, rfl, _, rfl, _, rfl, .inl ⟨_, rfl, _, rfl, a, _, rfl, .inl hS, _, _, rfl, rfl, (by rw [List.length_map]; exact c'), ?_⟩⟩
      rw [List.length_map]
      refine ⟨a, _, k % (ns.length : Int), .int ns[(k % (ns.length : Int)).toNat], rfl, rfl, hS, atI_ints r0 hj, _, rfl, .inl ⟨_, rfl, _, _, rfl, rfl, (by show (0 : Int) < 2147483629; decide), _, _, rfl, rfl, .inr (by constructor <;> decide), _, _, rfl, rfl, ?_⟩⟩
      generalize (if ns[(k % (ns.length : Int)).toNat] < 0 then -ns[(k % (ns.length : Int)).toNat] else ns[(k % (ns.length : Int)).toNat]) = z
      have z0 := Int.emod_nonneg z (by decide : (2147483629 : Int) ≠ 0)
      have hc : 0 ≤ 7411 * k + 29 + z % 2147483629 * 40093 := by omega
      generalize 7411 * k + 29 + z % 2147483629 * 40093 = cell at hc
    case' wayD =>
      have hc : 0 ≤ 7411 * k + 29 := by omega
      generalize 7411 * k + 29 = cell at hc
    all_goals (
      refine ⟨_, rfl, _, _, rfl, rfl, ⟨by decide, by decide, by decide⟩, _, _, rfl, rfl, _, rfl, ?_⟩
      have e1 := Int.emod_nonneg cell (by decide : (2147483629 : Int) ≠ 0)
      have e2 := Int.emod_lt_of_pos cell (by decide : (0 : Int) < 2147483629)
      have f1 := Int.emod_nonneg (cell % 2147483629 * 48271 + 20021 * k) (by decide : (2147483629 : Int) ≠ 0)
      have f2 := Int.emod_lt_of_pos (cell % 2147483629 * 48271 + 20021 * k) (by decide : (0 : Int) < 2147483629)
      refine ite2 (fun _ => ⟨_, rfl, ?_⟩) (fun _ => ?_)
      all_goals (
        refine ⟨_, rfl, .inl ⟨_, rfl, _, _, rfl, rfl, (by show (0 : Int) < 2147483629; decide), _, _, rfl, rfl, .inl (by constructor <;> omega), _, rfl, _, _, rfl, rfl, .inl (by constructor <;> decide), _, _, rfl, rfl, .inl ⟨_, rfl, _, _, rfl, rfl, (by show (0 : Int) < 2147483629; decide), _, _, rfl, rfl, (by show 2 ≤ sizeLine; decide), fun p hp => ?_⟩⟩⟩
        exact go p _ _ hp ⟨by omega, by omega, by omega⟩))
end
end V3

set_option Elab.async false
set_option linter.all false
set_option maxRecDepth 100000
namespace V3
open PySem L2
abbrev sIsInt : Stmt := top 1
abbrev sIsNum : Stmt := top 2
abbrev sIsAmt : Stmt := top 3
abbrev sImInit : Stmt := inClass (top 6) 0
abbrev sBInit : Stmt := inClass (top 9) 0
abbrev sBStr : Stmt := inClass (top 9) 2
abbrev sTInit : Stmt := inClass (top 10) 0
abbrev sTStr : Stmt := inClass (top 10) 2
abbrev sRInit : Stmt := inClass (top 11) 0
abbrev sRStr : Stmt := inClass (top 11) 2
/-- any value: none of it too great -/
inductive AV (H : Hp) : V → Prop where
  | non : AV H .non
  | bl (b : Bool) : AV H (.bl b)
  | int (i : Int) (h : i.natAbs ≤ 1000000000000) : AV H (.int i)
  | str (z : Str) : AV H (.str z)
  | lst {a : Addr} {xs : List V} (h : H a = some (.lst xs)) : AV H (.ref a)
  | tup {a : Addr} {xs : List V} (h : H a = some (.tup xs)) : AV H (.ref a)
theorem AV.same {H H' : Hp} {v : V} (h : AV H v) (s : Same H H') : AV H' v := by
  cases h with
  | non => exact .non
  | bl b => exact .bl b
  | int i h => exact .int i h
  | str z => exact .str z
  | lst h => exact .lst (s _ _ h)
  | tup h => exact .tup (s _ _ h)
def isNum : V → Int → Bool
  | .int i, n => decide (n ≤ i)
  | _, _ => false
def isI : V → Bool
  | .int _ => true
  | .bl _ => true
  | _ => false
def isB : V → Bool
  | .bl _ => true
  | _ => false
theorem av_ty {K : PySem.W.Frag} {H : Hp} {v : V} (h : AV H v) : ∃ t, TyX K H v t ∧ PySem.W.kitOne K t (.type "int") = some (isI v) ∧ PySem.W.kitOne K t (.type "bool") = some (isB v) := by
  cases h with
  | non => exact ⟨_, .base .non, (show PySem.W.kitOne K (.type "NoneType") (.type "int") = some false from kit_ty (by decide +kernel)), (show PySem.W.kitOne K (.type "NoneType") (.type "bool") = some false from kit_ty (by decide +kernel))⟩
  | bl b => exact ⟨_, .base (.bl b), (show PySem.W.kitOne K (.type "bool") (.type "int") = some true from kit_ty (by decide +kernel)), (show PySem.W.kitOne K (.type "bool") (.type "bool") = some true from kit_ty (by decide +kernel))⟩
  | int i h => exact ⟨_, .base (.int i), (show PySem.W.kitOne K (.type "int") (.type "int") = some true from kit_ty (by decide +kernel)), (show PySem.W.kitOne K (.type "int") (.type "bool") = some false from kit_ty (by decide +kernel))⟩
  | str z => exact ⟨_, .base (.str z), (show PySem.W.kitOne K (.type "str") (.type "int") = some false from kit_ty (by decide +kernel)), (show PySem.W.kitOne K (.type "str") (.type "bool") = some false from kit_ty (by decide +kernel))⟩
  | lst h => exact ⟨_, .base (.lst h), (show PySem.W.kitOne K (.type "list") (.type "int") = some false from kit_ty (by decide +kernel)), (show PySem.W.kitOne K (.type "list") (.type "bool") = some false from kit_ty (by decide +kernel))⟩
  | tup h => exact ⟨_, .base (.tup h), (show PySem.W.kitOne K (.type "tuple") (.type "int") = some false from kit_ty (by decide +kernel)), (show PySem.W.kitOne K (.type "tuple") (.type "bool") = some false from kit_ty (by decide +kernel))⟩
theorem num_of {v : V} {n : Int} (h : isNum v n = true) : ∃ i : Int, v = .int i ∧ n ≤ i := by
  cases v with
  | int i => exact ⟨i, rfl, of_decide_eq_true h⟩
  | _ => cases h
structure BltB (mg : Str → Option Value) : Prop where
  isi : mg "isinstance" = none
  int : mg "int" = none
  bool : mg "bool" = none
def isIntV : V → Bool
  | .int _ => true
  | _ => false
def spInt : Sp := fun vs H Q _ => ∃ v, vs = [v] ∧ AV H v ∧ Q (.bl (isIntV v)) H
def spNum : Sp := fun vs H Q _ => ∃ v, vs = [v] ∧ AV H v ∧ Q (.bl (isNum v 0)) H
def spAmt : Sp := fun vs H Q _ => ∃ v, vs = [v] ∧ AV H v ∧ Q (.bl (isNum v 1)) H
section
variable {P : Program} {w : World} {K : PySem.W.Frag} {mg : Str → Option Value} {base : Heap}
theorem scIsNum : FnScope ["value"] ["value"] (defScope sIsNum) := ⟨rfl, rfl, rfl, by decide +kernel, rfl, by decide +kernel, by decide +kernel⟩
theorem scIsAmt : FnScope ["value"] ["value"] (defScope sIsAmt) := ⟨rfl, rfl, rfl, by decide +kernel, rfl, by decide +kernel, by decide +kernel⟩
theorem scIsInt : FnScope ["value"] ["value"] (defScope sIsInt) := ⟨rfl, rfl, rfl, by decide +kernel, rfl, by decide +kernel, by decide +kernel⟩
theorem ok_isInt {f : Addr} {fd : FuncData} (F : Fun K "is_integer" "is_integer" sIsInt f fd) (T : BltB mg) : FnOk P w K mg base CX0 1 f fd ["value"] spInt := by
  refine F.ok scIsInt (fun vs H Q E h => ?_) (fun cdv A outer s H vs Q E hr h => ?_)
  · obtain ⟨v, rfl, _⟩ := h
    rfl
  · obtain ⟨v, rfl, av, q⟩ := h
    obtain ⟨t, ty, k1, k2⟩ := av_ty (K := K) av
    refine ⟨_, pss_one (ps_ret (pe_and (pe_callB call_isi (by rfl) T.isi (by decide +kernel) (pa_cons (pv 0) (pa_cons (pe_bltn (v := .ty "int") (by rfl) T.int (by decide +kernel) rfl) pa_nil)))
      (pe_one (pe_not (pe_callB call_isi (by rfl) T.isi (by decide +kernel) (pa_cons (pv 0) (pa_cons (pe_bltn (v := .ty "bool") (by rfl) T.bool (by decide +kernel) rfl) pa_nil))))))), ?_⟩
    refine ⟨_, rfl, _, _, t, _, _, rfl, .ty "int", ty, k1, _, rfl, ?_⟩
    cases v with
    | int i =>
      refine iteT ?_
      exact ⟨_, rfl, _, _, t, _, _, rfl, .ty "bool", ty, k2, _, rfl, q⟩
    | bl b =>
      refine iteT ?_
      exact ⟨_, rfl, _, _, t, _, _, rfl, .ty "bool", ty, k2, _, rfl, q⟩
    | non => exact iteF q
    | str z => exact iteF q
    | ref a => exact iteF q
    | byt z => exact iteF q
    | flt z => exact iteF q
    | ty z => exact iteF q
theorem ok_isNum {f : Addr} {fd : FuncData} (F : Fun K "is_number" "is_number" sIsNum f fd) (c : Cal P w K mg base CX0 "is_integer" 1 ["value"] spInt) : FnOk P w K mg base CX0 2 f fd ["value"] spNum := by
  obtain ⟨fI, fdI, GI, mI, kI, bI⟩ := c
  refine F.ok scIsNum (fun vs H Q E h => ?_) (fun cdv A outer s H vs Q E hr h => ?_)
  · obtain ⟨v, rfl, _⟩ := h
    rfl
  · obtain ⟨v, rfl, av, q⟩ := h
    refine ⟨_, pss_one (ps_ret (pe_and (pe_call GI hr rfl mI kI bI .nil pass0 (pa_cons (pv 0) pa_nil)) (pe_one (pe_cmpR op_ge (pv 0) pe_int (nomark _))))), ?_⟩
    refine ⟨_, rfl, v, rfl, av, _, rfl, ?_⟩
    cases v with
    | int i => exact iteT ⟨_, rfl, _, _, rfl, rfl, q⟩
    | bl b => exact iteF q
    | non => exact iteF q
    | str z => exact iteF q
    | ref a => exact iteF q
    | byt z => exact iteF q
    | flt z => exact iteF q
    | ty z => exact iteF q
theorem ok_isAmt {f : Addr} {fd : FuncData} (F : Fun K "is_amount" "is_amount" sIsAmt f fd) (c : Cal P w K mg base CX0 "is_number" 2 ["value"] spNum) : FnOk P w K mg base CX0 3 f fd ["value"] spAmt := by
  obtain ⟨fN, fdN, GN, mN, kN, bN⟩ := c
  refine F.ok scIsAmt (fun vs H Q E h => ?_) (fun cdv A outer s H vs Q E hr h => ?_)
  · obtain ⟨v, rfl, _⟩ := h
    rfl
  · obtain ⟨v, rfl, av, q⟩ := h
    refine ⟨_, pss_one (ps_ret (pe_and (pe_call GN hr rfl mN kN bN .nil pass0 (pa_cons (pv 0) pa_nil)) (pe_one (pe_cmpR op_gt (pv 0) pe_int (nomark _))))), ?_⟩
    refine ⟨_, rfl, v, rfl, av, _, rfl, ?_⟩
    cases e : isNum v 0 with
    | false =>
      refine iteF ?_
      have z : isNum v 1 = false := by
        cases v with
        | int i =>
          have h1 : ¬ (0 : Int) ≤ i := of_decide_eq_false e
          exact decide_eq_false (by omega)
        | _ => rfl
      rw [z] at q
      exact q
    | true =>
      obtain ⟨i, rfl, hi⟩ := num_of e
      refine iteT ⟨_, rfl, _, _, rfl, rfl, ?_⟩
      have z : isNum (.int i) 1 = decide (0 < i) := by
        show decide (1 ≤ i) = decide (0 < i)
        by_cases c : 0 < i
        · rw [decide_eq_true c, decide_eq_true (show 1 ≤ i by omega)]
        · rw [decide_eq_false c, decide_eq_false (show ¬ 1 ≤ i by omega)]
      rw [z] at q
      exact q
end
end V3

set_option Elab.async false
set_option linter.all false
set_option maxRecDepth 100000
namespace V3
open PySem L2
/-! the error -/
def spIM (C : Addr) : Sp := fun vs H Q _ => ∃ (a : Addr) (y : V), vs = [.ref a, y] ∧ H a = some (exo a C none) ∧
  ∀ d, H d = none → d ≠ a → Q .non (upd (upd H d (exd d [("word", y)])) a (exo a C (some d)))
/-- what the module says of InvalidMove -/
structure ImTxt (P : Program) (w : World) (K : PySem.W.Frag) (mg : Str → Option Value) (base : Heap) (C : Addr) : Prop where
  g : mg "InvalidMove" = some (.ref C)
  o : OexC K C
  no : PySem.W.findIn K (.ref C) "word" = some none
  ini : ∃ (f : Addr) (fd : FuncData), FnOk P w K mg base CX0 1 f fd ["self", "word"] (spIM C) ∧ PySem.W.findIn K (.ref C) "__init__" = some (some (.ref f)) ∧ PySem.W.typeIn K (.ref f) = some (.type "function") ∧ Binds K fd ["self", "word"] []
/-- behind a raise: an error with the word, all else as it was -/
def Er (C : Addr) (H : Hp) (E : XK) (word : Str) : Prop := ∀ (d : Addr) (H' : Hp), Same H H' → H' d = some (.xd [("word", .str word)]) → E (.ref C) (some d) H'
section
variable {P : Program} {w : World} {K : PySem.W.Frag} {mg : Str → Option Value} {base : Heap}
theorem scImInit : FnScope ["self", "word"] ["self", "word"] (defScope sImInit) := ⟨rfl, rfl, rfl, by decide +kernel, rfl, by decide +kernel, by decide +kernel⟩
theorem ok_imInit {f C : Addr} {fd : FuncData} (F : Fun K "__init__" "InvalidMove.__init__" sImInit f fd) (o : OexC K C) (no : PySem.W.findIn K (.ref C) "word" = some none) : FnOk P w K mg base CX0 1 f fd ["self", "word"] (spIM C) := by
  refine F.ok scImInit (fun vs H Q E h => ?_) (fun cdv A outer s H vs Q E hr h => ?_)
  · obtain ⟨a, y, rfl, _⟩ := h
    rfl
  · obtain ⟨a, y, rfl, ha, q⟩ := h
    refine ⟨_, pss_one (ps_ost (pv 0) (pv 1)), ?_⟩
    exact ⟨_, rfl, _, rfl, a, C, rfl, o, no, .inl ⟨ha, fun dx h1 h2 => q dx h1 h2⟩⟩
theorem raise_same {H : Hp} {a d : Addr} {o1 o2 o3 o4 : HO} (na : H a = none) (nd : upd H a o1 d = none) (ne : d ≠ a) : Same H (upd (del (upd (upd (upd H a o1) d o2) a o3) a) d o4) := by
  intro b o e
  have ba : b ≠ a := fun z => by
    rw [z, na] at e
    cases e
  have hd : H d = none := by
    rw [upd_ne ne] at nd
    exact nd
  have bd : b ≠ d := fun z => by
    rw [z, hd] at e
    cases e
  rw [upd_ne bd, del_ne ba, upd_ne ba, upd_ne bd, upd_ne ba]
  exact e
/-- raise InvalidMove("..") in a def's own frame -/
theorem er_read {C : Addr} {H : Hp} {E : XK} {word : Str} (h : Er C H E word) : ∀ a, H a = none → spIM C (.ref a :: ([V.str word] ++ [])) (upd H a (exo a C none))
    (fun v H2 => v = .non ∧ ∃ (d : Addr) (fs : List (Str × V)), H2 a = some (exo a C (some d)) ∧ H2 d = some (exd d fs) ∧ H d = none ∧ E (.ref C) (some d) (upd (del H2 a) d (.xd fs))) (fun _ _ _ => False) := by
  intro a na
  refine ⟨a, _, rfl, upd_same, fun d nd ne => ⟨rfl, d, [("word", .str word)], upd_same, ?_, ?_, ?_⟩⟩
  · rw [upd_ne ne]
    exact upd_same
  · rw [upd_ne ne] at nd
    exact nd
  · exact h d _ (raise_same na nd ne) upd_same
/-! Begin -/
def spBegin (C CM : Addr) : Sp := fun vs H Q E => ∃ (x dx : Addr) (v : V), vs = [.ref x, v] ∧ H x = some (.ins C dx []) ∧ AV H v ∧
  (isNum v 1 = true → Q .non (upd H x (.ins C dx [("amount", v)]))) ∧ (isNum v 1 = false → Er CM H E "amount")
theorem scBInit : FnScope ["self", "amount"] ["self", "amount"] (defScope sBInit) := ⟨rfl, rfl, rfl, by decide +kernel, rfl, by decide +kernel, by decide +kernel⟩
abbrev CalNum (P : Program) (w : World) (K : PySem.W.Frag) (mg : Str → Option Value) (base : Heap) : Prop := Cal P w K mg base CX0 "is_number" 2 ["value"] spNum
abbrev CalAmt (P : Program) (w : World) (K : PySem.W.Frag) (mg : Str → Option Value) (base : Heap) : Prop := Cal P w K mg base CX0 "is_amount" 3 ["value"] spAmt
theorem ok_bInit {f C CM : Addr} {fd : FuncData} (F : Fun K "__init__" "Begin.__init__" sBInit f fd) (cl : Cls K C) (nA : NoAttr K C "amount") (cA : CalAmt P w K mg base) (M : ImTxt P w K mg base CM) : FnOk P w K mg base (L2.CX P w) 4 f fd ["self", "amount"] (spBegin C CM) := by
  obtain ⟨fA, fdA, GA, mA, kA, bA⟩ := cA
  obtain ⟨fI, fdI, GI, iI, tI, bI⟩ := M.ini
  refine F.okX scBInit (fun vs H Q E h => ?_) (fun cdv A outer s H vs Q E hr h => ?_)
  · obtain ⟨x, dx, v, rfl, _⟩ := h
    rfl
  · obtain ⟨x, dx, v, rfl, hx, av, q1, q2⟩ := h
    refine ⟨_, pss_cons (ps_if (pt_not (pt_val (pe_call GA hr rfl mA kA bA .nil pass0 (pa_cons (pv 1) pa_nil)))) (pss_one (ps_raise rfl (takes_of rfl rfl rfl rfl) (pmk_oex M.o iI tI GI (hr.mono (by decide)) bI .nil pass0 rfl M.g (by exact (pa_cons pe_str pa_nil))))) pss_nil)
      (pss_one (ps_fld (pv 0) (pv 1) rfl)), ?_⟩
    refine ⟨_, rfl, v, rfl, av, _, rfl, ?_⟩
    cases e : isNum v 1 with
    | true => exact iteF ⟨_, rfl, _, rfl, x, C, dx, _, rfl, hx, cl, nA, (by show 0 < 1000; decide), q1 e⟩
    | false => exact iteT ⟨(by show 1 ≤ 1000; decide), er_read (q2 e)⟩
/-! Take, Right -/
def two (a v : V) : List (Str × V) := [("at", a), ("amount", v)]
theorem ne_at : ¬ (("at" : Str) = "amount") := by decide +kernel
theorem put_two (a v : V) : putF "amount" v (putF "at" a []) = two a v := by
  show (if ("at" : Str) = "amount" then [(("at" : Str), v)] else (("at" : Str), a) :: putF "amount" v []) = two a v
  rw [if_neg ne_at]
  rfl
theorem two_at (a v : V) : (two a v).lookup ("at" : Str) = some a := by
  rw [← put_two, lookup_putF, if_neg ne_at, lookup_putF, if_pos rfl]
theorem two_am (a v : V) : (two a v).lookup ("amount" : Str) = some v := by
  rw [← put_two, lookup_putF, if_pos rfl]
def spTake (C CM : Addr) : Sp := fun vs H Q E => ∃ (x dx : Addr) (a v : V), vs = [.ref x, a, v] ∧ H x = some (.ins C dx []) ∧ AV H a ∧ AV H v ∧
  (isNum a 0 = true → (v = .non ∨ isNum v 1 = true) → Q .non (upd H x (.ins C dx (two a v)))) ∧ (isNum a 0 = false → Er CM H E "at") ∧
  (isNum a 0 = true → ¬ v = .non → isNum v 1 = false → Er CM H E "amount")
def spRight (C CM : Addr) : Sp := fun vs H Q E => ∃ (x dx : Addr) (a v : V), vs = [.ref x, a, v] ∧ H x = some (.ins C dx []) ∧ AV H a ∧ AV H v ∧
  (isNum a 0 = true → isNum v 1 = true → Q .non (upd H x (.ins C dx (two a v)))) ∧ (isNum a 0 = false → Er CM H E "at") ∧
  (isNum a 0 = true → isNum v 1 = false → Er CM H E "amount")
theorem scTInit : FnScope ["self", "at", "amount"] ["self", "at", "amount"] (defScope sTInit) := ⟨rfl, rfl, rfl, by decide +kernel, rfl, by decide +kernel, by decide +kernel⟩
theorem scRInit : FnScope ["self", "at", "amount"] ["self", "at", "amount"] (defScope sRInit) := ⟨rfl, rfl, rfl, by decide +kernel, rfl, by decide +kernel, by decide +kernel⟩
theorem ok_tInit {f C CM : Addr} {fd : FuncData} {dvs : List V} (F : FunD K "__init__" "Take.__init__" (defArgs sTInit) (defBody sTInit) (defScope sTInit) dvs [] f fd) (cl : Cls K C) (nT : NoAttr K C "at") (nA : NoAttr K C "amount") (cN : CalNum P w K mg base) (cA : CalAmt P w K mg base) (M : ImTxt P w K mg base CM) : FnOk P w K mg base (L2.CX P w) 4 f fd ["self", "at", "amount"] (spTake C CM) := by
  obtain ⟨fN, fdN, GN, mN, kN, bN⟩ := cN
  obtain ⟨fA, fdA, GA, mA, kA, bA⟩ := cA
  obtain ⟨fI, fdI, GI, iI, tI, bI⟩ := M.ini
  refine F.ok scTInit (fun vs H Q E h => ?_) (fun cdv A outer s H vs Q E hr h => ?_)
  · obtain ⟨x, dx, a, v, rfl, _⟩ := h
    rfl
  · obtain ⟨x, dx, a, v, rfl, hx, aa, av, q1, q2, q3⟩ := h
    refine ⟨_, pss_cons (ps_if (pt_not (pt_val (pe_call GN (hr.mono (by decide)) rfl mN kN bN .nil pass0 (pa_cons (pv 1) pa_nil)))) (pss_one (ps_raise rfl (takes_of rfl rfl rfl rfl) (pmk_oex M.o iI tI GI (hr.mono (by decide)) bI .nil pass0 rfl M.g (by exact (pa_cons pe_str pa_nil))))) pss_nil)
      (pss_cons (ps_if (PW.pt (pw_and (pt_cmpR op_notN (pv 2) pe_non (nomark _)) (pw_and1 (pt_not (pt_val (pe_call GA hr rfl mA kA bA .nil pass0 (pa_cons (pv 2) pa_nil))))))) (pss_one (ps_raise rfl (takes_of rfl rfl rfl rfl) (pmk_oex M.o iI tI GI (hr.mono (by decide)) bI .nil pass0 rfl M.g (by exact (pa_cons pe_str pa_nil))))) pss_nil)
      (pss_cons (ps_fld (pv 0) (pv 1) rfl) (pss_one (ps_fld (pv 0) (pv 2) rfl)))), ?_⟩
    refine ⟨_, rfl, a, rfl, aa, _, rfl, ?_⟩
    cases e : isNum a 0 with
    | false => exact iteT ⟨(by show 1 ≤ 1000; decide), er_read (q2 e)⟩
    | true =>
      have stores : (v = .non ∨ isNum v 1 = true) → Q .non (upd (upd H x (.ins C dx (putF "at" a []))) x (.ins C dx (putF "amount" v (putF "at" a [])))) := fun z => by
        rw [upd_upd, put_two]
        exact q1 e z
      refine iteF ⟨_, rfl, rfl, _, rfl, ?_⟩
      by_cases c : v = .non
      · rw [decide_eq_true c]
        exact iteF (iteF ⟨_, rfl, _, rfl, x, C, dx, _, rfl, hx, cl, nT, (by show 0 < 1000; decide), _, rfl, _, rfl, x, C, dx, _, rfl, upd_same, cl, nA, (by show 1 < 1000; decide), stores (.inl c)⟩)
      · rw [decide_eq_false c]
        refine iteT ⟨_, rfl, v, rfl, av, _, rfl, ?_⟩
        cases e2 : isNum v 1 with
        | false => exact iteT ⟨(by show 1 ≤ 1000; decide), er_read (q3 e c e2)⟩
        | true => exact iteF ⟨_, rfl, _, rfl, x, C, dx, _, rfl, hx, cl, nT, (by show 0 < 1000; decide), _, rfl, _, rfl, x, C, dx, _, rfl, upd_same, cl, nA, (by show 1 < 1000; decide), stores (.inr e2)⟩
theorem ok_rInit {f C CM : Addr} {fd : FuncData} (F : Fun K "__init__" "Right.__init__" sRInit f fd) (cl : Cls K C) (nT : NoAttr K C "at") (nA : NoAttr K C "amount") (cN : CalNum P w K mg base) (cA : CalAmt P w K mg base) (M : ImTxt P w K mg base CM) : FnOk P w K mg base (L2.CX P w) 4 f fd ["self", "at", "amount"] (spRight C CM) := by
  obtain ⟨fN, fdN, GN, mN, kN, bN⟩ := cN
  obtain ⟨fA, fdA, GA, mA, kA, bA⟩ := cA
  obtain ⟨fI, fdI, GI, iI, tI, bI⟩ := M.ini
  refine F.okX scRInit (fun vs H Q E h => ?_) (fun cdv A outer s H vs Q E hr h => ?_)
  · obtain ⟨x, dx, a, v, rfl, _⟩ := h
    rfl
  · obtain ⟨x, dx, a, v, rfl, hx, aa, av, q1, q2, q3⟩ := h
    refine ⟨_, pss_cons (ps_if (pt_not (pt_val (pe_call GN (hr.mono (by decide)) rfl mN kN bN .nil pass0 (pa_cons (pv 1) pa_nil)))) (pss_one (ps_raise rfl (takes_of rfl rfl rfl rfl) (pmk_oex M.o iI tI GI (hr.mono (by decide)) bI .nil pass0 rfl M.g (by exact (pa_cons pe_str pa_nil))))) pss_nil)
      (pss_cons (ps_if (pt_not (pt_val (pe_call GA hr rfl mA kA bA .nil pass0 (pa_cons (pv 2) pa_nil)))) (pss_one (ps_raise rfl (takes_of rfl rfl rfl rfl) (pmk_oex M.o iI tI GI (hr.mono (by decide)) bI .nil pass0 rfl M.g (by exact (pa_cons pe_str pa_nil))))) pss_nil)
      (pss_cons (ps_fld (pv 0) (pv 1) rfl) (pss_one (ps_fld (pv 0) (pv 2) rfl)))), ?_⟩
    refine ⟨_, rfl, a, rfl, aa, _, rfl, ?_⟩
    cases e : isNum a 0 with
    | false => exact iteT ⟨(by show 1 ≤ 1000; decide), er_read (q2 e)⟩
    | true =>
      refine iteF ⟨_, rfl, v, rfl, av, _, rfl, ?_⟩
      cases e2 : isNum v 1 with
      | false => exact iteT ⟨(by show 1 ≤ 1000; decide), er_read (q3 e e2)⟩
      | true =>
        have stores : Q .non (upd (upd H x (.ins C dx (putF "at" a []))) x (.ins C dx (putF "amount" v (putF "at" a [])))) := by
          rw [upd_upd, put_two]
          exact q1 e e2
        exact iteF ⟨_, rfl, _, rfl, x, C, dx, _, rfl, hx, cl, nT, (by show 0 < 1000; decide), _, rfl, _, rfl, x, C, dx, _, rfl, upd_same, cl, nA, (by show 1 < 1000; decide), stores⟩
/-! the texts -/
def num (i : Int) : Str := Str.ofString (toString i)
def Am (i : Int) : Prop := i.natAbs ≤ 1000000000000
theorem am_log {i : Int} (h : Am i) : i.natAbs.log2 < 1920 := Nat.lt_of_lt_of_le (PySem.Flt.log2_lt_of (k := 40) (by decide) (by
  have : (2 : Nat) ^ 40 = 1099511627776 := by decide
  unfold Am at h
  omega)) (by decide)
theorem num_len {i : Int} (h : Am i) : (num i).length ≤ 1921 := PyProof.Rows.int_text_len_1921 (am_log h)
theorem app_len (x y : Str) : (x ++ y).length = x.length + y.length := PySem.Str.length_append x y
def bText (i : Int) : Str := Str.empty ++ "begin " ++ num i
def tText (i : Int) : Str := Str.empty ++ "take " ++ num i
def tbText (i j : Int) : Str := Str.empty ++ "take " ++ num i ++ " by " ++ num j
def rText (i j : Int) : Str := Str.empty ++ "right " ++ num i ++ " to " ++ num j
def spBStr (C : Addr) : Sp := fun vs H Q _ => ∃ (x dx : Addr) (i : Int), vs = [.ref x] ∧ H x = some (.ins C dx [("amount", .int i)]) ∧ Am i ∧ Q (.str (bText i)) H
def spTStr (C : Addr) : Sp := fun vs H Q _ => ∃ (x dx : Addr) (i : Int) (v : V), vs = [.ref x] ∧ H x = some (.ins C dx (two (.int i) v)) ∧ Am i ∧
  ((v = .non ∧ Q (.str (tText i)) H) ∨ ∃ j, v = .int j ∧ Am j ∧ Q (.str (tbText i j)) H)
def spRStr (C : Addr) : Sp := fun vs H Q _ => ∃ (x dx : Addr) (i j : Int), vs = [.ref x] ∧ H x = some (.ins C dx (two (.int i) (.int j))) ∧ Am i ∧ Am j ∧ Q (.str (rText i j)) H
theorem scBStr : FnScope ["self"] ["self"] (defScope sBStr) := ⟨rfl, rfl, rfl, by decide +kernel, rfl, by decide +kernel, by decide +kernel⟩
theorem scTStr : FnScope ["self"] ["self"] (defScope sTStr) := ⟨rfl, rfl, rfl, by decide +kernel, rfl, by decide +kernel, by decide +kernel⟩
theorem scRStr : FnScope ["self"] ["self"] (defScope sRStr) := ⟨rfl, rfl, rfl, by decide +kernel, rfl, by decide +kernel, by decide +kernel⟩
theorem small {n : Nat} (h : n ≤ 10000) : n ≤ sizeLine := Nat.le_trans h (by decide)
theorem ok_bStr {f C : Addr} {fd : FuncData} (F : Fun K "__str__" "Begin.__str__" sBStr f fd) (cl : Cls K C) (nA : NoAttr K C "amount") : FnOk P w K mg base CX0 1 f fd ["self"] (spBStr C) := by
  refine F.ok scBStr (fun vs H Q E h => ?_) (fun cdv A outer s H vs Q E hr h => ?_)
  · obtain ⟨x, dx, i, rfl, _⟩ := h
    rfl
  · obtain ⟨x, dx, i, rfl, hx, am, q⟩ := h
    have l := num_len am
    refine ⟨_, pss_one (ps_ret (pe_joined (.cons pe_str (.cons (pe_fmt (pe_fld (pv 0) rfl)) .nil)))), ?_⟩
    have e1 : ("begin " : Str).length = 6 := by decide +kernel
    have e0 : (Str.empty).length = 0 := rfl
    refine ⟨_, rfl, small (by rw [app_len, e1, e0]; decide), _, rfl, x, C, dx, _, _, rfl, hx, cl, nA, rfl, .inr ⟨i, rfl, am_log am, _, rfl, small ?_, q⟩⟩
    show (Str.empty ++ "begin " ++ num i).length ≤ 10000
    rw [app_len, app_len, e1, e0]
    omega
end
end V3

set_option Elab.async false
set_option linter.all false
set_option maxRecDepth 100000
/-! Further rules of our own: xs[a:b:k]; a class that stands in a local name, called. -/
namespace V3
open PySem PySem.Spec PyProof.Rows L2
/-- the items of xs[lo:hi:st] -/
def stepV (xs : List V) (lo hi st : Option Int) : List V :=
  (sliceRange (sliceBounds lo hi st xs.length).1 (sliceBounds lo hi st xs.length).2.1 (sliceBounds lo hi st xs.length).2.2).filterMap (fun i => xs[i]?)
theorem vals_pick {xs : List V} {us : List Value} (r : Vals xs us) : ∀ idx : List Nat, Vals (idx.filterMap (fun i => xs[i]?)) (idx.filterMap (fun i => us.toArray[i]?))
  | [] => .nil
  | i :: idx => by
    have ih := vals_pick r idx
    rw [List.filterMap_cons, List.filterMap_cons]
    cases e : xs[i]? with
    | none =>
      have e2 : us.toArray[i]? = none := by
        rw [List.getElem?_toArray]
        exact r.none_of e
      rw [e2]
      exact ih
    | some x =>
      obtain ⟨u, hu, ru⟩ := r.get e
      have e2 : us.toArray[i]? = some u := by
        rw [List.getElem?_toArray]
        exact hu
      rw [e2]
      exact .cons ru ih
section
variable {X : Cx} {e : Expr} {te : TE} {lo hi st : Option Expr} {tl th ts : TO} {p2 pos : Pos}
def tStep (K : PySem.W.Frag) (te : TE) (tl th ts : TO) : TE := fun σ H Q => te σ H fun x H1 => tl σ H1 fun l H2 => th σ H2 fun u H3 => ts σ H3 fun k H4 =>
  ∃ a xs, x = .ref a ∧ SqL K H4 a xs ∧ k ≠ some 0 ∧ (stepV xs l u k).length ≤ sizeLine ∧ ∀ p, H4 p = none → Q (.ref p) (upd H4 p (.lst (stepV xs l u k)))
theorem pe_step (he : PE X e te) (hl : PO X lo tl) (hu : PO X hi th) (hk : PO X st ts)
    (hop : ∀ (o : Value) (n : Addr), subscripted (.Slice lo hi st p2) false o (.ref n) = operate [o, .ref n] (getItem o (.ref n)) := by intro _ _; with_unfolding_all rfl) :
    PE X (.Subscript e (.Slice lo hi st p2) pos) (tStep X.K te tl th ts) := by
  refine ⟨fun pins s σ H Q I h => ?_⟩
  refine Subscript_ (thn (he.run pins s σ H _ I h) fun v s1 ⟨x, H1, I1, r1, q1⟩ => ?_)
  refine wpAny_Slice (thn (hl.run pins s1 σ H1 _ I1 q1) fun vl s2 ⟨l, H2, I2, pl, q2⟩ =>
    thn (hu.run pins s2 σ H2 _ I2 q2) fun vu s3 ⟨u, H3, I3, pu, q3⟩ =>
    thn (hk.run pins s3 σ H3 _ I3 q3) fun vk s4 ⟨k, H4, I4, pk, q4⟩ => ?_)
  obtain ⟨a, xs, rfl, hx, hk0, hsz, q⟩ := q4
  have J : Inv X pins σ H4 { s4 with heap := s4.heap.push { cls := .type "slice", data := .fields #[vl, vu, vk] } } := I4.kept (t' := s4.toks) fun b ob q => Heap.get?_push_of_some _ q
  cases r1
  obtain ⟨its, r, ht, hz⟩ := J.list hx
  have hlen := r.length
  have got : wpAny (model X.prog X.w) X.A (getItem (.ref a) (.ref s4.heap.objs.size)) (EP X pins σ Q) X.xe { s4 with heap := s4.heap.push { cls := .type "slice", data := .fields #[vl, vu, vk] } } := by
    refine wpAny_getItem_list_slice ht.isList (Heap.IsSliceOf.new ..) pl pu pk hk0 ?_ (by rw [List.size_toArray] <;> omega)
    have e : slicePick its.toArray l u k = ((sliceRange (sliceBounds l u k xs.length).1 (sliceBounds l u k xs.length).2.1 (sliceBounds l u k xs.length).2.2).filterMap (fun i => its.toArray[i]?)).toArray := by
      unfold slicePick
      rw [List.size_toArray, ← hlen]
    rw [e]
    refine ⟨.ref (s4.heap.push _).objs.size, _, J.laid (t' := s4.toks) (o := .lst (stepV xs l u k)) (fun b ob q => Heap.get?_push_of_some _ q) (Nat.le_refl _) ?_, rfl, q _ (J.hok.fresh (Nat.le_refl _))⟩
    exact ⟨hsz, _, 0, vals_pick r _, Heap.get?_push_size _ rfl⟩
  show wpAny (model X.prog X.w) X.A (subscriptTail e (.Slice lo hi st p2) (.ref a) (.ref s4.heap.objs.size)) (EP X pins σ Q) X.xe { s4 with heap := s4.heap.push { cls := .type "slice", data := .fields #[vl, vu, vk] } }
  exact tail_any (ops := [.ref a, .ref s4.heap.objs.size]) ht.isList.typeIs slot_list_getitem.lookup got (hop _ _)
end
section
variable {X : Cx} {CX : CXT} {k i : Nat} {f C : Addr} {fd : FuncData} {ps : List Str} {sp : Sp} {E : XK} {x : Str} {p pos : Pos} {e : Expr} {es : List Expr} {t : TA} {dvs : List V} {ds : List Value}
/-- c(e, ..), c a local name that holds the class at C -/
def tMakeL (i : Nat) (C : Addr) (sp : Sp) (dvs : List V) (E : XK) (t : TA) : TE := fun σ H Q => σ[i]? = some (some (.ref C)) ∧ tMake C sp dvs E t σ H Q
theorem pe_makeL (M : Mk X.K C f) (F : FnOk X.prog X.w X.K X.mg X.base CX k f fd ps sp) (room : Room (k + 1) X.A) (hN : X.N[i]? = some x) (hv : Vis X.env.scope x)
    (bi : Binds X.K fd ps ds) (va : Vals dvs ds) (out : Passes CX X E) (ha : PA X (e :: es) t)
    (hdb : (x == ("__debug__" : Str)) = false := by decide) (hcd : (x == ("__classdict__" : Str)) = false := by decide)
    (he : starEach (e :: es) X.env = (false, eval e X.env) :: starEach es X.env := by rfl) (hpl : (backTo pos (starEach es X.env)).any (·.1) = false := by rfl) :
    PE X (.Call (.Name x p) (e :: es) [] pos) (tMakeL i C sp dvs E t) := by
  refine ⟨fun pins s σ H Q I h => ?_⟩
  obtain ⟨at_, want⟩ := h
  refine wpAny_Call_Name_kw (thn ((pe_var (pos := p) hN hv hdb hcd).run pins s σ H (fun v H1 => v = .ref C ∧ H1 = H) I ⟨.ref C, at_, rfl, rfl⟩) fun u s1 ⟨v, H1, I1, r1, q1⟩ => ?_)
  obtain ⟨rfl, rfl⟩ := q1
  cases r1
  refine PySem.W.callWith_K (h₀ := X.base) I.ok.mod.kin M.kp ?_ he hpl
  exact thn (ha.run pos pins s1 σ _ _ I1 want) fun us s2 ⟨vs, H2, I2, r, q⟩ => ⟨I2.kIn, run_make M F room bi va out I2 r q⟩
end
end V3

set_option Elab.async false
set_option linter.all false
set_option maxRecDepth 100000
namespace V3
open PySem L2 TL
/-! a move, its words, its text -/
inductive Mv where
  | beg (a : Int) | take (t : Int) | takeBy (t a : Int) | right (t a : Int) | shut
  deriving DecidableEq
def Idx (t : Int) : Prop := 0 ≤ t ∧ t ≤ 1000000000000
def Amt (a : Int) : Prop := 1 ≤ a ∧ a ≤ 1000000000000
def Mv.ok : Mv → Prop
  | .beg a => Amt a
  | .take t => Idx t
  | .takeBy t a => Idx t ∧ Amt a
  | .right t a => Idx t ∧ Amt a
  | .shut => True
def Mv.evens : Mv → List Str
  | .beg _ => ["begin"]
  | .take _ => ["take"]
  | .takeBy _ _ => ["take", "by"]
  | .right _ _ => ["right", "to"]
  | .shut => ["shut"]
def Mv.nums : Mv → List Int
  | .beg a => [a]
  | .take t => [t]
  | .takeBy t a => [t, a]
  | .right t a => [t, a]
  | .shut => []
def Mv.words : Mv → List Str
  | .beg a => ["begin", num a]
  | .take t => ["take", num t]
  | .takeBy t a => ["take", num t, "by", num a]
  | .right t a => ["right", num t, "to", num a]
  | .shut => ["shut"]
def sp1 : Str := " "
def Mv.text (m : Mv) : Str := Str.join sp1 m.words
theorem nums_ok {m : Mv} (h : m.ok) : ∀ n ∈ m.nums, Idx n := by
  intro n hn
  cases m with
  | shut => cases hn
  | _ =>
    simp only [Mv.nums, List.mem_cons, List.not_mem_nil, or_false] at hn
    simp only [Mv.ok, Amt, Idx] at h
    unfold Idx
    first
      | (subst hn; omega)
      | (rcases hn with rfl | rfl <;> omega)
theorem at_am {t : Int} (h : Idx t) : Am t := by
  unfold Idx at h
  unfold Am
  omega
theorem tl_num' {t : Int} (h : 0 ≤ t) : tl (num t) = numL t.toNat := by
  have e : ((t.toNat : Nat) : Int) = t := by omega
  have z := tl_num t.toNat
  rw [e] at z
  exact z
theorem num_free {t : Int} {s : Nat} (h : 0 ≤ t) (hs : s < 48 ∨ 57 < s) : s ∉ tl (num t) := by
  rw [tl_num' h]
  exact numL_free hs
theorem sp_tl : tl sp1 = [32] := by decide +kernel
/-- no blank in a word, no semicolon either -/
theorem words_free {m : Mv} (h : m.ok) : ∀ p ∈ m.words, 32 ∉ tl p ∧ 59 ∉ tl p := by
  have k : ∀ z : Int, 0 ≤ z → 32 ∉ tl (num z) ∧ 59 ∉ tl (num z) := fun z hz => ⟨num_free hz (by decide), num_free hz (by decide)⟩
  have e1 : 32 ∉ tl "begin" ∧ 59 ∉ tl "begin" := by decide +kernel
  have e2 : 32 ∉ tl "take" ∧ 59 ∉ tl "take" := by decide +kernel
  have e3 : 32 ∉ tl "by" ∧ 59 ∉ tl "by" := by decide +kernel
  have e4 : 32 ∉ tl "right" ∧ 59 ∉ tl "right" := by decide +kernel
  have e5 : 32 ∉ tl "to" ∧ 59 ∉ tl "to" := by decide +kernel
  have e6 : 32 ∉ tl "shut" ∧ 59 ∉ tl "shut" := by decide +kernel
  intro p hp
  cases m with
  | beg a =>
    have h' : Amt a := h
    unfold Amt at h'
    simp only [Mv.words, List.mem_cons, List.not_mem_nil, or_false] at hp
    rcases hp with rfl | rfl
    · exact e1
    · exact k a (by omega)
  | take t =>
    have h' : Idx t := h
    unfold Idx at h'
    simp only [Mv.words, List.mem_cons, List.not_mem_nil, or_false] at hp
    rcases hp with rfl | rfl
    · exact e2
    · exact k t (by omega)
  | takeBy t a =>
    have h' : Idx t ∧ Amt a := h
    unfold Idx Amt at h'
    simp only [Mv.words, List.mem_cons, List.not_mem_nil, or_false] at hp
    rcases hp with rfl | rfl | rfl | rfl
    · exact e2
    · exact k t (by omega)
    · exact e3
    · exact k a (by omega)
  | right t a =>
    have h' : Idx t ∧ Amt a := h
    unfold Idx Amt at h'
    simp only [Mv.words, List.mem_cons, List.not_mem_nil, or_false] at hp
    rcases hp with rfl | rfl | rfl | rfl
    · exact e4
    · exact k t (by omega)
    · exact e5
    · exact k a (by omega)
  | shut =>
    simp only [Mv.words, List.mem_cons, List.not_mem_nil, or_false] at hp
    subst hp
    exact e6
theorem words_ne (m : Mv) : m.words ≠ [] := by cases m <;> exact (fun z => nomatch z)
theorem split_text {m : Mv} (h : m.ok) : Txt.split m.text sp1 = m.words := by
  unfold Mv.text
  have z := split_join sp_tl (by decide +kernel) (words_ne m) fun p hp => (words_free h p hp).1
  rw [join_eq] at z
  exact z
/-- the texts that the program writes are these -/
theorem b_text (a : Int) : bText a = (Mv.beg a).text := ext_tl (by
  unfold bText Mv.text
  rw [tl_join]
  simp only [tl_append, Mv.words, List.map, joinL, sp_tl]
  have e : tl ("begin " : Str) = tl ("begin" : Str) ++ [32] := by decide +kernel
  rw [e]
  simp [Str.empty, tl])
end V3

set_option Elab.async false
set_option linter.all false
set_option maxRecDepth 100000
namespace V3
open PySem L2 TL
/-- where the classes stand -/
structure Cl where
  B : Addr
  T : Addr
  R : Addr
  S : Addr
  Hi : Addr
def Mv.obj (c : Cl) (dx : Addr) : Mv → HO
  | .beg a => .ins c.B dx [("amount", .int a)]
  | .take t => .ins c.T dx (two (.int t) .non)
  | .takeBy t a => .ins c.T dx (two (.int t) (.int a))
  | .right t a => .ins c.R dx (two (.int t) (.int a))
  | .shut => .ins c.S dx []
def MvAt (c : Cl) (H : Hp) (v : V) (m : Mv) : Prop := ∃ x dx, v = .ref x ∧ H x = some (m.obj c dx)
theorem MvAt.same {c : Cl} {H H' : Hp} {v : V} {m : Mv} (h : MvAt c H v m) (s : Same H H') : MvAt c H' v m := by
  obtain ⟨x, dx, e, hx⟩ := h
  exact ⟨x, dx, e, s _ _ hx⟩
theorem Same.new {p : Addr} {H : Hp} {o : HO} (hp : H p = none) : Same H (upd H p o) := fun c u h => by rw [upd_ne (ne_of_none h hp)]; exact h
theorem made_same {H : Hp} {y dy : Addr} {o1 o2 : HO} (ny : H y = none) (ndy : H dy = none) : Same H (upd (upd H dy o1) y o2) := fun b o e => by
  rw [upd_ne (ne_of_none e ny), upd_ne (ne_of_none e ndy)]
  exact e
theorem made_same2 {H : Hp} {y dy : Addr} {o1 o2 o3 : HO} (ny : H y = none) (ndy : H dy = none) : Same H (upd (upd (upd H dy o1) y o2) y o3) := fun b o e => by
  rw [upd_ne (ne_of_none e ny), upd_ne (ne_of_none e ny), upd_ne (ne_of_none e ndy)]
  exact e
theorem num_yes {i n : Int} (h : n ≤ i) : isNum (.int i) n = true := decide_eq_true h
structure MkTxt (P : Program) (w : World) (K : PySem.W.Frag) (mg : Str → Option Value) (base : Heap) (name : Str) (ps : List Str) (C : Addr) (spI : Sp) (dv : List V) : Prop where
  g : mg name = some (.ref C)
  ini : ∃ (f : Addr) (fd : FuncData), FnOk P w K mg base (L2.CX P w) 4 f fd ps spI ∧ Mk K C f ∧ Binds K fd ps [] ∧ ∃ ds, Vals dv ds ∧ Binds K fd ps ds
/-- the program's moves, how they are made -/
structure MvTxt (P : Program) (w : World) (K : PySem.W.Frag) (mg : Str → Option Value) (base : Heap) (c : Cl) (CM : Addr) : Prop where
  B : MkTxt P w K mg base "Begin" ["self", "amount"] c.B (spBegin c.B CM) []
  T : MkTxt P w K mg base "Take" ["self", "at", "amount"] c.T (spTake c.T CM) [.non]
  R : MkTxt P w K mg base "Right" ["self", "at", "amount"] c.R (spRight c.R CM) []
  S : Mk0 K c.S
  gS : mg "Shut" = some (.ref c.S)
end V3

set_option Elab.async false
set_option linter.all false
set_option maxRecDepth 100000
/-! == and != of objects of our own classes, by their own __eq__, whatever it answers. -/
namespace V3
open PySem PySem.Spec PyProof.Rows L2
section
variable {prog : Program} {w : World} {A : Around} {E : Value → Shared → Prop} {s : Shared} {K : PySem.W.Frag} {x C L f : Addr} {h₀ : Heap} {m : Str → Option Value} {ox : Obj} {od : Option Obj} {name : Str} {b tb : Value}
theorem ifBound_B {M : Model} {args : List Value} {id : String} {Q : Option Value → Shared → Prop} (X : K.In s.heap) (I : PySem.W.InstAt s.heap x ox C od) (hs : PySem.W.findIn K (.ref C) name = some (some (.builtin id)))
    (hb : ∀ self, bindSpecial (.builtin id) self = pure (.builtin id, [self]))
    (h : wpAny M A (call (.builtin id) (.ref x :: args)) (fun v => Q (some v)) E s) : wpAny M A (callSpecialIfBound? (.ref x) name args) Q E s := by
  simp only [callSpecialIfBound?, bindSpecialIfBound?]
  refine wpAny_holding (wpAny_bind (wpAny_bind (wpAny_bind (I.type.here ((PySem.W.looks_findIn X hs).here ?_)))))
  simp only [hb]
  refine wpAny_bind (wpAny_askSetting (wpAny_ite ?_))
  have fin : wpAny M A (call (.builtin id) ([.ref x] ++ args) >>= fun v => pure (some v)) Q E s := wpAny_bind (wpAny_mono h (fun v s' h' => wpAny_pure h') fun _ _ h' => h')
  split
  · exact wpAny_bind (wpAny_pure (wpAny_pure fin))
  · exact wpAny_tryCatch (wpAny_bind (wpAny_pure (wpAny_pure fin)))
theorem ne_entry {Q : Fin → Shared → Prop} (hu : A.units < cLine) (X : K.In s.heap) (I : PySem.W.InstAt s.heap x ox C od) (hs : PySem.W.findIn K (.ref C) "__eq__" = some (some (.ref f))) (hf : PySem.W.isFn K (.ref f) = true)
    (h : wpAny (model prog w) A (call (.ref f) [.ref x, b]) (fun v s' => ∃ r, v = .bool r ∧ Q (.done (.ret (.bool (!r)))) s') E s) :
    wpAny (model prog w) A (Builtin.«object.__ne__» ⟨[.ref x, b], []⟩) Q E s := by
  unfold Builtin.«object.__ne__»
  repeat (first | with_reducible refine wpAny_cRoomFor hu ?_ | with_reducible refine wpAny_bind (PySem.W.ifBound_K X I hs hf (wpAny_mono h (fun v s' hv => ?_) fun _ _ e => e)) | wp_step)
  obtain ⟨r, rfl, q⟩ := hv
  repeat wp_step
  exact q
theorem ne_K {Q : Value → Shared → Prop} (hu : A.units + 1 < cLine) (F : PyProof.Rows.Fr h₀ L s.heap m) (X₀ : K.In h₀) (I : PySem.W.InstAt s.heap x ox C od) (hb : PySem.W.Looks (model prog w) s.heap (typeOf b) tb) (hn : PySem.W.notFirst K C tb = true)
    (hs : PySem.W.findIn K (.ref C) "__eq__" = some (some (.ref f))) (hf : PySem.W.isFn K (.ref f) = true)
    (hne : PySem.W.findIn K (.ref C) "__ne__" = some (some (.builtin "object.__ne__"))) (hob : PySem.W.subIn K (.ref C) (.type "object") = some true)
    (h : wpAny (model prog w) A.in1 (call (.ref f) [.ref x, b]) (fun v s' => ∃ r, v = .bool r ∧ Q (.bool (!r)) s') E s) : wpAny (model prog w) A (richCompare .NotEq (.ref x) b) Q E s := by
  have X := X₀.keeps F.keep
  have hu0 : A.units < cLine := Nat.lt_of_succ_lt hu
  have one : wpAny (model prog w) A (tryCompare (.ref x) "__ne__" b) (fun r s' => ∃ v, r = some v ∧ Q v s') E s := by
    unfold tryCompare
    refine wpAny_bind (ifBound_B X I hne (fun self => PySem.F.cmp_object.ne.bind self) ?_)
    refine wpAny_call (codeAny_call_builtin PySem.F.cmp_object.ne.plain PySem.F.cmpEntry_ne (PySem.W.check_slot PySem.F.cmpKind_ne PySem.F.cmpSplit_ne (I.type.andThen (PySem.W.looks_subIn X hob)) (PySem.F.cmpArgs_ne _ _) (ne_entry (A := A.in1) hu X I hs hf ?_)))
    refine wpAny_mono h (fun v s' hv => ?_) fun _ _ e => e
    obtain ⟨r, rfl, q⟩ := hv
    exact ⟨r, rfl, wpAny_pure ⟨_, rfl, q⟩⟩
  unfold richCompare
  simp only [oneThing_ref]
  refine wpAny_holding (wpAny_bind (wpAny_cRoomFor hu0 ?_))
  refine wpAny_bind (I.type.here (wpAny_bind (hb.here ?_)))
  split
  · rename_i q
    have e : PySem.W.subIn K tb (.ref C) = some false := by
      rcases Bool.or_eq_true_iff.mp hn with e | e
      · rw [beq_iff_eq.mp e] at q; simp at q
      · exact beq_iff_eq.mp e
    refine wpAny_bind ((PySem.W.looks_subIn X e).here ?_)
    simp only [Bool.false_eq_true, if_false]
    refine wpAny_bind (wpAny_mono one (fun r s' z => ?_) fun _ _ e => e)
    obtain ⟨v, rfl, hq⟩ := z
    exact wpAny_pure hq
  · refine wpAny_bind (wpAny_pure ?_)
    simp only [Bool.false_eq_true, if_false]
    refine wpAny_bind (wpAny_mono one (fun r s' z => ?_) fun _ _ e => e)
    obtain ⟨v, rfl, hq⟩ := z
    exact wpAny_pure hq
end
/-- a class with an own __eq__ at f and the __ne__ of object -/
structure EqCls (K : PySem.W.Frag) (C f : Addr) : Prop where
  eq : PySem.W.findIn K (.ref C) "__eq__" = some (some (.ref f))
  fn : PySem.W.isFn K (.ref f) = true
  ne : PySem.W.findIn K (.ref C) "__ne__" = some (some (.builtin "object.__ne__"))
  ob : PySem.W.subIn K (.ref C) (.type "object") = some true
section
variable {X : Cx} {CX : CXT} {n : Nat} {f C D : Addr} {fd : FuncData} {ps : List Str} {sp : Sp} {E : XK}
/-- f called at a pair, somewhere below the running body -/
theorem run_own {A : Around} {pins : List (Addr × Obj)} {s : Shared} {σ : L2.St} {H : Hp} {x y : V} {u v : Value} {Q : VK} (sb : Sub X n A) (F : FnOk X.prog X.w X.K X.mg X.base CX n f fd ps sp) (hb : Binds X.K fd ps []) (hx : Passes CX X E)
    (I : Inv X pins σ H s) (rx : RelV x u) (ry : RelV y v) (h : sp [x, y] H Q E) : wpAny (model X.prog X.w) A (call (.ref f) [u, v]) (EP X pins σ Q) X.xe s := by
  have e0 : Env0 X.prog X.w X.K X.mg X.base A X.stack s H := by
    have e := I.env0
    exact ⟨by rw [sb.fr]; exact e.frames, e.mod, e.bs, e.bsz, e.funs, e.frf, e.hok, e.bare⟩
  have hl := F.len _ _ _ _ h
  have r2 : Vals [x, y] [u, v] := .cons rx (.cons ry .nil)
  refine wpAny_call (codeAny_mono (F.run A X.stack s H ⟨[u, v], []⟩ [u, v] [x, y] _ E sb.room e0 (by
    have := hb s [u, v] I.kIn (by simpa using hl)
    simpa using this) r2 h) fun r s' hq => ?_)
  cases r with
  | error e => exact hx pins σ H s e s' I hq
  | ok fl =>
    cases fl with
    | ret w =>
      obtain ⟨z, H', I', rz, q⟩ := I.after hq
      exact ⟨z, H', I', rz, q⟩
    | next => exact False.elim hq
    | brk => exact False.elim hq
    | cont => exact False.elim hq
/-- x == y, x an object whose class has the own __eq__ -/
def rEqO (K : PySem.W.Frag) (n : Nat) (FF : Addr → Sp → XK → Prop) (neg : Bool) : R2 := fun x y H Q => ∃ (a C dx : Addr) (fs : List (Str × V)) (b D dy : Addr) (gs : List (Str × V)) (sp : Sp) (E : XK), x = .ref a ∧ y = .ref b ∧ H a = some (.ins C dx fs) ∧ H b = some (.ins D dy gs) ∧
  FF C sp E ∧ PySem.W.notFirst K C (.ref D) = true ∧ sp [x, y] H (fun v H' => ∃ r : Bool, v = .bl r ∧ Q (.bl (r != neg)) H') E
theorem op_eqO {FF : Addr → Sp → XK → Prop} (hF : ∀ C sp E, FF C sp E → ∃ (CX : CXT) (f : Addr) (fd : FuncData) (ps : List Str), FnOk X.prog X.w X.K X.mg X.base CX n f fd ps sp ∧ EqCls X.K C f ∧ Binds X.K fd ps [] ∧ Passes CX X E) (hr : Room n X.A) :
    OpR X (compareOp .Eq) (rEqO X.K n FF false) := by
  intro pins s σ H x y v u Q I rx ry hq
  obtain ⟨a, C, dx, fs, b, D, dy, gs, sp, E, rfl, rfl, ha, hb, ff, hn, hsp⟩ := hq
  obtain ⟨CX, f, fd, ps, F, ec, bi, hx⟩ := hF C sp E ff
  cases rx
  cases ry
  obtain ⟨mA, J, _⟩ := ins_get I.hok ha
  obtain ⟨mB, J', _⟩ := ins_get I.hok hb
  obtain ⟨od, J, _⟩ := J.look
  obtain ⟨od', J', _⟩ := J'.look
  obtain ⟨m, hF⟩ := I.fr
  show wpAny (model X.prog X.w) X.A (richCompare .Eq (.ref a) (.ref b)) (EP X pins σ Q) X.xe s
  refine PySem.W.cmp_K (op := .Eq) (tb := .ref D) hr.units0 hF I.ok.mod.kin J J'.type hn ec.eq ec.fn ?_
  refine wpAny_mono (run_own (x := .ref a) (y := .ref b) ⟨hr, rfl⟩ F bi hx I rfl rfl hsp) (fun w s' q => ?_) fun _ _ e => e
  obtain ⟨z, H', I', rz, r, ez, q⟩ := q
  subst ez
  cases rz
  refine ⟨.bl r, H', I', rfl, ?_⟩
  have e : (r != false) = r := by cases r <;> rfl
  rw [e] at q
  exact q
theorem op_neO {FF : Addr → Sp → XK → Prop} (hF : ∀ C sp E, FF C sp E → ∃ (CX : CXT) (f : Addr) (fd : FuncData) (ps : List Str), FnOk X.prog X.w X.K X.mg X.base CX n f fd ps sp ∧ EqCls X.K C f ∧ Binds X.K fd ps [] ∧ Passes CX X E) (hr : Room (n + 1) X.A) :
    OpR X (compareOp .NotEq) (rEqO X.K n FF true) := by
  intro pins s σ H x y v u Q I rx ry hq
  obtain ⟨a, C, dx, fs, b, D, dy, gs, sp, E, rfl, rfl, ha, hb, ff, hn, hsp⟩ := hq
  obtain ⟨CX, f, fd, ps, F, ec, bi, hx⟩ := hF C sp E ff
  cases rx
  cases ry
  obtain ⟨mA, J, _⟩ := ins_get I.hok ha
  obtain ⟨mB, J', _⟩ := ins_get I.hok hb
  obtain ⟨od, J, _⟩ := J.look
  obtain ⟨od', J', _⟩ := J'.look
  obtain ⟨m, hF⟩ := I.fr
  show wpAny (model X.prog X.w) X.A (richCompare .NotEq (.ref a) (.ref b)) (EP X pins σ Q) X.xe s
  refine ne_K (tb := .ref D) (by have := hr.units; omega) hF I.ok.mod.kin J J'.type hn ec.eq ec.fn ec.ne ec.ob ?_
  refine wpAny_mono (run_own (x := .ref a) (y := .ref b) (A := X.A.in1) ⟨hr.in1, rfl⟩ F bi hx I rfl rfl hsp) (fun w s' q => ?_) fun _ _ e => e
  obtain ⟨z, H', I', rz, r, ez, q⟩ := q
  subst ez
  cases rz
  refine ⟨r, rfl, .bl (!r), H', I', rfl, ?_⟩
  have e : (r != true) = !r := by cases r <;> rfl
  rw [e] at q
  exact q
end
end V3

set_option Elab.async false
set_option linter.all false
set_option maxRecDepth 100000
namespace V3
open PySem L2 TL
abbrev sSStr : Stmt := inClass (top 12) 1
abbrev sBEq : Stmt := inClass (top 9) 1
abbrev sTEq : Stmt := inClass (top 10) 1
abbrev sREq : Stmt := inClass (top 11) 1
abbrev sSEq : Stmt := inClass (top 12) 0
section
variable {P : Program} {w : World} {K : PySem.W.Frag} {mg : Str → Option Value} {base : Heap}
theorem ok_tStr {f C : Addr} {fd : FuncData} (F : Fun K "__str__" "Take.__str__" sTStr f fd) (cl : Cls K C) (nT : NoAttr K C "at") (nA : NoAttr K C "amount") : FnOk P w K mg base CX0 1 f fd ["self"] (spTStr C) := by
  refine F.ok scTStr (fun vs H Q E h => ?_) (fun cdv A outer s H vs Q E hr h => ?_)
  · obtain ⟨x, dx, i, v, rfl, _⟩ := h
    rfl
  · obtain ⟨x, dx, i, v, rfl, hx, am, q⟩ := h
    have l := num_len am
    have e1 : ("take " : Str).length = 5 := by decide +kernel
    have e2 : (" by " : Str).length = 4 := by decide +kernel
    have e0 : (Str.empty).length = 0 := rfl
    refine ⟨_, pss_cons (ps_if (pt_cmpR op_isN (pe_fld (pv 0) rfl) pe_non (nomark _)) (pss_one (ps_ret (pe_joined (.cons pe_str (.cons (pe_fmt (pe_fld (pv 0) rfl)) .nil))))) pss_nil)
      (pss_one (ps_ret (pe_joined (.cons pe_str (.cons (pe_fmt (pe_fld (pv 0) rfl)) (.cons pe_str (.cons (pe_fmt (pe_fld (pv 0) rfl)) .nil))))))), ?_⟩
    refine ⟨_, rfl, x, C, dx, _, _, rfl, hx, cl, nA, two_am _ _, rfl, _, rfl, ?_⟩
    have l1 : (Str.empty ++ "take " ++ num i).length ≤ 5000 := by
      rw [app_len, app_len, e1, e0]
      omega
    rcases q with ⟨rfl, q⟩ | ⟨j, rfl, aj, q⟩
    · rw [decide_eq_true rfl]
      exact iteT ⟨_, rfl, small (by rw [app_len, e1, e0]; decide), _, rfl, x, C, dx, _, _, rfl, hx, cl, nT, two_at _ _, .inr ⟨i, rfl, am_log am, _, rfl, small (Nat.le_trans l1 (by decide)), q⟩⟩
    · rw [decide_eq_false (fun z => nomatch z)]
      have lj := num_len aj
      have l2 : (Str.empty ++ "take " ++ num i ++ " by ").length ≤ 6000 := by
        rw [app_len, e2]
        omega
      refine iteF ⟨_, rfl, small (by rw [app_len, e1, e0]; decide), _, rfl, x, C, dx, _, _, rfl, hx, cl, nT, two_at _ _, .inr ⟨i, rfl, am_log am, _, rfl, small (Nat.le_trans l1 (by decide)), _, rfl, small (Nat.le_trans l2 (by decide)), _, rfl, x, C, dx, _, _, rfl, hx, cl, nA, two_am _ _, .inr ⟨j, rfl, am_log aj, _, rfl, small ?_, q⟩⟩⟩
      show (Str.empty ++ "take " ++ num i ++ " by " ++ num j).length ≤ 10000
      rw [app_len]
      omega
theorem ok_rStr {f C : Addr} {fd : FuncData} (F : Fun K "__str__" "Right.__str__" sRStr f fd) (cl : Cls K C) (nT : NoAttr K C "at") (nA : NoAttr K C "amount") : FnOk P w K mg base CX0 1 f fd ["self"] (spRStr C) := by
  refine F.ok scRStr (fun vs H Q E h => ?_) (fun cdv A outer s H vs Q E hr h => ?_)
  · obtain ⟨x, dx, i, j, rfl, _⟩ := h
    rfl
  · obtain ⟨x, dx, i, j, rfl, hx, am, aj, q⟩ := h
    have l := num_len am
    have lj := num_len aj
    have e1 : ("right " : Str).length = 6 := by decide +kernel
    have e2 : (" to " : Str).length = 4 := by decide +kernel
    have e0 : (Str.empty).length = 0 := rfl
    have l1 : (Str.empty ++ "right " ++ num i).length ≤ 5000 := by
      rw [app_len, app_len, e1, e0]
      omega
    have l2 : (Str.empty ++ "right " ++ num i ++ " to ").length ≤ 6000 := by
      rw [app_len, e2]
      omega
    refine ⟨_, pss_one (ps_ret (pe_joined (.cons pe_str (.cons (pe_fmt (pe_fld (pv 0) rfl)) (.cons pe_str (.cons (pe_fmt (pe_fld (pv 0) rfl)) .nil)))))), ?_⟩
    refine ⟨_, rfl, small (by rw [app_len, e1, e0]; decide), _, rfl, x, C, dx, _, _, rfl, hx, cl, nT, two_at _ _, .inr ⟨i, rfl, am_log am, _, rfl, small (Nat.le_trans l1 (by decide)), _, rfl, small (Nat.le_trans l2 (by decide)), _, rfl, x, C, dx, _, _, rfl, hx, cl, nA, two_am _ _, .inr ⟨j, rfl, am_log aj, _, rfl, small ?_, q⟩⟩⟩
    show (Str.empty ++ "right " ++ num i ++ " to " ++ num j).length ≤ 10000
    rw [app_len]
    omega
end
/-! the text of any move, and == of moves -/
def Mv.kind : Mv → Nat
  | .beg _ => 0
  | .take _ => 1
  | .takeBy _ _ => 1
  | .right _ _ => 2
  | .shut => 3
def Cl.at (c : Cl) : Nat → Addr
  | 0 => c.B
  | 1 => c.T
  | 2 => c.R
  | _ => c.S
theorem t_text (i : Int) : tText i = (Mv.take i).text := ext_tl (by
  unfold tText Mv.text
  rw [tl_join]
  simp only [tl_append, Mv.words, List.map, joinL, sp_tl]
  have e : tl ("take " : Str) = tl ("take" : Str) ++ [32] := by decide +kernel
  rw [e]
  simp [Str.empty, tl])
theorem tb_text (i j : Int) : tbText i j = (Mv.takeBy i j).text := ext_tl (by
  unfold tbText Mv.text
  rw [tl_join]
  simp only [tl_append, Mv.words, List.map, joinL, sp_tl]
  have e : tl ("take " : Str) = tl ("take" : Str) ++ [32] := by decide +kernel
  have e2 : tl (" by " : Str) = [32] ++ tl ("by" : Str) ++ [32] := by decide +kernel
  rw [e, e2]
  simp [Str.empty, tl])
theorem r_text (i j : Int) : rText i j = (Mv.right i j).text := ext_tl (by
  unfold rText Mv.text
  rw [tl_join]
  simp only [tl_append, Mv.words, List.map, joinL, sp_tl]
  have e : tl ("right " : Str) = tl ("right" : Str) ++ [32] := by decide +kernel
  have e2 : tl (" to " : Str) = [32] ++ tl ("to" : Str) ++ [32] := by decide +kernel
  rw [e, e2]
  simp [Str.empty, tl])
theorem am_of {a : Int} (h : Amt a) : Am a := by
  unfold Amt at h
  unfold Am
  omega
/-- str of a move of a kind -/
def spMS (c : Cl) (k : Nat) : Sp := fun vs H Q _ => ∃ (x dx : Addr) (m : Mv), vs = [.ref x] ∧ H x = some (m.obj c dx) ∧ m.kind = k ∧ m.ok ∧ Q (.str m.text) H
section
variable {P : Program} {w : World} {K : PySem.W.Frag} {mg : Str → Option Value} {base : Heap}
theorem scSStr : FnScope ["self"] ["self"] (defScope sSStr) := ⟨rfl, rfl, rfl, by decide +kernel, rfl, by decide +kernel, by decide +kernel⟩
theorem ok_sStr {f : Addr} {c : Cl} {fd : FuncData} (F : Fun K "__str__" "Shut.__str__" sSStr f fd) : FnOk P w K mg base CX0 1 f fd ["self"] (spMS c 3) := by
  refine F.ok scSStr (fun vs H Q E h => ?_) (fun cdv A outer s H vs Q E hr h => ?_)
  · obtain ⟨x, dx, m, rfl, _⟩ := h
    rfl
  · obtain ⟨x, dx, m, rfl, hx, hk, ok, q⟩ := h
    refine ⟨_, pss_one (ps_ret pe_str), ?_⟩
    cases m with
    | shut =>
      have e : Mv.shut.text = "shut" := by decide +kernel
      rw [e] at q
      exact q
    | _ => cases hk
theorem ms_b {f : Addr} {c : Cl} {fd : FuncData} (G : FnOk P w K mg base CX0 1 f fd ["self"] (spBStr c.B)) : FnOk P w K mg base CX0 1 f fd ["self"] (spMS c 0) := G.imp fun vs H Q E h => by
  obtain ⟨x, dx, m, rfl, hx, hk, ok, q⟩ := h
  cases m with
  | beg a =>
    rw [← b_text] at q
    exact ⟨x, dx, a, rfl, hx, am_of ok, q⟩
  | _ => cases hk
theorem ms_t {f : Addr} {c : Cl} {fd : FuncData} (G : FnOk P w K mg base CX0 1 f fd ["self"] (spTStr c.T)) : FnOk P w K mg base CX0 1 f fd ["self"] (spMS c 1) := G.imp fun vs H Q E h => by
  obtain ⟨x, dx, m, rfl, hx, hk, ok, q⟩ := h
  cases m with
  | take i =>
    rw [← t_text] at q
    exact ⟨x, dx, i, _, rfl, hx, at_am ok, .inl ⟨rfl, q⟩⟩
  | takeBy i j =>
    rw [← tb_text] at q
    exact ⟨x, dx, i, _, rfl, hx, at_am ok.1, .inr ⟨j, rfl, am_of ok.2, q⟩⟩
  | _ => cases hk
theorem ms_r {f : Addr} {c : Cl} {fd : FuncData} (G : FnOk P w K mg base CX0 1 f fd ["self"] (spRStr c.R)) : FnOk P w K mg base CX0 1 f fd ["self"] (spMS c 2) := G.imp fun vs H Q E h => by
  obtain ⟨x, dx, m, rfl, hx, hk, ok, q⟩ := h
  cases m with
  | right i j =>
    rw [← r_text] at q
    exact ⟨x, dx, i, j, rfl, hx, at_am ok.1, am_of ok.2, q⟩
  | _ => cases hk
end
theorem mv_at (c : Cl) (m : Mv) (dx : Addr) : ∃ fs, m.obj c dx = .ins (c.at m.kind) dx fs := by
  cases m <;> exact ⟨_, rfl⟩
theorem kind_lt (m : Mv) : m.kind < 4 := by
  cases m <;> (simp only [Mv.kind]; omega)
/-- how the classes of moves tell their text -/
structure StrTxt (P : Program) (w : World) (K : PySem.W.Frag) (mg : Str → Option Value) (base : Heap) (c : Cl) : Prop where
  s : ∀ k, k < 4 → ∃ (f : Addr) (fd : FuncData), FnOk P w K mg base CX0 1 f fd ["self"] (spMS c k) ∧ PySem.W.findIn K (.ref (c.at k)) "__str__" = some (some (.ref f)) ∧ PySem.W.isFn K (.ref f) = true ∧ Binds K fd ["self"] []
/-- str(x), x any move -/
def rStrM (c : Cl) : List V → Hp → VK → Prop := fun xs H Q => ∃ v m, xs = [v] ∧ MvAt c H v m ∧ m.ok ∧ Q (.str m.text) H
theorem call_strM {X : Cx} {c : Cl} (T : StrTxt X.prog X.w X.K X.mg X.base c) (room : Room 3 X.A) : CallR X (.type "str") (rStrM c) := by
  intro pins s σ H xs us Q I r h
  obtain ⟨v, m, rfl, ⟨x, dx, rfl, hx⟩, ok, q⟩ := h
  obtain ⟨f, fd, G, at_, isf, bi⟩ := T.s m.kind (kind_lt m)
  obtain ⟨fs, eo⟩ := mv_at c m dx
  refine call_strO (E := fun _ _ _ => False) G at_ isf bi pass0 room pins s σ H _ us Q I r ⟨x, dx, fs, rfl, by rw [hx, eo], x, dx, m, rfl, hx, rfl, ok, _, rfl, q⟩
/-- what of the classes of moves is == and isinstance -/
structure MvCls (K : PySem.W.Frag) (c : Cl) (MV : Addr) : Prop where
  cl : ∀ k, k < 4 → Cls K (c.at k) ∧ PySem.W.findIn K (.ref (c.at k)) "__class__" = some (some (.builtin "object.__class__")) ∧ PySem.W.mroIn K (c.at k) (.type "object") = some true ∧ PySem.W.kitOne K (.ref (c.at k)) (.ref MV) = some true
  gn : PySem.W.specialIn K (.builtin "object.__class__") "__get__" = some (some (.builtin "getset_descriptor.__get__"))
  tk : PySem.W.takesIn K (.builtin "object.__class__") = some true
  nf : ∀ k, k < 4 → ∀ j, j < 4 → PySem.W.notFirst K (c.at k) (.ref (c.at j)) = true
def spMEq (c : Cl) : Sp := fun vs H Q _ => ∃ (u v : V) (m n : Mv), vs = [u, v] ∧ MvAt c H u m ∧ MvAt c H v n ∧ m.ok ∧ n.ok ∧ Q (.bl (decide (m.text = n.text))) H
section
variable {P : Program} {w : World} {K : PySem.W.Frag} {mg : Str → Option Value} {base : Heap}
theorem scBEq : FnScope ["self", "other"] ["self", "other"] (defScope sBEq) := ⟨rfl, rfl, rfl, by decide +kernel, rfl, by decide +kernel, by decide +kernel⟩
theorem scTEq : FnScope ["self", "other"] ["self", "other"] (defScope sTEq) := ⟨rfl, rfl, rfl, by decide +kernel, rfl, by decide +kernel, by decide +kernel⟩
theorem scREq : FnScope ["self", "other"] ["self", "other"] (defScope sREq) := ⟨rfl, rfl, rfl, by decide +kernel, rfl, by decide +kernel, by decide +kernel⟩
theorem scSEq : FnScope ["self", "other"] ["self", "other"] (defScope sSEq) := ⟨rfl, rfl, rfl, by decide +kernel, rfl, by decide +kernel, by decide +kernel⟩
structure BltE (mg : Str → Option Value) : Prop where
  isi : mg "isinstance" = none
  str : mg "str" = none
theorem meq_run {c : Cl} {MV : Addr} {H : Hp} {u v : V} {m n : Mv} {Q : VK} (C : MvCls K c MV) (hu : MvAt c H u m) (hv : MvAt c H v n) (mo : m.ok) (no : n.ok) (q : Q (.bl (decide (m.text = n.text))) H) :
    tAndV (tCB (rIsi K) (tCons (tVar 1) (tCons (tC (.ref MV)) tNil))) (tOp rEq (tCB (rStrM c) (tCons (tVar 0) tNil)) (tCB (rStrM c) (tCons (tVar 1) tNil))) (start ["self", "other"] [u, v]) H Q := by
  obtain ⟨y, dy, rfl, hy⟩ := id hv
  obtain ⟨fs, eo⟩ := mv_at c n dy
  obtain ⟨cl, ca, mr, ki⟩ := C.cl n.kind (kind_lt n)
  refine ⟨_, rfl, _, _, _, _, _, rfl, .own MV, .base (.ins (by rw [hy, eo]) cl ca C.gn C.tk mr), ki, _, rfl, iteT ⟨_, rfl, u, m, rfl, hu, mo, _, rfl, _, n, rfl, hv, no, rfl, ?_⟩⟩
  have e : (V.str m.text = V.str n.text) ↔ (m.text = n.text) := ⟨fun z => by injection z, fun z => by rw [z]⟩
  have e2 : decide (V.str m.text = V.str n.text) = decide (m.text = n.text) := by
    by_cases h : m.text = n.text
    · rw [decide_eq_true h, decide_eq_true (e.mpr h)]
    · rw [decide_eq_false h, decide_eq_false (fun z => h (e.mp z))]
  rw [e2]
  exact q
theorem ok_bEq {f MV : Addr} {c : Cl} {fd : FuncData} (F : Fun K "__eq__" "Begin.__eq__" sBEq f fd) (T : BltE mg) (S : StrTxt P w K mg base c) (C : MvCls K c MV) (gM : mg "Move" = some (.ref MV)) : FnOk P w K mg base CX0 4 f fd ["self", "other"] (spMEq c) := by
  refine F.ok scBEq (fun vs H Q E h => ?_) (fun cdv A outer s H vs Q E hr h => ?_)
  · obtain ⟨u, v, m, n, rfl, _⟩ := h
    rfl
  · obtain ⟨u, v, m, n, rfl, hu, hv, mo, no, q⟩ := h
    exact ⟨_, pss_one (ps_ret (pe_and (pe_callB call_isi (by rfl) T.isi (by decide +kernel) (pa_cons (pv 1) (pa_cons (pe_glob (v := .ref MV) rfl gM rfl) pa_nil))) (pe_one (pe_cmpR op_eq (pe_callTy (call_strM S hr) (by rfl) T.str (by decide +kernel) (pa_cons (pv 0) pa_nil)) (pe_callTy (call_strM S hr) (by rfl) T.str (by decide +kernel) (pa_cons (pv 1) pa_nil)) (nomark _))))),
      meq_run C hu hv mo no q⟩
theorem ok_tEq {f MV : Addr} {c : Cl} {fd : FuncData} (F : Fun K "__eq__" "Take.__eq__" sTEq f fd) (T : BltE mg) (S : StrTxt P w K mg base c) (C : MvCls K c MV) (gM : mg "Move" = some (.ref MV)) : FnOk P w K mg base CX0 4 f fd ["self", "other"] (spMEq c) := by
  refine F.ok scTEq (fun vs H Q E h => ?_) (fun cdv A outer s H vs Q E hr h => ?_)
  · obtain ⟨u, v, m, n, rfl, _⟩ := h
    rfl
  · obtain ⟨u, v, m, n, rfl, hu, hv, mo, no, q⟩ := h
    exact ⟨_, pss_one (ps_ret (pe_and (pe_callB call_isi (by rfl) T.isi (by decide +kernel) (pa_cons (pv 1) (pa_cons (pe_glob (v := .ref MV) rfl gM rfl) pa_nil))) (pe_one (pe_cmpR op_eq (pe_callTy (call_strM S hr) (by rfl) T.str (by decide +kernel) (pa_cons (pv 0) pa_nil)) (pe_callTy (call_strM S hr) (by rfl) T.str (by decide +kernel) (pa_cons (pv 1) pa_nil)) (nomark _))))),
      meq_run C hu hv mo no q⟩
theorem ok_rEq' {f MV : Addr} {c : Cl} {fd : FuncData} (F : Fun K "__eq__" "Right.__eq__" sREq f fd) (T : BltE mg) (S : StrTxt P w K mg base c) (C : MvCls K c MV) (gM : mg "Move" = some (.ref MV)) : FnOk P w K mg base CX0 4 f fd ["self", "other"] (spMEq c) := by
  refine F.ok scREq (fun vs H Q E h => ?_) (fun cdv A outer s H vs Q E hr h => ?_)
  · obtain ⟨u, v, m, n, rfl, _⟩ := h
    rfl
  · obtain ⟨u, v, m, n, rfl, hu, hv, mo, no, q⟩ := h
    exact ⟨_, pss_one (ps_ret (pe_and (pe_callB call_isi (by rfl) T.isi (by decide +kernel) (pa_cons (pv 1) (pa_cons (pe_glob (v := .ref MV) rfl gM rfl) pa_nil))) (pe_one (pe_cmpR op_eq (pe_callTy (call_strM S hr) (by rfl) T.str (by decide +kernel) (pa_cons (pv 0) pa_nil)) (pe_callTy (call_strM S hr) (by rfl) T.str (by decide +kernel) (pa_cons (pv 1) pa_nil)) (nomark _))))),
      meq_run C hu hv mo no q⟩
theorem ok_sEq {f MV : Addr} {c : Cl} {fd : FuncData} (F : Fun K "__eq__" "Shut.__eq__" sSEq f fd) (T : BltE mg) (S : StrTxt P w K mg base c) (C : MvCls K c MV) (gM : mg "Move" = some (.ref MV)) : FnOk P w K mg base CX0 4 f fd ["self", "other"] (spMEq c) := by
  refine F.ok scSEq (fun vs H Q E h => ?_) (fun cdv A outer s H vs Q E hr h => ?_)
  · obtain ⟨u, v, m, n, rfl, _⟩ := h
    rfl
  · obtain ⟨u, v, m, n, rfl, hu, hv, mo, no, q⟩ := h
    exact ⟨_, pss_one (ps_ret (pe_and (pe_callB call_isi (by rfl) T.isi (by decide +kernel) (pa_cons (pv 1) (pa_cons (pe_glob (v := .ref MV) rfl gM rfl) pa_nil))) (pe_one (pe_cmpR op_eq (pe_callTy (call_strM S hr) (by rfl) T.str (by decide +kernel) (pa_cons (pv 0) pa_nil)) (pe_callTy (call_strM S hr) (by rfl) T.str (by decide +kernel) (pa_cons (pv 1) pa_nil)) (nomark _))))),
      meq_run C hu hv mo no q⟩
end
end V3

set_option Elab.async false
set_option linter.all false
set_option maxRecDepth 100000
/-! functions that are called where no repr is under way: repr of nested lists and tuples -/
namespace V3
open PySem PySem.Spec PyProof.Rows L2
def NoG (A : Around) : Prop := A.guards = some []
theorem NoG.deeper {A : Around} (h : NoG A) (e : Env) : NoG (A.deeper e) := h
/-- what a def promises to such callers -/
structure FnG (P : Program) (w : World) (K : PySem.W.Frag)
    (mg : Str → Option Value) (base : Heap) (CX : CXT) (k : Nat)
    (f : Addr) (fd : FuncData) (ps : List Str) (sp : Sp) : Prop where
  len : ∀ vs H Q E, sp vs H Q E → vs.length = ps.length
  run : ∀ (A : Around) (up : List Env) (s : Shared) (H : Hp) (args : Args)
    (us : List Value) (vs : List V) (Q : VK) (E : XK),
    NoG A → Room k A → Env0 P w K mg base A up s H →
    BindsTo s fd args (ps.zip us) → Vals vs us → sp vs H Q E →
    codeAny (model P w) A (.call (.ref f) args) (CR CX up P w H s Q E) s
theorem FnG.of {P : Program} {w : World} {K : PySem.W.Frag} {mg : Str → Option Value} {base : Heap}
    {CX : CXT} {k : Nat} {f : Addr} {fd : FuncData} {ps : List Str} {sp : Sp}
    (F : FnOk P w K mg base CX k f fd ps sp) : FnG P w K mg base CX k f fd ps sp :=
  ⟨F.len, fun A up s H args us vs Q E _ => F.run A up s H args us vs Q E⟩
theorem FnG.up {P : Program} {w : World} {K : PySem.W.Frag} {mg : Str → Option Value} {base : Heap}
    {CX : CXT} {j k : Nat} {f : Addr} {fd : FuncData} {ps : List Str} {sp : Sp}
    (F : FnG P w K mg base CX j f fd ps sp) (h : j ≤ k) : FnG P w K mg base CX k f fd ps sp :=
  ⟨F.len, fun A up s H args us vs Q E g r => F.run A up s H args us vs Q E g (r.mono h)⟩
section
variable {P : Program} {w : World} {K : PySem.W.Frag} {mg : Str → Option Value} {base : Heap}
/-- the rule for a def of the text -/
theorem fnG {CX : CXT} {k : Nat} {f : Addr} {x qual : Str} {st : Stmt} {fd : FuncData}
    {N ps : List Str} {sp : Sp} (F : Fun K x qual st f fd) (S : FnScope N ps (defScope st))
    (len : ∀ vs H Q E, sp vs H Q E → vs.length = ps.length)
    (hbody : ∀ (cdv : Value) (A : Around) (up : List Env) (s : Shared) (H : Hp)
      (vs : List V) (Q : VK) (E : XK),
      NoG A → Room k (A.deeper (envOfC qual (defScope st) s.heap.objs.size f cdv)) →
      sp vs H Q E →
      ∃ t, PSs (cxOf CX P w K mg base N qual (defScope st) f cdv A up s H E) (defBody st) t ∧
        t { nx := fun _ H' => Q .non H', rt := Q } (start N vs) H) :
    FnG P w K mg base CX (k + 1) f fd ps sp := by
  obtain ⟨oc, od, kV, doc, pm, an, cdv, ct, osl, rfl, lk, hcd⟩ := F.ex
  refine ⟨len, fun A up s H args us vs Q E g room e0 bnd rel want => ?_⟩
  have nlen := len _ _ _ _ want
  have old := fun b o e => (e0.bs b o e).1
  have KX : K.In s.heap := e0.mod.kin.keeps old
  have lim := e0.mod.nolimit.keeps old
  have known : ∀ y ∈ ps.zip us, (defScope st).names.lookup y.1 = some .local ∨
      ((defScope st).names.lookup y.1 = some .cell ∧
        ((cellsFrom (s.heap.objs.size + 1) (defScope st).names []).lookup y.1).isSome = true) := by
    rintro ⟨n, v⟩ hy
    exact (S.par n (List.of_mem_zip hy).1).imp id fun q => ⟨q, PySem.W.cellsFrom_some _ _ _ (.inl q)⟩
  refine codeAny_call_function room.depth (KX _ _ lk) rfl S.co S.gen rfl
    (PySem.W.codeRec_of KX hcd) (bnd _ _ _ _ ?_)
  refine wpAny_newFunctionEnv_cells S.kind known fun env same s1 x => ?_
  subst same
  refine ⟨lim.keeps x.toInCall.keep, codeAny_func ?_⟩
  obtain ⟨t, ht, hq⟩ := hbody cdv A up s H vs Q E g (room.deeper _) want
  have I := inv_start (CX := CX) (E := E) S room.hd e0 nlen rel x
  refine wpAny_mono (ht.run [] s1 (start N vs) H _ I hq) (fun fl s' hs => ?_) fun e s' hs => hs
  match fl, hs with
  | .ret u, hs =>
    obtain ⟨v, σ', H', J, rv, q⟩ := hs
    exact ⟨v, H', J.os, J.bare, J.base, J.hok, rv, q⟩
  | .next, hs =>
    obtain ⟨σ', H', J, q⟩ := hs
    exact ⟨.non, H', J.os, J.bare, J.base, J.hok, rfl, q⟩
  | .brk, hs =>
    obtain ⟨_, _, _, q⟩ := hs
    exact q.elim
  | .cont, hs =>
    obtain ⟨_, _, _, q⟩ := hs
    exact q.elim
end
section
variable {X : Cx} {CX : CXT} {k : Nat} {f : Addr} {fd : FuncData} {ps : List Str} {sp : Sp}
  {dvs : List V} {ds : List Value} {E : XK} {x : Str} {p pos : Pos} {e : Expr} {es : List Expr} {t : TA}
theorem runG {pins : List (Addr × Obj)} {σ : L2.St} {H : Hp} {s : Shared} {Q : VK}
    {us : List Value} {vs : List V} (F : FnG X.prog X.w X.K X.mg X.base CX k f fd ps sp)
    (g : NoG X.A) (room : Room k X.A) (bi : Binds X.K fd ps ds) (va : Vals dvs ds)
    (out : Passes CX X E) (I : Inv X pins σ H s) (r : Vals vs us) (want : sp (vs ++ dvs) H Q E) :
    wpAny (model X.prog X.w) X.A (call (.ref f) us) (EP X pins σ Q) X.xe s := by
  have r2 := r.append va
  have nlen := r2.length.symm.trans (F.len _ _ _ _ want)
  have ran := F.run X.A X.stack s H ⟨us, []⟩ _ _ Q E g room I.env0 (bi s us I.kIn nlen) r2 want
  refine wpAny_call (codeAny_mono ran fun res s' hq => ?_)
  match res, hq with
  | .error err, hq => exact out pins σ H s err s' I hq
  | .ok (.ret u), hq => exact I.after hq
  | .ok .next, hq => exact hq.elim
  | .ok .brk, hq => exact hq.elim
  | .ok .cont, hq => exact hq.elim
/-- f(e, ..) -/
theorem pe_callG (F : FnG X.prog X.w X.K X.mg X.base CX k f fd ps sp) (g : NoG X.A)
    (room : Room k X.A) (hg : Gl X x) (hm : X.mg x = some (.ref f))
    (kp : PySem.W.keepIn X.K (.ref f) = true) (bi : Binds X.K fd ps ds) (va : Vals dvs ds)
    (out : Passes CX X E) (ha : PA X (e :: es) t)
    (hdb : (x == ("__debug__" : Str)) = false := by decide)
    (he : starEach (e :: es) X.env = (false, eval e X.env) :: starEach es X.env := by rfl)
    (hpl : (backTo pos (starEach es X.env)).any (·.1) = false := by rfl) :
    PE X (.Call (.Name x p) (e :: es) [] pos) (tCall sp dvs E t) := by
  refine ⟨fun pins s σ H Q I h => wpAny_Call_Name_kw (ld_glob I hg hm ?_ hdb)⟩
  refine PySem.W.callWith_K (h₀ := X.base) I.ok.mod.kin kp ?_ he hpl
  exact thn (ha.run pos pins s σ H _ I h) fun us s1 ⟨vs, H1, I1, r, q⟩ =>
    ⟨I1.kIn, runG F g room bi va out I1 r q⟩
/-- repr(v), v nested data -/
def rReprD (K : PySem.W.Frag) (A : Around) : List V → Hp → VK → Prop := fun xs H Q =>
  ∃ (a : Addr) (d : PyData), xs = [.ref a] ∧ Dp K H (.ref a) d ∧ d.showable = true ∧
    d.hasDict = false ∧ A.units + (d.depth + 1) < cLine ∧ d.shown.length ≤ sizeLine ∧ Q (.str d.shown) H
theorem call_reprD (g : NoG X.A) : CallR X (.builtin "repr") (rReprD X.K X.A) := by
  intro pins s σ H xs us Q I r h
  obtain ⟨a, d, rfl, hd, sh, nd, hu, hz, q⟩ := h
  obtain ⟨u, rfl, ru⟩ := vals1 r
  obtain ⟨as, rd⟩ := hd.reads I d _ _ ru
  cases ru
  exact repr_of_reads' rd sh (PyData.noDict_hsm nd) g hu (fun _ _ e => e)
    (fun h' u tk hk => ⟨.str d.shown, H, I.kept (t' := tk) hk, ⟨u, rfl⟩, q⟩) hz
end
end V3

set_option Elab.async false
set_option linter.all false
set_option maxRecDepth 100000
/-! the law's own call, where no repr is under way -/
namespace V3
open PySem PySem.Spec PyProof.Rows L2
section
variable {P : Program} {w : World} {K : PySem.W.Frag} {mg mb : Str → Option Value} {k : Nat}
  {fa a : Addr} {fd : FuncData} {x : Str} {sp : Sp} {s1 : Shared} {vs : List Value} {ns : List Int}
/-- nothing but the script is followed -/
structure Lone (H : Hp) (a : Addr) : Prop where
  only : Only H
  here : ∀ b, H b ≠ none → b = a
theorem law_from {H : Hp} (KX : K.In s1.heap) (hns : s1.heap.Ns mainGlobals mg)
    (hb : s1.heap.Ns builtinsNs mb) (hbb : ∀ y : Str, y ≠ "__name__" → mb y = bootBuiltins y)
    (lim : s1.heap.NoLimit) (gens : s1.gens = #[])
    (ha : s1.heap.get? a = some { cls := .type "list", data := .seq vs.toArray })
    (room : Room k callerA)
    (F : ∀ base : Heap, K.In base → base.Ns mainGlobals mg → FnG P w K mg base CX0 k fa fd [x] sp)
    (bi : ∀ (s : Shared) (u : Value), BindsTo s fd ⟨[u], []⟩ [(x, u)])
    (want : sp [.ref a] H (fun v _ => v = .bl true) fun _ _ _ => False)
    (lone : Lone H a) (hok : HOk P w H s1.heap) (free : H a ≠ none → K.lookup a = none) :
    codeAny (model P w) callerA (.call (.ref fa) ⟨[.ref a], []⟩)
      (fun r s' => r = .ok (.ret (.bool true)) ∧ OldK s1.heap s'.heap ∧ s'.os = s1.os ∧ AllBare s'.gens) s1 := by
  have at_a : ∀ {b : Addr}, H b ≠ none → b = a := fun {b} h => lone.here b h
  have kept : ∀ {b : Addr} {o : Obj}, s1.heap.get? b = some o → (b = a → H b = none) →
      (hidT s1.heap H).get? b = some o := by
    intro b o e n
    by_cases q : H b = none
    · exact hidT_get e q
    · exact hidT_get e (n (at_a q))
  have nsK : ∀ {b : Addr} {m : Str → Option Value}, s1.heap.Ns b m → (hidT s1.heap H).Ns b m := by
    rintro b m ⟨o, es, ep, e, d, r⟩
    refine ⟨o, es, ep, kept e fun z => ?_, d, r⟩
    subst z
    rw [ha] at e
    cases e
    exact nomatch d
  have hKb : K.In (hidT s1.heap H) := by
    intro b o e
    refine kept (KX b o e) fun z => ?_
    subst z
    by_cases q : H b = none
    · exact q
    · rw [free q] at e
      cases e
  obtain ⟨mc, c1, c2⟩ := lim
  have hM : Mod K mg (hidT s1.heap H) := ⟨hKb, nsK hns, ⟨mb, nsK hb, hbb⟩, mc, nsK c1, c2⟩
  have e0 : Env0 P w K mg (hidT s1.heap H) callerA [] s1 H :=
    ⟨rfl, hM, fun b o e => of_hidT e, Nat.le_of_eq (hidT_size _ _), trivial,
      fun b hb => (nomatch hb), hok, AllBare.of_eq gens⟩
  have ran := (F _ hKb (nsK hns)).run callerA [] s1 H ⟨[.ref a], []⟩ [.ref a] [.ref a] _ _ rfl room e0
    (bi s1 (.ref a)) (.cons rfl .nil) want
  refine codeAny_mono ran fun r s' h => ?_
  match r, h with
  | .error e, h => exact h.elim
  | .ok .next, h => exact h.elim
  | .ok .brk, h => exact h.elim
  | .ok .cont, h => exact h.elim
  | .ok (.ret u), h =>
    obtain ⟨v, H', os, bare, un, hok', r', q⟩ := h
    have q' : v = .bl true := q
    subst q'
    have r2 : u = Value.bool true := r'
    subst r2
    refine ⟨rfl, OldK.of_keep fun b o e => ?_, os, bare⟩
    cases hb : H b with
    | none => exact un.keep b o e hb (fun z => by cases z) (by simp)
    | some u =>
      rcases lone.only b with z | ⟨ob, xs, z⟩
      · rw [hb] at z
        cases z
      · obtain ⟨g1, _⟩ := hok b _ z
        obtain ⟨g2, _⟩ := hok' b _ (un.frzs b ob _ z)
        rw [e] at g1
        cases g1
        exact g2
theorem law_callG (KX : K.In s1.heap) (hns : s1.heap.Ns mainGlobals mg)
    (hb : s1.heap.Ns builtinsNs mb) (hbb : ∀ y : Str, y ≠ "__name__" → mb y = bootBuiltins y)
    (lim : s1.heap.NoLimit) (gens : s1.gens = #[])
    (ha : s1.heap.get? a = some { cls := .type "list", data := .seq vs.toArray })
    (whole : IntsAre vs ns) (few : ns.length ≤ sizeLine) (room : Room k callerA)
    (F : ∀ base : Heap, K.In base → base.Ns mainGlobals mg → FnG P w K mg base CX0 k fa fd [x] sp)
    (bi : ∀ (s : Shared) (u : Value), BindsTo s fd ⟨[u], []⟩ [(x, u)])
    (want : ∀ H : Hp, Only H → SqL K H a (ns.map V.int) → sp [.ref a] H (fun v _ => v = .bl true) fun _ _ _ => False) :
    codeAny (model P w) callerA (.call (.ref fa) ⟨[.ref a], []⟩)
      (fun r s' => r = .ok (.ret (.bool true)) ∧ OldK s1.heap s'.heap ∧ s'.os = s1.os ∧ AllBare s'.gens) s1 := by
  have rv := vals_ints whole
  have nv := whole.length
  cases hk : K.lookup a with
  | some o =>
    have e := KX a o hk
    rw [ha] at e
    cases e
    have o0 : Only (fun _ => none) := fun _ => .inl rfl
    refine law_from KX hns hb hbb lim gens ha room F bi (want _ o0 (.inr ⟨_, vs.toArray, _, hk, rfl, rfl, rfl, ?_, ?_⟩)) ⟨o0, ?_⟩ ?_ ?_
    · rw [List.size_toArray, nv]
      exact few
    · simpa using rv
    · intro b z
      exact absurd rfl z
    · intro b u z
      have z2 : (none : Option HO) = some u := z
      cases z2
    · intro z
      exact absurd rfl z
  | none =>
    let Ha : Hp := fun b => if b = a then some (.frz { cls := .type "list", data := .seq vs.toArray } (.lst (ns.map V.int))) else none
    have yes : Ha a = some (.frz { cls := .type "list", data := .seq vs.toArray } (.lst (ns.map V.int))) := if_pos rfl
    have no : ∀ b, b ≠ a → Ha b = none := fun b n => if_neg n
    have o0 : Only Ha := by
      intro b
      by_cases z : b = a
      · subst z
        exact .inr ⟨_, _, yes⟩
      · exact .inl (no b z)
    refine law_from (H := Ha) KX hns hb hbb lim gens ha room F bi (want _ o0 (.inl (.inr ⟨_, yes⟩))) ⟨o0, ?_⟩ ?_ fun _ => hk
    · intro b z
      by_cases q : b = a
      · exact q
      · exact absurd (no b q) z
    · intro b u z
      by_cases q : b = a
      · subst q
        rw [yes] at z
        cases z
        exact ⟨ha, by rw [List.length_map]; exact few, vs, _, rv, ha⟩
      · rw [no b q] at z
        cases z
end
/-- the walk from such a promise -/
theorem walk_ofG {l : PySem.W.OpenLaw} {n k : Nat} {q : Program} {loose : List Str}
    {XP : (Str → Option Value) → Heap → Prop} {YP : World → Heap → Prop} {d : DefRec}
    {K : Params → PySem.W.Frag} {sp : World → Sp} {x : Str}
    (hn : l.most = some n) (small : n ≤ sizeLine) (hdf : d.params.defaults = []) (room : Room k callerA)
    (hY : ∀ (w : World) (h : Heap), YP w h → (K w.params).In h)
    (F : ∀ (w : World) (mg : Str → Option Value) (fa : Addr) (h : Heap), (K w.params).In h →
      h.Ns mainGlobals mg → mg d.name = some (.ref fa) →
      ∃ fd : FuncData, (∀ (s : Shared) (u : Value), BindsTo s fd ⟨[u], []⟩ [(x, u)]) ∧
        ∀ base : Heap, (K w.params).In base → base.Ns mainGlobals mg →
          FnG l.prog w (K w.params) mg base CX0 k fa fd [x] (sp w))
    (hsp : ∀ (w : World) (H : Hp) (a : Addr) (ns : List Int), ns.length ≤ n → Only H →
      SqL (K w.params) H a (ns.map V.int) → sp w [.ref a] H (fun v _ => v = .bl true) fun _ _ _ => False) :
    PySem.W.WalkO q loose XP YP l.row.toRowW d [] (fun f vs => PySem.call f vs) := by
  refine Att.attach_call hn hdf fun w s0 s1 mg mb fa o pm cd doc a vs ns G Y ho hd hcd hmg hobj whole len gens => ?_
  have KX := hY w _ Y
  obtain ⟨fd, bi, hF⟩ := F w mg fa _ KX G.T.g hmg
  exact law_callG KX G.T.g G.T.b G.T.builtins G.T.nolimit gens hobj whole (Nat.le_trans len small) room hF bi
    fun H hO hS => hsp w H a ns len hO hS
end V3

set_option Elab.async false
set_option linter.all false
set_option maxRecDepth 100000
namespace V3
open PySem L2 TL
abbrev sAnyMove : Stmt := top 17
def SameX (b : Addr) (H H' : Hp) : Prop := ∀ c o, c ≠ b → H c = some o → H' c = some o
theorem SameX.refl {b : Addr} {H : Hp} : SameX b H H := fun _ _ _ h => h
theorem SameX.trans {b : Addr} {H H1 H2 : Hp} (s : SameX b H H1) (t : SameX b H1 H2) : SameX b H H2 := fun c o n h => t c o n (s c o n h)
theorem SameX.of {b : Addr} {H H' : Hp} (s : Same H H') : SameX b H H' := fun c o _ h => s c o h
theorem SameX.box {b : Addr} {H : Hp} {o : HO} : SameX b H (upd H b o) := fun c _ n h => by rw [upd_ne n]; exact h
/-- all but the box is as it was, and there is a box -/
def Pre (b : Addr) (H H' : Hp) : Prop := SameX b H H' ∧ ∃ u v, BoxOk u v ∧ H' b = some (box u v)
theorem Pre.trans {b : Addr} {H H1 H2 : Hp} (s : Pre b H H1) (t : Pre b H1 H2) : Pre b H H2 := ⟨s.1.trans t.1, t.2⟩
theorem Pre.then {b : Addr} {H H1 H2 : Hp} (s : Pre b H H1) (t : Same H1 H2) : Pre b H H2 := by
  obtain ⟨h, u, v, ok, e⟩ := s
  exact ⟨h.trans (SameX.of t), u, v, ok, t _ _ e⟩
theorem Pre.box {b : Addr} {H : Hp} {u v : Int} (ok : BoxOk u v) : Pre b H (upd H b (box u v)) := ⟨SameX.box, u, v, ok, upd_same⟩
theorem Pre.start {b : Addr} {H : Hp} {u v : Int} (ok : BoxOk u v) (h : H b = some (V3.box u v)) : Pre b H H := ⟨SameX.refl, u, v, ok, h⟩
abbrev CalChoose (P : Program) (w : World) (K : PySem.W.Frag) (mg : Str → Option Value) (base : Heap) : Prop := Cal P w K mg base CX0 "_law_choose" 1 ["_law_box", "_law_many"] spChoose
/-- a drawn move, as the law says it -/
def MvOk (xs : List V) : Prop := ∃ t a : Int, 0 ≤ t ∧ t ≤ 1000000000 ∧ 1 ≤ a ∧ a ≤ 1000000000000 ∧
  (xs = [.str "begin", .int a] ∨ xs = [.str "take", .int t, .int 0] ∨ xs = [.str "take", .int t, .int a] ∨ xs = [.str "right", .int t, .int a] ∨ xs = [.str "shut"])
def spMv : Sp := fun vs H Q _ => ∃ (b : Addr) (u v : Int), vs = [.ref b] ∧ H b = some (box u v) ∧ BoxOk u v ∧ ∀ (p : Addr) (xs : List V) (H' : Hp), Pre b H H' → H' p = some (.tup xs) → MvOk xs → Q (.ref p) H'
theorem pick3 (x y z d : Int) (h0 : 0 ≤ d) (h3 : d < 3) : ∃ m, atI [V.int x, V.int y, V.int z] d = some (V.int m) ∧ (m = x ∨ m = y ∨ m = z) := by
  have e : d = 0 ∨ d = 1 ∨ d = 2 := by omega
  rcases e with rfl | rfl | rfl
  · exact ⟨x, rfl, .inl rfl⟩
  · exact ⟨y, rfl, .inr (.inl rfl)⟩
  · exact ⟨z, rfl, .inr (.inr rfl)⟩
section
variable {P : Program} {w : World} {K : PySem.W.Frag} {mg : Str → Option Value} {base : Heap}
theorem scAnyMove : FnScope ["_law_box", "_law_form", "_law_at", "_law_amount"] ["_law_box"] (defScope sAnyMove) := ⟨rfl, rfl, rfl, by decide +kernel, rfl, by decide +kernel, by decide +kernel⟩
theorem ok_anyMove {f : Addr} {fd : FuncData} (F : Fun K "_law_any_move" "_law_any_move" sAnyMove f fd) (cC : CalChoose P w K mg base) : FnOk P w K mg base CX0 2 f fd ["_law_box"] spMv := by
  obtain ⟨fC, fdC, GC, mC, kC, bC⟩ := cC
  refine F.ok scAnyMove (fun vs H Q E h => ?_) (fun cdv A outer s H vs Q E hr h => ?_)
  · obtain ⟨b, u, v, rfl, _⟩ := h
    rfl
  · obtain ⟨b, u, v, rfl, hb, ok, k⟩ := h
    refine ⟨_, pss_cons (ps_par (i := 1) (j := 2) rfl scAnyMove.nd rfl rfl (by decide) rfl rfl (pa_cons (pe_call GC hr rfl mC kC bC .nil pass0 (pa_cons (pv 0) (pa_cons pe_int pa_nil)))
          (pa_cons (pe_call GC hr rfl mC kC bC .nil pass0 (pa_cons (pv 0) (pa_cons (pe_ix ix_list (pe_lst (pa_cons pe_int (pa_cons pe_int (pa_cons (pe_op op_pow pe_int pe_int) pa_nil)))) (pe_call GC hr rfl mC kC bC .nil pass0 (pa_cons (pv 0) (pa_cons pe_int pa_nil))) (fun _ _ => rfl)) pa_nil))) pa_nil)) (by rfl))
      (pss_cons (ps_set (i := 3) scAnyMove.nd rfl (Or.inl rfl) (pe_op op_add pe_int (pe_call GC hr rfl mC kC bC .nil pass0 (pa_cons (pv 0) (pa_cons (pe_ix ix_list (pe_lst (pa_cons pe_int (pa_cons pe_int (pa_cons (pe_op op_pow pe_int pe_int) pa_nil)))) (pe_call GC hr rfl mC kC bC .nil pass0 (pa_cons (pv 0) (pa_cons pe_int pa_nil))) (fun _ _ => rfl)) pa_nil)))))
      (pss_one (ps_ret (pe_ix ix_list (pe_lst (pa_cons (pe_tup (pa_cons pe_str (pa_cons (pv 3) pa_nil))) (pa_cons (pe_tup (pa_cons pe_str (pa_cons (pv 2) (pa_cons pe_int pa_nil)))) (pa_cons (pe_tup (pa_cons pe_str (pa_cons (pv 2) (pa_cons (pv 3) pa_nil)))) (pa_cons (pe_tup (pa_cons pe_str (pa_cons (pv 2) (pa_cons (pv 3) pa_nil)))) (pa_cons (pe_tup (pa_cons pe_str pa_nil)) pa_nil)))))) (pv 1) (fun _ _ => rfl))))), ?_⟩
    refine ⟨_, rfl, b, u, v, 5, rfl, hb, ok, (by decide), (by decide), fun d u1 v1 d0 d5 ok1 => ?_⟩
    have S1 : Pre b H (upd H b (box u1 v1)) := Pre.box ok1
    have hb1 : upd H b (box u1 v1) b = some (box u1 v1) := upd_same
    generalize upd H b (box u1 v1) = H1 at S1 hb1 ⊢
    refine ⟨_, rfl, _, _, rfl, rfl, ⟨by decide, by decide, by decide⟩, (by show 3 ≤ sizeLine; decide), fun l nl => ?_⟩
    have nbl : b ≠ l := ne_of_none hb1 nl
    refine ⟨_, rfl, b, u1, v1, 3, rfl, (by rw [upd_ne nbl]; exact hb1), ok1, (by decide), (by decide), fun d2 u2 v2 e0 e3 ok2 => ?_⟩
    obtain ⟨m, hm, cm⟩ := pick3 3 12 (10 ^ (9 : Int).toNat) d2 e0 e3
    have p9 : (10 : Int) ^ (9 : Int).toNat = 1000000000 := by decide
    rw [p9] at cm
    have ll : ∀ o o' : HO, upd (upd H1 l o) b o' l = some o := fun o o' => by rw [upd_ne (Ne.symm nbl)]; exact upd_same
    refine ⟨l, _, d2, .int m, rfl, rfl, SqL.of (ll _ _), hm, ?_⟩
    have S2 : ∀ o : HO, Pre b H (upd (upd H1 l o) b (box u2 v2)) := fun o => ((S1.then (Same.new nl)).trans (Pre.box ok2))
    refine ⟨b, u2, v2, m, rfl, upd_same, ok2, (by omega), (by omega), fun at_ u3 v3 a0 am ok3 => ?_⟩
    have S3 : ∀ o : HO, Pre b H (upd (upd (upd H1 l o) b (box u2 v2)) b (box u3 v3)) := fun o => (S2 o).trans (Pre.box ok3)
    refine ⟨_, _, rfl, ?_⟩
    have S3' := S3 (.lst [.int 3, .int 12, .int (10 ^ (9 : Int).toNat)])
    have hb3 : upd (upd (upd H1 l (.lst [.int 3, .int 12, .int (10 ^ (9 : Int).toNat)])) b (box u2 v2)) b (box u3 v3) b = some (box u3 v3) := upd_same
    generalize upd (upd (upd H1 l (.lst [.int 3, .int 12, .int (10 ^ (9 : Int).toNat)])) b (box u2 v2)) b (box u3 v3) = H3 at S3' hb3
    clear S3 S2 ll
    refine ⟨_, rfl, _, _, rfl, rfl, ⟨by decide, by decide, by decide⟩, (by show 3 ≤ sizeLine; decide), fun l4 nl4 => ?_⟩
    have nbl4 : b ≠ l4 := ne_of_none hb3 nl4
    refine ⟨_, rfl, b, u3, v3, 3, rfl, (by rw [upd_ne nbl4]; exact hb3), ok3, (by decide), (by decide), fun d4 u4 v4 g0 g3 ok4 => ?_⟩
    obtain ⟨m4, hm4, cm4⟩ := pick3 3 99 (10 ^ (12 : Int).toNat) d4 g0 g3
    have p12 : (10 : Int) ^ (12 : Int).toNat = 1000000000000 := by decide
    rw [p12] at cm4
    have ll4 : ∀ o o' : HO, upd (upd H3 l4 o) b o' l4 = some o := fun o o' => by rw [upd_ne (Ne.symm nbl4)]; exact upd_same
    refine ⟨l4, _, d4, .int m4, rfl, rfl, SqL.of (ll4 _ _), hm4, ?_⟩
    refine ⟨b, u4, v4, m4, rfl, upd_same, ok4, (by omega), (by omega), fun am u5 v5 am0 am1 ok5 => ?_⟩
    refine ⟨_, _, rfl, rfl, ?_⟩
    have S5 : Pre b H (upd (upd (upd H3 l4 (.lst [.int 3, .int 99, .int (10 ^ (12 : Int).toNat)])) b (box u4 v4)) b (box u5 v5)) := ((S3'.then (Same.new nl4)).trans (Pre.box ok4)).trans (Pre.box ok5)
    have hb5 : upd (upd (upd H3 l4 (.lst [.int 3, .int 99, .int (10 ^ (12 : Int).toNat)])) b (box u4 v4)) b (box u5 v5) b = some (box u5 v5) := upd_same
    generalize upd (upd (upd H3 l4 (.lst [.int 3, .int 99, .int (10 ^ (12 : Int).toNat)])) b (box u4 v4)) b (box u5 v5) = H5 at S5 hb5
    clear ll4
    -- the five forms
    refine ⟨_, rfl, (by show 2 ≤ sizeLine; decide), fun p1 n1 => ?_⟩
    have S6 := S5.then (Same.new (o := .tup [.str "begin", .int (1 + am)]) n1)
    have t1 : upd H5 p1 (.tup [.str "begin", .int (1 + am)]) p1 = some (.tup [.str "begin", .int (1 + am)]) := upd_same
    generalize upd H5 p1 (.tup [.str "begin", .int (1 + am)]) = H6 at S6 t1
    refine ⟨_, rfl, (by show 3 ≤ sizeLine; decide), fun p2 n2 => ?_⟩
    have S7 := S6.then (Same.new (o := .tup [.str "take", .int at_, .int 0]) n2)
    have s7 : Same H6 (upd H6 p2 (.tup [.str "take", .int at_, .int 0])) := Same.new n2
    have t2 : upd H6 p2 (.tup [.str "take", .int at_, .int 0]) p2 = some (.tup [.str "take", .int at_, .int 0]) := upd_same
    generalize upd H6 p2 (.tup [.str "take", .int at_, .int 0]) = H7 at S7 s7 t2
    refine ⟨_, rfl, _, rfl, (by show 3 ≤ sizeLine; decide), fun p3 n3 => ?_⟩
    have S8 := S7.then (Same.new (o := .tup [.str "take", .int at_, .int (1 + am)]) n3)
    have s8 : Same H7 (upd H7 p3 (.tup [.str "take", .int at_, .int (1 + am)])) := Same.new n3
    have t3 : upd H7 p3 (.tup [.str "take", .int at_, .int (1 + am)]) p3 = some (.tup [.str "take", .int at_, .int (1 + am)]) := upd_same
    generalize upd H7 p3 (.tup [.str "take", .int at_, .int (1 + am)]) = H8 at S8 s8 t3
    refine ⟨_, rfl, _, rfl, (by show 3 ≤ sizeLine; decide), fun p4 n4 => ?_⟩
    have S9 := S8.then (Same.new (o := .tup [.str "right", .int at_, .int (1 + am)]) n4)
    have s9 : Same H8 (upd H8 p4 (.tup [.str "right", .int at_, .int (1 + am)])) := Same.new n4
    have t4 : upd H8 p4 (.tup [.str "right", .int at_, .int (1 + am)]) p4 = some (.tup [.str "right", .int at_, .int (1 + am)]) := upd_same
    generalize upd H8 p4 (.tup [.str "right", .int at_, .int (1 + am)]) = H9 at S9 s9 t4
    refine ⟨(by show 1 ≤ sizeLine; decide), fun p5 n5 => ?_⟩
    have Sa := S9.then (Same.new (o := .tup [.str "shut"]) n5)
    have sa : Same H9 (upd H9 p5 (.tup [.str "shut"])) := Same.new n5
    have t5 : upd H9 p5 (.tup [.str "shut"]) p5 = some (.tup [.str "shut"]) := upd_same
    generalize upd H9 p5 (.tup [.str "shut"]) = Ha at Sa sa t5
    refine ⟨(by show 5 ≤ sizeLine; decide), fun l6 n6 => ?_⟩
    have sb : ∀ o : HO, Same Ha (upd Ha l6 o) := fun o => Same.new n6
    have fin : ∀ (p : Addr) (xs : List V) (o : HO), Ha p = some (.tup xs) → MvOk xs → Q (.ref p) (upd Ha l6 o) := fun p xs o e ok => k p xs _ (Sa.then (sb o)) (sb o _ _ e) ok
    have e5 : d = 0 ∨ d = 1 ∨ d = 2 ∨ d = 3 ∨ d = 4 := by omega
    have a1 : 1 ≤ 1 + am := by omega
    have a2 : 1 + am ≤ 1000000000000 := by omega
    have b2 : at_ ≤ 1000000000 := by omega
    rcases e5 with rfl | rfl | rfl | rfl | rfl
    · exact ⟨_, rfl, l6, _, 0, _, rfl, rfl, SqL.of upd_same, rfl, fin _ _ _ (sa _ _ (s9 _ _ (s8 _ _ (s7 _ _ t1)))) ⟨at_, 1 + am, a0, b2, a1, a2, .inl rfl⟩⟩
    · exact ⟨_, rfl, l6, _, 1, _, rfl, rfl, SqL.of upd_same, rfl, fin _ _ _ (sa _ _ (s9 _ _ (s8 _ _ t2))) ⟨at_, 1 + am, a0, b2, a1, a2, .inr (.inl rfl)⟩⟩
    · exact ⟨_, rfl, l6, _, 2, _, rfl, rfl, SqL.of upd_same, rfl, fin _ _ _ (sa _ _ (s9 _ _ t3)) ⟨at_, 1 + am, a0, b2, a1, a2, .inr (.inr (.inl rfl))⟩⟩
    · exact ⟨_, rfl, l6, _, 3, _, rfl, rfl, SqL.of upd_same, rfl, fin _ _ _ (sa _ _ t4) ⟨at_, 1 + am, a0, b2, a1, a2, .inr (.inr (.inr (.inl rfl)))⟩⟩
    · exact ⟨_, rfl, l6, _, 4, _, rfl, rfl, SqL.of upd_same, rfl, fin _ _ _ t5 ⟨at_, 1 + am, a0, b2, a1, a2, .inr (.inr (.inr (.inr rfl)))⟩⟩
end
/-- the tuple that a move is drawn as -/
def Mv.tupV : Mv → List V
  | .beg a => [.str "begin", .int a]
  | .take t => [.str "take", .int t, .int 0]
  | .takeBy t a => [.str "take", .int t, .int a]
  | .right t a => [.str "right", .int t, .int a]
  | .shut => [.str "shut"]
theorem mv_of {xs : List V} (h : MvOk xs) : ∃ m : Mv, m.ok ∧ xs = m.tupV := by
  obtain ⟨t, a, t0, t1, a0, a1, h⟩ := h
  have ot : V3.Idx t := ⟨t0, by omega⟩
  have oa : Amt a := ⟨a0, by omega⟩
  rcases h with rfl | rfl | rfl | rfl | rfl
  · exact ⟨.beg a, oa, rfl⟩
  · exact ⟨.take t, ot, rfl⟩
  · exact ⟨.takeBy t a, ⟨ot, oa⟩, rfl⟩
  · exact ⟨.right t a, ⟨ot, oa⟩, rfl⟩
  · exact ⟨.shut, trivial, rfl⟩
def TupAt (H : Hp) (v : V) (m : Mv) : Prop := ∃ p, v = .ref p ∧ H p = some (.tup m.tupV)
theorem TupAt.same {H H' : Hp} {v : V} {m : Mv} (h : TupAt H v m) (s : Same H H') : TupAt H' v m := by
  obtain ⟨p, e, hp⟩ := h
  exact ⟨p, e, s _ _ hp⟩
def spAM : Sp := fun vs H Q _ => ∃ (b : Addr) (u v : Int), vs = [.ref b] ∧ H b = some (box u v) ∧ BoxOk u v ∧ ∀ (p : V) (m : Mv) (H' : Hp), Pre b H H' → TupAt H' p m → m.ok → Q p H'
def spMadeM (c : Cl) : Sp := fun vs H Q _ => ∃ (v : V) (m : Mv), vs = [v] ∧ TupAt H v m ∧ m.ok ∧ ∀ (x : V) (H' : Hp), Same H H' → MvAt c H' x m → Q x H'
def spText : Sp := fun vs H Q _ => ∃ (v : V) (m : Mv), vs = [v] ∧ TupAt H v m ∧ m.ok ∧ Q (.str m.text) H
abbrev sMade : Stmt := top 18
abbrev sMvText : Stmt := top 19
section
variable {P : Program} {w : World} {K : PySem.W.Frag} {mg : Str → Option Value} {base : Heap}
theorem am_any {f : Addr} {fd : FuncData} (F : FnOk P w K mg base CX0 2 f fd ["_law_box"] spMv) : FnOk P w K mg base CX0 2 f fd ["_law_box"] spAM := F.imp fun vs H Q E h => by
  obtain ⟨b, u, v, e, hb, ok, k⟩ := h
  refine ⟨b, u, v, e, hb, ok, fun p xs H' pr hp mk => ?_⟩
  obtain ⟨m, mo, rfl⟩ := mv_of mk
  exact k _ m H' pr ⟨p, rfl, hp⟩ mo
theorem scMade : FnScope ["_law_move"] ["_law_move"] (defScope sMade) := ⟨rfl, rfl, rfl, by decide +kernel, rfl, by decide +kernel, by decide +kernel⟩
theorem scMvText : FnScope ["_law_move"] ["_law_move"] (defScope sMvText) := ⟨rfl, rfl, rfl, by decide +kernel, rfl, by decide +kernel, by decide +kernel⟩
end
end V3

set_option Elab.async false
set_option linter.all false
set_option maxRecDepth 100000
namespace V3
open PySem L2 TL
/-- what is made: a move -/
theorem mk_beg {c : Cl} {CM y dy : Addr} {H : Hp} {a : Int} {R : VK} {E : XK} (ok : Amt a) (ny : H y = none) (ndy : H dy = none) (k : ∀ H', Same H H' → MvAt c H' (.ref y) (.beg a) → R .non H') :
    spBegin c.B CM [.ref y, .int a] (upd (upd H dy (.own y)) y (.ins c.B dy [])) R E := by
  obtain ⟨a1, a2⟩ := ok
  exact ⟨y, dy, .int a, rfl, upd_same, .int _ (by omega), fun _ => k _ (made_same2 ny ndy) ⟨y, dy, rfl, upd_same⟩, fun e => absurd (num_yes a1) (by rw [e]; decide)⟩
theorem mk_take {c : Cl} {CM y dy : Addr} {H : Hp} {t : Int} {R : VK} {E : XK} (ok : V3.Idx t) (ny : H y = none) (ndy : H dy = none) (k : ∀ H', Same H H' → MvAt c H' (.ref y) (.take t) → R .non H') :
    spTake c.T CM [.ref y, .int t, .non] (upd (upd H dy (.own y)) y (.ins c.T dy [])) R E := by
  obtain ⟨t1, t2⟩ := ok
  exact ⟨y, dy, .int t, .non, rfl, upd_same, .int _ (by omega), .non, fun _ _ => k _ (made_same2 ny ndy) ⟨y, dy, rfl, upd_same⟩, fun e => absurd (num_yes t1) (by rw [e]; decide), fun _ c => absurd rfl c⟩
theorem mk_takeBy {c : Cl} {CM y dy : Addr} {H : Hp} {t a : Int} {R : VK} {E : XK} (ot : V3.Idx t) (oa : Amt a) (ny : H y = none) (ndy : H dy = none) (k : ∀ H', Same H H' → MvAt c H' (.ref y) (.takeBy t a) → R .non H') :
    spTake c.T CM [.ref y, .int t, .int a] (upd (upd H dy (.own y)) y (.ins c.T dy [])) R E := by
  obtain ⟨t1, t2⟩ := ot
  obtain ⟨a1, a2⟩ := oa
  exact ⟨y, dy, .int t, .int a, rfl, upd_same, .int _ (by omega), .int _ (by omega), fun _ _ => k _ (made_same2 ny ndy) ⟨y, dy, rfl, upd_same⟩, fun e => absurd (num_yes t1) (by rw [e]; decide), fun _ _ e => absurd (num_yes a1) (by rw [e]; decide)⟩
theorem mk_right {c : Cl} {CM y dy : Addr} {H : Hp} {t a : Int} {R : VK} {E : XK} (ot : V3.Idx t) (oa : Amt a) (ny : H y = none) (ndy : H dy = none) (k : ∀ H', Same H H' → MvAt c H' (.ref y) (.right t a) → R .non H') :
    spRight c.R CM [.ref y, .int t, .int a] (upd (upd H dy (.own y)) y (.ins c.R dy [])) R E := by
  obtain ⟨t1, t2⟩ := ot
  obtain ⟨a1, a2⟩ := oa
  exact ⟨y, dy, .int t, .int a, rfl, upd_same, .int _ (by omega), .int _ (by omega), fun _ _ => k _ (made_same2 ny ndy) ⟨y, dy, rfl, upd_same⟩, fun e => absurd (num_yes t1) (by rw [e]; decide), fun _ e => absurd (num_yes a1) (by rw [e]; decide)⟩
theorem mk_shut {c : Cl} {y dy : Addr} {H : Hp} {Q : VK} (k : ∀ v H', Same H H' → MvAt c H' v .shut → Q v H') (ny : H y = none) (ndy : H dy = none) : Q (.ref y) (upd (upd H dy (.own y)) y (.ins c.S dy [])) :=
  k _ _ (made_same ny ndy) ⟨y, dy, rfl, upd_same⟩

def Mv.nm : Mv → Str
  | .beg _ => "begin"
  | .take _ => "take"
  | .takeBy _ _ => "take"
  | .right _ _ => "right"
  | .shut => "shut"
theorem tup_nm (m : Mv) : m.tupV[0]? = some (.str m.nm) := by cases m <;> rfl
section
variable {P : Program} {w : World} {K : PySem.W.Frag} {mg : Str → Option Value} {base : Heap}
theorem ok_madeM {f CM : Addr} {c : Cl} {fd : FuncData} (F : Fun K "_law_made" "_law_made" sMade f fd) (T : MvTxt P w K mg base c CM) : FnOk P w K mg base CX0 6 f fd ["_law_move"] (spMadeM c) := by
  obtain ⟨f1, fd1, G1, M1, b1, _⟩ := T.B.ini
  obtain ⟨f3, fd3, G3, M3, b3, ds3, vd3, c3⟩ := T.T.ini
  obtain ⟨f5, fd5, G5, M5, b5, _⟩ := T.R.ini
  refine F.ok scMade (fun vs H Q E h => ?_) (fun cdv A outer s H vs Q E hr h => ?_)
  · obtain ⟨v, m, rfl, _⟩ := h
    rfl
  · obtain ⟨v, m, rfl, ⟨p, rfl, hp⟩, ok, k⟩ := h
    refine ⟨_, pss_cons (ps_if (pt_cmpR op_eq (pe_ix ix_tup (pv 0) pe_int (fun _ _ => rfl)) pe_str (nomark _)) (pss_one (ps_ret (pe_make M1 G1 hr rfl T.B.g b1 .nil passL (pa_cons (pe_ix ix_tup (pv 0) pe_int (fun _ _ => rfl)) pa_nil)))) pss_nil)
      (pss_cons (ps_if (pt_cmpR op_eq (pe_ix ix_tup (pv 0) pe_int (fun _ _ => rfl)) pe_str (nomark _)) (pss_one (ps_ret (pe_new0 T.S rfl T.gS))) pss_nil)
      (pss_cons (ps_if (pt_cmpR op_eq (pe_ix ix_tup (pv 0) pe_int (fun _ _ => rfl)) pe_str (nomark _)) (pss_one (ps_ret (pe_make M5 G5 hr rfl T.R.g b5 .nil passL (pa_cons (pe_ix ix_tup (pv 0) pe_int (fun _ _ => rfl)) (pa_cons (pe_ix ix_tup (pv 0) pe_int (fun _ _ => rfl)) pa_nil))))) pss_nil)
      (pss_one (ps_ret (pe_ifExp (pt_cmpR op_eq (pe_ix ix_tup (pv 0) pe_int (fun _ _ => rfl)) pe_int (nomark _)) (pe_make M3 G3 hr rfl T.T.g c3 vd3 passL (pa_cons (pe_ix ix_tup (pv 0) pe_int (fun _ _ => rfl)) pa_nil))
        (pe_make M3 G3 hr rfl T.T.g b3 .nil passL (pa_cons (pe_ix ix_tup (pv 0) pe_int (fun _ _ => rfl)) (pa_cons (pe_ix ix_tup (pv 0) pe_int (fun _ _ => rfl)) pa_nil)))))))), ?_⟩
    have hS : SqT K H p m.tupV := SqT.of hp
    have e1 : decide (V.str "take" = V.str "begin") = false := by decide +kernel
    have e2 : decide (V.str "take" = V.str "shut") = false := by decide +kernel
    have e3 : decide (V.str "take" = V.str "right") = false := by decide +kernel
    have e4 : decide (V.str "right" = V.str "begin") = false := by decide +kernel
    have e5 : decide (V.str "right" = V.str "shut") = false := by decide +kernel
    have e6 : decide (V.str "shut" = V.str "begin") = false := by decide +kernel
    rcases m with a | t | ⟨t, a⟩ | ⟨t, a⟩ | _
    · refine ⟨_, rfl, p, _, 0, _, rfl, rfl, hS, rfl, rfl, _, rfl, ?_⟩
      rw [decide_eq_true rfl]
      exact iteT ⟨_, rfl, p, _, 1, _, rfl, rfl, hS, rfl, fun y dy ny ndy ne => mk_beg ok ny ndy fun H' s mv => ⟨rfl, k _ H' s mv⟩⟩
    · refine ⟨_, rfl, p, _, 0, _, rfl, rfl, hS, rfl, rfl, _, rfl, ?_⟩
      rw [e1]
      refine iteF ⟨_, rfl, p, _, 0, _, rfl, rfl, hS, rfl, rfl, _, rfl, ?_⟩
      rw [e2]
      refine iteF ⟨_, rfl, p, _, 0, _, rfl, rfl, hS, rfl, rfl, _, rfl, ?_⟩
      rw [e3]
      refine iteF ⟨_, rfl, p, _, 2, _, rfl, rfl, hS, rfl, rfl, _, rfl, ?_⟩
      rw [decide_eq_true rfl]
      exact iteT ⟨_, rfl, p, _, 1, _, rfl, rfl, hS, rfl, fun y dy ny ndy ne => mk_take ok ny ndy fun H' s mv => ⟨rfl, k _ H' s mv⟩⟩
    · have a1 : 1 ≤ a := ok.2.1
      refine ⟨_, rfl, p, _, 0, _, rfl, rfl, hS, rfl, rfl, _, rfl, ?_⟩
      rw [e1]
      refine iteF ⟨_, rfl, p, _, 0, _, rfl, rfl, hS, rfl, rfl, _, rfl, ?_⟩
      rw [e2]
      refine iteF ⟨_, rfl, p, _, 0, _, rfl, rfl, hS, rfl, rfl, _, rfl, ?_⟩
      rw [e3]
      refine iteF ⟨_, rfl, p, _, 2, _, rfl, rfl, hS, rfl, rfl, _, rfl, ?_⟩
      rw [decide_eq_false (show ¬ V.int a = V.int 0 from fun z => by injection z with z; omega)]
      exact iteF ⟨_, rfl, p, _, 1, _, rfl, rfl, hS, rfl, _, rfl, p, _, 2, _, rfl, rfl, hS, rfl, fun y dy ny ndy ne => mk_takeBy ok.1 ok.2 ny ndy fun H' s mv => ⟨rfl, k _ H' s mv⟩⟩
    · refine ⟨_, rfl, p, _, 0, _, rfl, rfl, hS, rfl, rfl, _, rfl, ?_⟩
      rw [e4]
      refine iteF ⟨_, rfl, p, _, 0, _, rfl, rfl, hS, rfl, rfl, _, rfl, ?_⟩
      rw [e5]
      refine iteF ⟨_, rfl, p, _, 0, _, rfl, rfl, hS, rfl, rfl, _, rfl, ?_⟩
      rw [decide_eq_true rfl]
      exact iteT ⟨_, rfl, p, _, 1, _, rfl, rfl, hS, rfl, _, rfl, p, _, 2, _, rfl, rfl, hS, rfl, fun y dy ny ndy ne => mk_right ok.1 ok.2 ny ndy fun H' s mv => ⟨rfl, k _ H' s mv⟩⟩
    · refine ⟨_, rfl, p, _, 0, _, rfl, rfl, hS, rfl, rfl, _, rfl, ?_⟩
      rw [e6]
      refine iteF ⟨_, rfl, p, _, 0, _, rfl, rfl, hS, rfl, rfl, _, rfl, ?_⟩
      rw [decide_eq_true rfl]
      exact iteT fun y dy ny ndy ne => k _ _ (made_same ny ndy) ⟨y, dy, rfl, upd_same⟩
/-- the law's own text of a move -/
theorem app0 (x : Str) : x ++ Str.empty = x := ext_tl (by
  rw [tl_append]
  simp [Str.empty, tl])
theorem empty_app (x : Str) : Str.empty ++ x = x := ext_tl (by
  rw [tl_append]
  simp [Str.empty, tl])
theorem ok_mvText {f : Addr} {fd : FuncData} (F : Fun K "_law_move_text" "_law_move_text" sMvText f fd) (zs : mg "str" = none) : FnOk P w K mg base CX0 1 f fd ["_law_move"] spText := by
  refine F.ok scMvText (fun vs H Q E h => ?_) (fun cdv A outer s H vs Q E hr h => ?_)
  · obtain ⟨v, m, rfl, _⟩ := h
    rfl
  · obtain ⟨v, m, rfl, ⟨p, rfl, hp⟩, ok, q⟩ := h
    refine ⟨_, pss_cons (ps_if (pt_cmpR op_eq (pe_ix ix_tup (pv 0) pe_int (fun _ _ => rfl)) pe_str (nomark _)) (pss_one (ps_ret (pe_op op_add_str pe_str (pe_callTy call_str_int (by rfl) zs (by decide +kernel) (pa_cons (pe_ix ix_tup (pv 0) pe_int (fun _ _ => rfl)) pa_nil))))) pss_nil)
      (pss_cons (ps_if (pt_cmpR op_eq (pe_ix ix_tup (pv 0) pe_int (fun _ _ => rfl)) pe_str (nomark _)) (pss_one (ps_ret pe_str)) pss_nil)
      (pss_cons (ps_if (pt_cmpR op_eq (pe_ix ix_tup (pv 0) pe_int (fun _ _ => rfl)) pe_str (nomark _)) (pss_one (ps_ret (pe_op op_add_str (pe_op op_add_str pe_str (pe_callTy call_str_int (by rfl) zs (by decide +kernel) (pa_cons (pe_ix ix_tup (pv 0) pe_int (fun _ _ => rfl)) pa_nil)))
          (pe_ifExp (pt_cmpR op_gt (pe_ix ix_tup (pv 0) pe_int (fun _ _ => rfl)) pe_int (nomark _)) (pe_op op_add_str pe_str (pe_callTy call_str_int (by rfl) zs (by decide +kernel) (pa_cons (pe_ix ix_tup (pv 0) pe_int (fun _ _ => rfl)) pa_nil))) pe_str)))) pss_nil)
      (pss_one (ps_ret (pe_op op_add_str (pe_op op_add_str (pe_op op_add_str pe_str (pe_callTy call_str_int (by rfl) zs (by decide +kernel) (pa_cons (pe_ix ix_tup (pv 0) pe_int (fun _ _ => rfl)) pa_nil))) pe_str) (pe_callTy call_str_int (by rfl) zs (by decide +kernel) (pa_cons (pe_ix ix_tup (pv 0) pe_int (fun _ _ => rfl)) pa_nil))))))), ?_⟩
    have hS : SqT K H p m.tupV := SqT.of hp
    have e1 : decide (V.str "take" = V.str "begin") = false := by decide +kernel
    have e2 : decide (V.str "take" = V.str "shut") = false := by decide +kernel
    have e4 : decide (V.str "right" = V.str "begin") = false := by decide +kernel
    have e5 : decide (V.str "right" = V.str "shut") = false := by decide +kernel
    have e7 : decide (V.str "right" = V.str "take") = false := by decide +kernel
    have e6 : decide (V.str "shut" = V.str "begin") = false := by decide +kernel
    have l1 : ("begin " : Str).length = 6 := by decide +kernel
    have l2 : ("take " : Str).length = 5 := by decide +kernel
    have l3 : (" by " : Str).length = 4 := by decide +kernel
    have l4 : ("right " : Str).length = 6 := by decide +kernel
    have l5 : (" to " : Str).length = 4 := by decide +kernel
    rcases m with a | t | ⟨t, a⟩ | ⟨t, a⟩ | _
    · have la := num_len (am_of ok)
      refine ⟨_, rfl, p, _, 0, _, rfl, rfl, hS, rfl, rfl, _, rfl, ?_⟩
      rw [decide_eq_true rfl]
      refine iteT ⟨_, rfl, p, _, 1, _, rfl, rfl, hS, rfl, a, rfl, am_log (am_of ok), _, _, rfl, rfl, small ?_, ?_⟩
      · show ("begin " : Str).length + (num a).length ≤ 10000
        omega
      · rw [← b_text] at q
        unfold bText at q
        rw [empty_app] at q
        exact q
    · have lt := num_len (at_am ok)
      refine ⟨_, rfl, p, _, 0, _, rfl, rfl, hS, rfl, rfl, _, rfl, ?_⟩
      rw [e1]
      refine iteF ⟨_, rfl, p, _, 0, _, rfl, rfl, hS, rfl, rfl, _, rfl, ?_⟩
      rw [e2]
      refine iteF ⟨_, rfl, p, _, 0, _, rfl, rfl, hS, rfl, rfl, _, rfl, ?_⟩
      rw [decide_eq_true rfl]
      refine iteT ⟨_, rfl, p, _, 1, _, rfl, rfl, hS, rfl, t, rfl, am_log (at_am ok), _, _, rfl, rfl, small ?_, ?_⟩
      · show ("take " : Str).length + (num t).length ≤ 10000
        omega
      · refine ⟨_, rfl, p, _, 2, _, rfl, rfl, hS, rfl, _, _, rfl, rfl, _, rfl, ?_⟩
        rw [decide_eq_false (by omega)]
        refine iteF ⟨_, _, rfl, rfl, small ?_, ?_⟩
        · show ("take " ++ num t : Str).length + (Str.empty).length ≤ 10000
          rw [app_len]
          have e0 : (Str.empty).length = 0 := rfl
          omega
        · rw [← t_text] at q
          unfold tText at q
          rw [empty_app] at q
          have z : ("take " ++ num t ++ "" : Str) = "take " ++ num t := app0 _
          show Q (.str ("take " ++ num t ++ "")) H
          rw [z]
          exact q
    · have lt := num_len (at_am ok.1)
      have la := num_len (am_of ok.2)
      have a1 : 1 ≤ a := ok.2.1
      refine ⟨_, rfl, p, _, 0, _, rfl, rfl, hS, rfl, rfl, _, rfl, ?_⟩
      rw [e1]
      refine iteF ⟨_, rfl, p, _, 0, _, rfl, rfl, hS, rfl, rfl, _, rfl, ?_⟩
      rw [e2]
      refine iteF ⟨_, rfl, p, _, 0, _, rfl, rfl, hS, rfl, rfl, _, rfl, ?_⟩
      rw [decide_eq_true rfl]
      refine iteT ⟨_, rfl, p, _, 1, _, rfl, rfl, hS, rfl, t, rfl, am_log (at_am ok.1), _, _, rfl, rfl, small ?_, ?_⟩
      · show ("take " : Str).length + (num t).length ≤ 10000
        omega
      · refine ⟨_, rfl, p, _, 2, _, rfl, rfl, hS, rfl, _, _, rfl, rfl, _, rfl, ?_⟩
        rw [decide_eq_true (by omega)]
        refine iteT ⟨_, rfl, p, _, 2, _, rfl, rfl, hS, rfl, a, rfl, am_log (am_of ok.2), _, _, rfl, rfl, small ?_, _, _, rfl, rfl, small ?_, ?_⟩
        · show (" by " : Str).length + (num a).length ≤ 10000
          omega
        · show ("take " ++ num t : Str).length + (" by " ++ num a : Str).length ≤ 10000
          rw [app_len, app_len]
          omega
        · rw [← tb_text] at q
          unfold tbText at q
          rw [empty_app] at q
          have z : ("take " ++ num t ++ (" by " ++ num a) : Str) = "take " ++ num t ++ " by " ++ num a := ext_tl (by
            simp only [tl_append, List.append_assoc])
          show Q (.str ("take " ++ num t ++ (" by " ++ num a))) H
          rw [z]
          exact q
    · have lt := num_len (at_am ok.1)
      have la := num_len (am_of ok.2)
      refine ⟨_, rfl, p, _, 0, _, rfl, rfl, hS, rfl, rfl, _, rfl, ?_⟩
      rw [e4]
      refine iteF ⟨_, rfl, p, _, 0, _, rfl, rfl, hS, rfl, rfl, _, rfl, ?_⟩
      rw [e5]
      refine iteF ⟨_, rfl, p, _, 0, _, rfl, rfl, hS, rfl, rfl, _, rfl, ?_⟩
      rw [e7]
      refine iteF ⟨_, rfl, p, _, 1, _, rfl, rfl, hS, rfl, t, rfl, am_log (at_am ok.1), _, _, rfl, rfl, small ?_, _, _, rfl, rfl, small ?_, ?_⟩
      · show ("right " : Str).length + (num t).length ≤ 10000
        omega
      · show ("right " ++ num t : Str).length + (" to " : Str).length ≤ 10000
        rw [app_len]
        omega
      · refine ⟨_, rfl, p, _, 2, _, rfl, rfl, hS, rfl, a, rfl, am_log (am_of ok.2), _, _, rfl, rfl, small ?_, ?_⟩
        · show ("right " ++ num t ++ " to " : Str).length + (num a).length ≤ 10000
          rw [app_len, app_len]
          omega
        · rw [← r_text] at q
          unfold rText at q
          rw [empty_app] at q
          exact q
    · refine ⟨_, rfl, p, _, 0, _, rfl, rfl, hS, rfl, rfl, _, rfl, ?_⟩
      rw [e6]
      refine iteF ⟨_, rfl, p, _, 0, _, rfl, rfl, hS, rfl, rfl, _, rfl, ?_⟩
      rw [decide_eq_true rfl]
      have e : Mv.shut.text = "shut" := by decide +kernel
      rw [e] at q
      exact iteT q
end
end V3

set_option Elab.async false
set_option linter.all false
set_option maxRecDepth 100000
namespace V3
open PySem L2 TL
abbrev sKinds : Stmt := top 20
abbrev sKeeps : Stmt := top 21
/-! a move is told by its text, and by its tuple -/
theorem num_inj {a b : Int} (ha : 0 ≤ a) (hb : 0 ≤ b) (h : num a = num b) : a = b := by
  have e := congrArg tl h
  rw [tl_num' ha, tl_num' hb] at e
  have z := numL_inj e
  omega
theorem words_inj {m n : Mv} (hm : m.ok) (hn : n.ok) (h : m.words = n.words) : m = n := by
  have neq : ∀ {a b : Str}, decide (a = b) = false → a ≠ b := fun h e => by rw [decide_eq_true e] at h; cases h
  cases m with
  | beg a =>
    cases n with
    | beg b =>
      injection h with _ h
      injection h with h _
      rw [num_inj (by have := hm.1; omega) (by have := hn.1; omega) h]
    | take t =>
      injection h with h _
      exact absurd h (by decide +kernel)
    | takeBy t b => injection h with h _; exact absurd h (by decide +kernel)
    | right t b => injection h with h _; exact absurd h (by decide +kernel)
    | shut => injection h with h _; exact absurd h (by decide +kernel)
  | take t =>
    cases n with
    | take u =>
      injection h with _ h
      injection h with h _
      rw [num_inj hm.1 hn.1 h]
    | beg a => injection h with h _; exact absurd h (by decide +kernel)
    | takeBy u b =>
      injection h with _ h
      injection h with _ h
      cases h
    | right u b => injection h with h _; exact absurd h (by decide +kernel)
    | shut => injection h with h _; exact absurd h (by decide +kernel)
  | takeBy t a =>
    cases n with
    | takeBy u b =>
      injection h with _ h
      injection h with h1 h
      injection h with _ h
      injection h with h2 _
      rw [num_inj hm.1.1 hn.1.1 h1, num_inj (by have := hm.2.1; omega) (by have := hn.2.1; omega) h2]
    | beg b => injection h with h _; exact absurd h (by decide +kernel)
    | take u =>
      injection h with _ h
      injection h with _ h
      cases h
    | right u b => injection h with h _; exact absurd h (by decide +kernel)
    | shut => injection h with h _; exact absurd h (by decide +kernel)
  | right t a =>
    cases n with
    | right u b =>
      injection h with _ h
      injection h with h1 h
      injection h with _ h
      injection h with h2 _
      rw [num_inj hm.1.1 hn.1.1 h1, num_inj (by have := hm.2.1; omega) (by have := hn.2.1; omega) h2]
    | beg b => injection h with h _; exact absurd h (by decide +kernel)
    | take u => injection h with h _; exact absurd h (by decide +kernel)
    | takeBy u b => injection h with h _; exact absurd h (by decide +kernel)
    | shut => injection h with h _; exact absurd h (by decide +kernel)
  | shut =>
    cases n with
    | shut => rfl
    | beg b => injection h with h _; exact absurd h (by decide +kernel)
    | take u => injection h with h _; exact absurd h (by decide +kernel)
    | takeBy u b => injection h with h _; exact absurd h (by decide +kernel)
    | right u b => injection h with h _; exact absurd h (by decide +kernel)
theorem text_inj {m n : Mv} (hm : m.ok) (hn : n.ok) (h : m.text = n.text) : m = n := by
  refine words_inj hm hn ?_
  rw [← split_text hm, ← split_text hn, h]
theorem text_dec {m n : Mv} (hm : m.ok) (hn : n.ok) : decide (m.text = n.text) = decide (m = n) := by
  by_cases h : m = n
  · rw [decide_eq_true h, decide_eq_true (by rw [h])]
  · rw [decide_eq_false h, decide_eq_false fun z => h (text_inj hm hn z)]
def Mv.tupD : Mv → List PyData
  | .beg a => [.str "begin", .int a]
  | .take t => [.str "take", .int t, .int 0]
  | .takeBy t a => [.str "take", .int t, .int a]
  | .right t a => [.str "right", .int t, .int a]
  | .shut => [.str "shut"]
theorem tup_dp {K : PySem.W.Frag} {H : Hp} (m : Mv) : DpAll K H m.tupV m.tupD := by
  cases m with
  | beg a => exact .cons (.str _) (.cons (.int _) .nil)
  | take t => exact .cons (.str _) (.cons (.int _) (.cons (.int _) .nil))
  | takeBy t a => exact .cons (.str _) (.cons (.int _) (.cons (.int _) .nil))
  | right t a => exact .cons (.str _) (.cons (.int _) (.cons (.int _) .nil))
  | shut => exact .cons (.str _) .nil
theorem tup_shaped (m : Mv) : SeqAt.shaped (.tuple m.tupD) = true := by
  have k1 : PyData.canLay0 (.str "begin") = true := by decide +kernel
  have k2 : PyData.canLay0 (.str "take") = true := by decide +kernel
  have k3 : PyData.canLay0 (.str "right") = true := by decide +kernel
  have k4 : PyData.canLay0 (.str "shut") = true := by decide +kernel
  have ki : ∀ i : Int, PyData.canLay0 (.int i) = true := fun i => by simp [PyData.canLay0]
  have kt : ∀ xs : List PyData, PyData.canLay0 (.tuple xs) = PyData.canLayAll0 xs := fun xs => by simp [PyData.canLay0]
  cases m <;> simp [SeqAt.shaped, Mv.tupD, kt, PyData.canLayAll0, k1, k2, k3, k4, ki, PyData.depth, PyData.depthAll]
theorem dec_int2 (a b : Int) : (a == b) = decide (a = b) := by
  by_cases h : a = b
  · rw [decide_eq_true h, h]
    simp
  · rw [decide_eq_false h]
    simpa using h
theorem tup_eqv {m n : Mv} (hm : m.ok) (hn : n.ok) : PyData.eqv (.tuple m.tupD) (.tuple n.tupD) = decide (m = n) := by
  have s1 : (("begin" : Str) == "take") = false := by decide +kernel
  have s2 : (("begin" : Str) == "right") = false := by decide +kernel
  have s3 : (("begin" : Str) == "shut") = false := by decide +kernel
  have s4 : (("take" : Str) == "begin") = false := by decide +kernel
  have s5 : (("take" : Str) == "right") = false := by decide +kernel
  have s6 : (("take" : Str) == "shut") = false := by decide +kernel
  have s7 : (("right" : Str) == "begin") = false := by decide +kernel
  have s8 : (("right" : Str) == "take") = false := by decide +kernel
  have s9 : (("right" : Str) == "shut") = false := by decide +kernel
  have t1 : (("shut" : Str) == "begin") = false := by decide +kernel
  have t2 : (("shut" : Str) == "take") = false := by decide +kernel
  have t3 : (("shut" : Str) == "right") = false := by decide +kernel
  have b1 : (("begin" : Str) == "begin") = true := by decide +kernel
  have b2 : (("take" : Str) == "take") = true := by decide +kernel
  have b3 : (("right" : Str) == "right") = true := by decide +kernel
  have b4 : (("shut" : Str) == "shut") = true := by decide +kernel
  cases m with
  | beg a => cases n <;> simp [PyData.eqv, PyData.eqvAll, Mv.tupD, dec_int2, s1, s2, s3, b1]
  | take t =>
    cases n with
    | takeBy u b =>
      have := hn.2.1
      have e : ¬ (0 : Int) = b := by omega
      simp [PyData.eqv, PyData.eqvAll, Mv.tupD, dec_int2, b2, e]
    | _ => simp [PyData.eqv, PyData.eqvAll, Mv.tupD, dec_int2, s4, s5, s6, b2]
  | takeBy t a =>
    cases n with
    | take u =>
      have := hm.2.1
      have e : ¬ a = (0 : Int) := by omega
      simp [PyData.eqv, PyData.eqvAll, Mv.tupD, dec_int2, b2, e]
    | _ => simp [PyData.eqv, PyData.eqvAll, Mv.tupD, dec_int2, s4, s5, s6, b2]
  | right t a => cases n <;> simp [PyData.eqv, PyData.eqvAll, Mv.tupD, dec_int2, s7, s8, s9, b3]
  | shut => cases n <;> simp [PyData.eqv, PyData.eqvAll, Mv.tupD, dec_int2, t1, t2, t3, b4]
end V3

set_option Elab.async false
set_option linter.all false
set_option maxRecDepth 100000
namespace V3
open PySem L2 TL
def kindsV (m : Mv) : List V := [.bl (decide (m.kind = 0)), .bl (decide (m.kind = 1)), .bl (decide (m.kind = 2)), .bl (decide (m.kind = 3)), .bl true]
def spKinds (c : Cl) : Sp := fun vs H Q _ => ∃ (x : V) (m : Mv), vs = [x] ∧ MvAt c H x m ∧ ∀ p H', Same H H' → H' p = some (.lst (kindsV m)) → Q (.ref p) H'
structure KdCls (K : PySem.W.Frag) (c : Cl) : Prop where
  ki : ∀ k, k < 4 → ∀ j, j < 4 → PySem.W.kitOne K (.ref (c.at k)) (.ref (c.at j)) = some (decide (k = j))
structure KdTxt (mg : Str → Option Value) (c : Cl) (MV : Addr) : Prop where
  b : mg "Begin" = some (.ref c.B)
  t : mg "Take" = some (.ref c.T)
  r : mg "Right" = some (.ref c.R)
  s : mg "Shut" = some (.ref c.S)
  m : mg "Move" = some (.ref MV)
  isi : mg "isinstance" = none
section
variable {P : Program} {w : World} {K : PySem.W.Frag} {mg : Str → Option Value} {base : Heap}
theorem scKinds : FnScope ["_law_one", "_law_found"] ["_law_one"] (defScope sKinds) := ⟨rfl, rfl, rfl, by decide +kernel, rfl, by decide +kernel, by decide +kernel⟩
theorem ok_kinds {f MV : Addr} {c : Cl} {fd : FuncData} (F : Fun K "_law_kinds" "_law_kinds" sKinds f fd) (T : KdTxt mg c MV) (C : MvCls K c MV) (D : KdCls K c) : FnOk P w K mg base CX0 1 f fd ["_law_one"] (spKinds c) := by
  refine F.ok scKinds (fun vs H Q E h => ?_) (fun cdv A outer s H vs Q E hr h => ?_)
  · obtain ⟨x, m, rfl, _⟩ := h
    rfl
  · obtain ⟨v, m, rfl, ⟨x, dx, rfl, hx⟩, k⟩ := h
    refine ⟨_, pss_cons (ps_set (i := 1) scKinds.nd rfl (Or.inl rfl) (pe_lst (pa_cons (pe_callB call_isi (by rfl) T.isi (by decide +kernel) (pa_cons (pv 0) (pa_cons (pe_glob (v := .ref c.B) rfl T.b rfl) pa_nil)))
        (pa_cons (pe_callB call_isi (by rfl) T.isi (by decide +kernel) (pa_cons (pv 0) (pa_cons (pe_glob (v := .ref c.T) rfl T.t rfl) pa_nil)))
        (pa_cons (pe_callB call_isi (by rfl) T.isi (by decide +kernel) (pa_cons (pv 0) (pa_cons (pe_glob (v := .ref c.R) rfl T.r rfl) pa_nil)))
        (pa_cons (pe_callB call_isi (by rfl) T.isi (by decide +kernel) (pa_cons (pv 0) (pa_cons (pe_glob (v := .ref c.S) rfl T.s rfl) pa_nil))) pa_nil))))))
      (pss_one (ps_ret (pe_op op_cat (pv 1) (pe_lst (pa_cons (pe_callB call_isi (by rfl) T.isi (by decide +kernel) (pa_cons (pv 0) (pa_cons (pe_glob (v := .ref MV) rfl T.m rfl) pa_nil))) pa_nil))))), ?_⟩
    obtain ⟨fs, eo⟩ := mv_at c m dx
    obtain ⟨cl, ca, mr, km⟩ := C.cl m.kind (kind_lt m)
    have ty : ∀ {H' : Hp}, H' x = some (m.obj c dx) → TyX K H' (.ref x) (.ref (c.at m.kind)) := fun h => .base (.ins (by rw [h, eo]) cl ca C.gn C.tk mr)
    have q : ∀ j, j < 4 → PySem.W.kitOne K (.ref (c.at m.kind)) (.ref (c.at j)) = some (decide (m.kind = j)) := fun j hj => D.ki _ (kind_lt m) j hj
    refine ⟨_, rfl, _, _, _, _, _, rfl, .own c.B, ty hx, q 0 (by decide), ?_⟩
    refine ⟨_, rfl, _, _, _, _, _, rfl, .own c.T, ty hx, q 1 (by decide), ?_⟩
    refine ⟨_, rfl, _, _, _, _, _, rfl, .own c.R, ty hx, q 2 (by decide), ?_⟩
    refine ⟨_, rfl, _, _, _, _, _, rfl, .own c.S, ty hx, q 3 (by decide), ?_⟩
    refine ⟨(by show 4 ≤ sizeLine; decide), fun l nl => ?_⟩
    have s1 := Same.new (o := .lst [.bl (decide (m.kind = 0)), .bl (decide (m.kind = 1)), .bl (decide (m.kind = 2)), .bl (decide (m.kind = 3))]) nl
    refine ⟨_, rfl, _, rfl, _, _, _, _, _, rfl, .own MV, ty (s1 _ _ hx), km, (by show 1 ≤ sizeLine; decide), fun l2 nl2 => ?_⟩
    have s2 := Same.new (o := .lst [.bl true]) nl2
    refine ⟨l, l2, _, _, rfl, rfl, s2 _ _ upd_same, upd_same, (by show 5 ≤ sizeLine; decide), fun p np => ?_⟩
    exact k p _ ((s1.trans s2).trans (Same.new np)) upd_same
end
end V3

set_option Elab.async false
set_option linter.all false
set_option maxRecDepth 100000
namespace V3
open PySem L2 TL
theorem pair_len {x y : Str} (hx : x.length ≤ 2000) (hy : y.length ≤ 2000) : (tupleText [x, y]).length ≤ 10000 := by
  have e1 : ("(" : Str).length = 1 := by decide +kernel
  have e2 : (")" : Str).length = 1 := by decide +kernel
  have e3 : (", " : Str).length = 2 := by decide +kernel
  show (("(" : Str) ++ (x ++ ", " ++ y) ++ (")" : Str)).length ≤ 10000
  rw [app_len, app_len, app_len, app_len, e1, e2, e3]
  omega
theorem pairN {t : Int} (h : Am t) : PyData.showable (.tuple [.int t, .none]) = true ∧ PyData.hasDict (.tuple [.int t, .none]) = false ∧ PyData.depth (.tuple [.int t, .none]) = 1 ∧ (PyData.shown (.tuple [.int t, .none])).length ≤ sizeLine := by
  refine ⟨?_, ?_, ?_, ?_⟩
  · simp [PyData.showable, PyData.showableAll, am_log h]
  · simp [PyData.hasDict, PyData.hasDictAll]
  · simp [PyData.depth, PyData.depthAll]
  · have e : PyData.shown (.tuple [.int t, .none]) = tupleText [num t, "None"] := by simp [PyData.shown, PyData.shownAll, num]
    rw [e]
    have l := num_len h
    have l2 : ("None" : Str).length = 4 := by decide +kernel
    exact small (pair_len (by omega) (by omega))
theorem pairI {t a : Int} (h : Am t) (h2 : Am a) : PyData.showable (.tuple [.int t, .int a]) = true ∧ PyData.hasDict (.tuple [.int t, .int a]) = false ∧ PyData.depth (.tuple [.int t, .int a]) = 1 ∧ (PyData.shown (.tuple [.int t, .int a])).length ≤ sizeLine := by
  refine ⟨?_, ?_, ?_, ?_⟩
  · simp [PyData.showable, PyData.showableAll, am_log h, am_log h2]
  · simp [PyData.hasDict, PyData.hasDictAll]
  · simp [PyData.depth, PyData.depthAll]
  · have e : PyData.shown (.tuple [.int t, .int a]) = tupleText [num t, num a] := by simp [PyData.shown, PyData.shownAll, num]
    rw [e]
    have l := num_len h
    have l2 := num_len h2
    exact small (pair_len (by omega) (by omega))
def spKeeps (c : Cl) : Sp := fun vs H Q _ => ∃ (x v : V) (m : Mv), vs = [x, v] ∧ MvAt c H x m ∧ TupAt H v m ∧ m.ok ∧ ∀ H', Same H H' → Q (.bl true) H'
structure FldTxt (K : PySem.W.Frag) (c : Cl) : Prop where
  bc : Cls K c.B
  tc : Cls K c.T
  rc : Cls K c.R
  ba : NoAttr K c.B "amount"
  ta : NoAttr K c.T "amount"
  tt : NoAttr K c.T "at"
  ra : NoAttr K c.R "amount"
  rt : NoAttr K c.R "at"
section
variable {P : Program} {w : World} {K : PySem.W.Frag} {mg : Str → Option Value} {base : Heap}
theorem scKeeps : FnScope ["_law_one", "_law_move", "_law_due"] ["_law_one", "_law_move"] (defScope sKeeps) := ⟨rfl, rfl, rfl, by decide +kernel, rfl, by decide +kernel, by decide +kernel⟩
theorem ok_keeps {f : Addr} {c : Cl} {fd : FuncData} (F : Fun K "_law_keeps" "_law_keeps" sKeeps f fd) (L : FldTxt K c) (zr : mg "repr" = none) : FnG P w K mg base CX0 1 f fd ["_law_one", "_law_move"] (spKeeps c) := by
  refine fnG F scKeeps (fun vs H Q E h => ?_) (fun cdv A up s H vs Q E g hr h => ?_)
  · obtain ⟨x, v, m, rfl, _⟩ := h
    rfl
  · obtain ⟨x, v, m, rfl, ⟨y, dy, rfl, hy⟩, ⟨p, rfl, hp⟩, ok, k⟩ := h
    refine ⟨_, PSs.nox (pss_cons (ps_if (pt_cmpR op_eq (pe_ix ix_tup (pv 1) pe_int (fun _ _ => rfl)) pe_str (nomark _)) (pss_one (ps_ret pe_bl)) pss_nil)
      (pss_cons (ps_if (pt_cmpR op_eq (pe_ix ix_tup (pv 1) pe_int (fun _ _ => rfl)) pe_str (nomark _)) (pss_one (ps_ret (pe_cmpR op_eq (pe_callB call_reprIS (by rfl) zr (by decide +kernel) (pa_cons (pe_fld (pv 0) rfl) pa_nil)) (pe_callB call_reprIS (by rfl) zr (by decide +kernel) (pa_cons (pe_ix ix_tup (pv 1) pe_int (fun _ _ => rfl)) pa_nil)) (nomark _)))) pss_nil)
      (pss_cons (ps_set (i := 2) scKeeps.nd rfl (Or.inl rfl) (pe_ifExp (pt_cmpR op_eq (pe_ix ix_tup (pv 1) pe_int (fun _ _ => rfl)) pe_int (nomark _)) pe_non (pe_ix ix_tup (pv 1) pe_int (fun _ _ => rfl))))
      (pss_one (ps_ret (pe_cmpR op_eq (pe_callB (call_reprD g) (by rfl) zr (by decide +kernel) (pa_cons (pe_tup (pa_cons (pe_fld (pv 0) rfl) (pa_cons (pe_fld (pv 0) rfl) pa_nil))) pa_nil)) (pe_callB (call_reprD g) (by rfl) zr (by decide +kernel) (pa_cons (pe_tup (pa_cons (pe_ix ix_tup (pv 1) pe_int (fun _ _ => rfl)) (pa_cons (pv 2) pa_nil))) pa_nil)) (nomark _))))))), ?_⟩
    have hS : SqT K H p m.tupV := SqT.of hp
    have e1 : decide (V.str "take" = V.str "begin") = false := by decide +kernel
    have e2 : decide (V.str "take" = V.str "shut") = false := by decide +kernel
    have e4 : decide (V.str "right" = V.str "begin") = false := by decide +kernel
    have e5 : decide (V.str "right" = V.str "shut") = false := by decide +kernel
    have e7 : decide (V.str "begin" = V.str "shut") = false := by decide +kernel
    have un := hr.units
    rcases m with a | t | ⟨t, a⟩ | ⟨t, a⟩ | _
    · have la := am_log (am_of ok)
      refine ⟨_, rfl, p, _, 0, _, rfl, rfl, hS, rfl, rfl, _, rfl, ?_⟩
      rw [e7]
      refine iteF ⟨_, rfl, p, _, 0, _, rfl, rfl, hS, rfl, rfl, _, rfl, ?_⟩
      rw [decide_eq_true rfl]
      refine iteT ⟨_, rfl, y, c.B, dy, _, _, rfl, hy, L.bc, L.ba, rfl, .inl ⟨a, rfl, la, _, rfl, p, _, 1, _, rfl, rfl, hS, rfl, .inl ⟨a, rfl, la, rfl, ?_⟩⟩⟩
      rw [decide_eq_true rfl]
      exact k _ (Same.refl H)
    · obtain ⟨d1, d2, d3, d4⟩ := pairN (at_am ok)
      refine ⟨_, rfl, p, _, 0, _, rfl, rfl, hS, rfl, rfl, _, rfl, ?_⟩
      rw [e2]
      refine iteF ⟨_, rfl, p, _, 0, _, rfl, rfl, hS, rfl, rfl, _, rfl, ?_⟩
      rw [e1]
      refine iteF ⟨_, rfl, p, _, 2, _, rfl, rfl, hS, rfl, rfl, _, rfl, ?_⟩
      rw [decide_eq_true rfl]
      refine iteT ?_
      refine ⟨_, rfl, y, c.T, dy, _, _, rfl, hy, L.tc, L.tt, two_at _ _, _, rfl, y, c.T, dy, _, _, rfl, hy, L.tc, L.ta, two_am _ _, (by show 2 ≤ sizeLine; decide), fun q nq => ?_⟩
      have s1 := Same.new (o := .tup [.int t, .non]) nq
      refine ⟨q, _, rfl, .tup (SqT.of upd_same) (.cons (.int _) (.cons .non .nil)), d1, d2, by rw [d3]; exact Nat.lt_of_le_of_lt (Nat.add_le_add_left (by decide : 1 + 1 ≤ 64) _) un, d4, ?_⟩
      refine ⟨_, rfl, p, _, 1, _, rfl, rfl, SqT.of (s1 _ _ hp), rfl, _, rfl, (by show 2 ≤ sizeLine; decide), fun q2 nq2 => ?_⟩
      have s2 := Same.new (o := .tup [.int t, .non]) nq2
      refine ⟨q2, _, rfl, .tup (SqT.of upd_same) (.cons (.int _) (.cons .non .nil)), d1, d2, by rw [d3]; exact Nat.lt_of_le_of_lt (Nat.add_le_add_left (by decide : 1 + 1 ≤ 64) _) un, d4, rfl, ?_⟩
      rw [decide_eq_true rfl]
      exact k _ (s1.trans s2)
    · obtain ⟨d1, d2, d3, d4⟩ := pairI (at_am ok.1) (am_of ok.2)
      have a1 : 1 ≤ a := ok.2.1
      refine ⟨_, rfl, p, _, 0, _, rfl, rfl, hS, rfl, rfl, _, rfl, ?_⟩
      rw [e2]
      refine iteF ⟨_, rfl, p, _, 0, _, rfl, rfl, hS, rfl, rfl, _, rfl, ?_⟩
      rw [e1]
      refine iteF ⟨_, rfl, p, _, 2, _, rfl, rfl, hS, rfl, rfl, _, rfl, ?_⟩
      rw [decide_eq_false (show ¬ V.int a = V.int 0 from fun z => by injection z with z; omega)]
      refine iteF ⟨_, rfl, p, _, 2, _, rfl, rfl, hS, rfl, ?_⟩
      refine ⟨_, rfl, y, c.T, dy, _, _, rfl, hy, L.tc, L.tt, two_at _ _, _, rfl, y, c.T, dy, _, _, rfl, hy, L.tc, L.ta, two_am _ _, (by show 2 ≤ sizeLine; decide), fun q nq => ?_⟩
      have s1 := Same.new (o := .tup [.int t, .int a]) nq
      refine ⟨q, _, rfl, .tup (SqT.of upd_same) (.cons (.int _) (.cons (.int _) .nil)), d1, d2, by rw [d3]; exact Nat.lt_of_le_of_lt (Nat.add_le_add_left (by decide : 1 + 1 ≤ 64) _) un, d4, ?_⟩
      refine ⟨_, rfl, p, _, 1, _, rfl, rfl, SqT.of (s1 _ _ hp), rfl, _, rfl, (by show 2 ≤ sizeLine; decide), fun q2 nq2 => ?_⟩
      have s2 := Same.new (o := .tup [.int t, .int a]) nq2
      refine ⟨q2, _, rfl, .tup (SqT.of upd_same) (.cons (.int _) (.cons (.int _) .nil)), d1, d2, by rw [d3]; exact Nat.lt_of_le_of_lt (Nat.add_le_add_left (by decide : 1 + 1 ≤ 64) _) un, d4, rfl, ?_⟩
      rw [decide_eq_true rfl]
      exact k _ (s1.trans s2)
    · obtain ⟨d1, d2, d3, d4⟩ := pairI (at_am ok.1) (am_of ok.2)
      have a1 : 1 ≤ a := ok.2.1
      refine ⟨_, rfl, p, _, 0, _, rfl, rfl, hS, rfl, rfl, _, rfl, ?_⟩
      rw [e5]
      refine iteF ⟨_, rfl, p, _, 0, _, rfl, rfl, hS, rfl, rfl, _, rfl, ?_⟩
      rw [e4]
      refine iteF ⟨_, rfl, p, _, 2, _, rfl, rfl, hS, rfl, rfl, _, rfl, ?_⟩
      rw [decide_eq_false (show ¬ V.int a = V.int 0 from fun z => by injection z with z; omega)]
      refine iteF ⟨_, rfl, p, _, 2, _, rfl, rfl, hS, rfl, ?_⟩
      refine ⟨_, rfl, y, c.R, dy, _, _, rfl, hy, L.rc, L.rt, two_at _ _, _, rfl, y, c.R, dy, _, _, rfl, hy, L.rc, L.ra, two_am _ _, (by show 2 ≤ sizeLine; decide), fun q nq => ?_⟩
      have s1 := Same.new (o := .tup [.int t, .int a]) nq
      refine ⟨q, _, rfl, .tup (SqT.of upd_same) (.cons (.int _) (.cons (.int _) .nil)), d1, d2, by rw [d3]; exact Nat.lt_of_le_of_lt (Nat.add_le_add_left (by decide : 1 + 1 ≤ 64) _) un, d4, ?_⟩
      refine ⟨_, rfl, p, _, 1, _, rfl, rfl, SqT.of (s1 _ _ hp), rfl, _, rfl, (by show 2 ≤ sizeLine; decide), fun q2 nq2 => ?_⟩
      have s2 := Same.new (o := .tup [.int t, .int a]) nq2
      refine ⟨q2, _, rfl, .tup (SqT.of upd_same) (.cons (.int _) (.cons (.int _) .nil)), d1, d2, by rw [d3]; exact Nat.lt_of_le_of_lt (Nat.add_le_add_left (by decide : 1 + 1 ≤ 64) _) un, d4, rfl, ?_⟩
      rw [decide_eq_true rfl]
      exact k _ (s1.trans s2)
    · refine ⟨_, rfl, p, _, 0, _, rfl, rfl, hS, rfl, rfl, _, rfl, ?_⟩
      rw [decide_eq_true rfl]
      exact iteT (k _ (Same.refl H))
end
end V3

set_option Elab.async false
set_option linter.all false
set_option maxRecDepth 100000
/-! x in (a, b, ..), where none of the items is x: each item's own == is run -/
namespace V3
open PySem PySem.SeqAt
open AutoSeq1 (wpAny_loadPart')
open MeetsSeq MeetsSeq2 MeetsSeq3 SeqRoads2
section
variable {prog : Program} {w : World} {A : Around} {R : Result → Shared → Prop}
theorem tuple_none (l : Addr) (items : Array Value) (n : Nat) (dd : Option Addr) (sl : Array (Option Value)) (x : Value) (I : Nat → Shared → Prop)
    (turn : ∀ i (h : i < items.size) s, I i s →
      wpAny (model prog w) A.in1 (eqBool items[i] x) (fun r s' => r = false ∧ I (i + 1) s') (fun e s' => R (.error e) s') s)
    (fin : ∀ s, I items.size s → R (.ok (.ret (.bool false))) s) {s : Shared}
    (hl : s.heap.get? l = some { cls := .type "tuple", dict := dd, data := .seq items n, slots := sl }) (h : I 0 s) :
    wpAny (model prog w) A.in1 (Builtin.«tuple.__contains__» ⟨[.ref l, x], []⟩) (GQ.FinOf prog w A R) (fun e s' => R (.error e) s') s := by
  have h0 := h
  obtain ⟨hp, g, d, tk, os⟩ := s
  wp_walk using wpAny_loadPart' hl, wpAny_forIn_array _ (fun rest b s' => b.1 = none ∧ ∃ i, rest = items.toList.drop i ∧ i ≤ items.size ∧ I i s') _
  case turn =>
    rintro y rest b s' ⟨hb, i, hz, hi, hI⟩
    have lt : i < items.toList.length := by
      rcases Nat.lt_or_ge i items.toList.length with q | q
      · exact q
      · rw [List.drop_of_length_le q] at hz
        cases hz
    have lt2 : i < items.size := by simpa using lt
    rw [List.drop_eq_getElem_cons lt] at hz
    injection hz with hy hr
    have hy2 : y = items[i] := by simpa using hy
    subst hy2
    refine wpAny_bind (wpAny_mono (turn i lt2 s' hI) (fun r s2 q => ?_) fun _ _ z => z)
    obtain ⟨rfl, q⟩ := q
    wp_walk
    exact ⟨rfl, i + 1, hr, lt2, q⟩
  case fin =>
    rintro ⟨b1, b2⟩ s' ⟨hb, i, hz, hi, hI⟩
    simp only at hb
    subst hb
    have ge : items.size ≤ i := by
      rcases Nat.lt_or_ge i items.toList.length with q | q
      · rw [List.drop_eq_getElem_cons q] at hz
        cases hz
      · simpa using q
    have e : i = items.size := by omega
    have hR := fin s' (e ▸ hI)
    wp_walk
    first | exact hR | exact ⟨_, rfl, hR⟩ | simpa using hR
  case h =>
    exact ⟨rfl, 0, rfl, Nat.zero_le _, h0⟩
end
end V3

set_option Elab.async false
set_option linter.all false
set_option maxRecDepth 100000
namespace V3
open PySem PySem.SeqAt
open AutoSeq1 (wpAny_loadPart')
section
variable {prog : Program} {w : World} {A : Around} {E : Value → Shared → Prop} {s : Shared} {x : Addr} {o : Obj}
theorem str_declines {z : Str} {t : Tok} {Q : Shared → Prop} (ho : s.heap.get? x = some o) (hd : o.data = .plain) (hq : Q s) :
    wpAny (model prog w) A (call (.builtin "str.__eq__") [.str z t, .ref x]) (fun v s' => v = .notImplemented ∧ Q s') E s := by
  refine GQ.call_here F.slot_str_eq (typeIs_str s z t) F.entry_str_eq (F.args_str_eq_2 _ _) ?_
  obtain ⟨c, dd, da, sl⟩ := o
  simp only at hd
  subst hd
  obtain ⟨hp, g, d, tk, os⟩ := s
  unfold Builtin.«str.__eq__» Builtin.Str.strCompare
  wp_walk using wpAny_load ho
  exact ⟨rfl, hq⟩
theorem none_declines {Q : Shared → Prop} (hq : Q s) :
    wpAny (model prog w) A (call (.builtin "NoneType.__eq__") [.none, .ref x]) (fun v s' => v = .notImplemented ∧ Q s') E s := by
  refine GQ.call_here F.slot_NoneType_eq (typeIs_none s) F.entry_NoneType_eq (F.args_NoneType_eq_2 _ _) ?_
  obtain ⟨hp, g, d, tk, os⟩ := s
  unfold Builtin.«NoneType.__eq__»
  wp_walk
  exact ⟨rfl, hq⟩
theorem tup_declines {K : PySem.W.Frag} {C p : Addr} {od : Option Obj} {items : Array Value} {Q : Shared → Prop} (X : K.In s.heap) (I : PySem.W.InstAt s.heap x o C od) (hs : PySem.W.subIn K (.ref C) (.type "tuple") = some false) (hp : s.heap.IsTuple p items) (hq : Q s) :
    wpAny (model prog w) A (call (.builtin "tuple.__eq__") [.ref p, .ref x]) (fun v s' => v = .notImplemented ∧ Q s') E s := by
  obtain ⟨⟨c1, d1, da, sl⟩, ho, hc, n, hd⟩ := id hp
  simp only at hc hd
  subst hc hd
  refine GQ.call_here F.slot_tuple_eq ⟨_, ho, rfl⟩ F.entry_tuple_eq (F.args_tuple_eq_2 _ _) ?_
  obtain ⟨hh, g, d, tk, os⟩ := s
  wp_walk
  refine wpAny_loadPart I.at_ (wpAny_pure ?_)
  rw [I.cls]
  refine (PySem.W.looks_subIn X hs).here ?_
  wp_walk
  exact ⟨rfl, hq⟩
end
/-! a == b by the own __eq__ of b, where that of a declines -/
section
variable {prog : Program} {w : World} {A : Around} {E : Value → Shared → Prop} {s : Shared} {K : PySem.W.Frag} {x C L f : Addr} {h₀ : Heap} {m : Str → Option Value} {ox : Obj} {od : Option Obj} {a : Value} {T id : String}
theorem turned_K {Q : Value → Shared → Prop} (hu : A.units < cLine) (F : PyProof.Rows.Fr h₀ L s.heap m) (X₀ : K.In h₀) (I : PySem.W.InstAt s.heap x ox C od) (hT : s.TypeIs a T) (sl : Slot T "__eq__" id)
    (one : oneThing? .Eq a (.ref x) = none) (hs : PySem.W.subIn K (.ref C) (.type T) = some false)
    (no : ∀ {Q : Shared → Prop}, Q s → wpAny (model prog w) A (call (.builtin id) [a, .ref x]) (fun v s' => v = .notImplemented ∧ Q s') E s)
    (he : PySem.W.findIn K (.ref C) "__eq__" = some (some (.ref f))) (hf : PySem.W.isFn K (.ref f) = true)
    (h : wpAny (model prog w) A (call (.ref f) [.ref x, a]) (fun v s' => ∃ r, v = .bool r ∧ Q (.bool r) s') E s) : wpAny (model prog w) A (richCompare .Eq a (.ref x)) Q E s := by
  have X := X₀.keeps F.keep
  unfold richCompare
  simp only [one]
  refine wpAny_holding (wpAny_bind (wpAny_cRoomFor hu ?_))
  refine wpAny_bind (wpAny_typeOf hT (wpAny_bind (I.type.here ?_)))
  split
  · refine wpAny_bind ((PySem.W.looks_subIn X hs).here ?_)
    simp only [Bool.false_eq_true, if_false]
    refine wpAny_bind (wpAny_tryCompare_declines hT sl (no ?_))
    simp only [Bool.not_false, if_true]
    have two : wpAny (model prog w) A (tryCompare (.ref x) "__eq__" a) (fun r s' => ∃ v, r = some v ∧ Q v s') E s := by
      unfold tryCompare
      refine wpAny_bind (PySem.W.ifBound_K X I he hf (wpAny_mono h (fun v s' hv => ?_) fun _ _ e => e))
      obtain ⟨r, rfl, q⟩ := hv
      exact wpAny_pure ⟨_, rfl, q⟩
    refine wpAny_bind (wpAny_mono two (fun r s' z => ?_) fun _ _ e => e)
    obtain ⟨v, rfl, hq⟩ := z
    exact wpAny_pure hq
  · rename_i q
    exact absurd (by simp) q
end
end V3

set_option Elab.async false
set_option linter.all false
set_option maxRecDepth 100000
namespace V3
open PySem PySem.Spec PyProof.Rows L2
/-- what of a class is wanted where its objects stand behind texts, None and tuples -/
structure Behind (K : PySem.W.Frag) (C : Addr) : Prop where
  s : PySem.W.subIn K (.ref C) (.type "str") = some false
  n : PySem.W.subIn K (.ref C) (.type "NoneType") = some false
  t : PySem.W.subIn K (.ref C) (.type "tuple") = some false
inductive Plain (H : Hp) : V → Prop where
  | str (z : Str) : Plain H (.str z)
  | non : Plain H .non
  | tup {b : Addr} {ys : List V} (h : H b = some (.tup ys)) : Plain H (.ref b)
section
variable {prog : Program} {w : World} {A : Around} {E : Value → Shared → Prop} {s : Shared}
theorem eqB_str {z : Str} {t : Tok} {a : Addr} {Q : Bool → Shared → Prop} (h : wpAny (model prog w) A (richCompare .Eq (.str z t) (.ref a)) (fun v s' => ∃ r, v = .bool r ∧ Q r s') E s) :
    wpAny (model prog w) A (eqBool (.str z t) (.ref a)) Q E s := by
  unfold eqBool
  refine wpAny_holding (wpAny_ite_split (fun q => absurd (eq_of_beq q) (fun e => nomatch e)) fun _ => ?_)
  refine wpAny_bind (wpAny_mono h (fun v s' hv => ?_) fun _ _ x => x)
  obtain ⟨r, rfl, q⟩ := hv
  exact wpAny_truthy_bool q
theorem eqB_non {a : Addr} {Q : Bool → Shared → Prop} (h : wpAny (model prog w) A (richCompare .Eq .none (.ref a)) (fun v s' => ∃ r, v = .bool r ∧ Q r s') E s) :
    wpAny (model prog w) A (eqBool .none (.ref a)) Q E s := by
  unfold eqBool
  refine wpAny_holding (wpAny_ite_split (fun q => absurd (eq_of_beq q) (fun e => nomatch e)) fun _ => ?_)
  refine wpAny_bind (wpAny_mono h (fun v s' hv => ?_) fun _ _ x => x)
  obtain ⟨r, rfl, q⟩ := hv
  exact wpAny_truthy_bool q
end
section
variable {X : Cx} {n : Nat}
/-- x in (..), x of an own class, no item equal to it -/
def rInO (K : PySem.W.Frag) (FF : Addr → Sp → XK → Prop) : R2 := fun x y H Q => ∃ (a p C dx : Addr) (fs : List (Str × V)) (xs : List V) (sp : Sp) (E : XK), x = .ref a ∧ y = .ref p ∧ H a = some (.ins C dx fs) ∧ H p = some (.tup xs) ∧
  (∀ z ∈ xs, Plain H z) ∧ Behind K C ∧ FF C sp E ∧ (∀ z ∈ xs, sp [.ref a, z] H (fun v H' => v = .bl false ∧ H' = H) E) ∧ Q (.bl false) H
theorem op_inO {FF : Addr → Sp → XK → Prop} (hF : ∀ C sp E, FF C sp E → ∃ (CX : CXT) (f : Addr) (fd : FuncData) (ps : List Str), FnOk X.prog X.w X.K X.mg X.base CX n f fd ps sp ∧ EqCls X.K C f ∧ Binds X.K fd ps [] ∧ Passes CX X E) (hr : Room (n + 1) X.A) :
    OpR X (compareOp .In) (rInO X.K FF) := by
  intro pins s σ H x y v u Q I rx ry hq
  obtain ⟨a, p, C, dx, fs, xs, sp, E, rfl, rfl, ha, hp, pl, bh, ff, hsp, q⟩ := hq
  obtain ⟨CX, f, fd, ps, F, ec, bi, hx⟩ := hF C sp E ff
  cases rx
  cases ry
  obtain ⟨its, rv, ht, hz⟩ := I.tuple (SqT.of hp)
  obtain ⟨⟨c0, dd, da, sl⟩, ho, hc, m, hd⟩ := id ht
  simp only at hc hd
  subst hc hd
  show wpAny (model X.prog X.w) X.A (do return .bool (← contains (.ref p) (.ref a))) (EP X pins σ Q) X.xe s
  refine wpAny_bind (wpAny_contains_slot ⟨_, ho, rfl⟩ PySem.F.slot_tuple_contains (wpAny_mono (GQ.call_here (Q := fun v s' => v = .bool false ∧ Inv X pins σ H s') PySem.F.slot_tuple_contains ⟨_, ho, rfl⟩ PySem.F.entry_tuple_contains (PySem.F.args_tuple_contains_2 _ _)
    (tuple_none p its.toArray m dd sl (.ref a) (fun _ s' => Inv X pins σ H s') ?_ (fun s' J => ⟨rfl, J⟩) ho I)) (fun v s' hv => ?_) fun _ _ e => e))
  · intro i hi s' J
    have hi2 : i < its.length := by simpa using hi
    have hi3 : i < xs.length := by rw [rv.length]; exact hi2
    obtain ⟨u, hu, ru⟩ := rv.get (List.getElem?_eq_getElem hi3)
    have eu : its.toArray[i] = u := by
      rw [List.getElem?_eq_getElem hi2] at hu
      simpa using Option.some.inj hu
    rw [eu]
    have mem : xs[i] ∈ xs := List.getElem_mem hi3
    have pz := pl _ mem
    have own := hsp _ mem
    generalize xs[i] = z at ru pz own
    obtain ⟨mA, O, _⟩ := ins_get J.hok ha
    obtain ⟨od, IA, _⟩ := O.look
    obtain ⟨mm, hFr⟩ := J.fr
    have run : wpAny (model X.prog X.w) X.A.in1 (call (.ref f) [.ref a, u]) (fun v s2 => ∃ r, v = .bool r ∧ r = false ∧ Inv X pins σ H s2) X.xe s' :=
      wpAny_mono (run_own (x := .ref a) (y := z) ⟨hr.in1, rfl⟩ F bi hx J rfl ru own) (fun w s2 k => by
        obtain ⟨z2, H', J2, rz, ez, eH⟩ := k
        subst ez
        subst eH
        cases rz
        exact ⟨false, rfl, rfl, J2⟩) fun _ _ e => e
    have hu1 : X.A.in1.units < cLine := hr.in1.units0
    cases pz with
    | str zz =>
      obtain ⟨t, rfl⟩ := ru
      refine eqB_str (turned_K (T := "str") hu1 hFr J.ok.mod.kin IA (typeIs_str _ _ _) PySem.F.slot_str_eq rfl bh.s (fun k => str_declines IA.at_ rfl k) ec.eq ec.fn (wpAny_mono run (fun v s2 k => ?_) fun _ _ e => e))
      obtain ⟨r, rfl, e, J2⟩ := k
      exact ⟨r, rfl, r, rfl, e, J2⟩
    | non =>
      cases ru
      refine eqB_non (turned_K (T := "NoneType") hu1 hFr J.ok.mod.kin IA (typeIs_none _) PySem.F.slot_NoneType_eq rfl bh.n (fun k => none_declines k) ec.eq ec.fn (wpAny_mono run (fun v s2 k => ?_) fun _ _ e => e))
      obtain ⟨r, rfl, e, J2⟩ := k
      exact ⟨r, rfl, r, rfl, e, J2⟩
    | @tup b ys hb =>
      cases ru
      obtain ⟨its2, r2, ht2, hz2⟩ := J.tuple (SqT.of hb)
      have ne : b ≠ a := by
        intro e
        subst e
        rw [ha] at hb
        cases hb
      obtain ⟨o2, ho2, hc2, _⟩ := id ht2
      refine GQ.eqBool_refG ne (turned_K (T := "tuple") hu1 hFr J.ok.mod.kin IA ⟨o2, ho2, hc2⟩ PySem.F.slot_tuple_eq (by first | rfl | simp [oneThing_ref]) bh.t (fun k => tup_declines J.kIn IA bh.t ht2 k) ec.eq ec.fn (wpAny_mono run (fun v s2 k => ?_) fun _ _ e => e))
      obtain ⟨r, rfl, e, J2⟩ := k
      exact ⟨r, rfl, r, rfl, e, J2⟩
  · obtain ⟨rfl, J⟩ := hv
    exact wpAny_truthy_bool (wpAny_pure ⟨.bl false, H, J, rfl, q⟩)
end
end V3

set_option Elab.async false
set_option linter.all false
set_option maxRecDepth 100000
namespace V3
open PySem L2 TL
def FFm (c : Cl) : Addr → Sp → XK → Prop := fun C sp _ => ∃ k, k < 4 ∧ C = c.at k ∧ sp = spMEq c
structure EqTxt (P : Program) (w : World) (K : PySem.W.Frag) (mg : Str → Option Value) (base : Heap) (c : Cl) : Prop where
  e : ∀ k, k < 4 → ∃ (f : Addr) (fd : FuncData), FnOk P w K mg base CX0 4 f fd ["self", "other"] (spMEq c) ∧ EqCls K (c.at k) f ∧ Binds K fd ["self", "other"] []
theorem own_M {X : Cx} {c : Cl} (T : EqTxt X.prog X.w X.K X.mg X.base c) : ∀ C sp E, FFm c C sp E → ∃ (CX : CXT) (f : Addr) (fd : FuncData) (ps : List Str), FnOk X.prog X.w X.K X.mg X.base CX 4 f fd ps sp ∧ EqCls X.K C f ∧ Binds X.K fd ps [] ∧ Passes CX X E := fun C sp E h => by
  obtain ⟨k, hk, rfl, rfl⟩ := h
  obtain ⟨f, fd, F, ec, bi⟩ := T.e k hk
  exact ⟨CX0, f, fd, _, F, ec, bi, fun _ _ _ _ _ _ _ h => h.elim⟩
theorem op_eqM {X : Cx} {c : Cl} (T : EqTxt X.prog X.w X.K X.mg X.base c) (hr : Room 4 X.A) : OpR X (compareOp .Eq) (rEqO X.K 4 (FFm c) false) := op_eqO (own_M T) hr
theorem op_neM {X : Cx} {c : Cl} (T : EqTxt X.prog X.w X.K X.mg X.base c) (hr : Room 5 X.A) : OpR X (compareOp .NotEq) (rEqO X.K 4 (FFm c) true) := op_neO (own_M T) hr
end V3

set_option Elab.async false
set_option linter.all false
set_option maxRecDepth 100000
namespace V3
open PySem L2 TL
section
variable {K : PySem.W.Frag} {c : Cl} {MV : Addr} {σ : L2.St} {H : Hp} {v5 v6 v7 v8 : V} {m n : Mv}
theorem same_bl (b : Bool) : (!decide (V.bl (b != false) = V.bl b)) = false := by cases b <;> rfl
theorem other_bl (b : Bool) : decide (V.bl (b != true) = V.bl b) = false := by cases b <;> rfl
/-- both comparisons of a pair tell the same -/
theorem pair_told (C : MvCls K c MV) (h5 : σ[5]? = some (some v5)) (h6 : σ[6]? = some (some v6)) (h7 : σ[7]? = some (some v7)) (h8 : σ[8]? = some (some v8)) (t5 : TupAt H v5 m) (a6 : MvAt c H v6 m) (t7 : TupAt H v7 n) (a8 : MvAt c H v8 n) (mo : m.ok) (no : n.ok)
    {R : Bool → Hp → Prop} (k : R false H) :
    tOr (tTest (tOp rNe (tOp (rEqO K 4 (FFm c) false) (tVar 6) (tVar 8)) (tOp (rEqD K) (tVar 5) (tVar 7)))) (tTest (tOp rEq (tOp (rEqO K 4 (FFm c) true) (tVar 6) (tVar 8)) (tOp (rEqD K) (tVar 5) (tVar 7)))) σ H R := by
  obtain ⟨x, dx, rfl, hx⟩ := id a6
  obtain ⟨y, dy, rfl, hy⟩ := id a8
  obtain ⟨p, rfl, hp⟩ := id t5
  obtain ⟨q, rfl, hq⟩ := id t7
  obtain ⟨fs, eo⟩ := mv_at c m dx
  obtain ⟨gs, eo2⟩ := mv_at c n dy
  have z : PyData.eqv (.tuple m.tupD) (.tuple n.tupD) = decide (m.text = n.text) := by rw [tup_eqv mo no, text_dec mo no]
  refine ⟨_, h6, _, h8, x, c.at m.kind, dx, fs, y, c.at n.kind, dy, gs, spMEq c, E0, rfl, rfl, by rw [hx, eo], by rw [hy, eo2], ⟨m.kind, kind_lt m, rfl, rfl⟩, C.nf _ (kind_lt m) _ (kind_lt n), _, _, m, n, rfl, a6, a8, mo, no, _, rfl, ?_⟩
  refine ⟨_, h5, _, h7, _, _, .tup (SqT.of hp) (tup_dp m), .tup (SqT.of hq) (tup_dp n), tup_shaped m, tup_shaped n, rfl, _, rfl, ?_⟩
  rw [z, same_bl]
  refine iteF ?_
  refine ⟨_, h6, _, h8, x, c.at m.kind, dx, fs, y, c.at n.kind, dy, gs, spMEq c, E0, rfl, rfl, by rw [hx, eo], by rw [hy, eo2], ⟨m.kind, kind_lt m, rfl, rfl⟩, C.nf _ (kind_lt m) _ (kind_lt n), _, _, m, n, rfl, a6, a8, mo, no, _, rfl, ?_⟩
  refine ⟨_, h5, _, h7, _, _, .tup (SqT.of hp) (tup_dp m), .tup (SqT.of hq) (tup_dp n), tup_shaped m, tup_shaped n, rfl, _, rfl, ?_⟩
  rw [z, other_bl]
  exact k
end
end V3

set_option Elab.async false
set_option linter.all false
set_option maxRecDepth 100000
namespace V3
open PySem L2 TL
/-- == with what is no move -/
def spMNe : Sp := fun vs H Q _ => ∃ (u z : V), vs = [u, z] ∧ Plain H z ∧ Q (.bl false) H
structure MvNot (K : PySem.W.Frag) (MV : Addr) : Prop where
  s : PySem.W.kitOne K (.type "str") (.ref MV) = some false
  n : PySem.W.kitOne K (.type "NoneType") (.ref MV) = some false
  t : PySem.W.kitOne K (.type "tuple") (.ref MV) = some false
section
variable {P : Program} {w : World} {K : PySem.W.Frag} {mg : Str → Option Value} {base : Heap}
theorem plain_ty {MV : Addr} {H : Hp} {z : V} (N : MvNot K MV) (h : Plain H z) : ∃ t, TyX K H z t ∧ PySem.W.kitOne K t (.ref MV) = some false := by
  cases h with
  | str z => exact ⟨_, .base (.str z), N.s⟩
  | non => exact ⟨_, .base .non, N.n⟩
  | tup h => exact ⟨_, .base (.tup h), N.t⟩
theorem ok_bn {f MV : Addr} {c : Cl} {fd : FuncData} (F : Fun K "__eq__" "Begin.__eq__" sBEq f fd) (T : BltE mg) (S : StrTxt P w K mg base c) (N : MvNot K MV) (gM : mg "Move" = some (.ref MV)) : FnOk P w K mg base CX0 4 f fd ["self", "other"] spMNe := by
  refine F.ok scBEq (fun vs H Q E h => ?_) (fun cdv A outer s H vs Q E hr h => ?_)
  · obtain ⟨u, z, rfl, _⟩ := h
    rfl
  · obtain ⟨u, z, rfl, pz, q⟩ := h
    obtain ⟨t, ty, ki⟩ := plain_ty (K := K) N pz
    exact ⟨_, pss_one (ps_ret (pe_and (pe_callB call_isi (by rfl) T.isi (by decide +kernel) (pa_cons (pv 1) (pa_cons (pe_glob (v := .ref MV) rfl gM rfl) pa_nil))) (pe_one (pe_cmpR op_eq (pe_callTy (call_strM S hr) (by rfl) T.str (by decide +kernel) (pa_cons (pv 0) pa_nil)) (pe_callTy (call_strM S hr) (by rfl) T.str (by decide +kernel) (pa_cons (pv 1) pa_nil)) (nomark _))))),
      _, rfl, _, _, _, _, _, rfl, .own MV, ty, ki, _, rfl, iteF q⟩
theorem ok_tn {f MV : Addr} {c : Cl} {fd : FuncData} (F : Fun K "__eq__" "Take.__eq__" sTEq f fd) (T : BltE mg) (S : StrTxt P w K mg base c) (N : MvNot K MV) (gM : mg "Move" = some (.ref MV)) : FnOk P w K mg base CX0 4 f fd ["self", "other"] spMNe := by
  refine F.ok scTEq (fun vs H Q E h => ?_) (fun cdv A outer s H vs Q E hr h => ?_)
  · obtain ⟨u, z, rfl, _⟩ := h
    rfl
  · obtain ⟨u, z, rfl, pz, q⟩ := h
    obtain ⟨t, ty, ki⟩ := plain_ty (K := K) N pz
    exact ⟨_, pss_one (ps_ret (pe_and (pe_callB call_isi (by rfl) T.isi (by decide +kernel) (pa_cons (pv 1) (pa_cons (pe_glob (v := .ref MV) rfl gM rfl) pa_nil))) (pe_one (pe_cmpR op_eq (pe_callTy (call_strM S hr) (by rfl) T.str (by decide +kernel) (pa_cons (pv 0) pa_nil)) (pe_callTy (call_strM S hr) (by rfl) T.str (by decide +kernel) (pa_cons (pv 1) pa_nil)) (nomark _))))),
      _, rfl, _, _, _, _, _, rfl, .own MV, ty, ki, _, rfl, iteF q⟩
theorem ok_rn {f MV : Addr} {c : Cl} {fd : FuncData} (F : Fun K "__eq__" "Right.__eq__" sREq f fd) (T : BltE mg) (S : StrTxt P w K mg base c) (N : MvNot K MV) (gM : mg "Move" = some (.ref MV)) : FnOk P w K mg base CX0 4 f fd ["self", "other"] spMNe := by
  refine F.ok scREq (fun vs H Q E h => ?_) (fun cdv A outer s H vs Q E hr h => ?_)
  · obtain ⟨u, z, rfl, _⟩ := h
    rfl
  · obtain ⟨u, z, rfl, pz, q⟩ := h
    obtain ⟨t, ty, ki⟩ := plain_ty (K := K) N pz
    exact ⟨_, pss_one (ps_ret (pe_and (pe_callB call_isi (by rfl) T.isi (by decide +kernel) (pa_cons (pv 1) (pa_cons (pe_glob (v := .ref MV) rfl gM rfl) pa_nil))) (pe_one (pe_cmpR op_eq (pe_callTy (call_strM S hr) (by rfl) T.str (by decide +kernel) (pa_cons (pv 0) pa_nil)) (pe_callTy (call_strM S hr) (by rfl) T.str (by decide +kernel) (pa_cons (pv 1) pa_nil)) (nomark _))))),
      _, rfl, _, _, _, _, _, rfl, .own MV, ty, ki, _, rfl, iteF q⟩
theorem ok_sn {f MV : Addr} {c : Cl} {fd : FuncData} (F : Fun K "__eq__" "Shut.__eq__" sSEq f fd) (T : BltE mg) (S : StrTxt P w K mg base c) (N : MvNot K MV) (gM : mg "Move" = some (.ref MV)) : FnOk P w K mg base CX0 4 f fd ["self", "other"] spMNe := by
  refine F.ok scSEq (fun vs H Q E h => ?_) (fun cdv A outer s H vs Q E hr h => ?_)
  · obtain ⟨u, z, rfl, _⟩ := h
    rfl
  · obtain ⟨u, z, rfl, pz, q⟩ := h
    obtain ⟨t, ty, ki⟩ := plain_ty (K := K) N pz
    exact ⟨_, pss_one (ps_ret (pe_and (pe_callB call_isi (by rfl) T.isi (by decide +kernel) (pa_cons (pv 1) (pa_cons (pe_glob (v := .ref MV) rfl gM rfl) pa_nil))) (pe_one (pe_cmpR op_eq (pe_callTy (call_strM S hr) (by rfl) T.str (by decide +kernel) (pa_cons (pv 0) pa_nil)) (pe_callTy (call_strM S hr) (by rfl) T.str (by decide +kernel) (pa_cons (pv 1) pa_nil)) (nomark _))))),
      _, rfl, _, _, _, _, _, rfl, .own MV, ty, ki, _, rfl, iteF q⟩
end
def FFn (c : Cl) : Addr → Sp → XK → Prop := fun C sp _ => ∃ k, k < 4 ∧ C = c.at k ∧ sp = spMNe
structure NeTxt (P : Program) (w : World) (K : PySem.W.Frag) (mg : Str → Option Value) (base : Heap) (c : Cl) : Prop where
  e : ∀ k, k < 4 → ∃ (f : Addr) (fd : FuncData), FnOk P w K mg base CX0 4 f fd ["self", "other"] spMNe ∧ EqCls K (c.at k) f ∧ Binds K fd ["self", "other"] []
theorem op_inN {X : Cx} {c : Cl} (T : NeTxt X.prog X.w X.K X.mg X.base c) (hr : Room 5 X.A) : OpR X (compareOp .In) (rInO X.K (FFn c)) := op_inO (fun C sp E h => by
  obtain ⟨k, hk, rfl, rfl⟩ := h
  obtain ⟨f, fd, F, ec, bi⟩ := T.e k hk
  exact ⟨CX0, f, fd, _, F, ec, bi, fun _ _ _ _ _ _ _ h => h.elim⟩) hr
section
variable {K : PySem.W.Frag} {c : Cl} {σ : L2.St} {H : Hp} {v5 v6 : V} {m : Mv}
theorem in_told (B : ∀ k, k < 4 → Behind K (c.at k)) (h5 : σ[5]? = some (some v5)) (h6 : σ[6]? = some (some v6)) (t5 : TupAt H v5 m) (a6 : MvAt c H v6 m) (mo : m.ok) {R : Bool → Hp → Prop} (k : ∀ H', Same H H' → R false H') :
    tTest (tOp (rInO K (FFn c)) (tVar 6) (tTup (tCons (tCB (rStrM c) (tCons (tVar 6) tNil)) (tCons (tC .non) (tCons (tVar 5) tNil))))) σ H R := by
  obtain ⟨x, dx, rfl, hx⟩ := id a6
  obtain ⟨p, rfl, hp⟩ := id t5
  obtain ⟨fs, eo⟩ := mv_at c m dx
  refine ⟨_, h6, _, h6, _, m, rfl, a6, mo, _, h5, (by show 3 ≤ sizeLine; decide), fun q nq => ?_⟩
  have s1 := Same.new (o := .tup [.str m.text, .non, .ref p]) nq
  have pl : ∀ z ∈ [V.str m.text, .non, .ref p], Plain (upd H q (.tup [.str m.text, .non, .ref p])) z := by
    intro z hz
    simp only [List.mem_cons, List.not_mem_nil, or_false] at hz
    rcases hz with rfl | rfl | rfl
    · exact .str _
    · exact .non
    · exact .tup (s1 _ _ hp)
  refine ⟨x, q, c.at m.kind, dx, fs, _, spMNe, E0, rfl, rfl, by rw [s1 _ _ hx, eo], upd_same, pl, B _ (kind_lt m), ⟨m.kind, kind_lt m, rfl, rfl⟩, fun z hz => ⟨_, z, rfl, pl z hz, rfl, rfl⟩, _, rfl, k _ s1⟩
end
end V3

set_option Elab.async false
set_option linter.all false
set_option maxRecDepth 100000
namespace V3
open PySem L2 TL
abbrev fourV : List V := [.str "begin", .str "take", .str "right", .str "shut"]
theorem kind_word (m : Mv) : ∀ (i : Nat) (z : V), fourV[i]? = some z → (kindsV m)[i]? = some (.bl (decide (V.str m.nm = z)))
  | 0, z, h => by
    have e : z = .str "begin" := (Option.some.inj h).symm
    subst e
    cases m <;> exact congrArg (fun b => some (V.bl b)) (by (try simp only [Mv.kind, Mv.nm]) <;> first | done | rfl | decide +kernel +revert)
  | 1, z, h => by
    have e : z = .str "take" := (Option.some.inj h).symm
    subst e
    cases m <;> exact congrArg (fun b => some (V.bl b)) (by (try simp only [Mv.kind, Mv.nm]) <;> first | done | rfl | decide +kernel +revert)
  | 2, z, h => by
    have e : z = .str "right" := (Option.some.inj h).symm
    subst e
    cases m <;> exact congrArg (fun b => some (V.bl b)) (by (try simp only [Mv.kind, Mv.nm]) <;> first | done | rfl | decide +kernel +revert)
  | 3, z, h => by
    have e : z = .str "shut" := (Option.some.inj h).symm
    subst e
    cases m <;> exact congrArg (fun b => some (V.bl b)) (by (try simp only [Mv.kind, Mv.nm]) <;> first | done | rfl | decide +kernel +revert)
  | i + 4, z, h => by
    have e : fourV[i + 4]? = none := List.getElem?_eq_none (by show 4 ≤ i + 4; omega)
    rw [e] at h
    cases h
theorem kinds_eqv (m : Mv) : PyData.eqv (.list [.bool (decide (m.kind = 0)), .bool (decide (m.kind = 1)), .bool (decide (m.kind = 2)), .bool (decide (m.kind = 3)), .bool true]) (.list [.bool (decide (m.kind = 0)), .bool (decide (m.kind = 1)), .bool (decide (m.kind = 2)), .bool (decide (m.kind = 3)), .bool true]) = true := by
  simp [PyData.eqv, PyData.eqvAll]
theorem kinds_shaped (a b c d e : Bool) : SeqAt.shaped (.list [.bool a, .bool b, .bool c, .bool d, .bool e]) = true := by
  simp [SeqAt.shaped, PyData.canLay0, PyData.canLayAll0, PyData.depth, PyData.depthAll]
end V3

set_option Elab.async false
set_option linter.all false
set_option maxRecDepth 100000
namespace V3
open PySem L2 TL
abbrev sLaw : Stmt := top 22
/-- all but lists is as it was -/
def Keep (H H' : Hp) : Prop := ∀ c o, (∀ xs, o ≠ .lst xs) → H c = some o → H' c = some o
theorem Keep.of {H H' : Hp} (s : Same H H') : Keep H H' := fun c o _ h => s c o h
theorem Keep.lst {H : Hp} {D : Addr} {xs : List V} {o : HO} (hD : H D = some (.lst xs)) : Keep H (upd H D o) := fun c u n h => by
  have nc : c ≠ D := fun e => by
    subst e
    rw [hD] at h
    injection h with h
    exact n _ h.symm
  rw [upd_ne nc]
  exact h
theorem Keep.pre {H H' : Hp} {b : Addr} {xs : List V} (hb : H b = some (.lst xs)) (s : SameX b H H') : Keep H H' := fun c u n h => by
  have nc : c ≠ b := fun e => by
    subst e
    rw [hb] at h
    injection h with h
    exact n _ h.symm
  exact s c u nc h
theorem TupAt.keep {H H' : Hp} {v : V} {m : Mv} (h : TupAt H v m) (s : Keep H H') : TupAt H' v m := by
  obtain ⟨p, e, hp⟩ := h
  exact ⟨p, e, s _ _ (fun _ z => by cases z) hp⟩
theorem MvAt.keep {c : Cl} {H H' : Hp} {v : V} {m : Mv} (h : MvAt c H v m) (s : Keep H H') : MvAt c H' v m := by
  obtain ⟨x, dx, e, hx⟩ := h
  exact ⟨x, dx, e, s _ _ (fun _ z => by cases m <;> cases z) hx⟩
/-- drawn tuples of moves -/
def Dr (H : Hp) (vs : List V) (ms : List Mv) : Prop := vs.length = ms.length ∧ ∀ (i : Nat) (m : Mv), ms[i]? = some m → ∃ v, vs[i]? = some v ∧ TupAt H v m ∧ m.ok
/-- the moves made of them -/
def Md (c : Cl) (H : Hp) (xs : List V) (ms : List Mv) : Prop := xs.length = ms.length ∧ ∀ (i : Nat) (m : Mv), ms[i]? = some m → ∃ x, xs[i]? = some x ∧ MvAt c H x m
theorem Dr.keep {H H' : Hp} {vs : List V} {ms : List Mv} (d : Dr H vs ms) (s : Keep H H') : Dr H' vs ms := ⟨d.1, fun i m h => by
  obtain ⟨v, e, t, o⟩ := d.2 i m h
  exact ⟨v, e, t.keep s, o⟩⟩
theorem Md.keep {c : Cl} {H H' : Hp} {vs : List V} {ms : List Mv} (d : Md c H vs ms) (s : Keep H H') : Md c H' vs ms := ⟨d.1, fun i m h => by
  obtain ⟨v, e, t⟩ := d.2 i m h
  exact ⟨v, e, t.keep s⟩⟩
theorem at_end {α : Type} {xs : List α} {x y : α} {i : Nat} (h : (xs ++ [x])[i]? = some y) : (i < xs.length ∧ xs[i]? = some y) ∨ (i = xs.length ∧ y = x) := by
  by_cases c : i < xs.length
  · exact .inl ⟨c, by rw [List.getElem?_append_left c] at h; exact h⟩
  · rw [List.getElem?_append_right (by omega)] at h
    obtain ⟨l, e⟩ := List.getElem?_eq_some_iff.mp h
    have z : i - xs.length = 0 := by simpa using l
    exact .inr ⟨by omega, by simp [z] at e; exact e.symm⟩
theorem at_old {α : Type} {xs : List α} {x y : α} {i : Nat} (h : xs[i]? = some y) : (xs ++ [x])[i]? = some y := by
  have l := (List.getElem?_eq_some_iff.mp h).1
  rw [List.getElem?_append_left l]
  exact h
theorem at_new {α : Type} {xs : List α} {x : α} {n : Nat} (h : xs.length = n) : (xs ++ [x])[n]? = some x := by
  subst h
  simp
theorem Dr.push {H : Hp} {vs : List V} {ms : List Mv} {v : V} {m : Mv} (d : Dr H vs ms) (t : TupAt H v m) (ok : m.ok) : Dr H (vs ++ [v]) (ms ++ [m]) := by
  refine ⟨by simp [d.1], fun i n hn => ?_⟩
  rcases at_end hn with ⟨_, q⟩ | ⟨rfl, rfl⟩
  · obtain ⟨w, e, t', o'⟩ := d.2 i n q
    exact ⟨w, at_old e, t', o'⟩
  · exact ⟨v, at_new d.1, t, ok⟩
theorem Md.push {c : Cl} {H : Hp} {vs : List V} {ms : List Mv} {v : V} {m : Mv} (d : Md c H vs ms) (t : MvAt c H v m) : Md c H (vs ++ [v]) (ms ++ [m]) := by
  refine ⟨by simp [d.1], fun i n hn => ?_⟩
  rcases at_end hn with ⟨_, q⟩ | ⟨rfl, rfl⟩
  · obtain ⟨w, e, t'⟩ := d.2 i n q
    exact ⟨w, at_old e, t'⟩
  · exact ⟨v, at_new d.1, t⟩
theorem Dr.get {H : Hp} {vs : List V} {ms : List Mv} {v : V} {i : Nat} (d : Dr H vs ms) (h : vs[i]? = some v) : ∃ m, ms[i]? = some m ∧ TupAt H v m ∧ m.ok := by
  have l := (List.getElem?_eq_some_iff.mp h).1
  have e := List.getElem?_eq_getElem (l := ms) (i := i) (by rw [← d.1]; exact l)
  obtain ⟨w, q, t, o⟩ := d.2 i _ e
  rw [h] at q
  injection q with q
  subst q
  exact ⟨_, e, t, o⟩
theorem Md.get {c : Cl} {H : Hp} {vs : List V} {ms : List Mv} {v : V} {i : Nat} {m : Mv} (d : Md c H vs ms) (h : vs[i]? = some v) (hm : ms[i]? = some m) : MvAt c H v m := by
  obtain ⟨w, q, t⟩ := d.2 i _ hm
  rw [h] at q
  injection q with q
  subst q
  exact t
theorem take_next {α : Type} {ms : List α} {m : α} {i : Nat} (h : ms[i]? = some m) : ms.take (i + 1) = ms.take i ++ [m] := by
  rw [List.take_add_one, h]
  rfl
theorem Same.upn {H H1 : Hp} {b : Addr} {o : HO} (s : Same H H1) (nb : H b = none) : Same H (upd H1 b o) := fun c u e => by
  rw [upd_ne (ne_of_none e nb)]
  exact s c u e
theorem eqM_at {K : PySem.W.Frag} {c : Cl} {MV : Addr} {H : Hp} {u v : V} {m n : Mv} {neg : Bool} {R : VK} (C : MvCls K c MV) (a6 : MvAt c H u m) (a8 : MvAt c H v n) (mo : m.ok) (no : n.ok) (k : R (.bl (decide (m.text = n.text) != neg)) H) : rEqO K 4 (FFm c) neg u v H R := by
  obtain ⟨x, dx, rfl, hx⟩ := id a6
  obtain ⟨y, dy, rfl, hy⟩ := id a8
  obtain ⟨fs, eo⟩ := mv_at c m dx
  obtain ⟨gs, eo2⟩ := mv_at c n dy
  exact ⟨x, c.at m.kind, dx, fs, y, c.at n.kind, dy, gs, spMEq c, E0, rfl, rfl, by rw [hx, eo], by rw [hy, eo2], ⟨m.kind, kind_lt m, rfl, rfl⟩, C.nf _ (kind_lt m) _ (kind_lt n), _, _, m, n, rfl, a6, a8, mo, no, _, rfl, k⟩
theorem Pre.all {b : Addr} {H H' : Hp} (p : Pre b H H') (n : H b = none) : Same H H' := fun c o h => p.1 c o (ne_of_none h n) h
structure BltW (mg : Str → Option Value) : Prop where
  len : mg "len" = none
  range : mg "range" = none
  max : mg "max" = none
  min : mg "min" = none
  str : mg "str" = none
  zip : mg "zip" = none
def spLaw (K : PySem.W.Frag) : Sp := fun vs H Q _ => ∃ (a : Addr) (ns : List Int), vs = [.ref a] ∧ SqL K H a (ns.map V.int) ∧ ns.length ≤ 63 ∧ ∀ H', Q (.bl true) H'
section
variable {P : Program} {w : World} {K : PySem.W.Frag} {mg : Str → Option Value} {base : Heap}
abbrev NL : List Str := ["_law_script", "_law_k", "_law_box", "_law_some", "_law_made_here", "_law_move", "_law_one", "_law_other", "_law_two", "_law_turn", "_law_word"]
theorem scLaw : FnScope NL ["_law_script"] (defScope sLaw) := ⟨rfl, rfl, rfl, by decide +kernel, rfl, by decide +kernel, by decide +kernel⟩
theorem ok_law {f CM MV : Addr} {c : Cl} {fd : FuncData} (F : Fun K "law" "law" sLaw f fd) (T : BltW mg) (M : MvTxt P w K mg base c CM) (C : MvCls K c MV) (EQ : EqTxt P w K mg base c) (ST : StrTxt P w K mg base c) (NE : NeTxt P w K mg base c) (B : ∀ k, k < 4 → Behind K (c.at k)) (L : FldTxt K c)
    (cS : Cal P w K mg base CX0 "_law_seed" 1 ["_law_script", "_law_k"] (spSeed K)) (cA : Cal P w K mg base CX0 "_law_any_move" 2 ["_law_box"] spAM) (cM : Cal P w K mg base CX0 "_law_made" 6 ["_law_move"] (spMadeM c))
    (cT : Cal P w K mg base CX0 "_law_move_text" 1 ["_law_move"] spText) (cK : Cal P w K mg base CX0 "_law_kinds" 1 ["_law_one"] (spKinds c))
    (cG : ∃ (f : Addr) (fd : FuncData), FnG P w K mg base CX0 1 f fd ["_law_one", "_law_move"] (spKeeps c) ∧ mg "_law_keeps" = some (.ref f) ∧ PySem.W.keepIn K (.ref f) = true ∧ Binds K fd ["_law_one", "_law_move"] []) :
    FnG P w K mg base CX0 8 f fd ["_law_script"] (spLaw K) := by
  obtain ⟨fS, fdS, GS, mS, kS, bS⟩ := cS
  obtain ⟨fA, fdA, GA, mA, kA, bA⟩ := cA
  obtain ⟨fM, fdM, GM, mM, kM, bM⟩ := cM
  obtain ⟨fT, fdT, GT, mT, kT, bT⟩ := cT
  obtain ⟨fK, fdK, GK, mK, kK, bK⟩ := cK
  obtain ⟨fG, fdG, GG, mG, kG, bG⟩ := cG
  obtain ⟨f3, fd3, G3, M3, b3, ds3, vd3, c3⟩ := M.T.ini
  refine fnG F scLaw (fun vs H Q E h => ?_) (fun cdv A up s H vs Q E g hr h => ?_)
  · obtain ⟨a, ns, rfl, _⟩ := h
    rfl
  · obtain ⟨a, ns, rfl, hS, hl, k⟩ := h
    have hr1 : Room 1 _ := hr.mono (by decide)
    have hr2 : Room 2 _ := hr.mono (by decide)
    have hr3 : Room 3 _ := hr.mono (by decide)
    have hr4 : Room 4 _ := hr.mono (by decide)
    have hr5 : Room 5 _ := hr.mono (by decide)
    have hr6 : Room 6 _ := hr.mono (by decide)
    refine ⟨_, PSs.nox (pss_cons (ps_for PassesOwn.never rfl (pi_range1 (by rfl) T.range (pa_cons (pe_callB (call_max2 rfl) (by rfl) T.max (by decide +kernel) (pa_cons pe_int (pa_cons (pe_callB (call_min2 rfl) (by rfl) T.min (by decide +kernel) (pa_cons pe_int (pa_cons (pe_callB call_len_seq (by rfl) T.len PySem.boot_len (pa_cons (pv 0) pa_nil)) pa_nil))) pa_nil))) pa_nil)) (pg_name (i := 1) scLaw.nd rfl (Or.inl rfl))
        (pss_cons (ps_set (i := 2) scLaw.nd rfl (Or.inr rfl) (pe_call GS hr1 rfl mS kS bS .nil pass0 (pa_cons (pv 0) (pa_cons (pv 1) pa_nil))))
        (pss_cons (ps_setLc (i := 3) (own := [("_law_turn", 9)]) (g := gName 9) (tt := tYes) (by rfl) scLaw.nd rfl rfl (sw_true rfl rfl rfl (by decide +kernel)) (pi_range1 (by rfl) T.range (pa_cons pe_int pa_nil))
            (blkOk_by (own := [("_law_turn", 9)]) (N := NL) (sc := defScope sLaw) (by decide +kernel)) (fun _ _ _ _ _ => pg_name (i := 9) scLaw.nd rfl (Or.inl rfl)) (fun _ _ _ _ _ => pts_nil) (fun _ _ _ _ _ => pe_call GA hr2 rfl mA kA bA .nil pass0 (pa_cons (pv 2) pa_nil)))
        (pss_cons (ps_setLc (i := 4) (own := [("_law_move", 5)]) (g := gName 5) (tt := tYes) (by rfl) scLaw.nd rfl rfl (sw_true rfl rfl rfl (by decide +kernel)) (pi_list (pv 3))
            (blkOk_by (own := [("_law_move", 5)]) (N := NL) (sc := defScope sLaw) (by decide +kernel)) (fun _ _ _ _ _ => pg_name (i := 5) scLaw.nd rfl (Or.inl rfl)) (fun _ _ _ _ _ => pts_nil) (fun _ _ _ _ _ => pe_call GM hr6 rfl mM kM bM .nil pass0 (pa_cons (pv 5) pa_nil)))
        (pss_one (ps_for PassesOwn.never rfl (pi_zip (by rfl) T.zip (pa_cons (pv 3) (pa_cons (pv 4) pa_nil))) (pg_tup rfl (pgs_cons (pg_name (i := 5) scLaw.nd rfl (Or.inr rfl)) (pgs_cons (pg_name (i := 6) scLaw.nd rfl (Or.inl rfl)) pgs_nil)))
          (pss_cons (ps_if (PW.pt (pw_or (pt_cmpR op_ne (pe_callTy (call_strM ST hr3) (by rfl) T.str (by decide +kernel) (pa_cons (pv 6) pa_nil)) (pe_call GT hr1 rfl mT kT bT .nil pass0 (pa_cons (pv 5) pa_nil)) (nomark _)) (pw_or1 (pt_not (pt_val (pe_callG GG g hr1 rfl mG kG bG .nil pass0 (pa_cons (pv 6) (pa_cons (pv 5) pa_nil)))))))) (pss_one (ps_ret pe_bl)) pss_nil)
          (pss_cons (ps_if (pt_cmpR (op_neD hr.units) (pe_call GK hr1 rfl mK kK bK .nil pass0 (pa_cons (pv 6) pa_nil)) (pe_op op_cat (pe_lc (own := [("_law_word", 10)]) (g := gName 10) (tt := tYes) (te := tOp rEq (tOp (rIxT K) (tVar 5) (tC (.int 0))) (tVar 10)) (by rfl) scLaw.nd (pi_tup (pe_tup (pa_cons pe_str (pa_cons pe_str (pa_cons pe_str (pa_cons pe_str pa_nil))))))
              (blkOk_by (own := [("_law_word", 10)]) (N := NL) (sc := defScope sLaw) (by decide +kernel)) (fun _ _ _ _ _ => pg_name (i := 10) scLaw.nd rfl (Or.inl rfl)) (fun _ _ _ _ _ => pts_nil) (fun _ _ _ _ _ => pe_cmpR op_eq (pe_ix ix_tup (pv 5) pe_int (fun _ _ => rfl)) (pv 10) (nomark _))) (pe_lst (pa_cons pe_bl pa_nil))) (nomark _)) (pss_one (ps_ret pe_bl)) pss_nil)
          (pss_cons (ps_for PassesOwn.never rfl (pi_zip (by rfl) T.zip (pa_cons (pv 3) (pa_cons (pe_lc (own := [("_law_move", 5)]) (g := gName 5) (tt := tYes) (by rfl) scLaw.nd (pi_list (pv 3))
              (blkOk_by (own := [("_law_move", 5)]) (N := NL) (sc := defScope sLaw) (by decide +kernel)) (fun _ _ _ _ _ => pg_name (i := 5) scLaw.nd rfl (Or.inl rfl)) (fun _ _ _ _ _ => pts_nil) (fun _ _ _ _ _ => pe_call GM hr6 rfl mM kM bM .nil pass0 (pa_cons (pv 5) pa_nil))) pa_nil))) (pg_tup rfl (pgs_cons (pg_name (i := 7) scLaw.nd rfl (Or.inl rfl)) (pgs_cons (pg_name (i := 8) scLaw.nd rfl (Or.inl rfl)) pgs_nil)))
            (pss_one (ps_if (PW.pt (pw_or (pt_cmpR op_ne (pe_cmpR (op_eqM EQ hr4) (pv 6) (pv 8) (nomark _)) (pe_cmpR (op_eqD hr.units) (pv 5) (pv 7) (nomark _)) (nomark _)) (pw_or1 (pt_cmpR op_eq (pe_cmpR (op_neM EQ hr5) (pv 6) (pv 8) (nomark _)) (pe_cmpR (op_eqD hr.units) (pv 5) (pv 7) (nomark _)) (nomark _))))) (pss_one (ps_ret pe_bl)) pss_nil)))
          (pss_one (ps_if (pt_cmpR (op_inN NE hr5) (pv 6) (pe_tup (pa_cons (pe_callTy (call_strM ST hr3) (by rfl) T.str (by decide +kernel) (pa_cons (pv 6) pa_nil)) (pa_cons pe_non (pa_cons (pv 5) pa_nil)))) rfl) (pss_one (ps_ret pe_bl)) pss_nil)))))))))))
      (pss_one (ps_ret (pe_and (pe_cmpR (op_eqM EQ hr4) (pe_make M3 G3 hr5 rfl M.T.g b3 .nil passL (pa_cons pe_int (pa_cons pe_non pa_nil))) (pe_make M3 G3 hr5 rfl M.T.g c3 vd3 passL (pa_cons pe_int pa_nil)) (nomark _))
        (pe_and (pe_cmpR op_isN (pe_fld (pe_make M3 G3 hr5 rfl M.T.g c3 vd3 passL (pa_cons pe_int pa_nil)) rfl) pe_non (nomark _)) (pe_one (pe_cmpR (op_eqM EQ hr4) (pe_new0 M.S rfl M.gS) (pe_new0 M.S rfl M.gS) (nomark _)))))))), ?_⟩
    refine ⟨_, rfl, a, _, rfl, .inl hS, _, _, rfl, _, _, rfl, ?_⟩
    rw [List.length_map]
    have hn : (if (if (ns.length : Int) < 4 then (ns.length : Int) else 4) > 2 then (if (ns.length : Int) < 4 then (ns.length : Int) else 4) else 2) ≤ 4 ∧ 2 ≤ (if (if (ns.length : Int) < 4 then (ns.length : Int) else 4) > 2 then (if (ns.length : Int) < 4 then (ns.length : Int) else 4) else 2) := by
      constructor <;> (split <;> (try split) <;> omega)
    generalize (if (if (ns.length : Int) < 4 then (ns.length : Int) else 4) > 2 then (if (ns.length : Int) < 4 then (ns.length : Int) else 4) else 2) = n at hn
    refine ⟨n, rfl, by omega, by omega, for_range (lo := 0) (n := n.toNat) (fun i σ H' => (∃ o1 o2 o3 o4 o5 o6 o7 o8 o9 o10 : Option V, σ = [some (.ref a), o1, o2, o3, o4, o5, o6, o7, o8, o9, o10]) ∧ Same H H') ⟨⟨_, _, _, _, _, _, _, _, _, _, rfl⟩, Same.refl H⟩ ?_ ?_⟩
    · rintro i σ H0 hi ⟨⟨o1, o2, o3, o4, o5, o6, o7, o8, o9, o10, rfl⟩, s0⟩
      refine ⟨_, rfl, _, rfl, a, ns, _, rfl, s0.seq hS, hl, by omega, by omega, fun b u v nb ok => ?_⟩
      have s1 : Same H (upd H0 b (box u v)) := fun c o e => by
        rw [upd_ne (ne_of_none (s0 c o e) nb)]
        exact s0 c o e
      have hb0 : H b = none := s0.free nb
      have P1 : Pre b H (upd H0 b (box u v)) := ⟨SameX.of s1, u, v, ok, upd_same⟩
      generalize upd H0 b (box u v) = H1 at P1
      clear s1
      -- some
      refine ⟨8, rfl, by decide, by decide, fun D nD => ?_⟩
      have nbD : b ≠ D := by
        obtain ⟨_, _, _, _, e⟩ := P1
        exact ne_of_none e nD
      have nD0 : ∀ c o, c ≠ b → H c = some o → c ≠ D := fun c o n e => ne_of_none (P1.1 c o n e) nD
      refine lc_range (lo := 0) (n := 8) (fun i Hh => ∃ vs ms, Pre b H Hh ∧ Hh D = some (.lst vs) ∧ Dr Hh vs ms ∧ ms.length = i) ?_ ?_ ?_
      · obtain ⟨sx, u1, v1, ok1, hb1⟩ := P1
        exact ⟨[], [], ⟨fun c o n e => by rw [upd_ne (nD0 c o n e)]; exact sx c o n e, u1, v1, ok1, by rw [upd_ne nbD]; exact hb1⟩, upd_same, ⟨rfl, fun i m h => by cases h⟩, rfl⟩
      · rintro i2 Hh hi2 ⟨vs, ms, S3, hD, dr, lm⟩
        refine ⟨rfl, ?_⟩
        unfold tYes
        dsimp only
        refine iteT ?_
        obtain ⟨sx, u3, v3, ok3, hb3⟩ := id S3
        refine ⟨_, rfl, b, u3, v3, rfl, hb3, ok3, fun p m H4 S4 tp mok => ?_⟩
        have S5 : Pre b H H4 := S3.trans S4
        have hD4 : H4 D = some (.lst vs) := S4.1 D _ (Ne.symm nbD) hD
        obtain ⟨sy, u4, v4, ok4, hb4⟩ := id S5
        refine ⟨vs, hD4, small1000 (by rw [dr.1]; omega), vs ++ [p], ms ++ [m], ⟨fun c o n e => by rw [upd_ne (nD0 c o n e)]; exact sy c o n e, u4, v4, ok4, by rw [upd_ne nbD]; exact hb4⟩, upd_same, ((dr.keep (Keep.pre hb3 S4.1)).push tp mok).keep (Keep.lst hD4), by simp [lm]⟩
      rintro H3 ⟨vs, ms, P3, hD, dr, lm⟩
      have s3 : Same H H3 := P3.all hb0
      clear P1 P3 nD0 nD nbD
      -- made here
      refine ⟨_, rfl, D, rfl, ⟨_, SqL.of hD⟩, fun D2 nD2 => ?_⟩
      refine lc_list (a := D) (xs := vs) (fun i Hh => ∃ xs, Same H3 Hh ∧ Hh D2 = some (.lst xs) ∧ Md c Hh xs (ms.take i)) ⟨[], Same.new nD2, upd_same, ⟨by simp, fun i m h => by simp at h⟩⟩ (fun i Hh _ ⟨xs, s, _, _⟩ => SqL.of (s _ _ hD)) ?_ ?_
      · rintro i2 x Hh hx ⟨xs, s4, hD2, md⟩
        refine ⟨rfl, ?_⟩
        unfold tYes
        dsimp only
        refine iteT ?_
        obtain ⟨m, hm, tp, mok⟩ := dr.get hx
        refine ⟨_, rfl, x, m, rfl, tp.same s4, mok, fun y H5 s5 ya => ?_⟩
        have hD25 := s5 _ _ hD2
        have lx : xs.length ≤ 8 := by
          rw [md.1, List.length_take]
          omega
        refine ⟨xs, hD25, small1000 (by omega), xs ++ [y], Same.upn (s4.trans s5) nD2, upd_same, ?_⟩
        rw [take_next hm]
        exact ((md.keep (Keep.of s5)).push ya).keep (Keep.lst hD25)
      rintro H5 ⟨xs, s4, hD2, md⟩
      rw [List.take_of_length_le (by rw [dr.1]; exact Nat.le_refl _)] at md
      have s5 : Same H H5 := s3.trans s4
      have hD5 := s4 _ _ hD
      have dr5 := dr.keep (Keep.of s4)
      clear dr hD s3 s4 nD2
      have lxs : xs.length = vs.length := by rw [md.1, dr5.1]
      -- each
      refine ⟨_, rfl, _, rfl, D, D2, vs, xs, rfl, SqL.of hD5, SqL.of hD2, for_it (walk_zip (K := K) (a := D) (b := D2) (xs := vs) (ys := xs) rfl) (fun _ σ H' => (∃ o5 o6 o7 o8 o9 o10 : Option V, σ = [some (.ref a), some (.int (0 + (i : Int))), some (.ref b), some (.ref D), some (.ref D2), o5, o6, o7, o8, o9, o10]) ∧ Same H5 H') ⟨⟨_, _, _, _, _, _, rfl⟩, Same.refl H5⟩ (fun _ σ Hh _ z => ⟨SqL.of (z.2 _ _ hD5), SqL.of (z.2 _ _ hD2)⟩) ?_ ?_⟩
      · rintro j x σ Hh H' hj ⟨⟨o5, o6, o7, o8, o9, o10, rfl⟩, s6⟩ ⟨T1, v, y, rfl, nT, rfl, hv, hy⟩
        refine ⟨T1, _, rfl, SqT.of upd_same, rfl, _, _, rfl, _, _, rfl, rfl, ?_⟩
        have s7 : Same H5 (upd Hh T1 (.tup [v, y])) := Same.upn s6 (s6.free nT)
        generalize upd Hh T1 (.tup [v, y]) = H7 at s7
        obtain ⟨m, hm, tp, mok⟩ := dr5.get hv
        have ma := md.get hy hm
        have t7 := tp.same s7
        have a7 := ma.same s7
        have e0 : ∀ z : V, (!decide (z = z)) = false := fun z => by simp
        -- its text, what it keeps
        refine ⟨_, rfl, _, m, rfl, a7, mok, _, rfl, _, m, rfl, t7, mok, rfl, _, rfl, ?_⟩
        rw [e0]
        refine iteF ?_
        refine ⟨_, rfl, _, rfl, _, _, m, rfl, a7, t7, mok, fun H8 s8 => ⟨_, rfl, iteF ?_⟩⟩
        have s9 : Same H5 H8 := s7.trans s8
        have t8 := t7.same s8
        have a8 := a7.same s8
        clear a7 t7 s7 s8
        -- its kinds
        refine ⟨_, rfl, _, m, rfl, a8, fun p H9 s10 hp => ?_⟩
        have s11 : Same H5 H9 := s9.trans s10
        have t9 := t8.same s10
        have a9 := a8.same s10
        clear a8 t8 s9 s10
        refine ⟨(by show 4 ≤ sizeLine; decide), fun q nq => ?_⟩
        have s12 := Same.upn (o := .tup fourV) s11 (s11.free nq)
        have s13 : Same H9 (upd H9 q (.tup fourV)) := Same.new nq
        have hq : upd H9 q (.tup fourV) q = some (.tup fourV) := upd_same
        generalize upd H9 q (.tup fourV) = H10 at s12 s13 hq
        have hp10 := s13 _ _ hp
        have t10 := t9.same s13
        have a10 := a9.same s13
        clear t9 a9 s13 hp nq s11
        refine ⟨q, rfl, ⟨_, SqT.of hq⟩, fun D3 nD3 => lc_tup (a := q) (xs := fourV) (fun i Hh => Same H10 Hh ∧ Hh D3 = some (.lst ((kindsV m).take i))) ⟨Same.new nD3, upd_same⟩ (fun _ Hh _ z => SqT.of (z.1 _ _ hq)) ?_ ?_⟩
        · rintro i3 z Hh hz ⟨s14, hD3⟩
          refine ⟨rfl, ?_⟩
          unfold tYes
          dsimp only
          refine iteT ?_
          obtain ⟨tp1, rfl, htp⟩ := t10.same s14
          refine ⟨_, rfl, tp1, _, 0, .str m.nm, rfl, rfl, SqT.of htp, (by cases m <;> rfl), _, rfl, ?_⟩
          have kz := kind_word m i3 z hz
          have sc : scal (V.str m.nm) z = true := by
            have l := (List.getElem?_eq_some_iff.mp hz).1
            have l4 : i3 < 4 := l
            match i3, l4, hz with
            | 0, _, hz => cases hz; rfl
            | 1, _, hz => cases hz; rfl
            | 2, _, hz => cases hz; rfl
            | 3, _, hz => cases hz; rfl
          refine ⟨sc, _, hD3, small1000 (by rw [List.length_take]; show min i3 5 ≤ 1000; omega), Same.upn s14 nD3, ?_⟩
          rw [take_next kz]
          exact upd_same
        rintro H11 ⟨s14, hD3⟩
        have hp11 := s14 _ _ hp10
        have s15 := s12.trans s14
        have t11 := t10.same s14
        have a11 := a10.same s14
        clear t10 a10 s12 hp10 hq
        refine ⟨(by show 1 ≤ sizeLine; decide), fun l nl => ?_⟩
        have s16 := Same.upn (o := .lst [.bl true]) s15 (s15.free nl)
        have s17 : Same H11 (upd H11 l (.lst [.bl true])) := Same.new nl
        have hl1 : upd H11 l (.lst [.bl true]) l = some (.lst [.bl true]) := upd_same
        generalize upd H11 l (.lst [.bl true]) = H12 at s16 s17 hl1
        refine ⟨D3, l, _, _, rfl, rfl, s17 _ _ hD3, hl1, (by rw [List.length_take]; show min 4 5 + 1 ≤ sizeLine; decide), fun r nr => ?_⟩
        have e5 : (kindsV m).take fourV.length ++ [V.bl true] = kindsV m := rfl
        rw [e5]
        have s18 := Same.upn (o := .lst (kindsV m)) s16 (s16.free nr)
        have s19 : Same H12 (upd H12 r (.lst (kindsV m))) := Same.new nr
        have hr12 : upd H12 r (.lst (kindsV m)) r = some (.lst (kindsV m)) := upd_same
        have hp12 := s19 _ _ (s17 _ _ hp11)
        have t12 := t11.same (s17.trans s19)
        have a12 := a11.same (s17.trans s19)
        generalize upd H12 r (.lst (kindsV m)) = H13 at s18 s19 hr12 hp12 t12 a12
        clear t11 a11 s17 s19 s16 s15 hl1 hD3 hp11 s14
        have dk : DpAll K H13 (kindsV m) [.bool (decide (m.kind = 0)), .bool (decide (m.kind = 1)), .bool (decide (m.kind = 2)), .bool (decide (m.kind = 3)), .bool true] := .cons (.bl _) (.cons (.bl _) (.cons (.bl _) (.cons (.bl _) (.cons (.bl _) .nil))))
        refine ⟨_, _, .lst (SqL.of hp12) dk, .lst (SqL.of hr12) dk, kinds_shaped _ _ _ _ _, kinds_shaped _ _ _ _ _, _, rfl, ?_⟩
        rw [kinds_eqv]
        refine iteF ?_
        -- each other one
        refine ⟨_, rfl, _, rfl, D, rfl, ⟨_, SqL.of (s18 _ _ hD5)⟩, fun D4 nD4 => lc_list (a := D) (xs := vs) (fun i Hh => ∃ xs, Same H13 Hh ∧ Hh D4 = some (.lst xs) ∧ Md c Hh xs (ms.take i)) ⟨[], Same.new nD4, upd_same, ⟨by simp, fun i m h => by simp at h⟩⟩ (fun i Hh _ ⟨xs, s, _, _⟩ => SqL.of (s _ _ (s18 _ _ hD5))) ?_ ?_⟩
        · rintro i2 x Hh hx ⟨xs, s4, hD4, md⟩
          refine ⟨rfl, ?_⟩
          unfold tYes
          dsimp only
          refine iteT ?_
          obtain ⟨m, hm, tp, mok⟩ := dr5.get hx
          refine ⟨_, rfl, x, m, rfl, tp.same (s18.trans s4), mok, fun y H5 s5 ya => ?_⟩
          have hD45 := s5 _ _ hD4
          have lx : xs.length ≤ 8 := by
            rw [md.1, List.length_take]
            omega
          refine ⟨xs, hD45, small1000 (by omega), xs ++ [y], Same.upn (s4.trans s5) nD4, upd_same, ?_⟩
          rw [take_next hm]
          exact ((md.keep (Keep.of s5)).push ya).keep (Keep.lst hD45)
        rintro H14 ⟨xs4, s20, hD4, md4⟩
        rw [List.take_of_length_le (by rw [dr5.1]; exact Nat.le_refl _)] at md4
        have s21 := s18.trans s20
        have t14 := t12.same s20
        have a14 := a12.same s20
        have hD14 := s21 _ _ hD5
        refine ⟨D, D4, vs, xs4, rfl, SqL.of hD14, SqL.of hD4, for_it (walk_zip (K := K) (a := D) (b := D4) (xs := vs) (ys := xs4) rfl) (fun _ σ H' => (∃ o7 o8 o9 o10 : Option V, σ = [some (.ref a), some (.int (0 + (i : Int))), some (.ref b), some (.ref D), some (.ref D2), some v, some y, o7, o8, o9, o10]) ∧ Same H14 H') ⟨⟨_, _, _, _, rfl⟩, Same.refl H14⟩ (fun _ σ Hh _ z => ⟨SqL.of (z.2 _ _ hD14), SqL.of (z.2 _ _ hD4)⟩) ?_ ?_⟩
        · rintro j2 x2 σ Hh H' hj2 ⟨⟨o7, o8, o9, o10, rfl⟩, s22⟩ ⟨T2, v2, y2, rfl, nT2, rfl, hv2, hy2⟩
          refine ⟨T2, _, rfl, SqT.of upd_same, rfl, _, _, rfl, _, _, rfl, rfl, ?_⟩
          have s23 : Same H14 (upd Hh T2 (.tup [v2, y2])) := Same.upn s22 (s22.free nT2)
          generalize upd Hh T2 (.tup [v2, y2]) = H15 at s23
          obtain ⟨n2, hn2, tp2, nok⟩ := dr5.get hv2
          have mb := md4.get hy2 hn2
          exact pair_told C rfl rfl rfl rfl (t14.same s23) (a14.same s23) (tp2.same (s21.trans s23)) (mb.same s23) mok nok (iteF ⟨⟨_, _, _, _, rfl⟩, s23⟩)
        · rintro σ H16 ⟨⟨o7, o8, o9, o10, rfl⟩, s24⟩
          exact in_told B rfl rfl (t14.same s24) (a14.same s24) mok fun H17 s25 => iteF ⟨⟨_, _, _, _, _, _, rfl⟩, (s21.trans s24).trans s25⟩
      · rintro σ H16 ⟨⟨o5, o6, o7, o8, o9, o10, rfl⟩, s24⟩
        exact ⟨⟨_, _, _, _, _, _, _, _, _, _, rfl⟩, s5.trans s24⟩
    · rintro σ H2 ⟨⟨o1, o2, o3, o4, o5, o6, o7, o8, o9, o10, rfl⟩, s0⟩
      have ok3 : V3.Idx 3 := ⟨by decide, by decide⟩
      have ok0 : V3.Idx 0 := ⟨by decide, by decide⟩
      refine fun x1 d1 nx1 nd1 _ => mk_take ok3 nx1 nd1 fun H3 s3 a3 => ⟨rfl, ?_⟩
      refine fun x2 d2 nx2 nd2 _ => mk_take ok3 nx2 nd2 fun H4 s4 a4 => ⟨rfl, ?_⟩
      refine eqM_at C (a3.same s4) a4 ok3 ok3 ⟨_, rfl, ?_⟩
      rw [show ∀ z : Str, (decide (z = z) != false) = true from fun z => by simp]
      refine iteT ?_
      refine fun x3 d3 nx3 nd3 _ => mk_take ok0 nx3 nd3 fun H5 s5 a5 => ⟨rfl, ?_⟩
      obtain ⟨p, dx, e, hp⟩ := a5
      cases e
      refine ⟨x3, c.T, dx, _, .non, rfl, hp, L.tc, L.ta, rfl, rfl, _, rfl, iteT ?_⟩
      intro x4 d4 nx4 nd4 _
      have a6 : MvAt c (upd (upd H5 d4 (.own x4)) x4 (.ins c.S d4 [])) (.ref x4) .shut := ⟨x4, d4, rfl, upd_same⟩
      generalize upd (upd H5 d4 (.own x4)) x4 (.ins c.S d4 []) = H6 at a6
      intro x5 d5 nx5 nd5 _
      have s7 : Same H6 (upd (upd H6 d5 (.own x5)) x5 (.ins c.S d5 [])) := made_same nx5 nd5
      have a7 : MvAt c (upd (upd H6 d5 (.own x5)) x5 (.ins c.S d5 [])) (.ref x5) .shut := ⟨x5, d5, rfl, upd_same⟩
      generalize upd (upd H6 d5 (.own x5)) x5 (.ins c.S d5 []) = H7 at s7 a7
      refine eqM_at C (a6.same s7) a7 trivial trivial ?_
      rw [show ∀ z : Str, (decide (z = z) != false) = true from fun z => by simp]
      exact k _
end
end V3

set_option Elab.async false
set_option maxHeartbeats 4000000
set_option linter.all false
set_option maxRecDepth 100000
namespace V3
open PySem L2
theorem kit_ref {K : PySem.W.Frag} {t C : Addr} {b : Bool} (h1 : PySem.W.isClsIn K C = true) (h2 : PySem.W.typeIn K (.ref C) = some (.type "type")) (h3 : PySem.W.subIn K (.ref t) (.ref C) = some b) (h4 : PySem.W.subIn K (.ref t) (.ref t) = some true) :
    PySem.W.kitOne K (.ref t) (.ref C) = some b := by
  unfold PySem.W.kitOne
  by_cases e : t = C
  · subst e
    rw [h4] at h3
    injection h3 with h3
    subst h3
    rw [if_pos (by simp)]
  · have n : (Value.ref t == Value.ref C) = false := by
      refine Bool.eq_false_iff.mpr fun q => e ?_
      exact Value.ref.inj (beq_iff_eq.mp q)
    rw [n, if_neg Bool.false_ne_true]
    have q : ((PySem.W.clsIn K C).isSome && PySem.W.typeIn K (.ref C) == some (.type "type")) = true := by
      have z : (PySem.W.clsIn K C).isSome = true := h1
      rw [z, h2] <;> rfl
    show (if ((PySem.W.clsIn K C).isSome && PySem.W.typeIn K (.ref C) == some (.type "type")) = true then PySem.W.subIn K (.ref t) (.ref C) else none) = some b
    rw [if_pos q]
    exact h3
theorem nf_same {K : PySem.W.Frag} {C : Addr} : PySem.W.notFirst K C (.ref C) = true := by simp [PySem.W.notFirst]
theorem nf_other {K : PySem.W.Frag} {C D : Addr} (h : PySem.W.subIn K (.ref D) (.ref C) = some false) : PySem.W.notFirst K C (.ref D) = true := by
  unfold PySem.W.notFirst
  rw [h]
  simp
theorem kit_base {K : PySem.W.Frag} {t : String} {C : Addr} {b : Bool} (h1 : PySem.W.isClsIn K C = true) (h2 : PySem.W.typeIn K (.ref C) = some (.type "type")) (h3 : PySem.W.subIn K (.type t) (.ref C) = some b) :
    PySem.W.kitOne K (.type t) (.ref C) = some b := by
  unfold PySem.W.kitOne
  have n : (Value.type t == Value.ref C) = false := by
    refine Bool.eq_false_iff.mpr fun q => ?_
    cases beq_iff_eq.mp q
  rw [n, if_neg Bool.false_ne_true]
  have q : ((PySem.W.clsIn K C).isSome && PySem.W.typeIn K (.ref C) == some (.type "type")) = true := by
    have z : (PySem.W.clsIn K C).isSome = true := h1
    rw [z, h2] <;> rfl
  show (if ((PySem.W.clsIn K C).isSome && PySem.W.typeIn K (.ref C) == some (.type "type")) = true then PySem.W.subIn K (.type t) (.ref C) else none) = some b
  rw [if_pos q]
  exact h3
theorem all_mk {l : PySem.W.OpenLaw} {w : World} {K : PySem.W.Frag} {h : Heap} {mg : Str → Option Value} {fa f_int f_num f_amt f_seed f_choose f_am f_made f_mt f_kd f_kp f_law CM MV BC TC RC SC f_im f_bi f_ti f_ri f_be f_bs f_te f_ts f_re f_rs f_se f_ss : Addr} (X : K.In h) (G : h.Ns mainGlobals mg) (hfa : mg "law" = some (.ref fa))
    {od_f_int an_f_int : Option Addr} {sl_f_int : Array (Option Value)} {oc_f_int kV_f_int dc_f_int pm_f_int cd_f_int ct_f_int : Value}
    {od_f_num an_f_num : Option Addr} {sl_f_num : Array (Option Value)} {oc_f_num kV_f_num dc_f_num pm_f_num cd_f_num ct_f_num : Value}
    {od_f_amt an_f_amt : Option Addr} {sl_f_amt : Array (Option Value)} {oc_f_amt kV_f_amt dc_f_amt pm_f_amt cd_f_amt ct_f_amt : Value}
    {od_f_seed an_f_seed : Option Addr} {sl_f_seed : Array (Option Value)} {oc_f_seed kV_f_seed dc_f_seed pm_f_seed cd_f_seed ct_f_seed : Value}
    {od_f_choose an_f_choose : Option Addr} {sl_f_choose : Array (Option Value)} {oc_f_choose kV_f_choose dc_f_choose pm_f_choose cd_f_choose ct_f_choose : Value}
    {od_f_am an_f_am : Option Addr} {sl_f_am : Array (Option Value)} {oc_f_am kV_f_am dc_f_am pm_f_am cd_f_am ct_f_am : Value}
    {od_f_made an_f_made : Option Addr} {sl_f_made : Array (Option Value)} {oc_f_made kV_f_made dc_f_made pm_f_made cd_f_made ct_f_made : Value}
    {od_f_mt an_f_mt : Option Addr} {sl_f_mt : Array (Option Value)} {oc_f_mt kV_f_mt dc_f_mt pm_f_mt cd_f_mt ct_f_mt : Value}
    {od_f_kd an_f_kd : Option Addr} {sl_f_kd : Array (Option Value)} {oc_f_kd kV_f_kd dc_f_kd pm_f_kd cd_f_kd ct_f_kd : Value}
    {od_f_kp an_f_kp : Option Addr} {sl_f_kp : Array (Option Value)} {oc_f_kp kV_f_kp dc_f_kp pm_f_kp cd_f_kp ct_f_kp : Value}
    {od_f_law an_f_law : Option Addr} {sl_f_law : Array (Option Value)} {oc_f_law kV_f_law dc_f_law pm_f_law cd_f_law ct_f_law : Value}
    {nm_CM q_CM : Str} {N_CM : Addr} {bs_CM bm_CM : List Value} {sn_CM : List Str} {sub_CM : List Value} {ab_CM : Bool} {col_CM : Option Bool} {dd_CM : Option Addr} {m0_CM m1_CM m2_CM m3_CM m5_CM : Option Value}
    {od_f_im an_f_im : Option Addr} {sl_f_im : Array (Option Value)} {oc_f_im kV_f_im dc_f_im pm_f_im cd_f_im ct_f_im : Value}
    {od_f_bi an_f_bi : Option Addr} {sl_f_bi : Array (Option Value)} {oc_f_bi kV_f_bi dc_f_bi pm_f_bi cd_f_bi ct_f_bi : Value}
    {od_f_ti an_f_ti dd_f_ti : Option Addr} {sl_f_ti ds_f_ti : Array (Option Value)} {oc_f_ti kV_f_ti dc_f_ti pm_f_ti cd_f_ti ct_f_ti : Value} {T_f_ti : Addr} {n_f_ti : Nat}
    {od_f_ri an_f_ri : Option Addr} {sl_f_ri : Array (Option Value)} {oc_f_ri kV_f_ri dc_f_ri pm_f_ri cd_f_ri ct_f_ri : Value}
    {od_f_be an_f_be : Option Addr} {sl_f_be : Array (Option Value)} {oc_f_be kV_f_be dc_f_be pm_f_be cd_f_be ct_f_be : Value}
    {od_f_bs an_f_bs : Option Addr} {sl_f_bs : Array (Option Value)} {oc_f_bs kV_f_bs dc_f_bs pm_f_bs cd_f_bs ct_f_bs : Value}
    {od_f_te an_f_te : Option Addr} {sl_f_te : Array (Option Value)} {oc_f_te kV_f_te dc_f_te pm_f_te cd_f_te ct_f_te : Value}
    {od_f_ts an_f_ts : Option Addr} {sl_f_ts : Array (Option Value)} {oc_f_ts kV_f_ts dc_f_ts pm_f_ts cd_f_ts ct_f_ts : Value}
    {od_f_re an_f_re : Option Addr} {sl_f_re : Array (Option Value)} {oc_f_re kV_f_re dc_f_re pm_f_re cd_f_re ct_f_re : Value}
    {od_f_rs an_f_rs : Option Addr} {sl_f_rs : Array (Option Value)} {oc_f_rs kV_f_rs dc_f_rs pm_f_rs cd_f_rs ct_f_rs : Value}
    {od_f_se an_f_se : Option Addr} {sl_f_se : Array (Option Value)} {oc_f_se kV_f_se dc_f_se pm_f_se cd_f_se ct_f_se : Value}
    {od_f_ss an_f_ss : Option Addr} {sl_f_ss : Array (Option Value)} {oc_f_ss kV_f_ss dc_f_ss pm_f_ss cd_f_ss ct_f_ss : Value}
    (g_f_int : PySem.W.nsIn K mainGlobals "is_integer" = some (some (.ref f_int)))
    (l_f_int : K.lookup f_int = some ⟨oc_f_int, od_f_int, .func (PySem.W.fnOf "is_integer" "is_integer" (defArgs sIsInt) (defBody sIsInt) (defScope sIsInt) .none kV_f_int dc_f_int pm_f_int an_f_int cd_f_int ct_f_int), sl_f_int⟩)
    (c_f_int : PySem.W.codeIn K cd_f_int "is_integer" = true)
    (k_f_int : PySem.W.keepIn K (.ref f_int) = true)
    (g_f_num : PySem.W.nsIn K mainGlobals "is_number" = some (some (.ref f_num)))
    (l_f_num : K.lookup f_num = some ⟨oc_f_num, od_f_num, .func (PySem.W.fnOf "is_number" "is_number" (defArgs sIsNum) (defBody sIsNum) (defScope sIsNum) .none kV_f_num dc_f_num pm_f_num an_f_num cd_f_num ct_f_num), sl_f_num⟩)
    (c_f_num : PySem.W.codeIn K cd_f_num "is_number" = true)
    (k_f_num : PySem.W.keepIn K (.ref f_num) = true)
    (g_f_amt : PySem.W.nsIn K mainGlobals "is_amount" = some (some (.ref f_amt)))
    (l_f_amt : K.lookup f_amt = some ⟨oc_f_amt, od_f_amt, .func (PySem.W.fnOf "is_amount" "is_amount" (defArgs sIsAmt) (defBody sIsAmt) (defScope sIsAmt) .none kV_f_amt dc_f_amt pm_f_amt an_f_amt cd_f_amt ct_f_amt), sl_f_amt⟩)
    (c_f_amt : PySem.W.codeIn K cd_f_amt "is_amount" = true)
    (k_f_amt : PySem.W.keepIn K (.ref f_amt) = true)
    (g_f_seed : PySem.W.nsIn K mainGlobals "_law_seed" = some (some (.ref f_seed)))
    (l_f_seed : K.lookup f_seed = some ⟨oc_f_seed, od_f_seed, .func (PySem.W.fnOf "_law_seed" "_law_seed" (defArgs sSeed) (defBody sSeed) (defScope sSeed) .none kV_f_seed dc_f_seed pm_f_seed an_f_seed cd_f_seed ct_f_seed), sl_f_seed⟩)
    (c_f_seed : PySem.W.codeIn K cd_f_seed "_law_seed" = true)
    (k_f_seed : PySem.W.keepIn K (.ref f_seed) = true)
    (g_f_choose : PySem.W.nsIn K mainGlobals "_law_choose" = some (some (.ref f_choose)))
    (l_f_choose : K.lookup f_choose = some ⟨oc_f_choose, od_f_choose, .func (PySem.W.fnOf "_law_choose" "_law_choose" (defArgs sChoose) (defBody sChoose) (defScope sChoose) .none kV_f_choose dc_f_choose pm_f_choose an_f_choose cd_f_choose ct_f_choose), sl_f_choose⟩)
    (c_f_choose : PySem.W.codeIn K cd_f_choose "_law_choose" = true)
    (k_f_choose : PySem.W.keepIn K (.ref f_choose) = true)
    (g_f_am : PySem.W.nsIn K mainGlobals "_law_any_move" = some (some (.ref f_am)))
    (l_f_am : K.lookup f_am = some ⟨oc_f_am, od_f_am, .func (PySem.W.fnOf "_law_any_move" "_law_any_move" (defArgs sAnyMove) (defBody sAnyMove) (defScope sAnyMove) .none kV_f_am dc_f_am pm_f_am an_f_am cd_f_am ct_f_am), sl_f_am⟩)
    (c_f_am : PySem.W.codeIn K cd_f_am "_law_any_move" = true)
    (k_f_am : PySem.W.keepIn K (.ref f_am) = true)
    (g_f_made : PySem.W.nsIn K mainGlobals "_law_made" = some (some (.ref f_made)))
    (l_f_made : K.lookup f_made = some ⟨oc_f_made, od_f_made, .func (PySem.W.fnOf "_law_made" "_law_made" (defArgs sMade) (defBody sMade) (defScope sMade) .none kV_f_made dc_f_made pm_f_made an_f_made cd_f_made ct_f_made), sl_f_made⟩)
    (c_f_made : PySem.W.codeIn K cd_f_made "_law_made" = true)
    (k_f_made : PySem.W.keepIn K (.ref f_made) = true)
    (g_f_mt : PySem.W.nsIn K mainGlobals "_law_move_text" = some (some (.ref f_mt)))
    (l_f_mt : K.lookup f_mt = some ⟨oc_f_mt, od_f_mt, .func (PySem.W.fnOf "_law_move_text" "_law_move_text" (defArgs sMvText) (defBody sMvText) (defScope sMvText) .none kV_f_mt dc_f_mt pm_f_mt an_f_mt cd_f_mt ct_f_mt), sl_f_mt⟩)
    (c_f_mt : PySem.W.codeIn K cd_f_mt "_law_move_text" = true)
    (k_f_mt : PySem.W.keepIn K (.ref f_mt) = true)
    (g_f_kd : PySem.W.nsIn K mainGlobals "_law_kinds" = some (some (.ref f_kd)))
    (l_f_kd : K.lookup f_kd = some ⟨oc_f_kd, od_f_kd, .func (PySem.W.fnOf "_law_kinds" "_law_kinds" (defArgs sKinds) (defBody sKinds) (defScope sKinds) .none kV_f_kd dc_f_kd pm_f_kd an_f_kd cd_f_kd ct_f_kd), sl_f_kd⟩)
    (c_f_kd : PySem.W.codeIn K cd_f_kd "_law_kinds" = true)
    (k_f_kd : PySem.W.keepIn K (.ref f_kd) = true)
    (g_f_kp : PySem.W.nsIn K mainGlobals "_law_keeps" = some (some (.ref f_kp)))
    (l_f_kp : K.lookup f_kp = some ⟨oc_f_kp, od_f_kp, .func (PySem.W.fnOf "_law_keeps" "_law_keeps" (defArgs sKeeps) (defBody sKeeps) (defScope sKeeps) .none kV_f_kp dc_f_kp pm_f_kp an_f_kp cd_f_kp ct_f_kp), sl_f_kp⟩)
    (c_f_kp : PySem.W.codeIn K cd_f_kp "_law_keeps" = true)
    (k_f_kp : PySem.W.keepIn K (.ref f_kp) = true)
    (g_f_law : PySem.W.nsIn K mainGlobals "law" = some (some (.ref f_law)))
    (l_f_law : K.lookup f_law = some ⟨oc_f_law, od_f_law, .func (PySem.W.fnOf "law" "law" (defArgs sLaw) (defBody sLaw) (defScope sLaw) .none kV_f_law dc_f_law pm_f_law an_f_law cd_f_law ct_f_law), sl_f_law⟩)
    (c_f_law : PySem.W.codeIn K cd_f_law "law" = true)
    (k_f_law : PySem.W.keepIn K (.ref f_law) = true)
    (g_CM : PySem.W.nsIn K mainGlobals "InvalidMove" = some (some (.ref CM)))
    (g_MV : PySem.W.nsIn K mainGlobals "Move" = some (some (.ref MV)))
    (g_BC : PySem.W.nsIn K mainGlobals "Begin" = some (some (.ref BC)))
    (g_TC : PySem.W.nsIn K mainGlobals "Take" = some (some (.ref TC)))
    (g_RC : PySem.W.nsIn K mainGlobals "Right" = some (some (.ref RC)))
    (g_SC : PySem.W.nsIn K mainGlobals "Shut" = some (some (.ref SC)))
    (x_CM : K.lookup CM = some (PySem.excClassObj nm_CM q_CM CM N_CM bs_CM bm_CM true sn_CM sub_CM ab_CM col_CM dd_CM m0_CM m1_CM m2_CM m3_CM m5_CM "ValueError.__new__"))
    (xb_CM : PySem.HandSPX.refsVE bm_CM = true)
    (xsa_CM : PySem.W.findIn K (.ref CM) "__setattr__" = some (some (.builtin "object.__setattr__")))
    (xga_CM : PySem.W.findIn K (.ref CM) "__getattribute__" = some (some (.builtin "BaseException.__getattribute__")))
    (xgg_CM : PySem.W.findIn K (.ref CM) "__getattr__" = some none)
    (xex_CM : PySem.W.subIn K (.ref CM) (.type "BaseException") = some true)
    (xty_CM : PySem.W.typeIn K (.ref CM) = some (.type "type"))
    (xkc_CM : PySem.W.keepIn K (.ref CM) = true)
    (xhd_CM : PySem.W.hasDictIn K CM = true)
    (xis_CM : PySem.W.isClsIn K CM = true)
    (xca_CM : PySem.W.findIn K (.ref CM) "__class__" = some (some (.builtin "object.__class__")))
    (xgn_CM : PySem.W.specialIn K (.builtin "object.__class__") "__get__" = some (some (.builtin "getset_descriptor.__get__")))
    (xtk_CM : PySem.W.takesIn K (.builtin "object.__class__") = some true)
    (xmo_CM : PySem.W.mroIn K CM (.type "object") = some true)
    (xss_CM : PySem.W.subIn K (.ref CM) (.ref CM) = some true)
    (no_CM_word : PySem.W.findIn K (.ref CM) "word" = some none)
    (a_f_im : PySem.W.findIn K (.ref CM) "__init__" = some (some (.ref f_im)))
    (tf_im : PySem.W.typeIn K (.ref f_im) = some (.type "function"))
    (l_f_im : K.lookup f_im = some ⟨oc_f_im, od_f_im, .func (PySem.W.fnOf "__init__" "InvalidMove.__init__" (defArgs sImInit) (defBody sImInit) (defScope sImInit) .none kV_f_im dc_f_im pm_f_im an_f_im cd_f_im ct_f_im), sl_f_im⟩)
    (c_f_im : PySem.W.codeIn K cd_f_im "InvalidMove.__init__" = true)
    (k_f_im : PySem.W.keepIn K (.ref f_im) = true)
    (is_MV : PySem.W.isClsIn K MV = true)
    (ty_MV : PySem.W.typeIn K (.ref MV) = some (.type "type"))
    (pg_BC : PySem.W.plainGet K BC Str.empty = true)
    (hd_BC : PySem.W.hasDictIn K BC = true)
    (po_BC : PySem.W.plainOver K BC = true)
    (sa_BC : PySem.W.findIn K (.ref BC) "__setattr__" = some (some (.builtin "object.__setattr__")))
    (mk_BC : PySem.W.makesIn K BC = true)
    (kc_BC : PySem.W.keepIn K (.ref BC) = true)
    (ca_BC : PySem.W.findIn K (.ref BC) "__class__" = some (some (.builtin "object.__class__")))
    (mo_BC : PySem.W.mroIn K BC (.type "object") = some true)
    (ss_BC : PySem.W.subIn K (.ref BC) (.ref BC) = some true)
    (ne_BC : PySem.W.findIn K (.ref BC) "__ne__" = some (some (.builtin "object.__ne__")))
    (ob_BC : PySem.W.subIn K (.ref BC) (.type "object") = some true)
    (pg_TC : PySem.W.plainGet K TC Str.empty = true)
    (hd_TC : PySem.W.hasDictIn K TC = true)
    (po_TC : PySem.W.plainOver K TC = true)
    (sa_TC : PySem.W.findIn K (.ref TC) "__setattr__" = some (some (.builtin "object.__setattr__")))
    (mk_TC : PySem.W.makesIn K TC = true)
    (kc_TC : PySem.W.keepIn K (.ref TC) = true)
    (ca_TC : PySem.W.findIn K (.ref TC) "__class__" = some (some (.builtin "object.__class__")))
    (mo_TC : PySem.W.mroIn K TC (.type "object") = some true)
    (ss_TC : PySem.W.subIn K (.ref TC) (.ref TC) = some true)
    (ne_TC : PySem.W.findIn K (.ref TC) "__ne__" = some (some (.builtin "object.__ne__")))
    (ob_TC : PySem.W.subIn K (.ref TC) (.type "object") = some true)
    (pg_RC : PySem.W.plainGet K RC Str.empty = true)
    (hd_RC : PySem.W.hasDictIn K RC = true)
    (po_RC : PySem.W.plainOver K RC = true)
    (sa_RC : PySem.W.findIn K (.ref RC) "__setattr__" = some (some (.builtin "object.__setattr__")))
    (mk_RC : PySem.W.makesIn K RC = true)
    (kc_RC : PySem.W.keepIn K (.ref RC) = true)
    (ca_RC : PySem.W.findIn K (.ref RC) "__class__" = some (some (.builtin "object.__class__")))
    (mo_RC : PySem.W.mroIn K RC (.type "object") = some true)
    (ss_RC : PySem.W.subIn K (.ref RC) (.ref RC) = some true)
    (ne_RC : PySem.W.findIn K (.ref RC) "__ne__" = some (some (.builtin "object.__ne__")))
    (ob_RC : PySem.W.subIn K (.ref RC) (.type "object") = some true)
    (pg_SC : PySem.W.plainGet K SC Str.empty = true)
    (hd_SC : PySem.W.hasDictIn K SC = true)
    (po_SC : PySem.W.plainOver K SC = true)
    (sa_SC : PySem.W.findIn K (.ref SC) "__setattr__" = some (some (.builtin "object.__setattr__")))
    (mk_SC : PySem.W.makesIn K SC = true)
    (kc_SC : PySem.W.keepIn K (.ref SC) = true)
    (ca_SC : PySem.W.findIn K (.ref SC) "__class__" = some (some (.builtin "object.__class__")))
    (mo_SC : PySem.W.mroIn K SC (.type "object") = some true)
    (ss_SC : PySem.W.subIn K (.ref SC) (.ref SC) = some true)
    (ne_SC : PySem.W.findIn K (.ref SC) "__ne__" = some (some (.builtin "object.__ne__")))
    (ob_SC : PySem.W.subIn K (.ref SC) (.type "object") = some true)
    (sm_BC : PySem.W.subIn K (.ref BC) (.ref MV) = some true)
    (su_TC_BC : PySem.W.subIn K (.ref TC) (.ref BC) = some false)
    (su_RC_BC : PySem.W.subIn K (.ref RC) (.ref BC) = some false)
    (su_SC_BC : PySem.W.subIn K (.ref SC) (.ref BC) = some false)
    (sm_TC : PySem.W.subIn K (.ref TC) (.ref MV) = some true)
    (su_BC_TC : PySem.W.subIn K (.ref BC) (.ref TC) = some false)
    (su_RC_TC : PySem.W.subIn K (.ref RC) (.ref TC) = some false)
    (su_SC_TC : PySem.W.subIn K (.ref SC) (.ref TC) = some false)
    (sm_RC : PySem.W.subIn K (.ref RC) (.ref MV) = some true)
    (su_BC_RC : PySem.W.subIn K (.ref BC) (.ref RC) = some false)
    (su_TC_RC : PySem.W.subIn K (.ref TC) (.ref RC) = some false)
    (su_SC_RC : PySem.W.subIn K (.ref SC) (.ref RC) = some false)
    (sm_SC : PySem.W.subIn K (.ref SC) (.ref MV) = some true)
    (su_BC_SC : PySem.W.subIn K (.ref BC) (.ref SC) = some false)
    (su_TC_SC : PySem.W.subIn K (.ref TC) (.ref SC) = some false)
    (su_RC_SC : PySem.W.subIn K (.ref RC) (.ref SC) = some false)
    (no_BC_amount : PySem.W.findIn K (.ref BC) "amount" = some none)
    (no_TC_at : PySem.W.findIn K (.ref TC) "at" = some none)
    (no_TC_amount : PySem.W.findIn K (.ref TC) "amount" = some none)
    (no_RC_at : PySem.W.findIn K (.ref RC) "at" = some none)
    (no_RC_amount : PySem.W.findIn K (.ref RC) "amount" = some none)
    (a_f_bi : PySem.W.findIn K (.ref BC) "__init__" = some (some (.ref f_bi)))
    (i_f_bi : PySem.W.isFn K (.ref f_bi) = true)
    (l_f_bi : K.lookup f_bi = some ⟨oc_f_bi, od_f_bi, .func (PySem.W.fnOf "__init__" "Begin.__init__" (defArgs sBInit) (defBody sBInit) (defScope sBInit) .none kV_f_bi dc_f_bi pm_f_bi an_f_bi cd_f_bi ct_f_bi), sl_f_bi⟩)
    (c_f_bi : PySem.W.codeIn K cd_f_bi "Begin.__init__" = true)
    (k_f_bi : PySem.W.keepIn K (.ref f_bi) = true)
    (a_f_ti : PySem.W.findIn K (.ref TC) "__init__" = some (some (.ref f_ti)))
    (i_f_ti : PySem.W.isFn K (.ref f_ti) = true)
    (l_f_ti : K.lookup f_ti = some ⟨oc_f_ti, od_f_ti, .func (PySem.W.fnOf "__init__" "Take.__init__" (defArgs sTInit) (defBody sTInit) (defScope sTInit) (.ref T_f_ti) kV_f_ti dc_f_ti pm_f_ti an_f_ti cd_f_ti ct_f_ti), sl_f_ti⟩)
    (c_f_ti : PySem.W.codeIn K cd_f_ti "Take.__init__" = true)
    (k_f_ti : PySem.W.keepIn K (.ref f_ti) = true)
    (t_f_ti : K.lookup T_f_ti = some ⟨.type "tuple", dd_f_ti, .seq #[.none] n_f_ti, ds_f_ti⟩)
    (a_f_ri : PySem.W.findIn K (.ref RC) "__init__" = some (some (.ref f_ri)))
    (i_f_ri : PySem.W.isFn K (.ref f_ri) = true)
    (l_f_ri : K.lookup f_ri = some ⟨oc_f_ri, od_f_ri, .func (PySem.W.fnOf "__init__" "Right.__init__" (defArgs sRInit) (defBody sRInit) (defScope sRInit) .none kV_f_ri dc_f_ri pm_f_ri an_f_ri cd_f_ri ct_f_ri), sl_f_ri⟩)
    (c_f_ri : PySem.W.codeIn K cd_f_ri "Right.__init__" = true)
    (k_f_ri : PySem.W.keepIn K (.ref f_ri) = true)
    (a_f_be : PySem.W.findIn K (.ref BC) "__eq__" = some (some (.ref f_be)))
    (i_f_be : PySem.W.isFn K (.ref f_be) = true)
    (l_f_be : K.lookup f_be = some ⟨oc_f_be, od_f_be, .func (PySem.W.fnOf "__eq__" "Begin.__eq__" (defArgs sBEq) (defBody sBEq) (defScope sBEq) .none kV_f_be dc_f_be pm_f_be an_f_be cd_f_be ct_f_be), sl_f_be⟩)
    (c_f_be : PySem.W.codeIn K cd_f_be "Begin.__eq__" = true)
    (k_f_be : PySem.W.keepIn K (.ref f_be) = true)
    (a_f_bs : PySem.W.findIn K (.ref BC) "__str__" = some (some (.ref f_bs)))
    (i_f_bs : PySem.W.isFn K (.ref f_bs) = true)
    (l_f_bs : K.lookup f_bs = some ⟨oc_f_bs, od_f_bs, .func (PySem.W.fnOf "__str__" "Begin.__str__" (defArgs sBStr) (defBody sBStr) (defScope sBStr) .none kV_f_bs dc_f_bs pm_f_bs an_f_bs cd_f_bs ct_f_bs), sl_f_bs⟩)
    (c_f_bs : PySem.W.codeIn K cd_f_bs "Begin.__str__" = true)
    (k_f_bs : PySem.W.keepIn K (.ref f_bs) = true)
    (a_f_te : PySem.W.findIn K (.ref TC) "__eq__" = some (some (.ref f_te)))
    (i_f_te : PySem.W.isFn K (.ref f_te) = true)
    (l_f_te : K.lookup f_te = some ⟨oc_f_te, od_f_te, .func (PySem.W.fnOf "__eq__" "Take.__eq__" (defArgs sTEq) (defBody sTEq) (defScope sTEq) .none kV_f_te dc_f_te pm_f_te an_f_te cd_f_te ct_f_te), sl_f_te⟩)
    (c_f_te : PySem.W.codeIn K cd_f_te "Take.__eq__" = true)
    (k_f_te : PySem.W.keepIn K (.ref f_te) = true)
    (a_f_ts : PySem.W.findIn K (.ref TC) "__str__" = some (some (.ref f_ts)))
    (i_f_ts : PySem.W.isFn K (.ref f_ts) = true)
    (l_f_ts : K.lookup f_ts = some ⟨oc_f_ts, od_f_ts, .func (PySem.W.fnOf "__str__" "Take.__str__" (defArgs sTStr) (defBody sTStr) (defScope sTStr) .none kV_f_ts dc_f_ts pm_f_ts an_f_ts cd_f_ts ct_f_ts), sl_f_ts⟩)
    (c_f_ts : PySem.W.codeIn K cd_f_ts "Take.__str__" = true)
    (k_f_ts : PySem.W.keepIn K (.ref f_ts) = true)
    (a_f_re : PySem.W.findIn K (.ref RC) "__eq__" = some (some (.ref f_re)))
    (i_f_re : PySem.W.isFn K (.ref f_re) = true)
    (l_f_re : K.lookup f_re = some ⟨oc_f_re, od_f_re, .func (PySem.W.fnOf "__eq__" "Right.__eq__" (defArgs sREq) (defBody sREq) (defScope sREq) .none kV_f_re dc_f_re pm_f_re an_f_re cd_f_re ct_f_re), sl_f_re⟩)
    (c_f_re : PySem.W.codeIn K cd_f_re "Right.__eq__" = true)
    (k_f_re : PySem.W.keepIn K (.ref f_re) = true)
    (a_f_rs : PySem.W.findIn K (.ref RC) "__str__" = some (some (.ref f_rs)))
    (i_f_rs : PySem.W.isFn K (.ref f_rs) = true)
    (l_f_rs : K.lookup f_rs = some ⟨oc_f_rs, od_f_rs, .func (PySem.W.fnOf "__str__" "Right.__str__" (defArgs sRStr) (defBody sRStr) (defScope sRStr) .none kV_f_rs dc_f_rs pm_f_rs an_f_rs cd_f_rs ct_f_rs), sl_f_rs⟩)
    (c_f_rs : PySem.W.codeIn K cd_f_rs "Right.__str__" = true)
    (k_f_rs : PySem.W.keepIn K (.ref f_rs) = true)
    (a_f_se : PySem.W.findIn K (.ref SC) "__eq__" = some (some (.ref f_se)))
    (i_f_se : PySem.W.isFn K (.ref f_se) = true)
    (l_f_se : K.lookup f_se = some ⟨oc_f_se, od_f_se, .func (PySem.W.fnOf "__eq__" "Shut.__eq__" (defArgs sSEq) (defBody sSEq) (defScope sSEq) .none kV_f_se dc_f_se pm_f_se an_f_se cd_f_se ct_f_se), sl_f_se⟩)
    (c_f_se : PySem.W.codeIn K cd_f_se "Shut.__eq__" = true)
    (k_f_se : PySem.W.keepIn K (.ref f_se) = true)
    (a_f_ss : PySem.W.findIn K (.ref SC) "__str__" = some (some (.ref f_ss)))
    (i_f_ss : PySem.W.isFn K (.ref f_ss) = true)
    (l_f_ss : K.lookup f_ss = some ⟨oc_f_ss, od_f_ss, .func (PySem.W.fnOf "__str__" "Shut.__str__" (defArgs sSStr) (defBody sSStr) (defScope sSStr) .none kV_f_ss dc_f_ss pm_f_ss an_f_ss cd_f_ss ct_f_ss), sl_f_ss⟩)
    (c_f_ss : PySem.W.codeIn K cd_f_ss "Shut.__str__" = true)
    (k_f_ss : PySem.W.keepIn K (.ref f_ss) = true)
    (oi_SC : PySem.W.findIn K (.ref SC) "__init__" = some (some (.builtin "object.__init__")))
    (bh_BC_str : PySem.W.subIn K (.ref BC) (.type "str") = some false)
    (bh_BC_NoneType : PySem.W.subIn K (.ref BC) (.type "NoneType") = some false)
    (bh_BC_tuple : PySem.W.subIn K (.ref BC) (.type "tuple") = some false)
    (bh_TC_str : PySem.W.subIn K (.ref TC) (.type "str") = some false)
    (bh_TC_NoneType : PySem.W.subIn K (.ref TC) (.type "NoneType") = some false)
    (bh_TC_tuple : PySem.W.subIn K (.ref TC) (.type "tuple") = some false)
    (bh_RC_str : PySem.W.subIn K (.ref RC) (.type "str") = some false)
    (bh_RC_NoneType : PySem.W.subIn K (.ref RC) (.type "NoneType") = some false)
    (bh_RC_tuple : PySem.W.subIn K (.ref RC) (.type "tuple") = some false)
    (bh_SC_str : PySem.W.subIn K (.ref SC) (.type "str") = some false)
    (bh_SC_NoneType : PySem.W.subIn K (.ref SC) (.type "NoneType") = some false)
    (bh_SC_tuple : PySem.W.subIn K (.ref SC) (.type "tuple") = some false)
    (mt_str : PySem.W.subIn K (.type "str") (.ref MV) = some false)
    (mt_NoneType : PySem.W.subIn K (.type "NoneType") (.ref MV) = some false)
    (mt_tuple : PySem.W.subIn K (.type "tuple") (.ref MV) = some false)
    (ic_BC : PySem.W.isClsIn K BC = true)
    (tc_BC : PySem.W.typeIn K (.ref BC) = some (.type "type"))
    (ic_TC : PySem.W.isClsIn K TC = true)
    (tc_TC : PySem.W.typeIn K (.ref TC) = some (.type "type"))
    (ic_RC : PySem.W.isClsIn K RC = true)
    (tc_RC : PySem.W.typeIn K (.ref RC) = some (.type "type"))
    (ic_SC : PySem.W.isClsIn K SC = true)
    (tc_SC : PySem.W.typeIn K (.ref SC) = some (.type "type"))
    (z_len : PySem.W.nsIn K mainGlobals "len" = some none)
    (z_abs : PySem.W.nsIn K mainGlobals "abs" = some none)
    (z_int : PySem.W.nsIn K mainGlobals "int" = some none)
    (z_isinstance : PySem.W.nsIn K mainGlobals "isinstance" = some none)
    (z_bool : PySem.W.nsIn K mainGlobals "bool" = some none)
    (z_range : PySem.W.nsIn K mainGlobals "range" = some none)
    (z_max : PySem.W.nsIn K mainGlobals "max" = some none)
    (z_min : PySem.W.nsIn K mainGlobals "min" = some none)
    (z_str : PySem.W.nsIn K mainGlobals "str" = some none)
    (z_zip : PySem.W.nsIn K mainGlobals "zip" = some none)
    (z_repr : PySem.W.nsIn K mainGlobals "repr" = some none)
    : ∃ fd : FuncData, (∀ (s : Shared) (v : Value), BindsTo s fd ⟨[v], []⟩ [("_law_script", v)]) ∧ ∀ base : Heap, K.In base → base.Ns mainGlobals mg → FnG l.prog w K mg base CX0 8 fa fd ["_law_script"] (spLaw K) := by
  have e := hfa.symm.trans (PySem.W.mg_of X G g_f_law)
  cases e
  have F_f_int := fun_mk (st := sIsInt) l_f_int c_f_int k_f_int
  have b_f_int := F_f_int.binds (ps := ["value"]) fun _ _ _ _ _ _ us hl => match us, hl with | [_], _ => rfl
  have F_f_num := fun_mk (st := sIsNum) l_f_num c_f_num k_f_num
  have b_f_num := F_f_num.binds (ps := ["value"]) fun _ _ _ _ _ _ us hl => match us, hl with | [_], _ => rfl
  have F_f_amt := fun_mk (st := sIsAmt) l_f_amt c_f_amt k_f_amt
  have b_f_amt := F_f_amt.binds (ps := ["value"]) fun _ _ _ _ _ _ us hl => match us, hl with | [_], _ => rfl
  have F_f_seed := fun_mk (st := sSeed) l_f_seed c_f_seed k_f_seed
  have b_f_seed := F_f_seed.binds (ps := ["_law_script", "_law_k"]) fun _ _ _ _ _ _ us hl => match us, hl with | [_, _], _ => rfl
  have F_f_choose := fun_mk (st := sChoose) l_f_choose c_f_choose k_f_choose
  have b_f_choose := F_f_choose.binds (ps := ["_law_box", "_law_many"]) fun _ _ _ _ _ _ us hl => match us, hl with | [_, _], _ => rfl
  have F_f_am := fun_mk (st := sAnyMove) l_f_am c_f_am k_f_am
  have b_f_am := F_f_am.binds (ps := ["_law_box"]) fun _ _ _ _ _ _ us hl => match us, hl with | [_], _ => rfl
  have F_f_made := fun_mk (st := sMade) l_f_made c_f_made k_f_made
  have b_f_made := F_f_made.binds (ps := ["_law_move"]) fun _ _ _ _ _ _ us hl => match us, hl with | [_], _ => rfl
  have F_f_mt := fun_mk (st := sMvText) l_f_mt c_f_mt k_f_mt
  have b_f_mt := F_f_mt.binds (ps := ["_law_move"]) fun _ _ _ _ _ _ us hl => match us, hl with | [_], _ => rfl
  have F_f_kd := fun_mk (st := sKinds) l_f_kd c_f_kd k_f_kd
  have b_f_kd := F_f_kd.binds (ps := ["_law_one"]) fun _ _ _ _ _ _ us hl => match us, hl with | [_], _ => rfl
  have F_f_kp := fun_mk (st := sKeeps) l_f_kp c_f_kp k_f_kp
  have b_f_kp := F_f_kp.binds (ps := ["_law_one", "_law_move"]) fun _ _ _ _ _ _ us hl => match us, hl with | [_, _], _ => rfl
  have F_f_law := fun_mk (st := sLaw) l_f_law c_f_law k_f_law
  have b_f_law := F_f_law.binds (ps := ["_law_script"]) fun _ _ _ _ _ _ us hl => match us, hl with | [_], _ => rfl
  have ox_CM : OexC K CM := ⟨⟨_, _, _, _, _, _, _, _, _, _, _, _, _, _, _, x_CM, xb_CM⟩, xsa_CM, xex_CM, xty_CM, xkc_CM⟩
  have xc_CM : XClass K CM := ⟨xis_CM, xga_CM, xgg_CM, xex_CM, xca_CM, xgn_CM, xtk_CM, xmo_CM⟩
  have xf_CM : XfC K CM := ⟨xga_CM, xgg_CM, xex_CM, xhd_CM⟩
  have F_f_im := fun_mk (st := sImInit) l_f_im c_f_im k_f_im
  have b_f_im := F_f_im.binds (ps := ["self", "word"]) fun _ _ _ _ _ _ us hl => match us, hl with | [_, _], _ => rfl
  have cl_BC : Cls K BC := ⟨pg_BC, hd_BC, po_BC, sa_BC⟩
  have cl_TC : Cls K TC := ⟨pg_TC, hd_TC, po_TC, sa_TC⟩
  have cl_RC : Cls K RC := ⟨pg_RC, hd_RC, po_RC, sa_RC⟩
  have cl_SC : Cls K SC := ⟨pg_SC, hd_SC, po_SC, sa_SC⟩
  have F_f_bi := fun_mk (st := sBInit) l_f_bi c_f_bi k_f_bi
  have b_f_bi := F_f_bi.binds (ps := ["self", "amount"]) fun _ _ _ _ _ _ us hl => match us, hl with | [_, _], _ => rfl
  have F_f_ti : FunD K "__init__" "Take.__init__" (defArgs sTInit) (defBody sTInit) (defScope sTInit) [.non] [] f_ti _ := ⟨⟨_, _, _, _, _, _, _, _, _, _, rfl, l_f_ti, c_f_ti, .inr ⟨by simp, T_f_ti, _, [.none], n_f_ti, rfl, t_f_ti, rfl, .cons rfl .nil⟩, .inl rfl⟩, k_f_ti⟩
  obtain ⟨ds_, vds_, b_f_ti⟩ := F_f_ti.binds1 (ps := ["self", "at", "amount"]) 3 1 (by simp) rfl (fun _ _ _ _ _ _ _ us its hu hi => by
    match us, its, hu, hi with
    | [_, _, _], [_], _, _ => exact ⟨_, rfl, rfl⟩)
  cases vds_
  obtain ⟨es_f_ti, ve_f_ti, cb_f_ti⟩ := F_f_ti.binds1 (ps := ["self", "at", "amount"]) 2 0 (by simp) rfl (fun _ _ _ _ _ _ _ us its hu hi => by
    match us, its, hu, hi with
    | [_, _], [_], _, _ => exact ⟨_, rfl, rfl⟩)
  have F_f_ri := fun_mk (st := sRInit) l_f_ri c_f_ri k_f_ri
  have b_f_ri := F_f_ri.binds (ps := ["self", "at", "amount"]) fun _ _ _ _ _ _ us hl => match us, hl with | [_, _, _], _ => rfl
  have F_f_be := fun_mk (st := sBEq) l_f_be c_f_be k_f_be
  have b_f_be := F_f_be.binds (ps := ["self", "other"]) fun _ _ _ _ _ _ us hl => match us, hl with | [_, _], _ => rfl
  have F_f_bs := fun_mk (st := sBStr) l_f_bs c_f_bs k_f_bs
  have b_f_bs := F_f_bs.binds (ps := ["self"]) fun _ _ _ _ _ _ us hl => match us, hl with | [_], _ => rfl
  have F_f_te := fun_mk (st := sTEq) l_f_te c_f_te k_f_te
  have b_f_te := F_f_te.binds (ps := ["self", "other"]) fun _ _ _ _ _ _ us hl => match us, hl with | [_, _], _ => rfl
  have F_f_ts := fun_mk (st := sTStr) l_f_ts c_f_ts k_f_ts
  have b_f_ts := F_f_ts.binds (ps := ["self"]) fun _ _ _ _ _ _ us hl => match us, hl with | [_], _ => rfl
  have F_f_re := fun_mk (st := sREq) l_f_re c_f_re k_f_re
  have b_f_re := F_f_re.binds (ps := ["self", "other"]) fun _ _ _ _ _ _ us hl => match us, hl with | [_, _], _ => rfl
  have F_f_rs := fun_mk (st := sRStr) l_f_rs c_f_rs k_f_rs
  have b_f_rs := F_f_rs.binds (ps := ["self"]) fun _ _ _ _ _ _ us hl => match us, hl with | [_], _ => rfl
  have F_f_se := fun_mk (st := sSEq) l_f_se c_f_se k_f_se
  have b_f_se := F_f_se.binds (ps := ["self", "other"]) fun _ _ _ _ _ _ us hl => match us, hl with | [_, _], _ => rfl
  have F_f_ss := fun_mk (st := sSStr) l_f_ss c_f_ss k_f_ss
  have b_f_ss := F_f_ss.binds (ps := ["self"]) fun _ _ _ _ _ _ us hl => match us, hl with | [_], _ => rfl
  have TA : Blt mg := ⟨PySem.W.mg_none_of X G z_len, PySem.W.mg_none_of X G z_abs, PySem.W.mg_none_of X G z_int⟩
  have TB : BltB mg := ⟨PySem.W.mg_none_of X G z_isinstance, PySem.W.mg_none_of X G z_int, PySem.W.mg_none_of X G z_bool⟩
  have TE : BltE mg := ⟨PySem.W.mg_none_of X G z_isinstance, PySem.W.mg_none_of X G z_str⟩
  have TW : BltW mg := ⟨PySem.W.mg_none_of X G z_len, PySem.W.mg_none_of X G z_range, PySem.W.mg_none_of X G z_max, PySem.W.mg_none_of X G z_min, PySem.W.mg_none_of X G z_str, PySem.W.mg_none_of X G z_zip⟩
  have CLS : MvCls K ⟨BC, TC, RC, SC, SC⟩ MV := ⟨fun k hk => match k, hk with
    | 0, _ => ⟨cl_BC, ca_BC, mo_BC, kit_ref is_MV ty_MV sm_BC ss_BC⟩
    | 1, _ => ⟨cl_TC, ca_TC, mo_TC, kit_ref is_MV ty_MV sm_TC ss_TC⟩
    | 2, _ => ⟨cl_RC, ca_RC, mo_RC, kit_ref is_MV ty_MV sm_RC ss_RC⟩
    | 3, _ => ⟨cl_SC, ca_SC, mo_SC, kit_ref is_MV ty_MV sm_SC ss_SC⟩, xgn_CM, xtk_CM, fun k hk j hj => match k, hk with
    | 0, _ => match j, hj with | 0, _ => nf_same | 1, _ => nf_other su_TC_BC | 2, _ => nf_other su_RC_BC | 3, _ => nf_other su_SC_BC
    | 1, _ => match j, hj with | 0, _ => nf_other su_BC_TC | 1, _ => nf_same | 2, _ => nf_other su_RC_TC | 3, _ => nf_other su_SC_TC
    | 2, _ => match j, hj with | 0, _ => nf_other su_BC_RC | 1, _ => nf_other su_TC_RC | 2, _ => nf_same | 3, _ => nf_other su_SC_RC
    | 3, _ => match j, hj with | 0, _ => nf_other su_BC_SC | 1, _ => nf_other su_TC_SC | 2, _ => nf_other su_RC_SC | 3, _ => nf_same⟩
  have KD : KdCls K ⟨BC, TC, RC, SC, SC⟩ := ⟨fun k hk j hj => match k, hk with
    | 0, _ => match j, hj with | 0, _ => kit_ref ic_BC tc_BC ss_BC ss_BC | 1, _ => kit_ref ic_TC tc_TC su_BC_TC ss_BC | 2, _ => kit_ref ic_RC tc_RC su_BC_RC ss_BC | 3, _ => kit_ref ic_SC tc_SC su_BC_SC ss_BC
    | 1, _ => match j, hj with | 0, _ => kit_ref ic_BC tc_BC su_TC_BC ss_TC | 1, _ => kit_ref ic_TC tc_TC ss_TC ss_TC | 2, _ => kit_ref ic_RC tc_RC su_TC_RC ss_TC | 3, _ => kit_ref ic_SC tc_SC su_TC_SC ss_TC
    | 2, _ => match j, hj with | 0, _ => kit_ref ic_BC tc_BC su_RC_BC ss_RC | 1, _ => kit_ref ic_TC tc_TC su_RC_TC ss_RC | 2, _ => kit_ref ic_RC tc_RC ss_RC ss_RC | 3, _ => kit_ref ic_SC tc_SC su_RC_SC ss_RC
    | 3, _ => match j, hj with | 0, _ => kit_ref ic_BC tc_BC su_SC_BC ss_SC | 1, _ => kit_ref ic_TC tc_TC su_SC_TC ss_SC | 2, _ => kit_ref ic_RC tc_RC su_SC_RC ss_SC | 3, _ => kit_ref ic_SC tc_SC ss_SC ss_SC⟩
  have BH : ∀ k, k < 4 → Behind K (Cl.at ⟨BC, TC, RC, SC, SC⟩ k) := fun k hk => match k, hk with
    | 0, _ => ⟨bh_BC_str, bh_BC_NoneType, bh_BC_tuple⟩
    | 1, _ => ⟨bh_TC_str, bh_TC_NoneType, bh_TC_tuple⟩
    | 2, _ => ⟨bh_RC_str, bh_RC_NoneType, bh_RC_tuple⟩
    | 3, _ => ⟨bh_SC_str, bh_SC_NoneType, bh_SC_tuple⟩
  have NM : MvNot K MV := ⟨kit_base is_MV ty_MV mt_str, kit_base is_MV ty_MV mt_NoneType, kit_base is_MV ty_MV mt_tuple⟩
  have FT : FldTxt K ⟨BC, TC, RC, SC, SC⟩ := ⟨cl_BC, cl_TC, cl_RC, no_BC_amount, no_TC_amount, no_TC_at, no_RC_amount, no_RC_at⟩
  refine ⟨PySem.W.fnOf "law" "law" (defArgs sLaw) (defBody sLaw) (defScope sLaw) .none kV_f_law dc_f_law pm_f_law an_f_law cd_f_law ct_f_law, fun s v => .of_eq rfl, fun base _ _ => ?_⟩
  have cI : Cal l.prog w K mg base CX0 "is_integer" 1 ["value"] spInt := ⟨f_int, _, ok_isInt F_f_int TB, PySem.W.mg_of X G g_f_int, k_f_int, b_f_int⟩
  have cN : CalNum l.prog w K mg base := ⟨f_num, _, ok_isNum F_f_num cI, PySem.W.mg_of X G g_f_num, k_f_num, b_f_num⟩
  have cA : CalAmt l.prog w K mg base := ⟨f_amt, _, ok_isAmt F_f_amt cN, PySem.W.mg_of X G g_f_amt, k_f_amt, b_f_amt⟩
  have cC : Cal l.prog w K mg base CX0 "_law_choose" 1 ["_law_box", "_law_many"] spChoose := ⟨f_choose, _, ok_choose F_f_choose TA, PySem.W.mg_of X G g_f_choose, k_f_choose, b_f_choose⟩
  have cS : Cal l.prog w K mg base CX0 "_law_seed" 1 ["_law_script", "_law_k"] (spSeed K) := ⟨f_seed, _, ok_seed F_f_seed TA, PySem.W.mg_of X G g_f_seed, k_f_seed, b_f_seed⟩
  have im : ImTxt l.prog w K mg base CM := ⟨PySem.W.mg_of X G g_CM, ox_CM, no_CM_word, f_im, _, ok_imInit F_f_im ox_CM no_CM_word, a_f_im, tf_im, b_f_im⟩
  have GB := ok_bInit (P := l.prog) (w := w) (mg := mg) (base := base) F_f_bi cl_BC no_BC_amount cA im
  have GT := ok_tInit (P := l.prog) (w := w) (mg := mg) (base := base) F_f_ti cl_TC no_TC_at no_TC_amount cN cA im
  have GR := ok_rInit (P := l.prog) (w := w) (mg := mg) (base := base) F_f_ri cl_RC no_RC_at no_RC_amount cN cA im
  have mB : MkTxt l.prog w K mg base "Begin" ["self", "amount"] BC (spBegin BC CM) [] := ⟨PySem.W.mg_of X G g_BC, f_bi, _, GB, ⟨mk_BC, a_f_bi, i_f_bi, kc_BC⟩, b_f_bi, [], .nil, b_f_bi⟩
  have mT : MkTxt l.prog w K mg base "Take" ["self", "at", "amount"] TC (spTake TC CM) [.non] := ⟨PySem.W.mg_of X G g_TC, f_ti, _, GT, ⟨mk_TC, a_f_ti, i_f_ti, kc_TC⟩, b_f_ti, es_f_ti, ve_f_ti, cb_f_ti⟩
  have mR : MkTxt l.prog w K mg base "Right" ["self", "at", "amount"] RC (spRight RC CM) [] := ⟨PySem.W.mg_of X G g_RC, f_ri, _, GR, ⟨mk_RC, a_f_ri, i_f_ri, kc_RC⟩, b_f_ri, [], .nil, b_f_ri⟩
  have MT : MvTxt l.prog w K mg base ⟨BC, TC, RC, SC, SC⟩ CM := ⟨mB, mT, mR, ⟨mk_SC, oi_SC, kc_SC⟩, PySem.W.mg_of X G g_SC⟩
  have ST : StrTxt l.prog w K mg base ⟨BC, TC, RC, SC, SC⟩ := ⟨fun k hk => match k, hk with
    | 0, _ => ⟨f_bs, _, ms_b (c := ⟨BC, TC, RC, SC, SC⟩) (ok_bStr F_f_bs cl_BC no_BC_amount), a_f_bs, i_f_bs, b_f_bs⟩
    | 1, _ => ⟨f_ts, _, ms_t (c := ⟨BC, TC, RC, SC, SC⟩) (ok_tStr F_f_ts cl_TC no_TC_at no_TC_amount), a_f_ts, i_f_ts, b_f_ts⟩
    | 2, _ => ⟨f_rs, _, ms_r (c := ⟨BC, TC, RC, SC, SC⟩) (ok_rStr F_f_rs cl_RC no_RC_at no_RC_amount), a_f_rs, i_f_rs, b_f_rs⟩
    | 3, _ => ⟨f_ss, _, ok_sStr F_f_ss, a_f_ss, i_f_ss, b_f_ss⟩⟩
  have ET : EqTxt l.prog w K mg base ⟨BC, TC, RC, SC, SC⟩ := ⟨fun k hk => match k, hk with
    | 0, _ => ⟨f_be, _, ok_bEq F_f_be TE ST CLS (PySem.W.mg_of X G g_MV), ⟨a_f_be, i_f_be, ne_BC, ob_BC⟩, b_f_be⟩
    | 1, _ => ⟨f_te, _, ok_tEq F_f_te TE ST CLS (PySem.W.mg_of X G g_MV), ⟨a_f_te, i_f_te, ne_TC, ob_TC⟩, b_f_te⟩
    | 2, _ => ⟨f_re, _, ok_rEq' F_f_re TE ST CLS (PySem.W.mg_of X G g_MV), ⟨a_f_re, i_f_re, ne_RC, ob_RC⟩, b_f_re⟩
    | 3, _ => ⟨f_se, _, ok_sEq F_f_se TE ST CLS (PySem.W.mg_of X G g_MV), ⟨a_f_se, i_f_se, ne_SC, ob_SC⟩, b_f_se⟩⟩
  have NT : NeTxt l.prog w K mg base ⟨BC, TC, RC, SC, SC⟩ := ⟨fun k hk => match k, hk with
    | 0, _ => ⟨f_be, _, ok_bn F_f_be TE ST NM (PySem.W.mg_of X G g_MV), ⟨a_f_be, i_f_be, ne_BC, ob_BC⟩, b_f_be⟩
    | 1, _ => ⟨f_te, _, ok_tn F_f_te TE ST NM (PySem.W.mg_of X G g_MV), ⟨a_f_te, i_f_te, ne_TC, ob_TC⟩, b_f_te⟩
    | 2, _ => ⟨f_re, _, ok_rn F_f_re TE ST NM (PySem.W.mg_of X G g_MV), ⟨a_f_re, i_f_re, ne_RC, ob_RC⟩, b_f_re⟩
    | 3, _ => ⟨f_se, _, ok_sn F_f_se TE ST NM (PySem.W.mg_of X G g_MV), ⟨a_f_se, i_f_se, ne_SC, ob_SC⟩, b_f_se⟩⟩
  have cAM : Cal l.prog w K mg base CX0 "_law_any_move" 2 ["_law_box"] spAM := ⟨f_am, _, am_any (ok_anyMove F_f_am cC), PySem.W.mg_of X G g_f_am, k_f_am, b_f_am⟩
  have cMD : Cal l.prog w K mg base CX0 "_law_made" 6 ["_law_move"] (spMadeM ⟨BC, TC, RC, SC, SC⟩) := ⟨f_made, _, ok_madeM F_f_made MT, PySem.W.mg_of X G g_f_made, k_f_made, b_f_made⟩
  have cMT : Cal l.prog w K mg base CX0 "_law_move_text" 1 ["_law_move"] spText := ⟨f_mt, _, ok_mvText F_f_mt (PySem.W.mg_none_of X G z_str), PySem.W.mg_of X G g_f_mt, k_f_mt, b_f_mt⟩
  have cKD : Cal l.prog w K mg base CX0 "_law_kinds" 1 ["_law_one"] (spKinds ⟨BC, TC, RC, SC, SC⟩) := ⟨f_kd, _, ok_kinds F_f_kd ⟨PySem.W.mg_of X G g_BC, PySem.W.mg_of X G g_TC, PySem.W.mg_of X G g_RC, PySem.W.mg_of X G g_SC, PySem.W.mg_of X G g_MV, PySem.W.mg_none_of X G z_isinstance⟩ CLS KD, PySem.W.mg_of X G g_f_kd, k_f_kd, b_f_kd⟩
  exact ok_law F_f_law TW MT CLS ET ST NT BH FT cS cAM cMD cMT cKD ⟨f_kp, _, ok_keeps F_f_kp FT (PySem.W.mg_none_of X G z_repr), PySem.W.mg_of X G g_f_kp, k_f_kp, b_f_kp⟩
theorem walk {l : PySem.W.OpenLaw} {q : Program} {loose : List Str} {XP : (Str → Option Value) → Heap → Prop} {YP : World → Heap → Prop} {d : DefRec} {K : Params → PySem.W.Frag} (hn : l.most = some 63) (hdf : d.params.defaults = [])
    (hY : ∀ (w : World) (h : Heap), YP w h → (K w.params).In h)
    (F : ∀ (w : World) (mg : Str → Option Value) (fa : Addr) (h : Heap), (K w.params).In h → h.Ns mainGlobals mg → mg d.name = some (.ref fa) →
      ∃ fd : FuncData, (∀ (s : Shared) (u : Value), BindsTo s fd ⟨[u], []⟩ [("_law_script", u)]) ∧ ∀ base : Heap, (K w.params).In base → base.Ns mainGlobals mg → FnG l.prog w (K w.params) mg base CX0 8 fa fd ["_law_script"] (spLaw (K w.params))) :
    PySem.W.WalkO q loose XP YP l.row.toRowW d [] (fun f vs => PySem.call f vs) :=
  walk_ofG (n := 63) (k := 8) (x := "_law_script") (sp := fun w => spLaw (K w.params)) hn (by decide) hdf ⟨rfl, by decide, by decide⟩ hY F (fun _ _ a ns hl _ hS => ⟨a, ns, rfl, hS, hl, fun _ => rfl⟩)
end V3

open PySem PySem.W PyProof.Rows in
set_option maxRecDepth 100000 in
set_option maxHeartbeats 0 in
theorem PySem.Challenge.cw_contrabooks_k02_moves_made_holds : PySem.Challenge.rw_contrabooks_k02_moves_made.Holds := by
  w_on; o_law; k_head; (case hw => w_witness2)
  k_fill
  refine V3.walk (l := PySem.Challenge.rw_contrabooks_k02_moves_made) rfl rfl (fun w h Y => PySem.W.kIn_of Y) ?F
  case F =>
    intro w mg fa h KX G hmg
    refine' V3.all_mk KX G hmg ?g_f_int ?l_f_int ?c_f_int ?k_f_int ?g_f_num ?l_f_num ?c_f_num ?k_f_num ?g_f_amt ?l_f_amt ?c_f_amt ?k_f_amt ?g_f_seed ?l_f_seed ?c_f_seed ?k_f_seed ?g_f_choose ?l_f_choose ?c_f_choose ?k_f_choose ?g_f_am ?l_f_am ?c_f_am ?k_f_am ?g_f_made ?l_f_made ?c_f_made ?k_f_made ?g_f_mt ?l_f_mt ?c_f_mt ?k_f_mt ?g_f_kd ?l_f_kd ?c_f_kd ?k_f_kd ?g_f_kp ?l_f_kp ?c_f_kp ?k_f_kp ?g_f_law ?l_f_law ?c_f_law ?k_f_law ?g_CM ?g_MV ?g_BC ?g_TC ?g_RC ?g_SC ?x_CM ?xb_CM ?xsa_CM ?xga_CM ?xgg_CM ?xex_CM ?xty_CM ?xkc_CM ?xhd_CM ?xis_CM ?xca_CM ?xgn_CM ?xtk_CM ?xmo_CM ?xss_CM ?no_CM_word ?a_f_im ?tf_im ?l_f_im ?c_f_im ?k_f_im ?is_MV ?ty_MV ?pg_BC ?hd_BC ?po_BC ?sa_BC ?mk_BC ?kc_BC ?ca_BC ?mo_BC ?ss_BC ?ne_BC ?ob_BC ?pg_TC ?hd_TC ?po_TC ?sa_TC ?mk_TC ?kc_TC ?ca_TC ?mo_TC ?ss_TC ?ne_TC ?ob_TC ?pg_RC ?hd_RC ?po_RC ?sa_RC ?mk_RC ?kc_RC ?ca_RC ?mo_RC ?ss_RC ?ne_RC ?ob_RC ?pg_SC ?hd_SC ?po_SC ?sa_SC ?mk_SC ?kc_SC ?ca_SC ?mo_SC ?ss_SC ?ne_SC ?ob_SC ?sm_BC ?su_TC_BC ?su_RC_BC ?su_SC_BC ?sm_TC ?su_BC_TC ?su_RC_TC ?su_SC_TC ?sm_RC ?su_BC_RC ?su_TC_RC ?su_SC_RC ?sm_SC ?su_BC_SC ?su_TC_SC ?su_RC_SC ?no_BC_amount ?no_TC_at ?no_TC_amount ?no_RC_at ?no_RC_amount ?a_f_bi ?i_f_bi ?l_f_bi ?c_f_bi ?k_f_bi ?a_f_ti ?i_f_ti ?l_f_ti ?c_f_ti ?k_f_ti ?t_f_ti ?a_f_ri ?i_f_ri ?l_f_ri ?c_f_ri ?k_f_ri ?a_f_be ?i_f_be ?l_f_be ?c_f_be ?k_f_be ?a_f_bs ?i_f_bs ?l_f_bs ?c_f_bs ?k_f_bs ?a_f_te ?i_f_te ?l_f_te ?c_f_te ?k_f_te ?a_f_ts ?i_f_ts ?l_f_ts ?c_f_ts ?k_f_ts ?a_f_re ?i_f_re ?l_f_re ?c_f_re ?k_f_re ?a_f_rs ?i_f_rs ?l_f_rs ?c_f_rs ?k_f_rs ?a_f_se ?i_f_se ?l_f_se ?c_f_se ?k_f_se ?a_f_ss ?i_f_ss ?l_f_ss ?c_f_ss ?k_f_ss ?oi_SC ?bh_BC_str ?bh_BC_NoneType ?bh_BC_tuple ?bh_TC_str ?bh_TC_NoneType ?bh_TC_tuple ?bh_RC_str ?bh_RC_NoneType ?bh_RC_tuple ?bh_SC_str ?bh_SC_NoneType ?bh_SC_tuple ?mt_str ?mt_NoneType ?mt_tuple ?ic_BC ?tc_BC ?ic_TC ?tc_TC ?ic_RC ?tc_RC ?ic_SC ?tc_SC ?z_len ?z_abs ?z_int ?z_isinstance ?z_bool ?z_range ?z_max ?z_min ?z_str ?z_zip ?z_repr
    (case g_f_int => k_is)
    (case l_f_int => k_is)
    (case c_f_int => k_is)
    (case k_f_int => k_is)
    (case g_f_num => k_is)
    (case l_f_num => k_is)
    (case c_f_num => k_is)
    (case k_f_num => k_is)
    (case g_f_amt => k_is)
    (case l_f_amt => k_is)
    (case c_f_amt => k_is)
    (case k_f_amt => k_is)
    (case g_f_seed => k_is)
    (case l_f_seed => k_is)
    (case c_f_seed => k_is)
    (case k_f_seed => k_is)
    (case g_f_choose => k_is)
    (case l_f_choose => k_is)
    (case c_f_choose => k_is)
    (case k_f_choose => k_is)
    (case g_f_am => k_is)
    (case l_f_am => k_is)
    (case c_f_am => k_is)
    (case k_f_am => k_is)
    (case g_f_made => k_is)
    (case l_f_made => k_is)
    (case c_f_made => k_is)
    (case k_f_made => k_is)
    (case g_f_mt => k_is)
    (case l_f_mt => k_is)
    (case c_f_mt => k_is)
    (case k_f_mt => k_is)
    (case g_f_kd => k_is)
    (case l_f_kd => k_is)
    (case c_f_kd => k_is)
    (case k_f_kd => k_is)
    (case g_f_kp => k_is)
    (case l_f_kp => k_is)
    (case c_f_kp => k_is)
    (case k_f_kp => k_is)
    (case g_f_law => k_is)
    (case l_f_law => k_is)
    (case c_f_law => k_is)
    (case k_f_law => k_is)
    (case g_CM => k_is)
    (case g_MV => k_is)
    (case g_BC => k_is)
    (case g_TC => k_is)
    (case g_RC => k_is)
    (case g_SC => k_is)
    (case x_CM => k_is)
    (case xb_CM => decide +kernel)
    (case xsa_CM => k_is)
    (case xga_CM => k_is)
    (case xgg_CM => k_is)
    (case xex_CM => k_is)
    (case xty_CM => k_is)
    (case xkc_CM => k_is)
    (case xhd_CM => k_is)
    (case xis_CM => k_is)
    (case xca_CM => k_is)
    (case xgn_CM => k_is)
    (case xtk_CM => k_is)
    (case xmo_CM => k_is)
    (case xss_CM => first | rfl | k_is)
    (case no_CM_word => k_is)
    (case a_f_im => k_is)
    (case tf_im => k_is)
    (case l_f_im => k_is)
    (case c_f_im => k_is)
    (case k_f_im => k_is)
    (case is_MV => k_is)
    (case ty_MV => k_is)
    (case pg_BC => k_is)
    (case hd_BC => k_is)
    (case po_BC => k_is)
    (case sa_BC => k_is)
    (case mk_BC => k_is)
    (case kc_BC => k_is)
    (case ca_BC => k_is)
    (case mo_BC => k_is)
    (case ss_BC => first | rfl | k_is)
    (case ne_BC => k_is)
    (case ob_BC => k_is)
    (case pg_TC => k_is)
    (case hd_TC => k_is)
    (case po_TC => k_is)
    (case sa_TC => k_is)
    (case mk_TC => k_is)
    (case kc_TC => k_is)
    (case ca_TC => k_is)
    (case mo_TC => k_is)
    (case ss_TC => first | rfl | k_is)
    (case ne_TC => k_is)
    (case ob_TC => k_is)
    (case pg_RC => k_is)
    (case hd_RC => k_is)
    (case po_RC => k_is)
    (case sa_RC => k_is)
    (case mk_RC => k_is)
    (case kc_RC => k_is)
    (case ca_RC => k_is)
    (case mo_RC => k_is)
    (case ss_RC => first | rfl | k_is)
    (case ne_RC => k_is)
    (case ob_RC => k_is)
    (case pg_SC => k_is)
    (case hd_SC => k_is)
    (case po_SC => k_is)
    (case sa_SC => k_is)
    (case mk_SC => k_is)
    (case kc_SC => k_is)
    (case ca_SC => k_is)
    (case mo_SC => k_is)
    (case ss_SC => first | rfl | k_is)
    (case ne_SC => k_is)
    (case ob_SC => k_is)
    (case sm_BC => k_is)
    (case su_TC_BC => k_is)
    (case su_RC_BC => k_is)
    (case su_SC_BC => k_is)
    (case sm_TC => k_is)
    (case su_BC_TC => k_is)
    (case su_RC_TC => k_is)
    (case su_SC_TC => k_is)
    (case sm_RC => k_is)
    (case su_BC_RC => k_is)
    (case su_TC_RC => k_is)
    (case su_SC_RC => k_is)
    (case sm_SC => k_is)
    (case su_BC_SC => k_is)
    (case su_TC_SC => k_is)
    (case su_RC_SC => k_is)
    (case no_BC_amount => k_is)
    (case no_TC_at => k_is)
    (case no_TC_amount => k_is)
    (case no_RC_at => k_is)
    (case no_RC_amount => k_is)
    (case a_f_bi => k_is)
    (case i_f_bi => k_is)
    (case l_f_bi => k_is)
    (case c_f_bi => k_is)
    (case k_f_bi => k_is)
    (case a_f_ti => k_is)
    (case i_f_ti => k_is)
    (case l_f_ti => k_is)
    (case c_f_ti => k_is)
    (case k_f_ti => k_is)
    (case t_f_ti => k_is)
    (case a_f_ri => k_is)
    (case i_f_ri => k_is)
    (case l_f_ri => k_is)
    (case c_f_ri => k_is)
    (case k_f_ri => k_is)
    (case a_f_be => k_is)
    (case i_f_be => k_is)
    (case l_f_be => k_is)
    (case c_f_be => k_is)
    (case k_f_be => k_is)
    (case a_f_bs => k_is)
    (case i_f_bs => k_is)
    (case l_f_bs => k_is)
    (case c_f_bs => k_is)
    (case k_f_bs => k_is)
    (case a_f_te => k_is)
    (case i_f_te => k_is)
    (case l_f_te => k_is)
    (case c_f_te => k_is)
    (case k_f_te => k_is)
    (case a_f_ts => k_is)
    (case i_f_ts => k_is)
    (case l_f_ts => k_is)
    (case c_f_ts => k_is)
    (case k_f_ts => k_is)
    (case a_f_re => k_is)
    (case i_f_re => k_is)
    (case l_f_re => k_is)
    (case c_f_re => k_is)
    (case k_f_re => k_is)
    (case a_f_rs => k_is)
    (case i_f_rs => k_is)
    (case l_f_rs => k_is)
    (case c_f_rs => k_is)
    (case k_f_rs => k_is)
    (case a_f_se => k_is)
    (case i_f_se => k_is)
    (case l_f_se => k_is)
    (case c_f_se => k_is)
    (case k_f_se => k_is)
    (case a_f_ss => k_is)
    (case i_f_ss => k_is)
    (case l_f_ss => k_is)
    (case c_f_ss => k_is)
    (case k_f_ss => k_is)
    (case oi_SC => k_is)
    (case bh_BC_str => k_is)
    (case bh_BC_NoneType => k_is)
    (case bh_BC_tuple => k_is)
    (case bh_TC_str => k_is)
    (case bh_TC_NoneType => k_is)
    (case bh_TC_tuple => k_is)
    (case bh_RC_str => k_is)
    (case bh_RC_NoneType => k_is)
    (case bh_RC_tuple => k_is)
    (case bh_SC_str => k_is)
    (case bh_SC_NoneType => k_is)
    (case bh_SC_tuple => k_is)
    (case mt_str => k_is)
    (case mt_NoneType => k_is)
    (case mt_tuple => k_is)
    (case ic_BC => k_is)
    (case tc_BC => k_is)
    (case ic_TC => k_is)
    (case tc_TC => k_is)
    (case ic_RC => k_is)
    (case tc_RC => k_is)
    (case ic_SC => k_is)
    (case tc_SC => k_is)
    (case z_len => k_is)
    (case z_abs => k_is)
    (case z_int => k_is)
    (case z_isinstance => k_is)
    (case z_bool => k_is)
    (case z_range => k_is)
    (case z_max => k_is)
    (case z_min => k_is)
    (case z_str => k_is)
    (case z_zip => k_is)
    (case z_repr => k_is)
#print axioms PySem.Challenge.cw_contrabooks_k02_moves_made_holds
