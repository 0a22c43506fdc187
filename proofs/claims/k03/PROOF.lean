import PyProof.Rows.All
import Wide.All
import OpenK.AllK
import Wide.FinOn
import HandS.Base
import HandS.ForMost
import HandS.ForExc
import HandS.Gcd
import HandS.Wide
import HandS.WideBits
import HandS.OwnEq
import HandS.IsInst
import HandS.Evl
import HandS.Defaults
import KE.KOpsOwn
import HandS.HeadHook1
import HandS.HeadHook2
import HandS.HeadHook3
import HandS.HeadHook4
import HandS.Head0
import HandS.Head1
import HandS.Head2
import HandS.Head3
import HandS.HeadEnd
import PySem.Challenge.RW_plumbnet_k03_order_of_fractions
set_option Elab.async false
set_option linter.all false
set_option maxRecDepth 100000
set_option maxHeartbeats 0
set_option exponentiation.threshold 10000
namespace Pn
open L2
theorem decV {i j : Int} : decide (V.int i = V.int j) = decide (i = j) := decide_eq_decide.mpr ⟨fun h => V.int.inj h, fun h => congrArg V.int h⟩
theorem k03_eq (p q : Rat) : decide (p = q) = decide (V.int (p.num * (q.den : Int)) = V.int (q.num * (p.den : Int))) := by
  rw [decV]
  exact decide_eq_decide.mpr Rat.eq_iff_mul_eq_mul
theorem k03_ne (p q : Rat) : (!decide (p = q)) = !decide (V.int (p.num * (q.den : Int)) = V.int (q.num * (p.den : Int))) := by rw [k03_eq]
end Pn

namespace Pn
open PySem L2 Evl

/-- an own operator on two instances of the class at C -/
def rOwn (C : Addr) (sp : Sp) (E : XK) : R2 := fun x y H Q => ∃ a b dx dy fs gs, x = .ref a ∧ y = .ref b ∧ H a = some (.ins C dx fs) ∧ H b = some (.ins C dy gs) ∧ sp [x, y] H Q E
/-- an own operator on one instance -/
def rOwn1 (C : Addr) (sp : Sp) (E : XK) : V → Hp → VK → Prop := fun x H Q => ∃ a dx fs, x = .ref a ∧ H a = some (.ins C dx fs) ∧ sp [x] H Q E
theorem not_ni {x : V} {v : Value} (r : RelV x v) : v ≠ .notImplemented := by
  intro e
  subst e
  cases x with
  | non => exact nomatch (show Value.notImplemented = Value.none from r)
  | bl b => exact nomatch (show Value.notImplemented = Value.bool b from r)
  | int i => obtain ⟨t, q⟩ := r; cases q
  | str i => obtain ⟨t, q⟩ := r; cases q
  | byt i => obtain ⟨t, q⟩ := r; cases q
  | flt i => obtain ⟨t, q⟩ := r; cases q
  | ref a => exact nomatch (show Value.notImplemented = Value.ref a from r)
  | ty n => exact nomatch (show Value.notImplemented = Value.type n from r)
theorem cmpBack_of {Q : Value → Shared → Prop} {v : Value} {s : Shared} (h : Q v s) (n : v ≠ .notImplemented) : PySem.W.CmpBack Q v s := by
  cases v <;> first | exact h | exact absurd rfl n
section
variable {X : Cx} {CX : CXT} {k : Nat} {f C : Addr} {fd : FuncData} {ps : List Str} {sp : Sp} {E : XK}
theorem op_own {op : Operator} (F : FnOk X.prog X.w X.K X.mg X.base CX k f fd ps sp) (hr : Room k X.A) (hc : PySem.W.selfFirst X.K C = true) (hs : PySem.W.findIn X.K (.ref C) (PySem.dunder op.info.2) = some (some (.ref f)))
    (hf : PySem.W.isFn X.K (.ref f) = true) (hb : Binds X.K fd ps []) (hx : Passes CX X E) : OpR X (binaryOp op) (rOwn C sp E) := by
  intro pins s σ H x y v u Q I rx ry h
  obtain ⟨a, b, dx, dy, fs, gs, rfl, rfl, ha, hb', q⟩ := h
  cases rx
  cases ry
  obtain ⟨mA, J, _⟩ := ins_get I.hok ha
  obtain ⟨mB, J', _⟩ := ins_get I.hok hb'
  obtain ⟨od, J, _⟩ := J.look
  obtain ⟨od', J', _⟩ := J'.look
  obtain ⟨m, hF⟩ := I.fr
  refine PySem.W.binop_K hF I.ok.mod.kin J J'.type hc hs hf ?_
  exact thn (run_fn (us := [.ref a, .ref b]) (vs := [.ref a, .ref b]) F hr hb .nil hx I (.cons rfl (.cons rfl .nil)) q) fun v s' z => by
    obtain ⟨y, H', I', r, q'⟩ := z
    exact cmpBack_of ⟨y, H', I', r, q'⟩ (not_ni r)
theorem op_ownCmp {op : CmpOp} (F : FnOk X.prog X.w X.K X.mg X.base CX k f fd ps sp) (hr : Room k X.A) (hs : PySem.W.findIn X.K (.ref C) (cmpInfo op).2.1 = some (some (.ref f)))
    (hf : PySem.W.isFn X.K (.ref f) = true) (hb : Binds X.K fd ps []) (hx : Passes CX X E) : OpR X (richCompare op) (rOwn C sp E) := by
  intro pins s σ H x y v u Q I rx ry h
  obtain ⟨a, b, dx, dy, fs, gs, rfl, rfl, ha, hb', q⟩ := h
  cases rx
  cases ry
  obtain ⟨mA, J, _⟩ := ins_get I.hok ha
  obtain ⟨mB, J', _⟩ := ins_get I.hok hb'
  obtain ⟨od, J, _⟩ := J.look
  obtain ⟨od', J', _⟩ := J'.look
  obtain ⟨m, hF⟩ := I.fr
  refine PySem.W.cmp_K (op := op) (tb := .ref C) hr.units0 hF I.ok.mod.kin J J'.type (by simp [PySem.W.notFirst]) hs hf ?_
  exact thn (run_fn (us := [.ref a, .ref b]) (vs := [.ref a, .ref b]) F hr hb .nil hx I (.cons rfl (.cons rfl .nil)) q) fun v s' z => by
    obtain ⟨y, H', I', r, q'⟩ := z
    exact cmpBack_of ⟨y, H', I', r, q'⟩ (not_ni r)
theorem un_ownNeg (F : FnOk X.prog X.w X.K X.mg X.base CX k f fd ps sp) (hr : Room k X.A) (hs : PySem.W.findIn X.K (.ref C) "__neg__" = some (some (.ref f)))
    (hf : PySem.W.isFn X.K (.ref f) = true) (hb : Binds X.K fd ps []) (hx : Passes CX X E) : UnR X (unaryOp .USub) (rOwn1 C sp E) := by
  intro pins s σ H x v Q I rx h
  obtain ⟨a, dx, fs, rfl, ha, q⟩ := h
  cases rx
  obtain ⟨mA, J, _⟩ := ins_get I.hok ha
  obtain ⟨od, J, _⟩ := J.look
  obtain ⟨m, hF⟩ := I.fr
  refine PySem.W.ksp_neg hF I.ok.mod.kin J hs hf ?_
  exact run_fn (us := [.ref a]) (vs := [.ref a]) F hr hb .nil hx I (.cons rfl .nil) q
/-- // by any divisor but 0, below 2 ^ 9000 -/
def CDivX (_ j : Int) : Prop := j ≠ 0 ∧ j.natAbs.log2 < 9000
theorem op_fdivX : OpR X (binaryOp .FloorDiv) (rI CDivX fun i j => .int (i.fdiv j)) := opI fun i j _ _ _ _ _ hc q =>
  PyProof.Rows.floordiv_int hc.1 q (.inl (PyProof.noPylong_of_log2 hc.2))
end
end Pn

namespace Pn
open PySem L2 Evl
section
variable {X : Cx} {CX : CXT} {k : Nat} {f C : Addr} {fd : FuncData} {ps : List Str} {sp : Sp} {E : XK}
/-- the callee runs somewhere below the running body -/
theorem run_fnA {A : Around} {pins : List (Addr × Obj)} {σ : St} {H : Hp} {s : Shared} {Q : VK} {us : List Value} {vs : List V} (F : FnOk X.prog X.w X.K X.mg X.base CX k f fd ps sp) (hr : Room k A) (hA : A.frames = X.A.frames) (hb : Binds X.K fd ps [])
    (hx : Passes CX X E) (I : Inv X pins σ H s) (r : Vals vs us) (h : sp vs H Q E) : wpAny (model X.prog X.w) A (call (.ref f) us) (EP X pins σ Q) X.xe s := by
  have e0 : Env0 X.prog X.w X.K X.mg X.base A X.stack s H := by
    have e := I.env0
    exact ⟨by rw [hA]; exact e.frames, e.mod, e.bs, e.bsz, e.funs, e.frf, e.hok, e.bare⟩
  have hl := F.len _ _ _ _ h
  have hb2 := hb s us I.kIn (by rw [List.append_nil, ← r.length]; exact hl)
  rw [List.append_nil] at hb2
  refine wpAny_call (codeAny_mono (F.run A X.stack s H ⟨us, []⟩ us vs Q E hr e0 hb2 r h) fun r' s' hq => ?_)
  cases r' with
  | error e => exact hx pins σ H s e s' I hq
  | ok fl =>
    cases fl with
    | ret u => exact I.after hq
    | next => exact False.elim hq
    | brk => exact False.elim hq
    | cont => exact False.elim hq
/-- abs of an instance with its own __abs__ -/
theorem cr_absOwn (F : FnOk X.prog X.w X.K X.mg X.base CX k f fd ps sp) (hr : Room (k + 1) X.A) (hs : PySem.W.findIn X.K (.ref C) "__abs__" = some (some (.ref f)))
    (hf : PySem.W.isFn X.K (.ref f) = true) (hb : Binds X.K fd ps []) (hx : Passes CX X E) : CallR X (.builtin "abs") (fun vs H Q => ∃ x, vs = [x] ∧ rOwn1 C sp E x H Q) := by
  intro pins s σ H xs us Q I rx h
  obtain ⟨x, rfl, a, dx, fs, rfl, ha, q⟩ := h
  cases rx with
  | cons r1 r2 =>
  cases r2
  cases r1
  obtain ⟨mA, J, _⟩ := ins_get I.hok ha
  obtain ⟨od, J, _⟩ := J.look
  refine PySem.Calls.call_function_entry PyProof.Rows.kind_abs PyProof.Rows.plain_abs PyProof.Rows.entry_abs (PyProof.Rows.args_abs _) ?_
  unfold Builtin.«abs»
  refine wpAny_bind (m := oneArg "abs" _) (wpAny_pure ?_)
  refine wpAny_bind (m := callSpecial? (.ref a) (Str.ofString "__abs__")) (PySem.W.special_fn I.kIn J hs (beq_iff_eq.mp hf) ?_)
  refine thn (run_fnA (A := X.A.in1) (us := [.ref a]) (vs := [.ref a]) F hr.in1 rfl hb hx I (.cons rfl .nil) q) fun v s' z => ?_
  exact wpAny_pure ⟨_, rfl, z⟩
end
end Pn

namespace Pn
open PySem L2 Evl
/-- a def that keeps a promise, ready to be called with all its parameters -/
structure FnG (P : Program) (w : World) (K : PySem.W.Frag) (mg : Str → Option Value) (base : Heap) (k : Nat) (f : Addr) (ps : List Str) (sp : Sp) : Prop where
  ex : ∃ fd, FnOk P w K mg base CX0 k f fd ps sp ∧ Binds K fd ps []
  kp : PySem.W.keepIn K (.ref f) = true
/-- the same with one default left out -/
structure FnD1 (P : Program) (w : World) (K : PySem.W.Frag) (mg : Str → Option Value) (base : Heap) (k : Nat) (f : Addr) (ps : List Str) (dvs : List V) (sp : Sp) : Prop where
  ex : ∃ fd ds, FnOk P w K mg base CX0 k f fd ps sp ∧ Vals dvs ds ∧ Binds K fd ps ds
  kp : PySem.W.keepIn K (.ref f) = true
section
variable {X : Cx} {k : Nat} {f C : Addr} {ps : List Str} {sp : Sp} {x m : Str} {p pos apos : Pos} {e o : Expr} {es : List Expr} {ta : TE} {t : TA} {dvs : List V}
theorem pe_callF (F : FnG X.prog X.w X.K X.mg X.base k f ps sp) (hr : Room k X.A) (hm : X.mg x = some (.ref f)) (ha : PA X (e :: es) t) (hg : Gl X x := by rfl)
    (hdb : (x == ("__debug__" : Str)) = false := by decide) (he : starEach (e :: es) X.env = (false, eval e X.env) :: starEach es X.env := by rfl) (hpl : (backTo pos (starEach es X.env)).any (·.1) = false := by rfl) :
    PE X (.Call (.Name x p) (e :: es) [] pos) (tCall sp [] E0 t) := by
  obtain ⟨fd, F1, b⟩ := F.ex
  exact pe_call F1 hr hg hm F.kp b .nil pass0 ha hdb he hpl
theorem pe_makeF (M : Mk X.K C f) (F : FnG X.prog X.w X.K X.mg X.base k f ps sp) (hr : Room (k + 1) X.A) (hm : X.mg x = some (.ref C)) (ha : PA X (e :: es) t) (hg : Gl X x := by rfl)
    (hdb : (x == ("__debug__" : Str)) = false := by decide) (he : starEach (e :: es) X.env = (false, eval e X.env) :: starEach es X.env := by rfl) (hpl : (backTo pos (starEach es X.env)).any (·.1) = false := by rfl) :
    PE X (.Call (.Name x p) (e :: es) [] pos) (tMake C sp [] E0 t) := by
  obtain ⟨fd, F1, b⟩ := F.ex
  exact pe_make M F1 hr hg hm b .nil pass0 ha hdb he hpl
theorem pe_makeD (M : Mk X.K C f) (F : FnD1 X.prog X.w X.K X.mg X.base k f ps dvs sp) (hr : Room (k + 1) X.A) (hm : X.mg x = some (.ref C)) (ha : PA X (e :: es) t) (hg : Gl X x := by rfl)
    (hdb : (x == ("__debug__" : Str)) = false := by decide) (he : starEach (e :: es) X.env = (false, eval e X.env) :: starEach es X.env := by rfl) (hpl : (backTo pos (starEach es X.env)).any (·.1) = false := by rfl) :
    PE X (.Call (.Name x p) (e :: es) [] pos) (tMake C sp dvs E0 t) := by
  obtain ⟨fd, ds, F1, v, b⟩ := F.ex
  exact pe_make M F1 hr hg hm b v pass0 ha hdb he hpl
theorem pe_methF {pl : Sem Bool} (he : PE X o ta) (c : Cls X.K C) (hm : Meth X.K C m f) (F : FnG X.prog X.w X.K X.mg X.base k f ps sp) (hr : Room k X.A) (ha : PA X (e :: es) t)
    (hst : starEach (e :: es) X.env = (false, eval e X.env) :: starEach es X.env := by rfl) (hpl : (backTo pos (starEach es X.env)).any (·.1) = false := by rfl)
    (ht : eval (.Call (.Attribute o m apos) (e :: es) [] pos) X.env = (do
      let ov ← eval o X.env
      standAt apos.atName
      let (f, first) ← holding [ov] (getMethod ov m pl)
      callWith pos f first (backTo pos (starEach (e :: es) X.env)) (backToKw pos (keywordEach [] X.env))) := by rfl) :
    PE X (.Call (.Attribute o m apos) (e :: es) [] pos) (tMeth C m sp [] E0 ta t) := by
  obtain ⟨fd, F1, b⟩ := F.ex
  exact pe_meth he c hm F1 hr b .nil pass0 ha hst hpl ht
theorem op_ownF {op : Operator} (F : FnG X.prog X.w X.K X.mg X.base k f ps sp) (hr : Room k X.A) (hc : PySem.W.selfFirst X.K C = true) (hs : Meth X.K C (PySem.dunder op.info.2) f) : OpR X (binaryOp op) (rOwn C sp E0) := by
  obtain ⟨fd, F1, b⟩ := F.ex
  exact op_own F1 hr hc hs.at_ hs.fn b pass0
theorem op_cmpF {op : CmpOp} (F : FnG X.prog X.w X.K X.mg X.base k f ps sp) (hr : Room k X.A) (hs : Meth X.K C (cmpInfo op).2.1 f) : OpR X (richCompare op) (rOwn C sp E0) := by
  obtain ⟨fd, F1, b⟩ := F.ex
  exact op_ownCmp F1 hr hs.at_ hs.fn b pass0
theorem un_negF (F : FnG X.prog X.w X.K X.mg X.base k f ps sp) (hr : Room k X.A) (hs : Meth X.K C "__neg__" f) : UnR X (unaryOp .USub) (rOwn1 C sp E0) := by
  obtain ⟨fd, F1, b⟩ := F.ex
  exact un_ownNeg F1 hr hs.at_ hs.fn b pass0
def rAbsOwn (C : Addr) (sp : Sp) : List V → Hp → VK → Prop := fun vs H Q => ∃ x, vs = [x] ∧ rOwn1 C sp E0 x H Q
theorem cr_absF (F : FnG X.prog X.w X.K X.mg X.base k f ps sp) (hr : Room (k + 1) X.A) (hs : Meth X.K C "__abs__" f) : CallR X (.builtin "abs") (rAbsOwn C sp) := by
  obtain ⟨fd, F1, b⟩ := F.ex
  exact cr_absOwn F1 hr hs.at_ hs.fn b pass0
end
section
variable {K : PySem.W.Frag} {fa : List He.Fa} {fn : List He.DefD} {mg : Str → Option Value}
/-- what the head tells -/
structure Tx (fa : List He.Fa) (fn : List He.DefD) (ex : PySem.W.Frag → Bool) (K : PySem.W.Frag) (mg : Str → Option Value) : Prop where
  c : He.SaysD fa fn K
  e : ex K = true
  h : ∃ h : Heap, K.In h ∧ h.Ns mainGlobals mg
variable {ex : PySem.W.Frag → Bool}
theorem Tx.free (T : Tx fa fn ex K mg) (i : Nat) {x : Str} (hi : fa[i]? = some (.free x)) : mg x = none := by
  obtain ⟨h, X, G⟩ := T.h
  exact He.free_ok X G (T.c.fact i hi)
theorem Tx.glo (T : Tx fa fn ex K mg) (i : Nat) {x : Str} (hi : fa[i]? = some (.glo x)) : mg x = some (.ref (He.ga K x)) := by
  obtain ⟨h, X, G⟩ := T.h
  exact He.glo_ok X G (T.c.fact i hi)
theorem Tx.int (T : Tx fa fn ex K mg) (i : Nat) {x : Str} {n : Int} (hi : fa[i]? = some (.int x n)) : ∃ t, mg x = some (.int n t) := by
  obtain ⟨h, X, G⟩ := T.h
  exact He.int_ok X G (T.c.fact i hi)
theorem Tx.cls (T : Tx fa fn ex K mg) (i : Nat) {x : Str} (hi : fa[i]? = some (.cls x)) : Cls K (He.ga K x) := He.cls_ok (T.c.fact i hi)
theorem Tx.noat (T : Tx fa fn ex K mg) (i : Nat) {x f : Str} (hi : fa[i]? = some (.noat x f)) : NoAttr K (He.ga K x) f := He.noat_ok (T.c.fact i hi)
theorem Tx.meth (T : Tx fa fn ex K mg) (i : Nat) {x f : Str} (hi : fa[i]? = some (.meth x f)) : Meth K (He.ga K x) f (He.ma K (He.ga K x) f) := He.meth_ok (T.c.fact i hi)
theorem Tx.mkr (T : Tx fa fn ex K mg) (i : Nat) {x : Str} (hi : fa[i]? = some (.mkr x)) : Mk K (He.ga K x) (He.ma K (He.ga K x) "__init__") := He.mkr_ok (T.c.fact i hi)
end
end Pn
namespace Pn
open PySem L2 Evl
/-- what isinstance asks of the class at C -/
structure Ri (K : PySem.W.Frag) (C : Addr) : Prop where
  cl : Cls K C
  ha : PySem.W.findIn K (.ref C) "__class__" = some (some (.builtin "object.__class__"))
  hn : PySem.W.specialIn K (.builtin "object.__class__") "__get__" = some (some (.builtin "getset_descriptor.__get__"))
  htk : PySem.W.takesIn K (.builtin "object.__class__") = some true
  hm : PySem.W.mroIn K C (.type "object") = some true
  me : PySem.W.kitOne K (.ref C) (.ref C) = some true
  ki : PySem.W.kitOne K (.type "int") (.ref C) = some false
  ks : PySem.W.kitOne K (.type "str") (.ref C) = some false
  kn : PySem.W.kitOne K (.type "NoneType") (.ref C) = some false
  si : PySem.W.subIn K (.type "int") (.ref C) = some false
  ss : PySem.W.subIn K (.type "str") (.ref C) = some false
  sn : PySem.W.subIn K (.type "NoneType") (.ref C) = some false
def riB (K : PySem.W.Frag) (C : Addr) : Bool :=
  decide (PySem.W.findIn K (.ref C) "__class__" = some (some (.builtin "object.__class__"))) && (decide (PySem.W.specialIn K (.builtin "object.__class__") "__get__" = some (some (.builtin "getset_descriptor.__get__"))) &&
  (decide (PySem.W.takesIn K (.builtin "object.__class__") = some true) && (decide (PySem.W.mroIn K C (.type "object") = some true) && (decide (PySem.W.kitOne K (.ref C) (.ref C) = some true) &&
  (decide (PySem.W.kitOne K (.type "int") (.ref C) = some false) && (decide (PySem.W.kitOne K (.type "str") (.ref C) = some false) && (decide (PySem.W.kitOne K (.type "NoneType") (.ref C) = some false) &&
  (decide (PySem.W.subIn K (.type "int") (.ref C) = some false) && (decide (PySem.W.subIn K (.type "str") (.ref C) = some false) && decide (PySem.W.subIn K (.type "NoneType") (.ref C) = some false))))))))))
theorem ri_of {K : PySem.W.Frag} {C : Addr} (cl : Cls K C) (h : riB K C = true) : Ri K C := by
  obtain ⟨h1, h⟩ := He.ba h
  obtain ⟨h2, h⟩ := He.ba h
  obtain ⟨h3, h⟩ := He.ba h
  obtain ⟨h4, h⟩ := He.ba h
  obtain ⟨h5, h⟩ := He.ba h
  obtain ⟨h6, h⟩ := He.ba h
  obtain ⟨h7, h⟩ := He.ba h
  obtain ⟨h8, h⟩ := He.ba h
  obtain ⟨h9, h⟩ := He.ba h
  obtain ⟨h10, h11⟩ := He.ba h
  exact ⟨cl, of_decide_eq_true h1, of_decide_eq_true h2, of_decide_eq_true h3, of_decide_eq_true h4, of_decide_eq_true h5, of_decide_eq_true h6, of_decide_eq_true h7, of_decide_eq_true h8, of_decide_eq_true h9, of_decide_eq_true h10, of_decide_eq_true h11⟩
theorem Ri.ty {K : PySem.W.Frag} {C : Addr} (r : Ri K C) {H : Hp} {a dx : Addr} {fs : List (Str × V)} (h : H a = some (.ins C dx fs)) : TyX K H (.ref a) (.ref C) :=
  .base (.ins h r.cl r.ha r.hn r.htk r.hm)
end Pn
namespace Pn
open PySem L2 Evl
/-- a number, a text, or None -/
inductive Scal : V → Prop where
  | int (i : Int) : Scal (.int i)
  | str (x : Str) : Scal (.str x)
  | non : Scal .non
/-- an own comparison of an instance with such a value -/
def rOwnS (C : Addr) (sp : Sp) : R2 := fun x y H Q => ∃ a dx fs, x = .ref a ∧ Scal y ∧ H a = some (.ins C dx fs) ∧ sp [x, y] H Q E0
section
variable {X : Cx} {k : Nat} {f C : Addr} {ps : List Str} {sp : Sp}
theorem op_cmpS {op : CmpOp} (r : Ri X.K C) (F : FnG X.prog X.w X.K X.mg X.base k f ps sp) (hr : Room k X.A) (hs : Meth X.K C (cmpInfo op).2.1 f) : OpR X (richCompare op) (rOwnS C sp) := by
  obtain ⟨fd, F1, b⟩ := F.ex
  intro pins s σ H x y v u Q I rx ry h
  obtain ⟨a, dx, fs, rfl, sy, ha, q⟩ := h
  cases rx
  obtain ⟨mA, J, _⟩ := ins_get I.hok ha
  obtain ⟨od, J, _⟩ := J.look
  obtain ⟨m, hF⟩ := I.fr
  have fin : wpAny (model X.prog X.w) X.A (call (.ref f) [.ref a, u]) (PySem.W.CmpBack (EP X pins σ Q)) X.xe s :=
    thn (run_fn (us := [.ref a, u]) (vs := [.ref a, y]) F1 hr b .nil pass0 I (.cons rfl (.cons ry .nil)) q) fun v s' z => by
      obtain ⟨y, H', I', r, q'⟩ := z
      exact cmpBack_of ⟨y, H', I', r, q'⟩ (not_ni r)
  cases sy with
  | int i =>
    obtain ⟨t, rfl⟩ := ry
    exact PySem.W.cmp_K (op := op) (tb := .type "int") hr.units0 hF I.ok.mod.kin J (PySem.W.Looks.of_pure rfl) (by simp [PySem.W.notFirst, r.si]) hs.at_ hs.fn fin
  | str i =>
    obtain ⟨t, rfl⟩ := ry
    exact PySem.W.cmp_K (op := op) (tb := .type "str") hr.units0 hF I.ok.mod.kin J (PySem.W.Looks.of_pure rfl) (by simp [PySem.W.notFirst, r.ss]) hs.at_ hs.fn fin
  | non =>
    cases ry
    exact PySem.W.cmp_K (op := op) (tb := .type "NoneType") hr.units0 hF I.ok.mod.kin J (PySem.W.Looks.of_pure rfl) (by simp [PySem.W.notFirst, r.sn]) hs.at_ hs.fn fin
end
theorem Scal.ty {K : PySem.W.Frag} {C : Addr} {H : Hp} {y : V} (r : Ri K C) (s : Scal y) : ∃ t, TyX K H y t ∧ PySem.W.kitOne K t (.ref C) = some false := by
  cases s with
  | int i => exact ⟨_, .base (.int i), r.ki⟩
  | str i => exact ⟨_, .base (.str i), r.ks⟩
  | non => exact ⟨_, .base .non, r.kn⟩
end Pn

namespace Pn
theorem init_pos {t b : Int} (hb : 0 < b) : t.fdiv ((Nat.gcd t.natAbs b.natAbs : Nat) : Int) = (Rat.divInt t b).num ∧ b.fdiv ((Nat.gcd t.natAbs b.natAbs : Nat) : Int) = ((Rat.divInt t b).den : Int) := by
  have hg : b.gcd t = Nat.gcd t.natAbs b.natAbs := by rw [Int.gcd_comm]; rfl
  have g0 : (0 : Int) ≤ ((Nat.gcd t.natAbs b.natAbs : Nat) : Int) := Int.natCast_nonneg _
  rw [Rat.num_divInt, Rat.den_divInt, hg, if_neg (by omega), Int.fdiv_eq_ediv_of_nonneg _ g0, Int.fdiv_eq_ediv_of_nonneg _ g0, Int.sign_eq_one_of_pos hb, Int.one_mul]
  refine ⟨rfl, ?_⟩
  rw [Int.natCast_ediv, Int.natAbs_of_nonneg (by omega)]
theorem init_neg {t b : Int} (hb : b < 0) : t.fdiv (-((Nat.gcd t.natAbs b.natAbs : Nat) : Int)) = (Rat.divInt t b).num ∧ b.fdiv (-((Nat.gcd t.natAbs b.natAbs : Nat) : Int)) = ((Rat.divInt t b).den : Int) := by
  have hg : b.gcd t = Nat.gcd t.natAbs b.natAbs := by rw [Int.gcd_comm]; rfl
  have gp : 0 < Nat.gcd t.natAbs b.natAbs := Nat.gcd_pos_of_pos_right _ (by omega)
  have g0 : (0 : Int) ≤ ((Nat.gcd t.natAbs b.natAbs : Nat) : Int) := Int.natCast_nonneg _
  have gn : ((Nat.gcd t.natAbs b.natAbs : Nat) : Int) ≠ 0 := by omega
  have d1 : ((Nat.gcd t.natAbs b.natAbs : Nat) : Int) ∣ t := Int.ofNat_dvd_left.mpr (Nat.gcd_dvd_left _ _)
  have d2 : ((Nat.gcd t.natAbs b.natAbs : Nat) : Int) ∣ b := Int.ofNat_dvd_left.mpr (Nat.gcd_dvd_right _ _)
  rw [Rat.num_divInt, Rat.den_divInt, hg, if_neg (by omega), Int.fdiv_neg gn, Int.fdiv_neg gn, if_pos d1, if_pos d2, Int.fdiv_eq_ediv_of_nonneg _ g0, Int.fdiv_eq_ediv_of_nonneg _ g0, Int.sign_eq_neg_one_of_neg hb]
  constructor
  · rw [← Int.neg_ediv_of_dvd d1]
    congr 1
    omega
  · rw [Int.natCast_ediv, ← Int.neg_ediv_of_dvd d2]
    congr 1
    omega
theorem divInt_add (p q : Rat) : Rat.divInt (p.num * q.den + q.num * p.den) (p.den * q.den) = p + q := by
  have h := Rat.divInt_add_divInt p.num q.num (d₁ := p.den) (d₂ := q.den) (by have := p.den_nz; omega) (by have := q.den_nz; omega)
  rw [Rat.num_divInt_den, Rat.num_divInt_den] at h
  exact h.symm
theorem divInt_sub (p q : Rat) : Rat.divInt (p.num * q.den - q.num * p.den) (p.den * q.den) = p - q := by
  have h := Rat.divInt_sub_divInt p.num q.num (d₁ := p.den) (d₂ := q.den) (by have := p.den_nz; omega) (by have := q.den_nz; omega)
  rw [Rat.num_divInt_den, Rat.num_divInt_den] at h
  exact h.symm
theorem divInt_mul (p q : Rat) : Rat.divInt (p.num * q.num) (p.den * q.den) = p * q := by
  have h := Rat.divInt_mul_divInt p.num q.num (d₁ := p.den) (d₂ := q.den)
  rw [Rat.num_divInt_den, Rat.num_divInt_den] at h
  exact h.symm
theorem divInt_neg' (p : Rat) : Rat.divInt (-p.num) p.den = -p := by
  rw [← Rat.neg_divInt, Rat.num_divInt_den]
theorem divInt_div (p q : Rat) : Rat.divInt (p.num * q.den) (p.den * q.num) = p / q := by
  rw [Rat.div_def, Rat.inv_def]
  have h := Rat.divInt_mul_divInt p.num q.den (d₁ := p.den) (d₂ := q.num)
  rw [Rat.num_divInt_den] at h
  exact h.symm
theorem divInt_abs (p : Rat) : Rat.divInt (if p.num < 0 then -p.num else p.num) p.den = p.abs := by
  unfold Rat.abs
  by_cases h : p.num < 0
  · rw [if_pos h, if_neg (by rw [← Rat.num_nonneg]; omega), divInt_neg']
  · rw [if_neg h, if_pos (by rw [← Rat.num_nonneg]; omega), Rat.num_divInt_den]
theorem den_ne (p : Rat) : (p.den : Int) ≠ 0 := by have := p.den_nz; omega
theorem den_pos (p : Rat) : (0 : Int) < p.den := by have := p.den_pos; omega
/-- sizes -/
theorem natAbs_mul_lt {i j : Int} {a b : Nat} (ha : i.natAbs < 2 ^ a) (hb : j.natAbs < 2 ^ b) : (i * j).natAbs < 2 ^ (a + b) := by
  rw [Int.natAbs_mul, Nat.pow_add]
  exact Nat.mul_lt_mul'' ha hb
theorem log2_lt' {n k : Nat} (h : n < 2 ^ k) (hk : 0 < k) : n.log2 < k := by
  by_cases h0 : n = 0
  · subst h0; rw [show Nat.log2 0 = 0 by decide]; exact hk
  · exact (Nat.log2_lt h0).mpr h
end Pn
namespace Pn
/-- top and bottom below 2 ^ n -/
def SmB (n : Nat) (q : Rat) : Prop := q.num.natAbs < 2 ^ n ∧ q.den < 2 ^ n
theorem SmB.mono {n m : Nat} {q : Rat} (h : SmB n q) (k : n ≤ m) : SmB m q := ⟨Nat.lt_of_lt_of_le h.1 (Nat.pow_le_pow_right (by decide) k), Nat.lt_of_lt_of_le h.2 (Nat.pow_le_pow_right (by decide) k)⟩
/-- two that may be reckoned with -/
def Ok2 (p q : Rat) : Prop := ∃ n m, 0 < n ∧ 0 < m ∧ SmB n p ∧ SmB m q ∧ n + m ≤ 9000
theorem num_le (t b : Int) : (Rat.divInt t b).num.natAbs ≤ t.natAbs := by
  rw [Rat.num_divInt, Int.natAbs_ediv_of_dvd, Int.natAbs_mul]
  · by_cases hb : b = 0
    · subst hb; simp
    · rw [Int.natAbs_sign_of_ne_zero hb, Nat.one_mul]
      exact Nat.div_le_self _ _
  · exact Int.dvd_mul_of_dvd_right (by rw [Int.gcd_comm]; exact Int.gcd_dvd_left ..)
theorem den_le (t b : Int) (hb : b ≠ 0) : (Rat.divInt t b).den ≤ b.natAbs := by
  rw [Rat.den_divInt, if_neg hb]
  exact Nat.div_le_self _ _
theorem smB_add {n m : Nat} {p q : Rat} (h1 : SmB n p) (h2 : SmB m q) : SmB (n + m + 1) (p + q) := by
  have a1 : (p.num * (q.den : Int)).natAbs < 2 ^ (n + m) := natAbs_mul_lt h1.1 (by rw [Int.natAbs_natCast]; exact h2.2)
  have a2 : (q.num * (p.den : Int)).natAbs < 2 ^ (m + n) := natAbs_mul_lt h2.1 (by rw [Int.natAbs_natCast]; exact h1.2)
  have a3 : ((p.den : Int) * (q.den : Int)).natAbs < 2 ^ (n + m) := natAbs_mul_lt (by rw [Int.natAbs_natCast]; exact h1.2) (by rw [Int.natAbs_natCast]; exact h2.2)
  have e : 2 ^ (n + m + 1) = 2 ^ (n + m) + 2 ^ (n + m) := by rw [Nat.pow_succ]; omega
  rw [Nat.add_comm m n] at a2
  rw [← divInt_add p q]
  refine ⟨Nat.lt_of_le_of_lt (num_le _ _) ?_, Nat.lt_of_le_of_lt (den_le _ _ (Int.mul_ne_zero (den_ne p) (den_ne q))) (by omega)⟩
  omega
theorem smB_sub {n m : Nat} {p q : Rat} (h1 : SmB n p) (h2 : SmB m q) : SmB (n + m + 1) (p - q) := by
  have a1 : (p.num * (q.den : Int)).natAbs < 2 ^ (n + m) := natAbs_mul_lt h1.1 (by rw [Int.natAbs_natCast]; exact h2.2)
  have a2 : (q.num * (p.den : Int)).natAbs < 2 ^ (m + n) := natAbs_mul_lt h2.1 (by rw [Int.natAbs_natCast]; exact h1.2)
  have a3 : ((p.den : Int) * (q.den : Int)).natAbs < 2 ^ (n + m) := natAbs_mul_lt (by rw [Int.natAbs_natCast]; exact h1.2) (by rw [Int.natAbs_natCast]; exact h2.2)
  have e : 2 ^ (n + m + 1) = 2 ^ (n + m) + 2 ^ (n + m) := by rw [Nat.pow_succ]; omega
  rw [Nat.add_comm m n] at a2
  rw [← divInt_sub p q]
  refine ⟨Nat.lt_of_le_of_lt (num_le _ _) ?_, Nat.lt_of_le_of_lt (den_le _ _ (Int.mul_ne_zero (den_ne p) (den_ne q))) (by omega)⟩
  omega
theorem smB_mul {n m : Nat} {p q : Rat} (h1 : SmB n p) (h2 : SmB m q) : SmB (n + m) (p * q) := by
  have a1 : (p.num * q.num).natAbs < 2 ^ (n + m) := natAbs_mul_lt h1.1 h2.1
  have a3 : ((p.den : Int) * (q.den : Int)).natAbs < 2 ^ (n + m) := natAbs_mul_lt (by rw [Int.natAbs_natCast]; exact h1.2) (by rw [Int.natAbs_natCast]; exact h2.2)
  rw [← divInt_mul p q]
  exact ⟨Nat.lt_of_le_of_lt (num_le _ _) a1, Nat.lt_of_le_of_lt (den_le _ _ (Int.mul_ne_zero (den_ne p) (den_ne q))) a3⟩
theorem smB_neg {n : Nat} {p : Rat} (h1 : SmB n p) : SmB n (-p) := ⟨by rw [Rat.neg_num, Int.natAbs_neg]; exact h1.1, by rw [Rat.neg_den]; exact h1.2⟩
theorem num_ne {q : Rat} (h : q ≠ 0) : q.num ≠ 0 := fun e => h (Rat.num_eq_zero.mp e)
theorem smB_div {n m : Nat} {p q : Rat} (h1 : SmB n p) (h2 : SmB m q) (h0 : q ≠ 0) : SmB (n + m) (p / q) := by
  have a1 : (p.num * (q.den : Int)).natAbs < 2 ^ (n + m) := natAbs_mul_lt h1.1 (by rw [Int.natAbs_natCast]; exact h2.2)
  have a3 : ((p.den : Int) * q.num).natAbs < 2 ^ (n + m) := natAbs_mul_lt (by rw [Int.natAbs_natCast]; exact h1.2) h2.1
  rw [← divInt_div p q]
  exact ⟨Nat.lt_of_le_of_lt (num_le _ _) a1, Nat.lt_of_le_of_lt (den_le _ _ (Int.mul_ne_zero (den_ne p) (num_ne h0))) a3⟩
theorem ok2_den {p q : Rat} (h : Ok2 p q) : (p.den : Int) * (q.den : Int) ≠ 0 ∧ ((p.den : Int) * (q.den : Int)).natAbs < 2 ^ 9000 := by
  obtain ⟨n, m, _, _, h1, h2, hs⟩ := h
  refine ⟨Int.mul_ne_zero (den_ne p) (den_ne q), Nat.lt_of_lt_of_le (natAbs_mul_lt (by rw [Int.natAbs_natCast]; exact h1.2) (by rw [Int.natAbs_natCast]; exact h2.2)) (Nat.pow_le_pow_right (by decide) hs)⟩
theorem ok2_div {p q : Rat} (h : Ok2 p q) (h0 : q ≠ 0) : (p.den : Int) * q.num ≠ 0 ∧ ((p.den : Int) * q.num).natAbs < 2 ^ 9000 := by
  obtain ⟨n, m, _, _, h1, h2, hs⟩ := h
  refine ⟨Int.mul_ne_zero (den_ne p) (num_ne h0), Nat.lt_of_lt_of_le (natAbs_mul_lt (by rw [Int.natAbs_natCast]; exact h1.2) h2.1) (Nat.pow_le_pow_right (by decide) hs)⟩
end Pn

namespace Pn
open PySem L2 Evl
theorem tb_ : ¬ (("bottom" : Str) = "top") := by decide +kernel
theorem bt_ : ¬ (("top" : Str) = "bottom") := by decide +kernel
/-- the attributes of a fraction -/
def RatO (q : Rat) : List (Str × V) := [(("top" : Str), V.int q.num), (("bottom" : Str), V.int (q.den : Int))]
theorem ratO_top (q : Rat) : (RatO q).lookup ("top" : Str) = some (.int q.num) := by
  unfold RatO
  simp [List.lookup]
theorem ratO_bot (q : Rat) : (RatO q).lookup ("bottom" : Str) = some (.int (q.den : Int)) := by
  unfold RatO
  have h : ((("bottom" : Str) == ("top" : Str)) = false) := by decide +kernel
  simp [List.lookup, h]
theorem ratO_no (q : Rat) {m : Str} (h1 : (m == ("top" : Str)) = false) (h2 : (m == ("bottom" : Str)) = false) : (RatO q).lookup m = none := by
  unfold RatO
  simp [List.lookup, h1, h2]
theorem putF_top (t : Int) : putF "top" (.int t) [] = [(("top" : Str), V.int t)] := rfl
theorem putF_bot (t b : Int) : putF "bottom" (.int b) [(("top" : Str), V.int t)] = [(("top" : Str), V.int t), (("bottom" : Str), V.int b)] := by
  show (if ("top" : Str) = "bottom" then [(("top" : Str), V.int b)] else (("top" : Str), V.int t) :: putF "bottom" (V.int b) []) = _
  rw [if_neg bt_]
  rfl
/-- at the value v stands the fraction q -/
def RatAt (C : Addr) (H : Hp) (v : V) (q : Rat) : Prop := ∃ a dx, v = .ref a ∧ H a = some (.ins C dx (RatO q))
theorem RatAt.mono {C : Addr} {H H' : Hp} {v : V} {q : Rat} (h : RatAt C H v q) (e : Ex H H') : RatAt C H' v q := by
  obtain ⟨a, dx, rfl, ha⟩ := h
  exact ⟨a, dx, rfl, e _ _ ha⟩
/-- at the value v stands a pair of ints -/
def PairAt (H : Hp) (v : V) (i j : Int) : Prop := ∃ a, v = .ref a ∧ H a = some (.tup [.int i, .int j])
theorem PairAt.mono {H H' : Hp} {v : V} {i j : Int} (h : PairAt H v i j) (e : Ex H H') : PairAt H' v i j := by
  obtain ⟨a, rfl, ha⟩ := h
  exact ⟨a, rfl, e _ _ ha⟩
/-- small enough for what the machine's division takes -/
def Sm (q : Rat) : Prop := q.num.natAbs < 2 ^ 4000 ∧ q.den < 2 ^ 4000
/-! ### promises -/
def spInit (C : Addr) : Sp := fun vs H Q _ => ∃ (p dx : Addr) (t b : Int), vs = [.ref p, .int t, .int b] ∧ H p = some (.ins C dx []) ∧ b ≠ 0 ∧ b.natAbs < 2 ^ 9000 ∧ ∀ H', H' = upd H p (.ins C dx (RatO (Rat.divInt t b))) → Q .non H'
def spBin (C : Addr) (ok : Rat → Rat → Prop) (f : Rat → Rat → Rat) : Sp := fun vs H Q _ => ∃ (x y : V) (p q : Rat), vs = [x, y] ∧ RatAt C H x p ∧ RatAt C H y q ∧ ok p q ∧ ∀ r H', Ex H H' → (∃ a, r = .ref a ∧ H a = none) → RatAt C H' r (f p q) → Q r H'
def spUn (C : Addr) (ok : Rat → Prop) (f : Rat → Rat) : Sp := fun vs H Q _ => ∃ (x : V) (p : Rat), vs = [x] ∧ RatAt C H x p ∧ ok p ∧ ∀ r H', Ex H H' → (∃ a, r = .ref a ∧ H a = none) → RatAt C H' r (f p) → Q r H'
def spCmp (C : Addr) (f : Rat → Rat → Bool) : Sp := fun vs H Q _ => ∃ (x y : V) (p q : Rat) (b : Bool), vs = [x, y] ∧ RatAt C H x p ∧ RatAt C H y q ∧ f p q = b ∧ Q (.bl b) H
end Pn
namespace Pn
open PySem L2 Evl
theorem ifT {c : Bool} {A B : Prop} (hc : c = true) (h : A) : if c = true then A else B := by
  rw [if_pos hc]
  exact h
theorem ifF {c : Bool} {A B : Prop} (hc : c = false) (h : B) : if c = true then A else B := by
  rw [hc, if_neg Bool.false_ne_true]
  exact h
theorem ifB {c : Bool} {A B : Prop} (h1 : c = true → A) (h2 : c = false → B) : if c = true then A else B := by
  cases c with
  | true => exact ifT rfl (h1 rfl)
  | false => exact ifF rfl (h2 rfl)
theorem dec_ne {i j : Int} (h : i ≠ j) : decide (V.int i = V.int j) = false := decide_eq_false fun e => h (V.int.inj e)
theorem gcd_log {t b : Int} (hb : b ≠ 0) (h : b.natAbs < 2 ^ 9000) : ((Nat.gcd t.natAbs b.natAbs : Nat) : Int) ≠ 0 ∧ ((Nat.gcd t.natAbs b.natAbs : Nat) : Int).natAbs.log2 < 9000 := by
  have gp : 0 < Nat.gcd t.natAbs b.natAbs := Nat.gcd_pos_of_pos_right _ (by omega)
  have gl : Nat.gcd t.natAbs b.natAbs ≤ b.natAbs := Nat.gcd_le_right _ (by omega)
  refine ⟨Int.natCast_ne_zero.mpr (Nat.ne_of_gt gp), log2_lt' ?_ (by decide)⟩
  rw [Int.natAbs_natCast]
  exact Nat.lt_of_le_of_lt gl h
theorem gcd_logN {t b : Int} (hb : b ≠ 0) (h : b.natAbs < 2 ^ 9000) : -((Nat.gcd t.natAbs b.natAbs : Nat) : Int) ≠ 0 ∧ (-((Nat.gcd t.natAbs b.natAbs : Nat) : Int)).natAbs.log2 < 9000 := by
  obtain ⟨h1, h2⟩ := gcd_log hb h
  exact ⟨Int.neg_ne_zero.mpr h1, by rw [Int.natAbs_neg]; exact h2⟩
end Pn
namespace Pn
open PySem L2 Evl
theorem made {C x dx : Addr} {H : Hp} {q : Rat} (nx : H x = none) (ndx : H dx = none) : Ex H (upd (upd (upd H dx (.own x)) x (.ins C dx [])) x (.ins C dx (RatO q))) ∧ RatAt C (upd (upd (upd H dx (.own x)) x (.ins C dx [])) x (.ins C dx (RatO q))) (.ref x) q := by
  refine ⟨fun b o e => ?_, x, dx, rfl, upd_same⟩
  have n1 : b ≠ x := ne_of_none e nx
  have n2 : b ≠ dx := ne_of_none e ndx
  rw [upd_ne n1, upd_ne n1, upd_ne n2]
  exact e
theorem mulW {i j : Int} {n m : Nat} (h1 : i.natAbs < 2 ^ n) (h2 : j.natAbs < 2 ^ m) (n0 : 0 < n) (m0 : 0 < m) (h : n + m ≤ 9000) : CMulW i j := wide_mul h1 h2 n0 m0 (Nat.le_trans h (by decide))
theorem ok2_mul {p q : Rat} (h : Ok2 p q) : CMulW p.num (q.den : Int) ∧ CMulW q.num (p.den : Int) ∧ CMulW (p.den : Int) (q.den : Int) ∧ CMulW p.num q.num ∧ CMulW (p.den : Int) q.num := by
  obtain ⟨n, m, n0, m0, h1, h2, hs⟩ := h
  have d1 : ((p.den : Int)).natAbs < 2 ^ n := by rw [Int.natAbs_natCast]; exact h1.2
  have d2 : ((q.den : Int)).natAbs < 2 ^ m := by rw [Int.natAbs_natCast]; exact h2.2
  exact ⟨mulW h1.1 d2 n0 m0 hs, mulW h2.1 d1 m0 n0 (by omega), mulW d1 d2 n0 m0 hs, mulW h1.1 h2.1 n0 m0 hs, mulW d1 h2.1 n0 m0 hs⟩
def OkDiv (p q : Rat) : Prop := Ok2 p q ∧ q ≠ 0
def Ok1 (p : Rat) : Prop := p.den < 2 ^ 9000
end Pn
namespace Pn
open PySem L2 Evl
theorem eq_dec2 {p q : Rat} (h : decide (V.int p.num = V.int q.num) = true) : decide (V.int (p.den : Int) = V.int (q.den : Int)) = decide (p = q) := by
  have e : p.num = q.num := V.int.inj (of_decide_eq_true h)
  rw [Bool.eq_iff_iff]
  simp only [decide_eq_true_eq]
  constructor
  · intro d
    exact Rat.ext e (by have := V.int.inj d; omega)
  · intro d
    rw [d]
theorem eq_dec0 {p q : Rat} (h : decide (V.int p.num = V.int q.num) = false) : decide (p = q) = false :=
  decide_eq_false fun e => of_decide_eq_false h (by rw [e])
theorem ne_dec1 {p q : Rat} (h : (!decide (V.int p.num = V.int q.num)) = true) : (!decide (p = q)) = true := by
  rw [eq_dec0 (by simpa using h)]
  rfl
theorem ne_dec2 {p q : Rat} (h : (!decide (V.int p.num = V.int q.num)) = false) : (!decide (V.int (p.den : Int) = V.int (q.den : Int))) = !decide (p = q) := by
  rw [eq_dec2 (by simpa using h)]
theorem dec_lt (p q : Rat) : decide (p < q) = decide (p.num * (q.den : Int) < q.num * (p.den : Int)) := decide_eq_decide.mpr (Rat.lt_iff p q)
theorem dec_le (p q : Rat) : decide (p ≤ q) = decide (p.num * (q.den : Int) ≤ q.num * (p.den : Int)) := decide_eq_decide.mpr (Rat.le_iff p q)
theorem dec_gt (p q : Rat) : decide (q < p) = decide (q.num * (p.den : Int) < p.num * (q.den : Int)) := decide_eq_decide.mpr (Rat.lt_iff q p)
theorem dec_ge (p q : Rat) : decide (q ≤ p) = decide (q.num * (p.den : Int) ≤ p.num * (q.den : Int)) := decide_eq_decide.mpr (Rat.le_iff q p)
/-- an order: both small enough to be multiplied crosswise -/
def spCmpO (C : Addr) (f : Rat → Rat → Bool) : Sp := fun vs H Q _ => ∃ (x y : V) (p q : Rat) (b : Bool), vs = [x, y] ∧ RatAt C H x p ∧ RatAt C H y q ∧ (Ok2 p q ∧ f p q = b) ∧ Q (.bl b) H
end Pn

namespace Pn
/-- Euclid's way from (a, b): behind i turns (x, y) -/
def EucI (a b B i x y : Nat) : Prop := Nat.gcd x y = Nat.gcd a b ∧ (i = 0 → x = a ∧ y = b) ∧ (1 ≤ i → y < x ∧ x * y < 2 ^ (2 * B + 1 - i))
theorem euc_start (a b B : Nat) : EucI a b B 0 a b := ⟨rfl, fun _ => ⟨rfl, rfl⟩, fun h => absurd h (by decide)⟩
theorem euc_turn {a b B i x y : Nat} (hb : b < 2 ^ B) (h : EucI a b B i x y) (hy : y ≠ 0) : EucI a b B (i + 1) y (x % y) := by
  obtain ⟨h1, h2, h3⟩ := h
  have hy0 : 0 < y := Nat.pos_of_ne_zero hy
  have hm : x % y < y := Nat.mod_lt _ hy0
  refine ⟨?_, fun z => absurd z (Nat.succ_ne_zero i), fun _ => ⟨hm, ?_⟩⟩
  · rw [← h1, Nat.gcd_comm x y, Nat.gcd_rec y x, Nat.gcd_comm]
  · by_cases hi : i = 0
    · obtain ⟨rfl, rfl⟩ := h2 hi
      subst hi
      have e : 2 * B + 1 - (0 + 1) = B + B := by omega
      rw [e, Nat.pow_add]
      exact Nat.mul_lt_mul'' hb (Nat.lt_trans hm hb)
    · obtain ⟨h4, h5⟩ := h3 (by omega)
      have h6 : 2 * (x % y) ≤ x := by
        have d := Nat.div_add_mod x y
        have q : 1 ≤ x / y := (Nat.one_le_div_iff hy0).mpr (Nat.le_of_lt h4)
        have z : y * 1 ≤ y * (x / y) := Nat.mul_le_mul_left _ q
        omega
      have h7 : 2 * (y * (x % y)) ≤ x * y := by
        have z := Nat.mul_le_mul_right y h6
        have e : 2 * (x % y) * y = 2 * (y * (x % y)) := by rw [Nat.mul_assoc, Nat.mul_comm (x % y) y]
        rw [e] at z
        exact z
      have h8 : 1 ≤ x * y := Nat.mul_pos (by omega) hy0
      have h9 : 2 * B + 1 - i ≠ 0 := fun z => by
        rw [z] at h5
        omega
      have e : 2 * B + 1 - i = (2 * B + 1 - (i + 1)) + 1 := by omega
      rw [e, Nat.pow_succ] at h5
      omega
theorem euc_end {a b B x y : Nat} (h : EucI a b B (2 * B + 3) x y) : x = Nat.gcd a b := by
  obtain ⟨h1, _, h3⟩ := h
  obtain ⟨h4, h5⟩ := h3 (by omega)
  have e : 2 * B + 1 - (2 * B + 3) = 0 := by omega
  rw [e, Nat.pow_zero] at h5
  have hy : y = 0 := by
    rcases Nat.mul_eq_zero.mp (Nat.lt_one_iff.mp h5) with z | z
    · omega
    · exact z
  rw [← h1, hy, Nat.gcd_zero_right]
theorem euc_zero {a b B i x : Nat} (h : EucI a b B i x 0) : x = Nat.gcd a b := by
  rw [← h.1, Nat.gcd_zero_right]
end Pn

namespace Pn
open PySem L2 Evl
section
variable {X : Cx}
/-- int of an int -/
def rIntI : List V → Hp → VK → Prop := fun xs H Q => ∃ i, xs = [.int i] ∧ Q (.int i) H
theorem call_intI : CallR X (.type "int") rIntI := fun pins s σ H xs us Q I r h => call_int1 pins s σ H xs us Q I r (.inl h)
end
theorem mapInt {ns : List Int} {i : Nat} {y : V} (h : (ns.map V.int)[i]? = some y) : ∃ u, y = .int u ∧ ns[i]? = some u := by
  rw [List.getElem?_map] at h
  cases e : ns[i]? with
  | none => rw [e] at h; cases h
  | some u => rw [e] at h; exact ⟨u, (Option.some.inj h).symm, rfl⟩
/-- the top of what a tape's item may be -/
def tapeTop : Int := 2147483629
/-- a list that was made behind H0 and holds the items -/
def TapeI (p : Addr) (H0 H : Hp) (items : List Int) : Prop := H0 p = none ∧ Ex H0 H ∧ H p = some (.lst (items.map V.int)) ∧ ∀ x ∈ items, 0 ≤ x ∧ x < tapeTop
theorem TapeI.push {p : Addr} {H0 H : Hp} {items : List Int} (h : TapeI p H0 H items) {x : Int} (h0 : 0 ≤ x) (h1 : x < tapeTop) : TapeI p H0 (upd H p (.lst (items.map V.int ++ [.int x]))) (items ++ [x]) := by
  obtain ⟨a, b, c, d⟩ := h
  refine ⟨a, Ex.mut b a, ?_, fun y hy => ?_⟩
  · rw [upd_same, List.map_append]
    rfl
  · rcases List.mem_append.mp hy with q | q
    · exact d y q
    · rw [List.mem_singleton.mp q]
      exact ⟨h0, h1⟩
def spTape (K : PySem.W.Frag) : Sp := fun vs H Q _ => ∃ (a : Addr) (ns : List Int), vs = [.ref a] ∧ SqL K H a (ns.map V.int) ∧ ns.length ≤ 63 ∧ ∀ p H' items, TapeI p H H' items → items.length ≤ 2520 → Q (.ref p) H'
theorem ex_sq {K : PySem.W.Frag} {H H' : Hp} {a : Addr} {xs : List V} (h : SqL K H a xs) (e : Ex H H') : SqL K H' a xs := ex_l e h
end Pn
namespace Pn
open PySem L2 Evl
/-- the law's state at st: a tape and how much was taken of it, at most c -/
def StAt (st : Addr) (c : Nat) (H : Hp) : Prop := ∃ (tp : Addr) (items : List Int) (n : Nat), H st = some (.lst [.ref tp, .int (n : Int)]) ∧ H tp = some (.lst (items.map V.int)) ∧ st ≠ tp ∧ (∀ x ∈ items, 0 ≤ x ∧ x < tapeTop) ∧ items.length ≤ 2520 ∧ n ≤ c
theorem StAt.mono {st : Addr} {c d : Nat} {H : Hp} (h : StAt st c H) (k : c ≤ d) : StAt st d H := by
  obtain ⟨tp, items, n, h1, h2, h3, h4, h5, h6⟩ := h
  exact ⟨tp, items, n, h1, h2, h3, h4, h5, Nat.le_trans h6 k⟩
theorem StAt.ex {st : Addr} {c : Nat} {H H' : Hp} (h : StAt st c H) (e : Ex H H') : StAt st c H' := by
  obtain ⟨tp, items, n, h1, h2, h3, h4, h5, h6⟩ := h
  exact ⟨tp, items, n, e _ _ h1, e _ _ h2, h3, h4, h5, h6⟩
/-- all but what stands at st is as it was -/
def FrS (st : Addr) (H H' : Hp) : Prop := ∀ a o, a ≠ st → H a = some o → H' a = some o
theorem FrS.refl (st : Addr) (H : Hp) : FrS st H H := fun _ _ _ h => h
theorem FrS.trans {st : Addr} {H H1 H2 : Hp} (a : FrS st H H1) (b : FrS st H1 H2) : FrS st H H2 := fun x o n h => b x o n (a x o n h)
theorem FrS.of {st : Addr} {H H' : Hp} (e : Ex H H') : FrS st H H' := fun x o _ h => e x o h
theorem FrS.upd {st : Addr} {H H' : Hp} {o : HO} (e : FrS st H H') : FrS st H (L2.upd H' st o) := fun a u n h => by
  rw [upd_ne n]
  exact e a u n h
theorem StAt.ne {st : Addr} {c : Nat} {H : Hp} {a : Addr} {o : HO} (h : StAt st c H) (ha : H a = some o) (hn : ∀ xs, o ≠ .lst xs) : a ≠ st := by
  obtain ⟨tp, items, n, h1, _⟩ := h
  exact ne_of ha h1 (hn _)
theorem StAt.fresh {st : Addr} {c : Nat} {H : Hp} {a : Addr} (h : StAt st c H) (ha : H a = none) : a ≠ st := by
  obtain ⟨tp, items, n, h1, _⟩ := h
  intro e
  subst e
  rw [ha] at h1
  cases h1
theorem RatAt.monoS {C st : Addr} {c : Nat} {H H' : Hp} {v : V} {q : Rat} (h : RatAt C H v q) (s : StAt st c H) (e : FrS st H H') : RatAt C H' v q := by
  obtain ⟨a, dx, rfl, ha⟩ := h
  exact ⟨a, dx, rfl, e _ _ (s.ne ha fun xs z => nomatch z) ha⟩
theorem PairAt.monoS {st : Addr} {c : Nat} {H H' : Hp} {v : V} {i j : Int} (h : PairAt H v i j) (s : StAt st c H) (e : FrS st H H') : PairAt H' v i j := by
  obtain ⟨a, rfl, ha⟩ := h
  exact ⟨a, rfl, e _ _ (s.ne ha fun xs z => nomatch z) ha⟩
abbrev PrAt (H : Hp) (v : V) (q : Rat) : Prop := PairAt H v q.num (q.den : Int)
/-- more than is ever taken -/
def cMax : Nat := 1000000000
def spDraw : Sp := fun vs H Q _ => ∃ (tp : Addr) (items : List Int) (n : Nat) (many : Int), vs = [.ref tp, .int (n : Int), .int many] ∧ H tp = some (.lst (items.map V.int)) ∧ (∀ x ∈ items, 0 ≤ x ∧ x < tapeTop) ∧ items.length ≤ 2520 ∧ n ≤ cMax ∧ 0 < many ∧ ∀ d, 0 ≤ d → d < many → Q (.int d) H
def spTake : Sp := fun vs H Q _ => ∃ (st : Addr) (c : Nat) (many : Int), vs = [.ref st, .int many] ∧ StAt st c H ∧ c < cMax ∧ 0 < many ∧ ∀ d H', 0 ≤ d → d < many → StAt st (c + 1) H' → FrS st H H' → Q (.int d) H'
def spCommon : Sp := fun vs H Q _ => ∃ (a b : Nat), vs = [.int (a : Int), .int (b : Int)] ∧ b < 2 ^ 1000000 ∧ Q (.int ((Nat.gcd a b : Nat) : Int)) H
/-- a fresh pair, what stood stands -/
def NewPr (H : Hp) (q : Rat) (Q : VK) : Prop := ∀ r H', Ex H H' → (∃ a, r = .ref a ∧ H a = none) → PrAt H' r q → Q r H'
def spPair : Sp := fun vs H Q _ => ∃ (t b : Int), vs = [.int t, .int b] ∧ 0 < b ∧ b.natAbs < 2 ^ 9000 ∧ NewPr H (Rat.divInt t b) Q
def spNumber : Sp := fun vs H Q _ => ∃ (st : Addr) (c : Nat), vs = [.ref st] ∧ StAt st c H ∧ c + 4 < cMax ∧ ∀ q r H', SmB 40 q → PrAt H' r q → StAt st (c + 4) H' → FrS st H H' → Q r H'
def spMade (C : Addr) : Sp := fun vs H Q _ => ∃ (x : V) (q : Rat), vs = [x] ∧ PrAt H x q ∧ q.den < 2 ^ 9000 ∧ ∀ r H', Ex H H' → (∃ a, r = .ref a ∧ H a = none) → RatAt C H' r q → Q r H'
theorem bits_lt {b k : Nat} (h : b < 2 ^ k) : b < 2 ^ (Builtin.Int.intBits (b : Int)) := by
  unfold Builtin.Int.intBits
  by_cases h0 : b = 0
  · subst h0; simp
  · rw [if_neg (by simpa using h0), Int.natAbs_natCast]
    exact Nat.lt_log2_self
theorem bits_le {b : Nat} {k : Nat} (h : b < 2 ^ k) : Builtin.Int.intBits (b : Int) ≤ k := PyProof.Rows.intBits_le (by rw [Int.natAbs_natCast]; exact h)
theorem at_map {items : List Int} {j : Nat} (h : j < items.length) : atI (items.map V.int) (j : Int) = some (.int items[j]) := by
  refine atI_nat ?_
  rw [List.getElem?_map, List.getElem?_eq_getElem h]
  rfl
end Pn
namespace Pn
open PySem L2 Evl
theorem at_mapI {items : List Int} {i : Int} (h0 : 0 ≤ i) (h : i < (items.length : Int)) : ∃ v, atI (items.map V.int) i = some (.int v) := by
  have e : i = (i.toNat : Int) := (Int.toNat_of_nonneg h0).symm
  rw [e]
  exact ⟨_, at_map (by omega)⟩
end Pn
namespace Pn
open PySem L2 Evl
theorem sq_lt {e : Int} (h0 : 0 ≤ e) (h1 : e < 1000) : 0 ≤ e ^ (2 : Int).toNat ∧ e ^ (2 : Int).toNat < 1000000 := by
  have e2 : e ^ (2 : Int).toNat = e * e := by show e ^ 2 = _; rw [Int.pow_succ, Int.pow_succ, Int.pow_zero, Int.one_mul]
  rw [e2]
  have z := Int.mul_nonneg h0 h0
  have y : e * e ≤ 999 * 999 := Int.mul_le_mul (by omega) (by omega) h0 (by decide)
  omega
theorem cu_lt {e : Int} (h0 : 0 ≤ e) (h1 : e < 1000) : 0 ≤ e ^ (3 : Int).toNat ∧ e ^ (3 : Int).toNat < 1000000000 := by
  have e2 : e ^ (3 : Int).toNat = e * e * e := by show e ^ 3 = _; rw [Int.pow_succ, Int.pow_succ, Int.pow_succ, Int.pow_zero, Int.one_mul]
  rw [e2]
  have z := Int.mul_nonneg h0 h0
  have y : e * e ≤ 999 * 999 := Int.mul_le_mul (by omega) (by omega) h0 (by decide)
  have x : e * e * e ≤ 999 * 999 * 999 := Int.mul_le_mul y (by omega) h0 (by decide)
  have w := Int.mul_nonneg z h0
  omega
theorem smB_div40 {t b : Int} (hb : 0 < b) (h1 : t.natAbs < 2 ^ 40) (h2 : b.natAbs < 2 ^ 40) : SmB 40 (Rat.divInt t b) :=
  ⟨Nat.lt_of_le_of_lt (num_le _ _) h1, Nat.lt_of_le_of_lt (den_le _ _ (Int.ne_of_gt hb)) h2⟩
theorem pow_ok {i j : Int} (h0 : 0 ≤ i) (h1 : i < 1000) (j0 : 0 ≤ j) (j1 : j ≤ 10) : CPow i j := ⟨j0, by omega, by omega⟩
theorem lt9000 {n : Nat} (h : n < 2 ^ 40) : n < 2 ^ 9000 := Nat.lt_of_lt_of_le h (Nat.pow_le_pow_right (by decide) (by decide))
end Pn

namespace Pn
open PySem L2 Evl
theorem divInt_one (n : Int) : Rat.divInt n 1 = (n : Rat) := by
  have h := Rat.num_divInt_den (n : Rat)
  rw [Rat.num_intCast, Rat.den_intCast] at h
  exact h
/-- what evaluates to a fraction -/
def EvQ (C : Addr) (te : TE) (σ : L2.St) (H : Hp) (q : Rat) : Prop := ∀ H1, Ex H H1 → ∀ Q : VK, (∀ v H2, Ex H1 H2 → RatAt C H2 v q → Q v H2) → te σ H1 Q
section
variable {C : Addr} {σ : L2.St} {H H' : Hp} {ta tb te : TE} {p q : Rat} {E : XK} {ok : Rat → Rat → Prop} {ok1 : Rat → Prop} {f : Rat → Rat → Rat} {g : Rat → Rat} {cf : Rat → Rat → Bool}
theorem EvQ.mono (h : EvQ C te σ H q) (e : Ex H H') : EvQ C te σ H' q := fun H1 a Q k => h H1 (e.trans a) Q k
theorem fq_var {i : Nat} {v : V} (hr : RatAt C H v q) (h : σ[i]? = some (some v) := by rfl) : EvQ C (tVar i) σ H q := fun H1 e _ k => ⟨v, h, k _ _ (Ex.refl H1) (hr.mono e)⟩
theorem fq_bin (ha : EvQ C ta σ H p) (hb : EvQ C tb σ H q) (o : ok p q) : EvQ C (tOp (rOwn C (spBin C ok f) E) ta tb) σ H (f p q) := fun H1 e Q k =>
  ha H1 e _ fun x H2 e2 hx => hb H2 (e.trans e2) _ fun y H3 e3 hy => by
    have hx' := hx.mono e3
    obtain ⟨a, dx, rfl, h1⟩ := id hx'
    obtain ⟨b, dy, rfl, h2⟩ := id hy
    exact ⟨a, b, dx, dy, _, _, rfl, rfl, h1, h2, _, _, p, q, rfl, hx', hy, o, fun r H4 e4 _ hr => k r H4 ((e2.trans e3).trans e4) hr⟩
theorem fq_un (ha : EvQ C ta σ H p) (o : ok1 p) : EvQ C (tUn (rOwn1 C (spUn C ok1 g) E) ta) σ H (g p) := fun H1 e Q k =>
  ha H1 e _ fun x H2 e2 hx => by
    obtain ⟨a, dx, rfl, h1⟩ := id hx
    exact ⟨a, dx, _, rfl, h1, _, p, rfl, hx, o, fun r H4 e4 _ hr => k r H4 (e2.trans e4) hr⟩
theorem fq_abs (ha : EvQ C ta σ H p) (o : ok1 p) : EvQ C (tCB (rAbsOwn C (spUn C ok1 g)) (tCons ta tNil)) σ H (g p) := fun H1 e Q k =>
  ha H1 e _ fun x H2 e2 hx => by
    obtain ⟨a, dx, rfl, h1⟩ := id hx
    exact ⟨_, rfl, a, dx, _, rfl, h1, _, p, rfl, hx, o, fun r H4 e4 _ hr => k r H4 (e2.trans e4) hr⟩
theorem fq_meth {m : Str} (ha : EvQ C ta σ H p) (hb : EvQ C tb σ H q) (o : ok p q) (h1 : (m == ("top" : Str)) = false := by decide +kernel) (h2 : (m == ("bottom" : Str)) = false := by decide +kernel) :
    EvQ C (tMeth C m (spBin C ok f) [] E ta (tCons tb tNil)) σ H (f p q) := fun H1 e Q k =>
  ha H1 e _ fun x H2 e2 hx => by
    obtain ⟨a, dx, rfl, hx1⟩ := id hx
    refine ⟨a, dx, _, rfl, hx1, ratO_no p h1 h2, ?_⟩
    refine hb H2 (e.trans e2) _ fun y H3 e3 hy => ?_
    exact ⟨_, _, p, q, rfl, hx.mono e3, hy, o, fun r H4 e4 _ hr => k r H4 ((e2.trans e3).trans e4) hr⟩
theorem fq_int {n : Int} : EvQ C (tMake C (spInit C) [.int 1] E (tCons (tC (.int n)) tNil)) σ H (n : Rat) := fun H1 e Q k => by
  intro x dx nx ndx nex
  refine ⟨x, dx, n, 1, rfl, upd_same, by decide, by decide, fun H' e => ⟨rfl, ?_⟩⟩
  rw [divInt_one] at e
  subst e
  exact k _ _ (made nx ndx).1 (made nx ndx).2
theorem ev_cmp (ha : EvQ C ta σ H p) (hb : EvQ C tb σ H q) : Ev (tOp (rOwn C (spCmp C cf) E) ta tb) σ H (.bl (cf p q)) := fun H1 e Q k =>
  ha H1 e _ fun x H2 e2 hx => hb H2 (e.trans e2) _ fun y H3 e3 hy => by
    have hx' := hx.mono e3
    obtain ⟨a, dx, rfl, h1⟩ := id hx'
    obtain ⟨b, dy, rfl, h2⟩ := id hy
    exact ⟨a, b, dx, dy, _, _, rfl, rfl, h1, h2, _, _, p, q, _, rfl, hx', hy, rfl, k H3 (e2.trans e3)⟩
theorem ev_cmpO (ha : EvQ C ta σ H p) (hb : EvQ C tb σ H q) (o : Ok2 p q) : Ev (tOp (rOwn C (spCmpO C cf) E) ta tb) σ H (.bl (cf p q)) := fun H1 e Q k =>
  ha H1 e _ fun x H2 e2 hx => hb H2 (e.trans e2) _ fun y H3 e3 hy => by
    have hx' := hx.mono e3
    obtain ⟨a, dx, rfl, h1⟩ := id hx'
    obtain ⟨b, dy, rfl, h2⟩ := id hy
    exact ⟨a, b, dx, dy, _, _, rfl, rfl, h1, h2, _, _, p, q, _, rfl, hx', hy, ⟨o, rfl⟩, k H3 (e2.trans e3)⟩
end
section
variable {X : Cx}
def rIntB : List V → Hp → VK → Prop := fun xs H Q => ∃ k, xs = [.bl k] ∧ Q (.int (if k then 1 else 0)) H
theorem call_intB : CallR X (.type "int") rIntB := fun pins s σ H xs us Q I r h => call_int1 pins s σ H xs us Q I r (.inr h)
theorem ev_intB {ta : TE} {σ : L2.St} {H : Hp} {b : Bool} (ha : Ev ta σ H (.bl b)) : Ev (tCB rIntB (tCons ta tNil)) σ H (.int (if b then 1 else 0)) := fun H1 e Q k => ha H1 e _ fun H2 e2 => ⟨b, rfl, k H2 e2⟩
end
/-! ### sizes by count -/
theorem ok2_of {n m : Nat} {p q : Rat} (h1 : SmB n p) (h2 : SmB m q) (n0 : 0 < n) (m0 : 0 < m) (h : n + m ≤ 9000) : Ok2 p q := ⟨n, m, n0, m0, h1, h2, h⟩
theorem smB_int {n : Int} {k : Nat} (h : n.natAbs < 2 ^ k) (hk : 1 < 2 ^ k) : SmB k (n : Rat) := ⟨by rw [Rat.num_intCast]; exact h, by rw [Rat.den_intCast]; exact hk⟩
theorem smB_abs {n : Nat} {p : Rat} (h1 : SmB n p) : SmB n p.abs := by
  unfold Rat.abs
  split
  · exact h1
  · exact smB_neg h1
/-- the law's own promise -/
def spLaw (K : PySem.W.Frag) : Sp := fun vs H Q _ => ∃ (a : Addr) (ns : List Int), vs = [.ref a] ∧ SqL K H a (ns.map V.int) ∧ ns.length ≤ 63 ∧ ∀ H', Q (.bl true) H'
/-- a state made anew: a list of the tape and 0 -/
theorem stAt_new {p st : Addr} {H H1 : Hp} {items : List Int} (t : TapeI p H H1 items) (hl : items.length ≤ 2520) (hn : H1 st = none) : StAt st 0 (upd H1 st (.lst [.ref p, .int 0])) := by
  obtain ⟨a, b, c, d⟩ := t
  have ne : st ≠ p := (ne_of_none c hn).symm
  exact ⟨p, items, 0, upd_same, (upd_ne ne.symm).trans c, ne, d, hl, Nat.le_refl _⟩
end Pn
namespace Pn
theorem okD {n : Nat} {p : Rat} (h : SmB n p) (k : n ≤ 9000) : Ok1 p := Nat.lt_of_lt_of_le h.2 (Nat.pow_le_pow_right (by decide) k)
theorem nzOf {p : Rat} {n : Int} (h : (!decide (p = (n : Rat))) = true) (e : n = 0 := by rfl) : p ≠ 0 := by
  subst e
  simpa using h
end Pn
namespace Pn
open PySem L2 Evl
section
variable {C : Addr} {σ : L2.St} {H : Hp} {te : TE} {q : Rat} {D : Ends} {tz : TS}
theorem q_asgQ {i : Nat} (h : EvQ C te σ H q) (k : ∀ v H1, Ex H H1 → RatAt C H1 v q → tz D (σ.set i (some v)) H1) : tSeq (tAsg te (gName i)) tz D σ H := h H (Ex.refl H) _ fun v H1 e r => k v H1 e r
theorem s_asgQ {i : Nat} (h : EvQ C te σ H q) (k : ∀ v H1, Ex H H1 → RatAt C H1 v q → D.nx (σ.set i (some v)) H1) : tAsg te (gName i) D σ H := h H (Ex.refl H) _ fun v H1 e r => k v H1 e r
end
end Pn
namespace Pn
open PySem L2 Evl
/-- an own comparison with what is no fraction -/
def spCmpS (C : Addr) (b : Bool) : Sp := fun vs H Q _ => ∃ (x y : V) (p : Rat), vs = [x, y] ∧ RatAt C H x p ∧ Scal y ∧ Q (.bl b) H
theorem ev_cmpS {C : Addr} {σ : L2.St} {H : Hp} {ta tb : TE} {p : Rat} {y : V} {b : Bool} (ha : EvQ C ta σ H p) (hb : Ev tb σ H y) (hy : Scal y) : Ev (tOp (rOwnS C (spCmpS C b)) ta tb) σ H (.bl b) := fun H1 e Q k =>
  ha H1 e _ fun x H2 e2 hx => hb H2 (e.trans e2) _ fun H3 e3 => by
    have hx' := hx.mono e3
    obtain ⟨a, dx, rfl, h1⟩ := id hx'
    exact ⟨a, dx, _, rfl, hy, h1, _, _, p, rfl, hx', hy, k H3 (e2.trans e3)⟩
/-- a flag is what is due -/
def spFlag : Sp := fun vs H Q _ => ∃ a b : Bool, vs = [.bl a, .bl b] ∧ a = b ∧ Q (.bl true) H
theorem flag_spv {a b : Bool} {H : Hp} (h : a = b) : SpV spFlag [.bl a, .bl b] H (.bl true) := fun H1 _ Q q E => ⟨a, b, rfl, h, q H1 (Ex.refl H1)⟩
end Pn


namespace Row
open PySem PySem.Spec PyProof.Rows L2 Evl Pn
def top (i : Nat) : Stmt := PySem.Challenge.pw_plumbnet_k03_order_of_fractions.main.body.getD i (.Pass ⟨0, 0, 0, 0⟩)
abbrev s__wall : Stmt := top 1
abbrev s_BadNumber_init : Stmt := inClass (top 4) 0
abbrev s_ZeroDivisor_init : Stmt := inClass (top 5) 0
abbrev s_Ratio_init : Stmt := inClass (top 8) 0
abbrev s_Ratio_of : Stmt := inClass (top 8) 1
abbrev s_Ratio_over : Stmt := inClass (top 8) 2
abbrev s_Ratio_add : Stmt := inClass (top 8) 3
abbrev s_Ratio_sub : Stmt := inClass (top 8) 4
abbrev s_Ratio_mul : Stmt := inClass (top 8) 5
abbrev s_Ratio_neg : Stmt := inClass (top 8) 6
abbrev s_Ratio_abs : Stmt := inClass (top 8) 7
abbrev s_Ratio_eq : Stmt := inClass (top 8) 8
abbrev s_Ratio_ne : Stmt := inClass (top 8) 9
abbrev s_Ratio_lt : Stmt := inClass (top 8) 10
abbrev s_Ratio_le : Stmt := inClass (top 8) 11
abbrev s_Ratio_gt : Stmt := inClass (top 8) 12
abbrev s_Ratio_ge : Stmt := inClass (top 8) 13
abbrev s_Ratio_str : Stmt := inClass (top 8) 14
abbrev s_is_short : Stmt := top 9
abbrev s__law_tape : Stmt := top 11
abbrev s__law_draw : Stmt := top 12
abbrev s__law_take : Stmt := top 13
abbrev s__law_common : Stmt := top 14
abbrev s__law_pair : Stmt := top 15
abbrev s__law_number : Stmt := top 16
abbrev s__law_made : Stmt := top 17
abbrev s__law_flag : Stmt := top 18
abbrev s_law : Stmt := top 19
def d__law_tape : He.DefD := ⟨("_law_tape", none), "_law_tape", "_law_tape", defArgs s__law_tape, defBody s__law_tape, defScope s__law_tape, [], []⟩
def d__law_draw : He.DefD := ⟨("_law_draw", none), "_law_draw", "_law_draw", defArgs s__law_draw, defBody s__law_draw, defScope s__law_draw, [], []⟩
def d__law_take : He.DefD := ⟨("_law_take", none), "_law_take", "_law_take", defArgs s__law_take, defBody s__law_take, defScope s__law_take, [], []⟩
def d__law_common : He.DefD := ⟨("_law_common", none), "_law_common", "_law_common", defArgs s__law_common, defBody s__law_common, defScope s__law_common, [], []⟩
def d__law_pair : He.DefD := ⟨("_law_pair", none), "_law_pair", "_law_pair", defArgs s__law_pair, defBody s__law_pair, defScope s__law_pair, [], []⟩
def d__law_number : He.DefD := ⟨("_law_number", none), "_law_number", "_law_number", defArgs s__law_number, defBody s__law_number, defScope s__law_number, [], []⟩
def d_Ratio_init : He.DefD := ⟨("Ratio", some "__init__"), "__init__", "Ratio.__init__", defArgs s_Ratio_init, defBody s_Ratio_init, defScope s_Ratio_init, [.int 1], []⟩
def d__law_made : He.DefD := ⟨("_law_made", none), "_law_made", "_law_made", defArgs s__law_made, defBody s__law_made, defScope s__law_made, [], []⟩
def d__law_flag : He.DefD := ⟨("_law_flag", none), "_law_flag", "_law_flag", defArgs s__law_flag, defBody s__law_flag, defScope s__law_flag, [], []⟩
def d_Ratio_ne : He.DefD := ⟨("Ratio", some "__ne__"), "__ne__", "Ratio.__ne__", defArgs s_Ratio_ne, defBody s_Ratio_ne, defScope s_Ratio_ne, [], []⟩
def d_Ratio_eq : He.DefD := ⟨("Ratio", some "__eq__"), "__eq__", "Ratio.__eq__", defArgs s_Ratio_eq, defBody s_Ratio_eq, defScope s_Ratio_eq, [], []⟩
def d_Ratio_le : He.DefD := ⟨("Ratio", some "__le__"), "__le__", "Ratio.__le__", defArgs s_Ratio_le, defBody s_Ratio_le, defScope s_Ratio_le, [], []⟩
def d_Ratio_lt : He.DefD := ⟨("Ratio", some "__lt__"), "__lt__", "Ratio.__lt__", defArgs s_Ratio_lt, defBody s_Ratio_lt, defScope s_Ratio_lt, [], []⟩
def d_Ratio_ge : He.DefD := ⟨("Ratio", some "__ge__"), "__ge__", "Ratio.__ge__", defArgs s_Ratio_ge, defBody s_Ratio_ge, defScope s_Ratio_ge, [], []⟩
def d_Ratio_gt : He.DefD := ⟨("Ratio", some "__gt__"), "__gt__", "Ratio.__gt__", defArgs s_Ratio_gt, defBody s_Ratio_gt, defScope s_Ratio_gt, [], []⟩
def d_law : He.DefD := ⟨("law", none), "law", "law", defArgs s_law, defBody s_law, defScope s_law, [], []⟩
def fn : List He.DefD := [d__law_tape, d__law_draw, d__law_take, d__law_common, d__law_pair, d__law_number, d_Ratio_init, d__law_made, d__law_flag, d_Ratio_ne, d_Ratio_eq, d_Ratio_le, d_Ratio_lt, d_Ratio_ge, d_Ratio_gt, d_law]
def fa : List He.Fa := [.glo "_law_tape", .glo "_law_number", .glo "_law_take", .glo "_law_pair", .glo "_law_made", .glo "_law_flag", .meth "Ratio" "__ne__", .meth "Ratio" "__eq__", .meth "Ratio" "__le__", .meth "Ratio" "__lt__", .meth "Ratio" "__ge__", .meth "Ratio" "__gt__", .free "int", .free "range", .glo "_law_draw", .free "len", .glo "_law_common", .free "abs", .mkr "Ratio", .glo "Ratio", .free "isinstance", .free "bool", .glo "law", .cls "Ratio", .noat "Ratio" "top", .noat "Ratio" "bottom"]
def ex (K : PySem.W.Frag) : Bool := PySem.W.selfFirst K (He.ga K "Ratio") && (decide (PySem.W.nsIn K mainGlobals "gcd" = some (some (.builtin "math.gcd"))) && riB K (He.ga K "Ratio"))
theorem tself {K : PySem.W.Frag} {mg : Str → Option Value} (T : Tx fa fn ex K mg) : PySem.W.selfFirst K (He.ga K "Ratio") = true := (He.ba T.e).1
theorem tgcd {K : PySem.W.Frag} {mg : Str → Option Value} (T : Tx fa fn ex K mg) : mg "gcd" = some (.builtin "math.gcd") := by
  obtain ⟨h, X, G⟩ := T.h
  exact PySem.W.mg_of X G (of_decide_eq_true (He.ba (He.ba T.e).2).1)
theorem tcl {K : PySem.W.Frag} {mg : Str → Option Value} (T : Tx fa fn ex K mg) : Cls K (He.ga K "Ratio") := T.cls 23 rfl
theorem tri {K : PySem.W.Frag} {mg : Str → Option Value} (T : Tx fa fn ex K mg) : Ri K (He.ga K "Ratio") := ri_of (tcl T) (He.ba (He.ba T.e).2).2
theorem ttop {K : PySem.W.Frag} {mg : Str → Option Value} (T : Tx fa fn ex K mg) : NoAttr K (He.ga K "Ratio") "top" := T.noat 24 rfl
theorem tbot {K : PySem.W.Frag} {mg : Str → Option Value} (T : Tx fa fn ex K mg) : NoAttr K (He.ga K "Ratio") "bottom" := T.noat 25 rfl

section
variable {P : Program} {K : PySem.W.Frag} {mg : Str → Option Value} {base : Heap}
abbrev N__law_tape : List Str := ["script", "tape", "cell", "number", "k", "first"]
theorem sc__law_tape : FnScope N__law_tape ["script"] (defScope s__law_tape) := ⟨rfl, rfl, rfl, by decide +kernel, rfl, by decide +kernel, by decide +kernel⟩
theorem okF__law_tape {w : World} (T : Tx fa fn ex K mg) {fd : FuncData} (F : FunD K d__law_tape.name d__law_tape.qual d__law_tape.params d__law_tape.body d__law_tape.scope (d__law_tape.dvs K) (d__law_tape.kws K) (He.fAd K d__law_tape.at_) fd)  : FnOk P w K mg base CX0 1 (He.ga K "_law_tape") fd ["script"] (spTape K) := by
  have nd : (N__law_tape).Nodup := sc__law_tape.nd
  refine F.ok sc__law_tape (fun vs H Q E h => ?_) (fun cdv A outer s H vs Q E hr h => ?_)
  · obtain ⟨_, _, rfl, _⟩ := h
    rfl
  · obtain ⟨a, ns, rfl, hS, hn, k⟩ := h
    refine ⟨_, PSs.nox (pss_cons (ps_set (i := 1) nd rfl (by first | exact Or.inl rfl | exact Or.inr rfl) (pe_lst pa_nil))
      (pss_cons (ps_for PassesOwn.never rfl (pi_list (pv 0)) (pg_name (i := 2) nd rfl (by first | exact Or.inl rfl | exact Or.inr rfl))
      (pss_cons (ps_set (i := 3) nd rfl (by first | exact Or.inl rfl | exact Or.inr rfl) (pe_op op_mul pe_int (pe_callTy call_intI (by rfl) (T.free 12 rfl) (by decide +kernel) (pa_cons (pv 2) pa_nil))))
      (Evl.pss_cut (ps_if (pt_cmpR op_lt (pv 3) pe_int (nomark _)) (pss_one (ps_set (i := 3) nd rfl (by first | exact Or.inl rfl | exact Or.inr rfl) (pe_op op_sub (pe_un un_neg pe_int) (pv 3))))
      pss_nil)
      (pss_one (ps_if (pt_cmpR op_ge (pv 3) (pe_op op_pow pe_int pe_int) (nomark _)) (pss_one (ps_for PassesOwn.never rfl (pi_range1 rfl (T.free 13 rfl) (pa_cons pe_int pa_nil)) (pg_name (i := 4) nd rfl (by first | exact Or.inl rfl | exact Or.inr rfl))
      (pss_one (ps_if (pt_cmpR op_gt (pv 3) pe_int (nomark _)) (pss_cons (ps_expr (pe_bm PySem.F.plainAttrs_list PySem.F.slot_list_append PySem.F.type_list_append mt_append (pv 1) (pa_cons (pe_op op_mod (pe_callTy call_intI (by rfl) (T.free 12 rfl) (by decide +kernel) (pa_cons (pv 3) pa_nil)) pe_int) pa_nil)))
      (pss_one (ps_set (i := 3) nd rfl (by first | exact Or.inl rfl | exact Or.inr rfl) (pe_op op_fdiv (pv 3) pe_int))))
      pss_nil))))
      (pss_one (ps_for PassesOwn.never rfl (pi_range1 rfl (T.free 13 rfl) (pa_cons pe_int pa_nil)) (pg_name (i := 4) nd rfl (by first | exact Or.inl rfl | exact Or.inr rfl))
      (pss_cons (ps_set (i := 5) nd rfl (by first | exact Or.inl rfl | exact Or.inr rfl) (pe_op op_mod (pe_callTy call_intI (by rfl) (T.free 12 rfl) (by decide +kernel) (pa_cons (pe_op op_add (pe_op op_add (pe_op op_mul (pv 3) pe_int) (pe_op op_mul (pv 4) pe_int)) pe_int) pa_nil)) pe_int))
      (pss_one (ps_expr (pe_bm PySem.F.plainAttrs_list PySem.F.slot_list_append PySem.F.type_list_append mt_append (pv 1) (pa_cons (pe_op op_mod (pe_callTy call_intI (by rfl) (T.free 12 rfl) (by decide +kernel) (pa_cons (pe_op op_add (pe_op op_mul (pv 5) pe_int) (pe_op op_fdiv (pv 5) pe_int)) pa_nil)) pe_int) pa_nil))))))))))))
      (pss_one (ps_ret (pv 1))))), ?_⟩
    refine ⟨Nat.zero_le _, fun p hp => ?_⟩
    refine ⟨_, rfl, a, rfl, ⟨_, ex_sq hS (Ex.new hp)⟩, for_list (K := K) (a := a) (xs := ns.map V.int) (fun i σ H' => ∃ (v2 v3 v4 v5 : Option V) (items : List Int), σ = [some (.ref a), some (.ref p), v2, v3, v4, v5] ∧ TapeI p H H' items ∧ items.length ≤ 40 * i)
      ⟨_, _, _, _, [], rfl, ⟨hp, Ex.new hp, upd_same, fun x hx => nomatch hx⟩, Nat.le_refl _⟩ (fun i σ H' _ ⟨_, _, _, _, _, _, t, _⟩ => ex_sq hS t.2.1) ?_ ?_⟩
    · rintro i y σ H' hi ⟨v2, v3, v4, v5, items, rfl, hI, hlen⟩
      have hi63 : i < ns.length := by
        have q := (List.getElem?_eq_some_iff.mp hi).1
        rw [List.length_map] at q
        exact q
      obtain ⟨u, rfl, _⟩ := mapInt hi
      refine ⟨_, rfl, _, rfl, _, _, rfl, rfl, .inl ⟨by decide, by decide⟩, ?_⟩
      refine ⟨fun σ' H2 => ∃ n : Int, 0 ≤ n ∧ σ' = [some (.ref a), some (.ref p), some (.int u), some (.int n), v4, v5] ∧ H2 = H', ?_, ?_⟩
      · refine ⟨_, rfl, _, _, rfl, rfl, _, rfl, ?_⟩
        refine ifB (fun hc => ?_) (fun hc => ?_)
        · have c := of_decide_eq_true hc
          refine ⟨_, rfl, _, rfl, _, _, rfl, rfl, ?_⟩
          exact ⟨_, by omega, rfl, rfl⟩
        · have c := of_decide_eq_false hc
          exact ⟨_, by omega, rfl, rfl⟩
      · rintro σ' H2 ⟨n, n0, rfl, rfl⟩
        refine ⟨_, rfl, _, _, rfl, rfl, ⟨by decide, by decide, by decide⟩, _, _, rfl, rfl, _, rfl, ?_⟩
        refine ifB (fun hc => ?_) (fun hc => ?_)
        · refine ⟨_, rfl, by decide, by decide, for_range (lo := 0) (n := 40) (fun j σ H' => ∃ (v4 v5 : Option V) (n : Int) (items : List Int), 0 ≤ n ∧ σ = [some (.ref a), some (.ref p), some (.int u), some (.int n), v4, v5] ∧ TapeI p H H' items ∧ items.length ≤ 40 * i + j)
            ⟨_, _, _, items, n0, rfl, hI, hlen⟩ ?_ ?_⟩
          · rintro j σ H2 hj ⟨v4, v5, n, items, n0, rfl, hI, hlen⟩
            refine ⟨_, rfl, _, _, rfl, rfl, _, rfl, ?_⟩
            refine ifB (fun hc => ?_) (fun hc => ?_)
            · refine ⟨_, rfl, .inl ⟨rfl, _, SqL.of hI.2.2.1⟩, _, rfl, _, rfl, _, _, rfl, rfl, (by decide : (0 : Int) < 1000), _, _, _, rfl, rfl, hI.2.2.1, (by rw [List.length_map]; exact sz_lt (by omega)), ?_⟩
              refine ⟨_, rfl, _, _, rfl, rfl, ⟨by decide, by decide⟩, ?_⟩
              have m0 := Int.emod_nonneg n (by decide : (1000 : Int) ≠ 0)
              have m1 := Int.emod_lt_of_pos n (by decide : (0 : Int) < 1000)
              refine ⟨_, _, _, _, ?_, rfl, hI.push m0 (Int.lt_trans m1 (by decide)), ?_⟩
              · exact Int.ediv_nonneg n0 (by decide)
              · rw [List.length_append, List.length_singleton]
                omega
            · exact ⟨_, _, n, items, n0, rfl, hI, by omega⟩
          · rintro σ H2 ⟨v4, v5, n, items, n0, rfl, hI, hlen⟩
            exact ⟨_, _, _, _, items, rfl, hI, by omega⟩
        · refine ⟨_, rfl, by decide, by decide, for_range (lo := 0) (n := 3) (fun j σ H' => ∃ (v4 v5 : Option V) (items : List Int), σ = [some (.ref a), some (.ref p), some (.int u), some (.int n), v4, v5] ∧ TapeI p H H' items ∧ items.length ≤ 40 * i + j)
            ⟨_, _, items, rfl, hI, hlen⟩ ?_ ?_⟩
          · rintro j σ H2 hj ⟨v4, v5, items, rfl, hI, hlen⟩
            refine ⟨_, rfl, _, _, rfl, rfl, .inr ⟨by decide, by decide⟩, _, rfl, _, _, rfl, rfl, .inr ⟨by decide, by decide⟩, _, _, rfl, rfl, _, _, rfl, rfl, _, rfl, _, _, rfl, rfl, (by decide : (0 : Int) < 2147483629), ?_⟩
            refine ⟨_, rfl, .inl ⟨rfl, _, SqL.of hI.2.2.1⟩, _, rfl, _, _, rfl, rfl, .inr ⟨by decide, by decide⟩, _, rfl, _, _, rfl, rfl, ⟨by decide, by decide⟩, _, _, rfl, rfl, _, rfl, _, _, rfl, rfl, (by decide : (0 : Int) < 2147483629), _, _, _, rfl, rfl, hI.2.2.1, (by rw [List.length_map]; exact sz_lt (by omega)), ?_⟩
            refine ⟨_, _, _, rfl, hI.push (Int.emod_nonneg _ (by decide)) (Int.emod_lt_of_pos _ (by decide)), ?_⟩
            rw [List.length_append, List.length_singleton]
            omega
          · rintro σ H2 ⟨v4, v5, items, rfl, hI, hlen⟩
            exact ⟨_, _, _, _, items, rfl, hI, by omega⟩
    · rintro σ H' ⟨v2, v3, v4, v5, items, rfl, hI, hlen⟩
      rw [List.length_map] at hlen
      exact ⟨_, rfl, k _ _ _ hI (by omega)⟩
theorem ok__law_tape {w : World} (T : Tx fa fn ex K mg)  : FnG P w K mg base 1 (He.ga K "_law_tape") ["script"] (spTape K) := by
  obtain ⟨fd, F⟩ := T.c.def_ 0 (d := d__law_tape) rfl
  exact ⟨⟨fd, okF__law_tape T F , FunD.bindsN F fun _ _ _ _ _ _ us hl => match us, hl with | [_], _ => rfl⟩, F.kp⟩

abbrev N__law_draw : List Str := ["tape", "at", "many", "number"]
theorem sc__law_draw : FnScope N__law_draw ["tape", "at", "many"] (defScope s__law_draw) := ⟨rfl, rfl, rfl, by decide +kernel, rfl, by decide +kernel, by decide +kernel⟩
theorem okF__law_draw {w : World} (T : Tx fa fn ex K mg) {fd : FuncData} (F : FunD K d__law_draw.name d__law_draw.qual d__law_draw.params d__law_draw.body d__law_draw.scope (d__law_draw.dvs K) (d__law_draw.kws K) (He.fAd K d__law_draw.at_) fd)  : FnOk P w K mg base CX0 1 (He.ga K "_law_draw") fd ["tape", "at", "many"] (spDraw) := by
  have nd : (N__law_draw).Nodup := sc__law_draw.nd
  refine F.ok sc__law_draw (fun vs H Q E h => ?_) (fun cdv A outer s H vs Q E hr h => ?_)
  · obtain ⟨_, _, _, _, rfl, _⟩ := h
    rfl
  · obtain ⟨tp, items, n, many, rfl, hT, hI, hl, hn, h0, k⟩ := h
    refine ⟨_, PSs.nox (pss_cons (ps_if (pt_cmpR op_lt (pv 1) (pe_callB call_len_seq (by rfl) (T.free 15 rfl) (by decide +kernel) (pa_cons (pv 0) pa_nil)) (nomark _)) (pss_one (ps_ret (pe_op op_mod (pe_callTy call_intI (by rfl) (T.free 12 rfl) (by decide +kernel) (pa_cons (pe_ix ix_list (pv 0) (pv 1) (fun _ _ => rfl)) pa_nil)) (pv 2))))
      pss_nil)
      (pss_cons (ps_set (i := 3) nd rfl (by first | exact Or.inl rfl | exact Or.inr rfl) pe_int)
      (Evl.pss_cut (ps_if (pt_cmpR op_gt (pe_callB call_len_seq (by rfl) (T.free 15 rfl) (by decide +kernel) (pa_cons (pv 0) pa_nil)) pe_int (nomark _)) (pss_one (ps_set (i := 3) nd rfl (by first | exact Or.inl rfl | exact Or.inr rfl) (pe_ix ix_list (pv 0) (pe_op op_mod (pe_callTy call_intI (by rfl) (T.free 12 rfl) (by decide +kernel) (pa_cons (pv 1) pa_nil)) (pe_callB call_len_seq (by rfl) (T.free 15 rfl) (by decide +kernel) (pa_cons (pv 0) pa_nil))) (fun _ _ => rfl))))
      pss_nil)
      (pss_one (ps_ret (pe_op op_mod (pe_op op_mod (pe_callTy call_intI (by rfl) (T.free 12 rfl) (by decide +kernel) (pa_cons (pe_op op_add (pe_op op_mul (pe_op op_mul (pe_op op_add (pv 3) (pv 1)) (pe_op op_add (pv 1) pe_int)) pe_int) (pe_op op_mul (pv 1) pe_int)) pa_nil)) pe_int) (pv 2))))))), ?_⟩
    have hnn : (n : Int) ≤ 1000000000 := by have : n ≤ 1000000000 := hn; omega
    refine ⟨_, rfl, _, rfl, tp, _, rfl, .inl (SqL.of hT), _, _, rfl, rfl, _, rfl, ?_⟩
    rw [List.length_map]
    refine ifB (fun hc => ?_) (fun hc => ?_)
    · have c : n < items.length := by have := of_decide_eq_true hc; omega
      refine ⟨_, rfl, _, rfl, tp, _, _, _, rfl, rfl, SqL.of hT, at_map c, _, rfl, _, rfl, _, _, rfl, rfl, h0, ?_⟩
      exact k _ (Int.emod_nonneg _ (by omega)) (Int.emod_lt_of_pos _ h0)
    · refine ⟨fun σ' H2 => ∃ m : Int, σ' = [some (.ref tp), some (.int (n : Int)), some (.int many), some (.int m)] ∧ H2 = H, ?_, ?_⟩
      · refine ⟨_, rfl, tp, _, rfl, .inl (SqL.of hT), _, _, rfl, rfl, _, rfl, ?_⟩
        rw [List.length_map]
        refine ifB (fun hc => ?_) (fun hc => ?_)
        · have c : 0 < items.length := by have := of_decide_eq_true hc; omega
          have c1 : (0 : Int) < (items.length : Int) := by omega
          have m0 := Int.emod_nonneg (n : Int) (Int.ne_of_gt c1)
          have m1 := Int.emod_lt_of_pos (n : Int) c1
          obtain ⟨v, hv⟩ := at_mapI m0 m1
          refine ⟨_, rfl, _, rfl, _, rfl, _, rfl, tp, _, rfl, .inl (SqL.of hT), _, _, rfl, rfl, ?_⟩
          rw [List.length_map]
          refine ⟨c1, tp, _, _, _, rfl, rfl, SqL.of hT, hv, ?_⟩
          exact ⟨_, rfl, rfl⟩
        · exact ⟨_, rfl, rfl⟩
      · rintro σ' H2 ⟨m, rfl, rfl⟩
        refine ⟨_, rfl, _, rfl, _, _, rfl, rfl, _, rfl, _, _, rfl, rfl, _, _, rfl, rfl, .inr ⟨by omega, by omega⟩, _, _, rfl, rfl, .inr ⟨by decide, by decide⟩, _, rfl, _, _, rfl, rfl, .inr ⟨by decide, by decide⟩, _, _, rfl, rfl, _, rfl, _, _, rfl, rfl, (by decide : (0 : Int) < 65521), _, rfl, _, _, rfl, rfl, h0, ?_⟩
        exact k _ (Int.emod_nonneg _ (by omega)) (Int.emod_lt_of_pos _ h0)
theorem ok__law_draw {w : World} (T : Tx fa fn ex K mg)  : FnG P w K mg base 1 (He.ga K "_law_draw") ["tape", "at", "many"] (spDraw) := by
  obtain ⟨fd, F⟩ := T.c.def_ 1 (d := d__law_draw) rfl
  exact ⟨⟨fd, okF__law_draw T F , FunD.bindsN F fun _ _ _ _ _ _ us hl => match us, hl with | [_, _, _], _ => rfl⟩, F.kp⟩

abbrev N__law_take : List Str := ["state", "many"]
theorem sc__law_take : FnScope N__law_take ["state", "many"] (defScope s__law_take) := ⟨rfl, rfl, rfl, by decide +kernel, rfl, by decide +kernel, by decide +kernel⟩
theorem okF__law_take {w : World} (T : Tx fa fn ex K mg) {fd : FuncData} (F : FunD K d__law_take.name d__law_take.qual d__law_take.params d__law_take.body d__law_take.scope (d__law_take.dvs K) (d__law_take.kws K) (He.fAd K d__law_take.at_) fd) (G__law_draw : FnG P w K mg base 1 (He.ga K "_law_draw") ["tape", "at", "many"] (spDraw)) : FnOk P w K mg base CX0 2 (He.ga K "_law_take") fd ["state", "many"] (spTake) := by
  have nd : (N__law_take).Nodup := sc__law_take.nd
  refine F.ok sc__law_take (fun vs H Q E h => ?_) (fun cdv A outer s H vs Q E hr h => ?_)
  · obtain ⟨_, _, _, rfl, _⟩ := h
    rfl
  · obtain ⟨st, c, many, rfl, hs, hc, h0, k⟩ := h
    refine ⟨_, PSs.nox (pss_cons (ps_asg (pe_op op_add (pe_ix ix_list (pv 0) pe_int (fun _ _ => rfl)) pe_int) (pg_sub (pv 0) pe_int set_list))
      (pss_one (ps_ret (pe_callF G__law_draw (hr.mono (by decide)) (T.glo 14 rfl) (pa_cons (pe_ix ix_list (pv 0) pe_int (fun _ _ => rfl)) (pa_cons (pe_ix ix_list (pv 0) pe_int (fun _ _ => rfl)) (pa_cons (pv 1) pa_nil))))))), ?_⟩
    obtain ⟨tp, items, n, h1, h2, h3, h4, h5, h6⟩ := id hs
    refine ⟨_, rfl, st, _, _, _, rfl, rfl, SqL.of h1, atI_nat (j := 1) rfl, _, _, rfl, rfl, _, rfl, st, _, _, 1, rfl, rfl, h1, rfl, ?_⟩
    refine ⟨_, rfl, st, _, _, _, rfl, rfl, SqL.of upd_same, atI_nat (j := 0) rfl, _, rfl, st, _, _, _, rfl, rfl, SqL.of upd_same, atI_nat (j := 1) rfl, _, rfl, ?_⟩
    refine ⟨tp, items, n + 1, many, rfl, (upd_ne h3.symm).trans h2, h4, h5, (by omega), h0, fun d d0 d1 => ?_⟩
    exact k d _ d0 d1 ⟨tp, items, n + 1, upd_same, (upd_ne h3.symm).trans h2, h3, h4, h5, by omega⟩ (FrS.refl st H).upd
theorem ok__law_take {w : World} (T : Tx fa fn ex K mg) (G__law_draw : FnG P w K mg base 1 (He.ga K "_law_draw") ["tape", "at", "many"] (spDraw)) : FnG P w K mg base 2 (He.ga K "_law_take") ["state", "many"] (spTake) := by
  obtain ⟨fd, F⟩ := T.c.def_ 2 (d := d__law_take) rfl
  exact ⟨⟨fd, okF__law_take T F G__law_draw, FunD.bindsN F fun _ _ _ _ _ _ us hl => match us, hl with | [_, _], _ => rfl⟩, F.kp⟩

abbrev N__law_common : List Str := ["one", "other", "k", "rest"]
theorem sc__law_common : FnScope N__law_common ["one", "other"] (defScope s__law_common) := ⟨rfl, rfl, rfl, by decide +kernel, rfl, by decide +kernel, by decide +kernel⟩
theorem okF__law_common {w : World} (T : Tx fa fn ex K mg) {fd : FuncData} (F : FunD K d__law_common.name d__law_common.qual d__law_common.params d__law_common.body d__law_common.scope (d__law_common.dvs K) (d__law_common.kws K) (He.fAd K d__law_common.at_) fd)  : FnOk P w K mg base CX0 1 (He.ga K "_law_common") fd ["one", "other"] (spCommon) := by
  have nd : (N__law_common).Nodup := sc__law_common.nd
  refine F.ok sc__law_common (fun vs H Q E h => ?_) (fun cdv A outer s H vs Q E hr h => ?_)
  · obtain ⟨_, _, rfl, _⟩ := h
    rfl
  · obtain ⟨a, b, rfl, hb, k⟩ := h
    refine ⟨_, PSs.nox (pss_cons (ps_for PassesOwn.never rfl (pi_range1 rfl (T.free 13 rfl) (pa_cons (pe_op op_add (pe_op op_mul pe_int (pe_bits (pv 1))) pe_int) pa_nil)) (pg_name (i := 2) nd rfl (by first | exact Or.inl rfl | exact Or.inr rfl))
      (pss_cons (ps_if (pt_cmpR op_eq (pv 1) pe_int (nomark _)) (pss_one ps_break)
      pss_nil)
      (pss_cons (ps_set (i := 3) nd rfl (by first | exact Or.inl rfl | exact Or.inr rfl) (pe_op op_mod (pe_callTy call_intI (by rfl) (T.free 12 rfl) (by decide +kernel) (pa_cons (pv 0) pa_nil)) (pv 1)))
      (pss_cons (ps_set (i := 0) nd rfl (by first | exact Or.inl rfl | exact Or.inr rfl) (pv 1))
      (pss_one (ps_set (i := 1) nd rfl (by first | exact Or.inl rfl | exact Or.inr rfl) (pv 3)))))))
      (pss_one (ps_ret (pv 0)))), ?_⟩
    have B1 := bits_lt hb
    have B2 := bits_le hb
    refine ⟨_, rfl, _, rfl, _, _, rfl, rfl, .inl ⟨by decide, by decide⟩, _, _, rfl, rfl, ?_⟩
    generalize hB : Builtin.Int.intBits (b : Int) = B at B1 B2 ⊢
    refine ⟨_, rfl, by omega, by omega, ?_⟩
    refine for_range (lo := 0) (n := (2 * (B : Int) + 3).toNat) (fun i σ H' => ∃ (x y : Nat) (v2 v3 : Option V), σ = [some (.int (x : Int)), some (.int (y : Int)), v2, v3] ∧ EucI a b B i x y ∧ H' = H)
      ⟨a, b, _, _, rfl, euc_start a b B, rfl⟩ ?_ ?_
    · rintro i σ H' hi ⟨x, y, v2, v3, rfl, hE, rfl⟩
      refine ⟨_, rfl, rfl, _, rfl, ?_⟩
      refine ifB (fun hc => ?_) (fun hc => ?_)
      · have y0 : y = 0 := by have := V.int.inj (of_decide_eq_true hc); omega
        subst y0
        refine ⟨_, rfl, ?_⟩
        rw [euc_zero hE]
        exact k
      · have y0 : y ≠ 0 := fun e => of_decide_eq_false hc (by rw [e]; rfl)
        refine ⟨_, rfl, _, rfl, _, rfl, _, _, rfl, rfl, (by omega), _, rfl, _, rfl, ?_⟩
        refine ⟨y, x % y, some (.int (0 + (i : Int))), some (.int ((x : Int) % (y : Int))), ?_, euc_turn B1 hE y0, rfl⟩
        rw [Int.natCast_emod]
        rfl
    · rintro σ H' ⟨x, y, v2, v3, rfl, hE, rfl⟩
      refine ⟨_, rfl, ?_⟩
      have e : (2 * (B : Int) + 3).toNat = 2 * B + 3 := by omega
      rw [e] at hE
      rw [euc_end hE]
      exact k
theorem ok__law_common {w : World} (T : Tx fa fn ex K mg)  : FnG P w K mg base 1 (He.ga K "_law_common") ["one", "other"] (spCommon) := by
  obtain ⟨fd, F⟩ := T.c.def_ 3 (d := d__law_common) rfl
  exact ⟨⟨fd, okF__law_common T F , FunD.bindsN F fun _ _ _ _ _ _ us hl => match us, hl with | [_, _], _ => rfl⟩, F.kp⟩

abbrev N__law_pair : List Str := ["top", "bottom", "common"]
theorem sc__law_pair : FnScope N__law_pair ["top", "bottom"] (defScope s__law_pair) := ⟨rfl, rfl, rfl, by decide +kernel, rfl, by decide +kernel, by decide +kernel⟩
theorem okF__law_pair {w : World} (T : Tx fa fn ex K mg) {fd : FuncData} (F : FunD K d__law_pair.name d__law_pair.qual d__law_pair.params d__law_pair.body d__law_pair.scope (d__law_pair.dvs K) (d__law_pair.kws K) (He.fAd K d__law_pair.at_) fd) (G__law_common : FnG P w K mg base 1 (He.ga K "_law_common") ["one", "other"] (spCommon)) : FnOk P w K mg base CX0 2 (He.ga K "_law_pair") fd ["top", "bottom"] (spPair) := by
  have nd : (N__law_pair).Nodup := sc__law_pair.nd
  refine F.ok sc__law_pair (fun vs H Q E h => ?_) (fun cdv A outer s H vs Q E hr h => ?_)
  · obtain ⟨_, _, rfl, _⟩ := h
    rfl
  · obtain ⟨t, b, rfl, hb, hl, k⟩ := h
    refine ⟨_, PSs.nox (pss_cons (ps_set (i := 2) nd rfl (by first | exact Or.inl rfl | exact Or.inr rfl) (pe_callF G__law_common (hr.mono (by decide)) (T.glo 16 rfl) (pa_cons (pe_callB call_abs (by rfl) (T.free 17 rfl) (by decide +kernel) (pa_cons (pv 0) pa_nil)) (pa_cons (pv 1) pa_nil))))
      (pss_one (ps_ret (pe_tup (pa_cons (pe_op op_fdivX (pv 0) (pv 2)) (pa_cons (pe_op op_fdivX (pv 1) (pv 2)) pa_nil)))))), ?_⟩
    have hb' : (b.natAbs : Int) = b := Int.natAbs_of_nonneg (Int.le_of_lt hb)
    obtain ⟨e1, e2⟩ := init_pos (t := t) hb
    have ha : (if t < 0 then -t else t) = (t.natAbs : Int) := by
      by_cases h : t < 0
      · rw [if_pos h]; omega
      · rw [if_neg h]; omega
    refine ⟨_, rfl, _, rfl, _, rfl, ?_⟩
    rw [ha, ← hb']
    refine ⟨t.natAbs, b.natAbs, rfl, Nat.lt_of_lt_of_le hl (Nat.pow_le_pow_right (by decide) (by decide)), ?_⟩
    rw [hb']
    refine ⟨_, rfl, _, rfl, _, _, rfl, rfl, gcd_log (Int.ne_of_gt hb) hl, _, rfl, _, rfl, _, _, rfl, rfl, gcd_log (Int.ne_of_gt hb) hl, (by show 2 ≤ sizeLine; decide), fun p hp => ?_⟩
    refine k _ _ (Ex.new hp) ⟨p, rfl, hp⟩ ⟨p, rfl, ?_⟩
    rw [upd_same]
    dsimp only
    rw [e1, e2]
theorem ok__law_pair {w : World} (T : Tx fa fn ex K mg) (G__law_common : FnG P w K mg base 1 (He.ga K "_law_common") ["one", "other"] (spCommon)) : FnG P w K mg base 2 (He.ga K "_law_pair") ["top", "bottom"] (spPair) := by
  obtain ⟨fd, F⟩ := T.c.def_ 4 (d := d__law_pair) rfl
  exact ⟨⟨fd, okF__law_pair T F G__law_common, FunD.bindsN F fun _ _ _ _ _ _ us hl => match us, hl with | [_, _], _ => rfl⟩, F.kp⟩

abbrev N__law_number : List Str := ["state"]
theorem sc__law_number : FnScope N__law_number ["state"] (defScope s__law_number) := ⟨rfl, rfl, rfl, by decide +kernel, rfl, by decide +kernel, by decide +kernel⟩
theorem okF__law_number {w : World} (T : Tx fa fn ex K mg) {fd : FuncData} (F : FunD K d__law_number.name d__law_number.qual d__law_number.params d__law_number.body d__law_number.scope (d__law_number.dvs K) (d__law_number.kws K) (He.fAd K d__law_number.at_) fd) (G__law_take : FnG P w K mg base 2 (He.ga K "_law_take") ["state", "many"] (spTake)) (G__law_pair : FnG P w K mg base 2 (He.ga K "_law_pair") ["top", "bottom"] (spPair)) : FnOk P w K mg base CX0 3 (He.ga K "_law_number") fd ["state"] (spNumber) := by
  have nd : (N__law_number).Nodup := sc__law_number.nd
  refine F.ok sc__law_number (fun vs H Q E h => ?_) (fun cdv A outer s H vs Q E hr h => ?_)
  · obtain ⟨_, _, rfl, _⟩ := h
    rfl
  · obtain ⟨st, c, rfl, hs, hc, k⟩ := h
    refine ⟨_, PSs.nox (pss_cons (ps_if (pt_cmpR op_eq (pe_callF G__law_take (hr.mono (by decide)) (T.glo 2 rfl) (pa_cons (pv 0) (pa_cons pe_int pa_nil))) pe_int (nomark _)) (pss_one (ps_ret (pe_callF G__law_pair (hr.mono (by decide)) (T.glo 3 rfl) (pa_cons (pe_op op_sub (pe_op op_pow (pe_callF G__law_take (hr.mono (by decide)) (T.glo 2 rfl) (pa_cons (pv 0) (pa_cons pe_int pa_nil))) pe_int) (pe_op op_pow (pe_callF G__law_take (hr.mono (by decide)) (T.glo 2 rfl) (pa_cons (pv 0) (pa_cons pe_int pa_nil))) pe_int)) (pa_cons (pe_op op_add pe_int (pe_op op_pow (pe_callF G__law_take (hr.mono (by decide)) (T.glo 2 rfl) (pa_cons (pv 0) (pa_cons pe_int pa_nil))) pe_int)) pa_nil)))))
      pss_nil)
      (pss_one (ps_ret (pe_callF G__law_pair (hr.mono (by decide)) (T.glo 3 rfl) (pa_cons (pe_op op_sub (pe_callF G__law_take (hr.mono (by decide)) (T.glo 2 rfl) (pa_cons (pv 0) (pa_cons pe_int pa_nil))) pe_int) (pa_cons (pe_op op_add pe_int (pe_callF G__law_take (hr.mono (by decide)) (T.glo 2 rfl) (pa_cons (pv 0) (pa_cons pe_int pa_nil)))) pa_nil)))))), ?_⟩
    refine ⟨_, rfl, st, c, 9, rfl, hs, (by omega), by decide, fun d H1 d0 d1 s1 f1 => ?_⟩
    refine ⟨rfl, _, rfl, ?_⟩
    refine ifB (fun _ => ?_) (fun _ => ?_)
    · refine ⟨_, rfl, st, c + 1, 1000, rfl, s1, (by omega), by decide, fun a H2 a0 a1 s2 f2 => ?_⟩
      refine ⟨_, _, rfl, rfl, pow_ok a0 a1 (by decide) (by decide), _, rfl, st, c + 2, 1000, rfl, s2, (by omega), by decide, fun b H3 b0 b1 s3 f3 => ?_⟩
      refine ⟨_, _, rfl, rfl, pow_ok b0 b1 (by decide) (by decide), _, _, rfl, rfl, _, rfl, st, c + 3, 1000, rfl, s3, (by omega), by decide, fun e H4 e0 e1 s4 f4 => ?_⟩
      obtain ⟨p1, p2⟩ := cu_lt a0 a1
      obtain ⟨p3, p4⟩ := sq_lt b0 b1
      obtain ⟨p5, p6⟩ := sq_lt e0 e1
      have z1 : (0 : Int) < 1 + e ^ (2 : Int).toNat := by omega
      have z2 : (1 + e ^ (2 : Int).toNat).natAbs < 2 ^ 40 := by omega
      refine ⟨_, _, rfl, rfl, pow_ok e0 e1 (by decide) (by decide), _, _, rfl, rfl, _, _, rfl, z1, lt9000 z2, fun r H5 x fr pr => ?_⟩
      exact k _ _ _ (smB_div40 z1 (by omega) z2) pr (s4.ex x) ((((f1.trans f2).trans f3).trans f4).trans (.of x))
    · refine ⟨_, rfl, st, c + 1, 13, rfl, s1, (by omega), by decide, fun a H2 a0 a1 s2 f2 => ?_⟩
      refine ⟨_, _, rfl, rfl, _, rfl, st, c + 2, 4, rfl, s2, (by omega), by decide, fun b H3 b0 b1 s3 f3 => ?_⟩
      have z1 : (0 : Int) < 1 + b := by omega
      have z2 : (1 + b).natAbs < 2 ^ 40 := by omega
      refine ⟨_, _, rfl, rfl, _, _, rfl, z1, lt9000 z2, fun r H4 x fr pr => ?_⟩
      exact k _ _ _ (smB_div40 z1 (by omega) z2) pr ((s3.ex x).mono (by omega)) (((f1.trans f2).trans f3).trans (.of x))
theorem ok__law_number {w : World} (T : Tx fa fn ex K mg) (G__law_take : FnG P w K mg base 2 (He.ga K "_law_take") ["state", "many"] (spTake)) (G__law_pair : FnG P w K mg base 2 (He.ga K "_law_pair") ["top", "bottom"] (spPair)) : FnG P w K mg base 3 (He.ga K "_law_number") ["state"] (spNumber) := by
  obtain ⟨fd, F⟩ := T.c.def_ 5 (d := d__law_number) rfl
  exact ⟨⟨fd, okF__law_number T F G__law_take G__law_pair, FunD.bindsN F fun _ _ _ _ _ _ us hl => match us, hl with | [_], _ => rfl⟩, F.kp⟩

abbrev N_Ratio_init : List Str := ["self", "top", "bottom", "common"]
theorem sc_Ratio_init : FnScope N_Ratio_init ["self", "top", "bottom"] (defScope s_Ratio_init) := ⟨rfl, rfl, rfl, by decide +kernel, rfl, by decide +kernel, by decide +kernel⟩
theorem okF_Ratio_init {w : World} (T : Tx fa fn ex K mg) {fd : FuncData} (F : FunD K d_Ratio_init.name d_Ratio_init.qual d_Ratio_init.params d_Ratio_init.body d_Ratio_init.scope (d_Ratio_init.dvs K) (d_Ratio_init.kws K) (He.fAd K d_Ratio_init.at_) fd)  : FnOk P w K mg base CX0 1 (He.ma K (He.ga K "Ratio") "__init__") fd ["self", "top", "bottom"] (spInit (He.ga K "Ratio")) := by
  have nd : (N_Ratio_init).Nodup := sc_Ratio_init.nd
  refine F.ok sc_Ratio_init (fun vs H Q E h => ?_) (fun cdv A outer s H vs Q E hr h => ?_)
  · obtain ⟨_, _, _, _, rfl, _⟩ := h
    rfl
  · obtain ⟨p, dx, t, b, rfl, hp, hb, hl, k⟩ := h
    refine ⟨_, PSs.nox (pss_cons (ps_if (pt_cmpR op_eq (pv 2) pe_int (nomark _)) (pss_one ps_never)
      pss_nil)
      (pss_cons (ps_set (i := 3) nd rfl (by first | exact Or.inl rfl | exact Or.inr rfl) (pe_callBfun cr_gcd rfl (tgcd T) (pa_cons (pv 1) (pa_cons (pv 2) pa_nil))))
      (pss_cons (ps_if (pt_cmpR op_lt (pv 2) pe_int (nomark _)) (pss_one (ps_set (i := 3) nd rfl (by first | exact Or.inl rfl | exact Or.inr rfl) (pe_un un_neg (pv 3))))
      pss_nil)
      (pss_cons (ps_fld (pv 0) (pe_op op_fdivX (pv 1) (pv 3)) rfl)
      (pss_one (ps_fld (pv 0) (pe_op op_fdivX (pv 2) (pv 3)) rfl)))))), ?_⟩
    obtain ⟨g1, g2⟩ := gcd_log (t := t) hb hl
    refine ⟨_, rfl, rfl, _, rfl, ?_⟩
    refine ifF (dec_ne hb) ?_
    refine ⟨_, rfl, _, rfl, _, _, rfl, ?_⟩
    refine ⟨_, rfl, _, _, rfl, rfl, _, rfl, ?_⟩
    refine ifB (fun hc => ?_) (fun hc => ?_)
    · obtain ⟨e1, e2⟩ := init_neg (t := t) (of_decide_eq_true hc)
      refine ⟨_, rfl, _, rfl, ?_⟩
      refine ⟨_, rfl, _, rfl, _, _, rfl, rfl, gcd_logN hb hl, _, rfl, p, _, dx, _, rfl, hp, tcl T, ttop T, by show 0 < 1000; decide, ?_⟩
      refine ⟨_, rfl, _, rfl, _, _, rfl, rfl, gcd_logN hb hl, _, rfl, p, _, dx, _, rfl, upd_same, tcl T, tbot T, by show 1 < 1000; decide, ?_⟩
      refine k _ ?_
      rw [upd_upd, putF_top, putF_bot, e1, e2]
      rfl
    · obtain ⟨e1, e2⟩ := init_pos (t := t) (b := b) (by have := of_decide_eq_false hc; omega)
      refine ⟨_, rfl, _, rfl, _, _, rfl, rfl, gcd_log hb hl, _, rfl, p, _, dx, _, rfl, hp, tcl T, ttop T, by show 0 < 1000; decide, ?_⟩
      refine ⟨_, rfl, _, rfl, _, _, rfl, rfl, gcd_log hb hl, _, rfl, p, _, dx, _, rfl, upd_same, tcl T, tbot T, by show 1 < 1000; decide, ?_⟩
      refine k _ ?_
      rw [upd_upd, putF_top, putF_bot, e1, e2]
      rfl
theorem ok_Ratio_init {w : World} (T : Tx fa fn ex K mg)  : FnG P w K mg base 1 (He.ma K (He.ga K "Ratio") "__init__") ["self", "top", "bottom"] (spInit (He.ga K "Ratio")) := by
  obtain ⟨fd, F⟩ := T.c.def_ 6 (d := d_Ratio_init) rfl
  exact ⟨⟨fd, okF_Ratio_init T F , (by obtain ⟨ds, v, b⟩ := FunD.binds1 (ps := ["self", "top", "bottom"]) F 3 1 (List.cons_ne_nil _ _) rfl (fun _ _ _ _ _ _ _ us its hu hi => match us, its, hu, hi with | [_, _, _], [_], _, _ => ⟨_, rfl, rfl⟩); cases v; exact b)⟩, F.kp⟩
theorem ok_Ratio_init1 {w : World} (T : Tx fa fn ex K mg) : FnD1 P w K mg base 1 (He.ma K (He.ga K "Ratio") "__init__") ["self", "top", "bottom"] [.int 1] (spInit (He.ga K "Ratio")) := by
  obtain ⟨fd, F⟩ := T.c.def_ 6 (d := d_Ratio_init) rfl
  obtain ⟨ds, v, b⟩ := FunD.binds1 (ps := ["self", "top", "bottom"]) F 2 0 (List.cons_ne_nil _ _) rfl (fun _ _ _ _ _ _ _ us its hu hi => match us, its, hu, hi with | [_, _], [_], _, _ => ⟨_, rfl, rfl⟩)
  exact ⟨⟨fd, ds, okF_Ratio_init T F, v, b⟩, F.kp⟩

abbrev N__law_made : List Str := ["pair"]
theorem sc__law_made : FnScope N__law_made ["pair"] (defScope s__law_made) := ⟨rfl, rfl, rfl, by decide +kernel, rfl, by decide +kernel, by decide +kernel⟩
theorem okF__law_made {w : World} (T : Tx fa fn ex K mg) {fd : FuncData} (F : FunD K d__law_made.name d__law_made.qual d__law_made.params d__law_made.body d__law_made.scope (d__law_made.dvs K) (d__law_made.kws K) (He.fAd K d__law_made.at_) fd) (G_Ratio_init : FnG P w K mg base 1 (He.ma K (He.ga K "Ratio") "__init__") ["self", "top", "bottom"] (spInit (He.ga K "Ratio"))) : FnOk P w K mg base CX0 3 (He.ga K "_law_made") fd ["pair"] (spMade (He.ga K "Ratio")) := by
  have nd : (N__law_made).Nodup := sc__law_made.nd
  refine F.ok sc__law_made (fun vs H Q E h => ?_) (fun cdv A outer s H vs Q E hr h => ?_)
  · obtain ⟨_, _, rfl, _⟩ := h
    rfl
  · obtain ⟨x, q, rfl, ⟨a, rfl, ha⟩, hq, k⟩ := h
    refine ⟨_, PSs.nox (pss_one (ps_ret (pe_makeF (T.mkr 18 rfl) G_Ratio_init (hr.mono (by decide)) (T.glo 19 rfl) (pa_cons (pe_ix ix_tup (pv 0) pe_int (fun _ _ => rfl)) (pa_cons (pe_ix ix_tup (pv 0) pe_int (fun _ _ => rfl)) pa_nil))))), ?_⟩
    refine ⟨_, rfl, a, _, _, _, rfl, rfl, SqT.of ha, atI_nat (j := 0) rfl, _, rfl, a, _, _, _, rfl, rfl, SqT.of ha, atI_nat (j := 1) rfl, ?_⟩
    intro x dx nx ndx nex
    refine ⟨x, dx, _, _, rfl, upd_same, den_ne q, by rw [Int.natAbs_natCast]; exact hq, fun H' e => ⟨rfl, ?_⟩⟩
    rw [Rat.num_divInt_den] at e
    subst e
    exact k _ _ (made nx ndx).1 ⟨x, rfl, nx⟩ (made nx ndx).2
theorem ok__law_made {w : World} (T : Tx fa fn ex K mg) (G_Ratio_init : FnG P w K mg base 1 (He.ma K (He.ga K "Ratio") "__init__") ["self", "top", "bottom"] (spInit (He.ga K "Ratio"))) : FnG P w K mg base 3 (He.ga K "_law_made") ["pair"] (spMade (He.ga K "Ratio")) := by
  obtain ⟨fd, F⟩ := T.c.def_ 7 (d := d__law_made) rfl
  exact ⟨⟨fd, okF__law_made T F G_Ratio_init, FunD.bindsN F fun _ _ _ _ _ _ us hl => match us, hl with | [_], _ => rfl⟩, F.kp⟩

abbrev N__law_flag : List Str := ["actual", "due"]
theorem sc__law_flag : FnScope N__law_flag ["actual", "due"] (defScope s__law_flag) := ⟨rfl, rfl, rfl, by decide +kernel, rfl, by decide +kernel, by decide +kernel⟩
theorem okF__law_flag {w : World} (T : Tx fa fn ex K mg) {fd : FuncData} (F : FunD K d__law_flag.name d__law_flag.qual d__law_flag.params d__law_flag.body d__law_flag.scope (d__law_flag.dvs K) (d__law_flag.kws K) (He.fAd K d__law_flag.at_) fd)  : FnOk P w K mg base CX0 1 (He.ga K "_law_flag") fd ["actual", "due"] (spFlag) := by
  have nd : (N__law_flag).Nodup := sc__law_flag.nd
  refine F.ok sc__law_flag (fun vs H Q E h => ?_) (fun cdv A outer s H vs Q E hr h => ?_)
  · obtain ⟨_, _, rfl, _⟩ := h
    rfl
  · obtain ⟨a, b, rfl, rfl, k⟩ := h
    refine ⟨_, PSs.nox (pss_one (ps_ret (pe_and (pe_callB call_isi (by rfl) (T.free 20 rfl) (by decide +kernel) (pa_cons (pv 0) (pa_cons (pe_bltn (v := .ty "bool") (by rfl) (T.free 21 rfl) (by decide +kernel) rfl) pa_nil))) (pe_one (pe_cmpR op_eq (pv 0) (pv 1) (nomark _)))))), ?_⟩
    refine ⟨_, rfl, _, _, _, _, true, rfl, .ty _, .base (.bl a), kit_ty (by decide +kernel), _, rfl, ?_⟩
    refine ifT rfl ?_
    refine ⟨_, rfl, _, rfl, rfl, ?_⟩
    rw [decide_eq_true (rfl : V.bl a = V.bl a)]
    exact k
theorem ok__law_flag {w : World} (T : Tx fa fn ex K mg)  : FnG P w K mg base 1 (He.ga K "_law_flag") ["actual", "due"] (spFlag) := by
  obtain ⟨fd, F⟩ := T.c.def_ 8 (d := d__law_flag) rfl
  exact ⟨⟨fd, okF__law_flag T F , FunD.bindsN F fun _ _ _ _ _ _ us hl => match us, hl with | [_, _], _ => rfl⟩, F.kp⟩

abbrev N_Ratio_ne : List Str := ["self", "other"]
theorem sc_Ratio_ne : FnScope N_Ratio_ne ["self", "other"] (defScope s_Ratio_ne) := ⟨rfl, rfl, rfl, by decide +kernel, rfl, by decide +kernel, by decide +kernel⟩
theorem okF_Ratio_ne {w : World} (T : Tx fa fn ex K mg) {fd : FuncData} (F : FunD K d_Ratio_ne.name d_Ratio_ne.qual d_Ratio_ne.params d_Ratio_ne.body d_Ratio_ne.scope (d_Ratio_ne.dvs K) (d_Ratio_ne.kws K) (He.fAd K d_Ratio_ne.at_) fd)  : FnOk P w K mg base CX0 1 (He.ma K (He.ga K "Ratio") "__ne__") fd ["self", "other"] (spCmp (He.ga K "Ratio") fun p q => !decide (p = q)) := by
  have nd : (N_Ratio_ne).Nodup := sc_Ratio_ne.nd
  refine F.ok sc_Ratio_ne (fun vs H Q E h => ?_) (fun cdv A outer s H vs Q E hr h => ?_)
  · obtain ⟨_, _, _, _, _, rfl, _⟩ := h
    rfl
  · obtain ⟨x, y, p, q, bb, rfl, ⟨a, da, rfl, ha⟩, ⟨b, db, rfl, hb⟩, ok, k⟩ := h
    refine ⟨_, PSs.nox (pss_cons (ps_if (pt_not (pt_val (pe_callB call_isi (by rfl) (T.free 20 rfl) (by decide +kernel) (pa_cons (pv 1) (pa_cons (pe_glob (v := .ref (He.ga K "Ratio")) rfl (T.glo 19 rfl) rfl) pa_nil))))) (pss_one (ps_ret pe_bl))
      pss_nil)
      (pss_one (ps_ret (pe_or (pe_cmpR op_ne (pe_fld (pv 0) rfl) (pe_fld (pv 1) rfl) (nomark _)) (pe_one (pe_cmpR op_ne (pe_fld (pv 0) rfl) (pe_fld (pv 1) rfl) (nomark _))))))), ?_⟩
    refine ⟨_, rfl, _, _, _, _, _, rfl, .own _, (tri T).ty hb, (tri T).me, _, rfl, ?_⟩
    refine ifF rfl ?_
    refine ⟨_, rfl, _, _, _, _, _, rfl, ha, tcl T, ttop T, ratO_top _, _, rfl, _, _, _, _, _, rfl, hb, tcl T, ttop T, ratO_top _, rfl, _, rfl, ?_⟩
    refine ifB (fun hc => ?_) (fun hc => ?_)
    · dsimp only at ok
      rw [ne_dec1 hc] at ok
      rw [ok]
      exact k
    · refine ⟨_, rfl, _, _, _, _, _, rfl, ha, tcl T, tbot T, ratO_bot _, _, rfl, _, _, _, _, _, rfl, hb, tcl T, tbot T, ratO_bot _, rfl, ?_⟩
      rw [ne_dec2 hc]
      dsimp only at ok
      rw [ok]
      exact k
theorem ok_Ratio_ne {w : World} (T : Tx fa fn ex K mg)  : FnG P w K mg base 1 (He.ma K (He.ga K "Ratio") "__ne__") ["self", "other"] (spCmp (He.ga K "Ratio") fun p q => !decide (p = q)) := by
  obtain ⟨fd, F⟩ := T.c.def_ 9 (d := d_Ratio_ne) rfl
  exact ⟨⟨fd, okF_Ratio_ne T F , FunD.bindsN F fun _ _ _ _ _ _ us hl => match us, hl with | [_, _], _ => rfl⟩, F.kp⟩

abbrev N_Ratio_eq : List Str := ["self", "other"]
theorem sc_Ratio_eq : FnScope N_Ratio_eq ["self", "other"] (defScope s_Ratio_eq) := ⟨rfl, rfl, rfl, by decide +kernel, rfl, by decide +kernel, by decide +kernel⟩
theorem okF_Ratio_eq {w : World} (T : Tx fa fn ex K mg) {fd : FuncData} (F : FunD K d_Ratio_eq.name d_Ratio_eq.qual d_Ratio_eq.params d_Ratio_eq.body d_Ratio_eq.scope (d_Ratio_eq.dvs K) (d_Ratio_eq.kws K) (He.fAd K d_Ratio_eq.at_) fd)  : FnOk P w K mg base CX0 1 (He.ma K (He.ga K "Ratio") "__eq__") fd ["self", "other"] (spCmp (He.ga K "Ratio") fun p q => decide (p = q)) := by
  have nd : (N_Ratio_eq).Nodup := sc_Ratio_eq.nd
  refine F.ok sc_Ratio_eq (fun vs H Q E h => ?_) (fun cdv A outer s H vs Q E hr h => ?_)
  · obtain ⟨_, _, _, _, _, rfl, _⟩ := h
    rfl
  · obtain ⟨x, y, p, q, bb, rfl, ⟨a, da, rfl, ha⟩, ⟨b, db, rfl, hb⟩, ok, k⟩ := h
    refine ⟨_, PSs.nox (pss_cons (ps_if (pt_not (pt_val (pe_callB call_isi (by rfl) (T.free 20 rfl) (by decide +kernel) (pa_cons (pv 1) (pa_cons (pe_glob (v := .ref (He.ga K "Ratio")) rfl (T.glo 19 rfl) rfl) pa_nil))))) (pss_one (ps_ret pe_bl))
      pss_nil)
      (pss_one (ps_ret (pe_and (pe_cmpR op_eq (pe_fld (pv 0) rfl) (pe_fld (pv 1) rfl) (nomark _)) (pe_one (pe_cmpR op_eq (pe_fld (pv 0) rfl) (pe_fld (pv 1) rfl) (nomark _))))))), ?_⟩
    refine ⟨_, rfl, _, _, _, _, _, rfl, .own _, (tri T).ty hb, (tri T).me, _, rfl, ?_⟩
    refine ifF rfl ?_
    refine ⟨_, rfl, _, _, _, _, _, rfl, ha, tcl T, ttop T, ratO_top _, _, rfl, _, _, _, _, _, rfl, hb, tcl T, ttop T, ratO_top _, rfl, _, rfl, ?_⟩
    refine ifB (fun hc => ?_) (fun hc => ?_)
    · refine ⟨_, rfl, _, _, _, _, _, rfl, ha, tcl T, tbot T, ratO_bot _, _, rfl, _, _, _, _, _, rfl, hb, tcl T, tbot T, ratO_bot _, rfl, ?_⟩
      rw [eq_dec2 hc]
      dsimp only at ok
      rw [ok]
      exact k
    · dsimp only at ok
      rw [eq_dec0 hc] at ok
      rw [ok]
      exact k
theorem ok_Ratio_eq {w : World} (T : Tx fa fn ex K mg)  : FnG P w K mg base 1 (He.ma K (He.ga K "Ratio") "__eq__") ["self", "other"] (spCmp (He.ga K "Ratio") fun p q => decide (p = q)) := by
  obtain ⟨fd, F⟩ := T.c.def_ 10 (d := d_Ratio_eq) rfl
  exact ⟨⟨fd, okF_Ratio_eq T F , FunD.bindsN F fun _ _ _ _ _ _ us hl => match us, hl with | [_, _], _ => rfl⟩, F.kp⟩

abbrev N_Ratio_le : List Str := ["self", "other"]
theorem sc_Ratio_le : FnScope N_Ratio_le ["self", "other"] (defScope s_Ratio_le) := ⟨rfl, rfl, rfl, by decide +kernel, rfl, by decide +kernel, by decide +kernel⟩
theorem okF_Ratio_le {w : World} (T : Tx fa fn ex K mg) {fd : FuncData} (F : FunD K d_Ratio_le.name d_Ratio_le.qual d_Ratio_le.params d_Ratio_le.body d_Ratio_le.scope (d_Ratio_le.dvs K) (d_Ratio_le.kws K) (He.fAd K d_Ratio_le.at_) fd)  : FnOk P w K mg base CX0 1 (He.ma K (He.ga K "Ratio") "__le__") fd ["self", "other"] (spCmpO (He.ga K "Ratio") fun p q => decide (p ≤ q)) := by
  have nd : (N_Ratio_le).Nodup := sc_Ratio_le.nd
  refine F.ok sc_Ratio_le (fun vs H Q E h => ?_) (fun cdv A outer s H vs Q E hr h => ?_)
  · obtain ⟨_, _, _, _, _, rfl, _⟩ := h
    rfl
  · obtain ⟨x, y, p, q, bb, rfl, ⟨a, da, rfl, ha⟩, ⟨b, db, rfl, hb⟩, ⟨o2, ok⟩, k⟩ := h
    refine ⟨_, PSs.nox (pss_one (ps_ret (pe_cmpR op_le (pe_op op_mulW (pe_fld (pv 0) rfl) (pe_fld (pv 1) rfl)) (pe_op op_mulW (pe_fld (pv 1) rfl) (pe_fld (pv 0) rfl)) (nomark _)))), ?_⟩
    have m := ok2_mul o2
    refine ⟨_, rfl, _, _, _, _, _, rfl, ha, tcl T, ttop T, ratO_top _, _, rfl, _, _, _, _, _, rfl, hb, tcl T, tbot T, ratO_bot _, _, _, rfl, rfl, m.1, _, rfl, _, _, _, _, _, rfl, hb, tcl T, ttop T, ratO_top _, _, rfl, _, _, _, _, _, rfl, ha, tcl T, tbot T, ratO_bot _, _, _, rfl, rfl, m.2.1, _, _, rfl, rfl, ?_⟩
    rw [← ok] at k
    dsimp only at k
    rw [dec_le] at k
    exact k
theorem ok_Ratio_le {w : World} (T : Tx fa fn ex K mg)  : FnG P w K mg base 1 (He.ma K (He.ga K "Ratio") "__le__") ["self", "other"] (spCmpO (He.ga K "Ratio") fun p q => decide (p ≤ q)) := by
  obtain ⟨fd, F⟩ := T.c.def_ 11 (d := d_Ratio_le) rfl
  exact ⟨⟨fd, okF_Ratio_le T F , FunD.bindsN F fun _ _ _ _ _ _ us hl => match us, hl with | [_, _], _ => rfl⟩, F.kp⟩

abbrev N_Ratio_lt : List Str := ["self", "other"]
theorem sc_Ratio_lt : FnScope N_Ratio_lt ["self", "other"] (defScope s_Ratio_lt) := ⟨rfl, rfl, rfl, by decide +kernel, rfl, by decide +kernel, by decide +kernel⟩
theorem okF_Ratio_lt {w : World} (T : Tx fa fn ex K mg) {fd : FuncData} (F : FunD K d_Ratio_lt.name d_Ratio_lt.qual d_Ratio_lt.params d_Ratio_lt.body d_Ratio_lt.scope (d_Ratio_lt.dvs K) (d_Ratio_lt.kws K) (He.fAd K d_Ratio_lt.at_) fd)  : FnOk P w K mg base CX0 1 (He.ma K (He.ga K "Ratio") "__lt__") fd ["self", "other"] (spCmpO (He.ga K "Ratio") fun p q => decide (p < q)) := by
  have nd : (N_Ratio_lt).Nodup := sc_Ratio_lt.nd
  refine F.ok sc_Ratio_lt (fun vs H Q E h => ?_) (fun cdv A outer s H vs Q E hr h => ?_)
  · obtain ⟨_, _, _, _, _, rfl, _⟩ := h
    rfl
  · obtain ⟨x, y, p, q, bb, rfl, ⟨a, da, rfl, ha⟩, ⟨b, db, rfl, hb⟩, ⟨o2, ok⟩, k⟩ := h
    refine ⟨_, PSs.nox (pss_one (ps_ret (pe_cmpR op_lt (pe_op op_mulW (pe_fld (pv 0) rfl) (pe_fld (pv 1) rfl)) (pe_op op_mulW (pe_fld (pv 1) rfl) (pe_fld (pv 0) rfl)) (nomark _)))), ?_⟩
    have m := ok2_mul o2
    refine ⟨_, rfl, _, _, _, _, _, rfl, ha, tcl T, ttop T, ratO_top _, _, rfl, _, _, _, _, _, rfl, hb, tcl T, tbot T, ratO_bot _, _, _, rfl, rfl, m.1, _, rfl, _, _, _, _, _, rfl, hb, tcl T, ttop T, ratO_top _, _, rfl, _, _, _, _, _, rfl, ha, tcl T, tbot T, ratO_bot _, _, _, rfl, rfl, m.2.1, _, _, rfl, rfl, ?_⟩
    rw [← ok] at k
    dsimp only at k
    rw [dec_lt] at k
    exact k
theorem ok_Ratio_lt {w : World} (T : Tx fa fn ex K mg)  : FnG P w K mg base 1 (He.ma K (He.ga K "Ratio") "__lt__") ["self", "other"] (spCmpO (He.ga K "Ratio") fun p q => decide (p < q)) := by
  obtain ⟨fd, F⟩ := T.c.def_ 12 (d := d_Ratio_lt) rfl
  exact ⟨⟨fd, okF_Ratio_lt T F , FunD.bindsN F fun _ _ _ _ _ _ us hl => match us, hl with | [_, _], _ => rfl⟩, F.kp⟩

abbrev N_Ratio_ge : List Str := ["self", "other"]
theorem sc_Ratio_ge : FnScope N_Ratio_ge ["self", "other"] (defScope s_Ratio_ge) := ⟨rfl, rfl, rfl, by decide +kernel, rfl, by decide +kernel, by decide +kernel⟩
theorem okF_Ratio_ge {w : World} (T : Tx fa fn ex K mg) {fd : FuncData} (F : FunD K d_Ratio_ge.name d_Ratio_ge.qual d_Ratio_ge.params d_Ratio_ge.body d_Ratio_ge.scope (d_Ratio_ge.dvs K) (d_Ratio_ge.kws K) (He.fAd K d_Ratio_ge.at_) fd)  : FnOk P w K mg base CX0 1 (He.ma K (He.ga K "Ratio") "__ge__") fd ["self", "other"] (spCmpO (He.ga K "Ratio") fun p q => decide (q ≤ p)) := by
  have nd : (N_Ratio_ge).Nodup := sc_Ratio_ge.nd
  refine F.ok sc_Ratio_ge (fun vs H Q E h => ?_) (fun cdv A outer s H vs Q E hr h => ?_)
  · obtain ⟨_, _, _, _, _, rfl, _⟩ := h
    rfl
  · obtain ⟨x, y, p, q, bb, rfl, ⟨a, da, rfl, ha⟩, ⟨b, db, rfl, hb⟩, ⟨o2, ok⟩, k⟩ := h
    refine ⟨_, PSs.nox (pss_one (ps_ret (pe_cmpR op_ge (pe_op op_mulW (pe_fld (pv 0) rfl) (pe_fld (pv 1) rfl)) (pe_op op_mulW (pe_fld (pv 1) rfl) (pe_fld (pv 0) rfl)) (nomark _)))), ?_⟩
    have m := ok2_mul o2
    refine ⟨_, rfl, _, _, _, _, _, rfl, ha, tcl T, ttop T, ratO_top _, _, rfl, _, _, _, _, _, rfl, hb, tcl T, tbot T, ratO_bot _, _, _, rfl, rfl, m.1, _, rfl, _, _, _, _, _, rfl, hb, tcl T, ttop T, ratO_top _, _, rfl, _, _, _, _, _, rfl, ha, tcl T, tbot T, ratO_bot _, _, _, rfl, rfl, m.2.1, _, _, rfl, rfl, ?_⟩
    rw [← ok] at k
    dsimp only at k
    rw [dec_ge] at k
    exact k
theorem ok_Ratio_ge {w : World} (T : Tx fa fn ex K mg)  : FnG P w K mg base 1 (He.ma K (He.ga K "Ratio") "__ge__") ["self", "other"] (spCmpO (He.ga K "Ratio") fun p q => decide (q ≤ p)) := by
  obtain ⟨fd, F⟩ := T.c.def_ 13 (d := d_Ratio_ge) rfl
  exact ⟨⟨fd, okF_Ratio_ge T F , FunD.bindsN F fun _ _ _ _ _ _ us hl => match us, hl with | [_, _], _ => rfl⟩, F.kp⟩

abbrev N_Ratio_gt : List Str := ["self", "other"]
theorem sc_Ratio_gt : FnScope N_Ratio_gt ["self", "other"] (defScope s_Ratio_gt) := ⟨rfl, rfl, rfl, by decide +kernel, rfl, by decide +kernel, by decide +kernel⟩
theorem okF_Ratio_gt {w : World} (T : Tx fa fn ex K mg) {fd : FuncData} (F : FunD K d_Ratio_gt.name d_Ratio_gt.qual d_Ratio_gt.params d_Ratio_gt.body d_Ratio_gt.scope (d_Ratio_gt.dvs K) (d_Ratio_gt.kws K) (He.fAd K d_Ratio_gt.at_) fd)  : FnOk P w K mg base CX0 1 (He.ma K (He.ga K "Ratio") "__gt__") fd ["self", "other"] (spCmpO (He.ga K "Ratio") fun p q => decide (q < p)) := by
  have nd : (N_Ratio_gt).Nodup := sc_Ratio_gt.nd
  refine F.ok sc_Ratio_gt (fun vs H Q E h => ?_) (fun cdv A outer s H vs Q E hr h => ?_)
  · obtain ⟨_, _, _, _, _, rfl, _⟩ := h
    rfl
  · obtain ⟨x, y, p, q, bb, rfl, ⟨a, da, rfl, ha⟩, ⟨b, db, rfl, hb⟩, ⟨o2, ok⟩, k⟩ := h
    refine ⟨_, PSs.nox (pss_one (ps_ret (pe_cmpR op_gt (pe_op op_mulW (pe_fld (pv 0) rfl) (pe_fld (pv 1) rfl)) (pe_op op_mulW (pe_fld (pv 1) rfl) (pe_fld (pv 0) rfl)) (nomark _)))), ?_⟩
    have m := ok2_mul o2
    refine ⟨_, rfl, _, _, _, _, _, rfl, ha, tcl T, ttop T, ratO_top _, _, rfl, _, _, _, _, _, rfl, hb, tcl T, tbot T, ratO_bot _, _, _, rfl, rfl, m.1, _, rfl, _, _, _, _, _, rfl, hb, tcl T, ttop T, ratO_top _, _, rfl, _, _, _, _, _, rfl, ha, tcl T, tbot T, ratO_bot _, _, _, rfl, rfl, m.2.1, _, _, rfl, rfl, ?_⟩
    rw [← ok] at k
    dsimp only at k
    rw [dec_gt] at k
    exact k
theorem ok_Ratio_gt {w : World} (T : Tx fa fn ex K mg)  : FnG P w K mg base 1 (He.ma K (He.ga K "Ratio") "__gt__") ["self", "other"] (spCmpO (He.ga K "Ratio") fun p q => decide (q < p)) := by
  obtain ⟨fd, F⟩ := T.c.def_ 14 (d := d_Ratio_gt) rfl
  exact ⟨⟨fd, okF_Ratio_gt T F , FunD.bindsN F fun _ _ _ _ _ _ us hl => match us, hl with | [_, _], _ => rfl⟩, F.kp⟩

theorem okF_Ratio_ne_v_s {w : World} (T : Tx fa fn ex K mg) {fd : FuncData} (F : FunD K d_Ratio_ne.name d_Ratio_ne.qual d_Ratio_ne.params d_Ratio_ne.body d_Ratio_ne.scope (d_Ratio_ne.dvs K) (d_Ratio_ne.kws K) (He.fAd K d_Ratio_ne.at_) fd)  : FnOk P w K mg base CX0 1 (He.ma K (He.ga K "Ratio") "__ne__") fd ["self", "other"] (spCmpS (He.ga K "Ratio") true) := by
  have nd : (N_Ratio_ne).Nodup := sc_Ratio_ne.nd
  refine F.ok sc_Ratio_ne (fun vs H Q E h => ?_) (fun cdv A outer s H vs Q E hr h => ?_)
  · obtain ⟨_, _, _, rfl, _⟩ := h
    rfl
  · obtain ⟨x, y, p, rfl, ⟨a, da, rfl, ha⟩, hy, k⟩ := h
    refine ⟨_, PSs.nox (pss_cons (ps_if (pt_not (pt_val (pe_callB call_isi (by rfl) (T.free 20 rfl) (by decide +kernel) (pa_cons (pv 1) (pa_cons (pe_glob (v := .ref (He.ga K "Ratio")) rfl (T.glo 19 rfl) rfl) pa_nil))))) (pss_one (ps_ret pe_bl))
      pss_nil)
      (pss_one (ps_ret (pe_or (pe_cmpR op_ne (pe_fld (pv 0) rfl) (pe_fld (pv 1) rfl) (nomark _)) (pe_one (pe_cmpR op_ne (pe_fld (pv 0) rfl) (pe_fld (pv 1) rfl) (nomark _))))))), ?_⟩
    obtain ⟨t, h1, h2⟩ := hy.ty (H := H) (tri T)
    refine ⟨_, rfl, _, _, _, _, _, rfl, .own _, h1, h2, _, rfl, ?_⟩
    refine ifT rfl ?_
    exact k
theorem ok_Ratio_ne_v_s {w : World} (T : Tx fa fn ex K mg)  : FnG P w K mg base 1 (He.ma K (He.ga K "Ratio") "__ne__") ["self", "other"] (spCmpS (He.ga K "Ratio") true) := by
  obtain ⟨fd, F⟩ := T.c.def_ 9 (d := d_Ratio_ne) rfl
  exact ⟨⟨fd, okF_Ratio_ne_v_s T F , FunD.bindsN F fun _ _ _ _ _ _ us hl => match us, hl with | [_, _], _ => rfl⟩, F.kp⟩

theorem okF_Ratio_eq_v_s {w : World} (T : Tx fa fn ex K mg) {fd : FuncData} (F : FunD K d_Ratio_eq.name d_Ratio_eq.qual d_Ratio_eq.params d_Ratio_eq.body d_Ratio_eq.scope (d_Ratio_eq.dvs K) (d_Ratio_eq.kws K) (He.fAd K d_Ratio_eq.at_) fd)  : FnOk P w K mg base CX0 1 (He.ma K (He.ga K "Ratio") "__eq__") fd ["self", "other"] (spCmpS (He.ga K "Ratio") false) := by
  have nd : (N_Ratio_eq).Nodup := sc_Ratio_eq.nd
  refine F.ok sc_Ratio_eq (fun vs H Q E h => ?_) (fun cdv A outer s H vs Q E hr h => ?_)
  · obtain ⟨_, _, _, rfl, _⟩ := h
    rfl
  · obtain ⟨x, y, p, rfl, ⟨a, da, rfl, ha⟩, hy, k⟩ := h
    refine ⟨_, PSs.nox (pss_cons (ps_if (pt_not (pt_val (pe_callB call_isi (by rfl) (T.free 20 rfl) (by decide +kernel) (pa_cons (pv 1) (pa_cons (pe_glob (v := .ref (He.ga K "Ratio")) rfl (T.glo 19 rfl) rfl) pa_nil))))) (pss_one (ps_ret pe_bl))
      pss_nil)
      (pss_one (ps_ret (pe_and (pe_cmpR op_eq (pe_fld (pv 0) rfl) (pe_fld (pv 1) rfl) (nomark _)) (pe_one (pe_cmpR op_eq (pe_fld (pv 0) rfl) (pe_fld (pv 1) rfl) (nomark _))))))), ?_⟩
    obtain ⟨t, h1, h2⟩ := hy.ty (H := H) (tri T)
    refine ⟨_, rfl, _, _, _, _, _, rfl, .own _, h1, h2, _, rfl, ?_⟩
    refine ifT rfl ?_
    exact k
theorem ok_Ratio_eq_v_s {w : World} (T : Tx fa fn ex K mg)  : FnG P w K mg base 1 (He.ma K (He.ga K "Ratio") "__eq__") ["self", "other"] (spCmpS (He.ga K "Ratio") false) := by
  obtain ⟨fd, F⟩ := T.c.def_ 10 (d := d_Ratio_eq) rfl
  exact ⟨⟨fd, okF_Ratio_eq_v_s T F , FunD.bindsN F fun _ _ _ _ _ _ us hl => match us, hl with | [_, _], _ => rfl⟩, F.kp⟩

abbrev N_law : List Str := ["script", "state", "a", "b", "factor", "one", "other", "left", "right", "thing"]
theorem sc_law : FnScope N_law ["script"] (defScope s_law) := ⟨rfl, rfl, rfl, by decide +kernel, rfl, by decide +kernel, by decide +kernel⟩
theorem okF_law {w : World} (T : Tx fa fn ex K mg) {fd : FuncData} (F : FunD K d_law.name d_law.qual d_law.params d_law.body d_law.scope (d_law.dvs K) (d_law.kws K) (He.fAd K d_law.at_) fd) (G__law_tape : FnG P w K mg base 1 (He.ga K "_law_tape") ["script"] (spTape K)) (G__law_number : FnG P w K mg base 3 (He.ga K "_law_number") ["state"] (spNumber)) (G__law_take : FnG P w K mg base 2 (He.ga K "_law_take") ["state", "many"] (spTake)) (G__law_pair : FnG P w K mg base 2 (He.ga K "_law_pair") ["top", "bottom"] (spPair)) (G__law_made : FnG P w K mg base 3 (He.ga K "_law_made") ["pair"] (spMade (He.ga K "Ratio"))) (G__law_flag : FnG P w K mg base 1 (He.ga K "_law_flag") ["actual", "due"] (spFlag)) (G_Ratio_ne : FnG P w K mg base 1 (He.ma K (He.ga K "Ratio") "__ne__") ["self", "other"] (spCmp (He.ga K "Ratio") fun p q => !decide (p = q))) (G_Ratio_eq : FnG P w K mg base 1 (He.ma K (He.ga K "Ratio") "__eq__") ["self", "other"] (spCmp (He.ga K "Ratio") fun p q => decide (p = q))) (G_Ratio_le : FnG P w K mg base 1 (He.ma K (He.ga K "Ratio") "__le__") ["self", "other"] (spCmpO (He.ga K "Ratio") fun p q => decide (p ≤ q))) (G_Ratio_lt : FnG P w K mg base 1 (He.ma K (He.ga K "Ratio") "__lt__") ["self", "other"] (spCmpO (He.ga K "Ratio") fun p q => decide (p < q))) (G_Ratio_ge : FnG P w K mg base 1 (He.ma K (He.ga K "Ratio") "__ge__") ["self", "other"] (spCmpO (He.ga K "Ratio") fun p q => decide (q ≤ p))) (G_Ratio_gt : FnG P w K mg base 1 (He.ma K (He.ga K "Ratio") "__gt__") ["self", "other"] (spCmpO (He.ga K "Ratio") fun p q => decide (q < p))) (G_Ratio_ne_v_s : FnG P w K mg base 1 (He.ma K (He.ga K "Ratio") "__ne__") ["self", "other"] (spCmpS (He.ga K "Ratio") true)) (G_Ratio_eq_v_s : FnG P w K mg base 1 (He.ma K (He.ga K "Ratio") "__eq__") ["self", "other"] (spCmpS (He.ga K "Ratio") false)) : FnOk P w K mg base CX0 4 (He.ga K "law") fd ["script"] (spLaw K) := by
  have nd : (N_law).Nodup := sc_law.nd
  refine F.ok sc_law (fun vs H Q E h => ?_) (fun cdv A outer s H vs Q E hr h => ?_)
  · obtain ⟨_, _, rfl, _⟩ := h
    rfl
  · obtain ⟨a, ns, rfl, hS, hn, k⟩ := h
    refine ⟨_, PSs.nox (pss_cons (ps_set (i := 1) nd rfl (by first | exact Or.inl rfl | exact Or.inr rfl) (pe_lst (pa_cons (pe_callF G__law_tape (hr.mono (by decide)) (T.glo 0 rfl) (pa_cons (pv 0) pa_nil)) (pa_cons pe_int pa_nil))))
      (pss_cons (ps_set (i := 2) nd rfl (by first | exact Or.inl rfl | exact Or.inr rfl) (pe_callF G__law_number (hr.mono (by decide)) (T.glo 1 rfl) (pa_cons (pv 1) pa_nil)))
      (pss_cons (ps_set (i := 3) nd rfl (by first | exact Or.inl rfl | exact Or.inr rfl) (pe_callF G__law_number (hr.mono (by decide)) (T.glo 1 rfl) (pa_cons (pv 1) pa_nil)))
      (Evl.pss_cut (ps_if (pt_cmpR op_eq (pe_callF G__law_take (hr.mono (by decide)) (T.glo 2 rfl) (pa_cons (pv 1) (pa_cons pe_int pa_nil))) pe_int (nomark _)) (pss_cons (ps_set (i := 4) nd rfl (by first | exact Or.inl rfl | exact Or.inr rfl) (pe_op op_add pe_int (pe_op op_mulW pe_int (pe_callF G__law_take (hr.mono (by decide)) (T.glo 2 rfl) (pa_cons (pv 1) (pa_cons pe_int pa_nil))))))
      (pss_one (ps_set (i := 3) nd rfl (by first | exact Or.inl rfl | exact Or.inr rfl) (pe_callF G__law_pair (hr.mono (by decide)) (T.glo 3 rfl) (pa_cons (pe_op op_add (pe_op op_mulW (pe_ix ix_tup (pv 2) pe_int (fun _ _ => rfl)) (pv 4)) (pe_callF G__law_take (hr.mono (by decide)) (T.glo 2 rfl) (pa_cons (pv 1) (pa_cons pe_int pa_nil)))) (pa_cons (pe_op op_mulW (pe_ix ix_tup (pv 2) pe_int (fun _ _ => rfl)) (pv 4)) pa_nil))))))
      pss_nil)
      (pss_cons (ps_set (i := 5) nd rfl (by first | exact Or.inl rfl | exact Or.inr rfl) (pe_callF G__law_made (hr.mono (by decide)) (T.glo 4 rfl) (pa_cons (pv 2) pa_nil)))
      (pss_cons (ps_set (i := 6) nd rfl (by first | exact Or.inl rfl | exact Or.inr rfl) (pe_callF G__law_made (hr.mono (by decide)) (T.glo 4 rfl) (pa_cons (pv 3) pa_nil)))
      (pss_cons (ps_set (i := 7) nd rfl (by first | exact Or.inl rfl | exact Or.inr rfl) (pe_op op_mulW (pe_ix ix_tup (pv 2) pe_int (fun _ _ => rfl)) (pe_ix ix_tup (pv 3) pe_int (fun _ _ => rfl))))
      (pss_cons (ps_set (i := 8) nd rfl (by first | exact Or.inl rfl | exact Or.inr rfl) (pe_op op_mulW (pe_ix ix_tup (pv 3) pe_int (fun _ _ => rfl)) (pe_ix ix_tup (pv 2) pe_int (fun _ _ => rfl))))
      (pss_cons (ps_if (PW.pt (pw_or (pt_not (pt_val (pe_callF G__law_flag (hr.mono (by decide)) (T.glo 5 rfl) (pa_cons (pe_cmpR (op_cmpF (op := .Eq) G_Ratio_eq (hr.mono (by decide)) (T.meth 7 rfl)) (pv 5) (pv 6) (nomark _)) (pa_cons (pe_cmpR op_eq (pv 7) (pv 8) (nomark _)) pa_nil))))) (pw_or1 (pt_not (pt_val (pe_callF G__law_flag (hr.mono (by decide)) (T.glo 5 rfl) (pa_cons (pe_cmpR (op_cmpF (op := .NotEq) G_Ratio_ne (hr.mono (by decide)) (T.meth 6 rfl)) (pv 5) (pv 6) (nomark _)) (pa_cons (pe_cmpR op_ne (pv 7) (pv 8) (nomark _)) pa_nil)))))))) (pss_one (ps_ret pe_bl))
      pss_nil)
      (pss_cons (ps_if (PW.pt (pw_or (pt_not (pt_val (pe_callF G__law_flag (hr.mono (by decide)) (T.glo 5 rfl) (pa_cons (pe_cmpR (op_cmpF (op := .Lt) G_Ratio_lt (hr.mono (by decide)) (T.meth 9 rfl)) (pv 5) (pv 6) (nomark _)) (pa_cons (pe_cmpR op_lt (pv 7) (pv 8) (nomark _)) pa_nil))))) (pw_or1 (pt_not (pt_val (pe_callF G__law_flag (hr.mono (by decide)) (T.glo 5 rfl) (pa_cons (pe_cmpR (op_cmpF (op := .LtE) G_Ratio_le (hr.mono (by decide)) (T.meth 8 rfl)) (pv 5) (pv 6) (nomark _)) (pa_cons (pe_cmpR op_le (pv 7) (pv 8) (nomark _)) pa_nil)))))))) (pss_one (ps_ret pe_bl))
      pss_nil)
      (pss_cons (ps_if (PW.pt (pw_or (pt_not (pt_val (pe_callF G__law_flag (hr.mono (by decide)) (T.glo 5 rfl) (pa_cons (pe_cmpR (op_cmpF (op := .Gt) G_Ratio_gt (hr.mono (by decide)) (T.meth 11 rfl)) (pv 5) (pv 6) (nomark _)) (pa_cons (pe_cmpR op_gt (pv 7) (pv 8) (nomark _)) pa_nil))))) (pw_or1 (pt_not (pt_val (pe_callF G__law_flag (hr.mono (by decide)) (T.glo 5 rfl) (pa_cons (pe_cmpR (op_cmpF (op := .GtE) G_Ratio_ge (hr.mono (by decide)) (T.meth 10 rfl)) (pv 5) (pv 6) (nomark _)) (pa_cons (pe_cmpR op_ge (pv 7) (pv 8) (nomark _)) pa_nil)))))))) (pss_one (ps_ret pe_bl))
      pss_nil)
      (pss_cons (ps_for PassesOwn.never rfl (pi_list (pe_lst (pa_cons (pe_ix ix_tup (pv 2) pe_int (fun _ _ => rfl)) (pa_cons pe_str (pa_cons pe_non pa_nil))))) (pg_name (i := 9) nd rfl (by first | exact Or.inl rfl | exact Or.inr rfl))
      (pss_one (ps_if (PW.pt (pw_or (pt_not (pt_val (pe_callF G__law_flag (hr.mono (by decide)) (T.glo 5 rfl) (pa_cons (pe_cmpR (op_cmpS (op := .Eq) (tri T) G_Ratio_eq_v_s (hr.mono (by decide)) (T.meth 7 rfl)) (pv 5) (pv 9) (nomark _)) (pa_cons pe_bl pa_nil))))) (pw_or1 (pt_not (pt_val (pe_callF G__law_flag (hr.mono (by decide)) (T.glo 5 rfl) (pa_cons (pe_cmpR (op_cmpS (op := .NotEq) (tri T) G_Ratio_ne_v_s (hr.mono (by decide)) (T.meth 6 rfl)) (pv 5) (pv 9) (nomark _)) (pa_cons pe_bl pa_nil)))))))) (pss_one (ps_ret pe_bl))
      pss_nil)))
      (pss_one (ps_ret pe_bl)))))))))))))), ?_⟩
    refine ⟨_, rfl, a, ns, rfl, hS, hn, fun p H1 items t tl => ?_⟩
    refine ⟨(by show 2 ≤ sizeLine; decide), fun st hst => ?_⟩
    have s0 := stAt_new t tl hst
    
    refine ⟨_, rfl, st, 0, rfl, s0, (by decide), fun qa va H2 sa pa s1 f1 => ?_⟩
    refine ⟨_, rfl, st, _, rfl, s1, (by decide), fun qb vb H4 sb pb s2 f2 => ?_⟩
    have pa := pa.monoS s1 f2
    obtain ⟨aa, rfl, ha⟩ := id pa
    refine ⟨fun σ' H' => ∃ vb qb v4, σ' = [some (.ref a), some (.ref st), some (.ref aa), some vb, v4, none, none, none, none, none] ∧ SmB 80 qb ∧ PrAt H' (.ref aa) qa ∧ PrAt H' vb qb, ?_, ?_⟩
    · refine ⟨_, rfl, st, _, 4, rfl, s2, (by decide), by decide, fun d H5 _ _ s3 f3 => ?_⟩
      have pa := pa.monoS s2 f3
      have pb := pb.monoS s2 f3
      refine ⟨rfl, _, rfl, ?_⟩
      refine ifB (fun _ => ?_) (fun _ => ?_)
      · refine ⟨_, rfl, st, _, 2, rfl, s3, (by decide), by decide, fun e H6 e0 e1 s4 f4 => ?_⟩
        have pa := pa.monoS s3 f4
        obtain ⟨aa', ea, ha⟩ := id pa
        cases ea
        refine ⟨_, _, rfl, rfl, (mulW (n := 40) (m := 40) (by decide) (by omega) (by decide) (by decide) (by decide)), _, _, rfl, rfl, ?_⟩
        have F0 : 0 < 1 + 999 * e := by omega
        have F2 : (1 + 999 * e).natAbs < 2 ^ 10 := by omega
        have d1 : ((qa.den : Nat) : Int).natAbs < 2 ^ 40 := by rw [Int.natAbs_natCast]; exact sa.2
        have z1 := natAbs_mul_lt sa.1 F2
        have z2 := natAbs_mul_lt d1 F2
        have z3 : (0 : Int) < (qa.den : Int) * (1 + 999 * e) := Int.mul_pos (den_pos qa) F0
        have w1 := mulW sa.1 F2 (by decide) (by decide) (by decide)
        have w2 := mulW d1 F2 (by decide) (by decide) (by decide)
        refine ⟨_, rfl, aa, _, _, _, rfl, rfl, SqT.of ha, atI_nat (j := 0) rfl, _, rfl, _, _, rfl, rfl, w1, _, rfl, st, _, 2, rfl, s4, (by decide), by decide, fun g H7 g0 g1 s5 f5 => ?_⟩
        have pa := pa.monoS s4 f5
        obtain ⟨aa', ea, ha⟩ := id pa
        cases ea
        refine ⟨_, _, rfl, rfl, _, rfl, aa, _, _, _, rfl, rfl, SqT.of ha, atI_nat (j := 1) rfl, _, rfl, _, _, rfl, rfl, w2, ?_⟩
        refine ⟨_, _, rfl, z3, Nat.lt_of_lt_of_le z2 (Nat.pow_le_pow_right (by decide) (by decide)), fun r H8 x8 _ pr => ?_⟩
        exact ⟨r, _, _, rfl, ⟨Nat.lt_of_le_of_lt (num_le _ _) (by omega), Nat.lt_of_le_of_lt (den_le _ _ (Int.ne_of_gt z3)) (by omega)⟩, pa.mono x8, pr⟩
      · exact ⟨vb, qb, _, rfl, sb.mono (by decide), pa, pb⟩
    rintro σ' H5 ⟨vb, qb, v4, rfl, sb, pa, pb⟩
    refine ⟨_, rfl, _, qa, rfl, pa, lt9000 sa.2, fun v1 H6 x6 _ ra => ?_⟩
    have pa := pa.mono x6
    have pb := pb.mono x6
    refine ⟨_, rfl, _, qb, rfl, pb, Nat.lt_of_lt_of_le sb.2 (Nat.pow_le_pow_right (by decide) (by decide)), fun v2 H7 x7 _ rb => ?_⟩
    have pa := pa.mono x7
    have pb := pb.mono x7
    have ra := ra.mono x7
    obtain ⟨aa', ea, ha⟩ := id pa
    cases ea
    obtain ⟨bb', eb, hb⟩ := id pb
    subst eb
    have sa : SmB 80 qa := sa.mono (by decide)
    have mW := ok2_mul (ok2_of sa sb (by decide) (by decide) (by decide))
    refine ⟨_, rfl, aa, _, _, _, rfl, rfl, SqT.of ha, atI_nat (j := 0) rfl, _, rfl, bb', _, _, _, rfl, rfl, SqT.of hb, atI_nat (j := 1) rfl, _, _, rfl, rfl, mW.1, ?_⟩
    refine ⟨_, rfl, bb', _, _, _, rfl, rfl, SqT.of hb, atI_nat (j := 0) rfl, _, rfl, aa, _, _, _, rfl, rfl, SqT.of ha, atI_nat (j := 1) rfl, _, _, rfl, rfl, mW.2.1, ?_⟩
    refine q_when (b := false) (et_is (et_or (et_not (et_test (ev_call (ea_cons (ev_cmp (fq_var ra) (fq_var rb)) (ea_cons (ev_op (ev_var rfl) (ev_var rfl) (rv_eq rfl)) ea_nil)) (flag_spv ?f1)))) (fun h0_0 => (et_not (et_test (ev_call (ea_cons (ev_cmp (fq_var ra) (fq_var rb)) (ea_cons (ev_op (ev_var rfl) (ev_var rfl) (rv_ne rfl)) ea_nil)) (flag_spv ?f2)))))) ?b0) (fun h => nomatch h) (fun _ H20 x20 => ?_)
    case f1 => exact k03_eq _ _
    case f2 => exact k03_ne _ _
    case b0 => rfl
    have ra := ra.mono x20
    have rb := rb.mono x20
    have pa := pa.mono x20
    refine q_when (b := false) (et_is (et_or (et_not (et_test (ev_call (ea_cons (ev_cmpO (fq_var ra) (fq_var rb) (ok2_of sa sb (by decide) (by decide) (by decide))) (ea_cons (ev_op (ev_var rfl) (ev_var rfl) rv_I0) ea_nil)) (flag_spv ?f3)))) (fun h0_0 => (et_not (et_test (ev_call (ea_cons (ev_cmpO (fq_var ra) (fq_var rb) (ok2_of sa sb (by decide) (by decide) (by decide))) (ea_cons (ev_op (ev_var rfl) (ev_var rfl) rv_I0) ea_nil)) (flag_spv ?f4)))))) ?b1) (fun h => nomatch h) (fun _ H21 x21 => ?_)
    case f3 => exact dec_lt _ _
    case f4 => exact dec_le _ _
    case b1 => rfl
    have ra := ra.mono x21
    have rb := rb.mono x21
    have pa := pa.mono x21
    refine q_when (b := false) (et_is (et_or (et_not (et_test (ev_call (ea_cons (ev_cmpO (fq_var ra) (fq_var rb) (ok2_of sa sb (by decide) (by decide) (by decide))) (ea_cons (ev_op (ev_var rfl) (ev_var rfl) rv_I0) ea_nil)) (flag_spv ?f5)))) (fun h0_0 => (et_not (et_test (ev_call (ea_cons (ev_cmpO (fq_var ra) (fq_var rb) (ok2_of sa sb (by decide) (by decide) (by decide))) (ea_cons (ev_op (ev_var rfl) (ev_var rfl) rv_I0) ea_nil)) (flag_spv ?f6)))))) ?b2) (fun h => nomatch h) (fun _ H22 x22 => ?_)
    case f5 => exact dec_gt _ _
    case f6 => exact dec_ge _ _
    case b2 => rfl
    have ra := ra.mono x22
    have rb := rb.mono x22
    have pa := pa.mono x22
    obtain ⟨aa', ea, ha⟩ := id pa
    cases ea
    refine ⟨_, rfl, aa, _, _, _, rfl, rfl, SqT.of ha, atI_nat (j := 0) rfl, (by show 3 ≤ sizeLine; decide), fun l hl => ?_⟩
    have ra := ra.mono (Ex.new (o := .lst [V.int qa.num, V.str "1", V.non]) hl)
    generalize hH : upd H22 l (.lst [V.int qa.num, V.str "1", V.non]) = H23 at ra ⊢
    have hL : H23 l = some (.lst [V.int qa.num, V.str "1", V.non]) := by rw [← hH]; exact upd_same
    refine ⟨l, rfl, ⟨_, SqL.of hL⟩, for_list (K := K) (a := l) (xs := [V.int qa.num, V.str "1", V.non]) (fun i σ H' => ∃ v9, σ = [some (.ref a), some (.ref st), some (.ref aa), some (.ref bb'), v4, some v1, some v2, some (.int (qa.num * (qb.den : Int))), some (.int (qb.num * (qa.den : Int))), v9] ∧ Ex H23 H') ⟨_, rfl, Ex.refl _⟩ (fun i σ H' _ ⟨_, _, e⟩ => ex_sq (SqL.of hL) e) ?_ ?_⟩
    · rintro i y σ H' hi ⟨v9, rfl, e9⟩
      have ra := ra.mono e9
      have sy : Scal y := by
        have hm := List.mem_of_getElem? hi
        simp only [List.mem_cons, List.not_mem_nil, or_false] at hm
        rcases hm with rfl | rfl | rfl
        · exact .int _
        · exact .str _
        · exact .non
      refine s_if (b := false) (et_is (et_or (et_not (et_test (ev_call (ea_cons (ev_cmpS (fq_var ra) (ev_var rfl) sy) (ea_cons ev_c ea_nil)) (flag_spv ?f11)))) (fun h0_0 => (et_not (et_test (ev_call (ea_cons (ev_cmpS (fq_var ra) (ev_var rfl) sy) (ea_cons ev_c ea_nil)) (flag_spv ?f12)))))) ?bl) (fun h => nomatch h) (fun _ H24 x24 => ?_)
      case f11 => rfl
      case f12 => rfl
      case bl => rfl
      exact ⟨_, rfl, e9.trans x24⟩
    · rintro σ H' ⟨v9, rfl, e9⟩
      exact k _

end
abbrev R : PySem.W.OpenRow := PySem.W.OpenLaw.row PySem.Challenge.rw_plumbnet_k03_order_of_fractions
abbrev hk : PySem.W.Hook := He.hookX 4 fa fn [] [] ex
def ob (s : PySem.W.SharedT) : He.AlX := He.obsX 4 fa fn [] [] ex (HandSHeadRun.getT s)
theorem ob_eq (s : PySem.W.SharedT) : ob s = hk.obs s.abs := He.obsX_eq (HandSHeadRun.getT_eq s)
theorem run (w : World) : HandSHeadRun.RunEqI R (PySem.W.view R.prog [0, 19]) hk ob 20000 (["_wall", "__name__", "SurveyError", "BadNumber", "ZeroDivisor", "MOST_DIGITS", "Ratio", "is_short", "_law_tape", "_law_draw", "_law_take", "_law_common", "_law_pair", "_law_number", "_law_made", "_law_flag"]) w := by
  unfold HandSHeadRun.RunEqI
  kernel_rfl
theorem facts {P : Program} {w : World} {K : PySem.W.Frag} {h h0 : Heap} {mg : Str → Option Value} {f : Addr} (X : K.In h) (G : h.Ns mainGlobals mg) (hfa : mg ("law" : Str) = some (.ref f)) (c : He.SaysX fa fn [] [] ex w h0 K) :
    ∃ fd : FuncData, (∀ (s : Shared) (v : Value), BindsTo s fd ⟨[v], []⟩ [("script", v)]) ∧ ∀ base : Heap, K.In base → base.Ns mainGlobals mg → FnOk P w K mg base CX0 4 f fd ["script"] (spLaw K) := by
  have T : Tx fa fn ex K mg := ⟨c.t.d, c.more, h, X, G⟩
  obtain ⟨fd, F⟩ := T.c.def_ 15 (d := d_law) rfl
  have e := hfa.symm.trans (T.glo 22 rfl)
  cases e
  refine ⟨fd, fun s v => FunD.bindsA (ps := ["script"]) F (fun _ _ _ _ _ _ us hl => match us, hl with | [_], _ => rfl) s [v] rfl, fun base _ _ => ?_⟩
  · 
    have g__law_tape : FnG P w K mg base 1 (He.ga K "_law_tape") ["script"] (spTape K) := ok__law_tape T 
    have g__law_draw : FnG P w K mg base 1 (He.ga K "_law_draw") ["tape", "at", "many"] (spDraw) := ok__law_draw T 
    have g__law_take : FnG P w K mg base 2 (He.ga K "_law_take") ["state", "many"] (spTake) := ok__law_take T g__law_draw
    have g__law_common : FnG P w K mg base 1 (He.ga K "_law_common") ["one", "other"] (spCommon) := ok__law_common T 
    have g__law_pair : FnG P w K mg base 2 (He.ga K "_law_pair") ["top", "bottom"] (spPair) := ok__law_pair T g__law_common
    have g__law_number : FnG P w K mg base 3 (He.ga K "_law_number") ["state"] (spNumber) := ok__law_number T g__law_take g__law_pair
    have g_Ratio_init : FnG P w K mg base 1 (He.ma K (He.ga K "Ratio") "__init__") ["self", "top", "bottom"] (spInit (He.ga K "Ratio")) := ok_Ratio_init T 
    have g__law_made : FnG P w K mg base 3 (He.ga K "_law_made") ["pair"] (spMade (He.ga K "Ratio")) := ok__law_made T g_Ratio_init
    have g__law_flag : FnG P w K mg base 1 (He.ga K "_law_flag") ["actual", "due"] (spFlag) := ok__law_flag T 
    have g_Ratio_ne : FnG P w K mg base 1 (He.ma K (He.ga K "Ratio") "__ne__") ["self", "other"] (spCmp (He.ga K "Ratio") fun p q => !decide (p = q)) := ok_Ratio_ne T 
    have g_Ratio_eq : FnG P w K mg base 1 (He.ma K (He.ga K "Ratio") "__eq__") ["self", "other"] (spCmp (He.ga K "Ratio") fun p q => decide (p = q)) := ok_Ratio_eq T 
    have g_Ratio_le : FnG P w K mg base 1 (He.ma K (He.ga K "Ratio") "__le__") ["self", "other"] (spCmpO (He.ga K "Ratio") fun p q => decide (p ≤ q)) := ok_Ratio_le T 
    have g_Ratio_lt : FnG P w K mg base 1 (He.ma K (He.ga K "Ratio") "__lt__") ["self", "other"] (spCmpO (He.ga K "Ratio") fun p q => decide (p < q)) := ok_Ratio_lt T 
    have g_Ratio_ge : FnG P w K mg base 1 (He.ma K (He.ga K "Ratio") "__ge__") ["self", "other"] (spCmpO (He.ga K "Ratio") fun p q => decide (q ≤ p)) := ok_Ratio_ge T 
    have g_Ratio_gt : FnG P w K mg base 1 (He.ma K (He.ga K "Ratio") "__gt__") ["self", "other"] (spCmpO (He.ga K "Ratio") fun p q => decide (q < p)) := ok_Ratio_gt T 
    have g_Ratio_ne_v_s : FnG P w K mg base 1 (He.ma K (He.ga K "Ratio") "__ne__") ["self", "other"] (spCmpS (He.ga K "Ratio") true) := ok_Ratio_ne_v_s T 
    have g_Ratio_eq_v_s : FnG P w K mg base 1 (He.ma K (He.ga K "Ratio") "__eq__") ["self", "other"] (spCmpS (He.ga K "Ratio") false) := ok_Ratio_eq_v_s T 
    exact okF_law T F g__law_tape g__law_number g__law_take g__law_pair g__law_made g__law_flag g_Ratio_ne g_Ratio_eq g_Ratio_le g_Ratio_lt g_Ratio_ge g_Ratio_gt g_Ratio_ne_v_s g_Ratio_eq_v_s
end Row
open PySem PySem.W PySem.Calls PyProof.Rows
theorem PySem.Challenge.cw_plumbnet_k03_order_of_fractions_holds : PySem.Challenge.rw_plumbnet_k03_order_of_fractions.Holds := by
  w_on; o_law
  refine HandSHeadRun.head_imp (r := OpenLaw.row PySem.Challenge.rw_plumbnet_k03_order_of_fractions) (q := view (OpenLaw.row PySem.Challenge.rw_plumbnet_k03_order_of_fractions).prog [0, 19]) (H := Row.hk) (ob := Row.ob) (M := 20000) (loose := ["_wall", "__name__", "SurveyError", "BadNumber", "ZeroDivisor", "MOST_DIGITS", "Ratio", "is_short", "_law_tape", "_law_draw", "_law_take", "_law_common", "_law_pair", "_law_number", "_law_made", "_law_flag"]) (d := HandSHeadRun.topDef (OpenLaw.row PySem.Challenge.rw_plumbnet_k03_order_of_fractions).prog 19) (kwd := []) Row.ob_eq
    Row.run (by kernel_rfl) (by kernel_rfl) (by kernel_rfl) (by rfl) (by first | assumption | decide +kernel) (by decide +kernel) ⟨rfl, rfl, rfl, rfl, rfl, by decide +kernel⟩ ?hw ?hc
  case hw => w_witness2
  case hc =>
    refine L2.walk_ofE (l := PySem.Challenge.rw_plumbnet_k03_order_of_fractions) (n := 63) (k := 4) (x := "script") (CX := L2.CX0) rfl (by decide) (by kernel_rfl) ⟨rfl, by decide, by decide⟩ ?F (fun _ _ _ _ z => z)
    intro w mg fa h Y G hmg0
    obtain ⟨K, KX, c⟩ := Y
    have hmg : mg ("law" : PySem.Str) = some (.ref fa) := by
      have e : (HandSHeadRun.topDef (OpenLaw.row PySem.Challenge.rw_plumbnet_k03_order_of_fractions).prog 19).name = ("law" : PySem.Str) := by kernel_rfl
      rw [← e]
      exact hmg0
    obtain ⟨fd, hb, hF⟩ := Row.facts (P := (PySem.Challenge.rw_plumbnet_k03_order_of_fractions).prog) (w := w) KX G hmg c
    exact ⟨K, fd, Pn.spLaw K, KX, hb, fun H a ns hl _ hS => ⟨a, ns, rfl, hS, hl, fun _ => rfl⟩, hF⟩
#print axioms PySem.Challenge.cw_plumbnet_k03_order_of_fractions_holds
