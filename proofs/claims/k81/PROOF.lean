import PyProof.Rows.All
import Wide.All
import OpenK.AllK
import Wide.FinOn
import HandS.ForMost
import HandS.ForExc
import HandS.Gcd
import HandS.Wide
import HandS.WideBits
import HandS.OwnEq
import HandS.IsInst
import HandS.Evl
import HandS.Defaults
import KE.KOpsOwn
import HandS.HeadHook1
import HandS.HeadHook2
import HandS.HeadHook3
import HandS.HeadHook4
import HandS.Walk
import HandS.Zip
import HandS.Style
import HandS.TupAny
import HandS.Star
import KE.KDictPairs
import HandS.Dict
import KE.KExcSuper
import HandS.Exc
import HandS.ExcOwn
import HandS.ExcInit
import HandS.TryOnly
import HandS.WordsExc
import HandS.ExcIs
import HandS.Head0
import HandS.Head1
import HandS.Head2
import HandS.Head3
import HandS.HeadEnd
import PySem.Challenge.RW_plumbnet_k81_whole_any_order
set_option Elab.async false
set_option linter.all false
set_option maxRecDepth 100000
set_option maxHeartbeats 0
set_option exponentiation.threshold 10000
namespace Pn
open PySem L2 Evl

/-- an own operator on two instances of the class at C -/
def rOwn (C : Addr) (sp : Sp) (E : XK) : R2 := fun x y H Q => ∃ a b dx dy fs gs, x = .ref a ∧ y = .ref b ∧ H a = some (.ins C dx fs) ∧ H b = some (.ins C dy gs) ∧ sp [x, y] H Q E
/-- an own operator on one instance -/
def rOwn1 (C : Addr) (sp : Sp) (E : XK) : V → Hp → VK → Prop := fun x H Q => ∃ a dx fs, x = .ref a ∧ H a = some (.ins C dx fs) ∧ sp [x] H Q E
theorem not_ni {x : V} {v : Value} (r : RelV x v) : v ≠ .notImplemented := by
  intro e
  subst e
  cases x with
  | non => exact nomatch (show Value.notImplemented = Value.none from r)
  | bl b => exact nomatch (show Value.notImplemented = Value.bool b from r)
  | int i => obtain ⟨t, q⟩ := r; cases q
  | str i => obtain ⟨t, q⟩ := r; cases q
  | byt i => obtain ⟨t, q⟩ := r; cases q
  | flt i => obtain ⟨t, q⟩ := r; cases q
  | ref a => exact nomatch (show Value.notImplemented = Value.ref a from r)
  | ty n => exact nomatch (show Value.notImplemented = Value.type n from r)
theorem cmpBack_of {Q : Value → Shared → Prop} {v : Value} {s : Shared} (h : Q v s) (n : v ≠ .notImplemented) : PySem.W.CmpBack Q v s := by
  cases v <;> first | exact h | exact absurd rfl n
section
variable {X : Cx} {CX : CXT} {k : Nat} {f C : Addr} {fd : FuncData} {ps : List Str} {sp : Sp} {E : XK}
theorem op_own {op : Operator} (F : FnOk X.prog X.w X.K X.mg X.base CX k f fd ps sp) (hr : Room k X.A) (hc : PySem.W.selfFirst X.K C = true) (hs : PySem.W.findIn X.K (.ref C) (PySem.dunder op.info.2) = some (some (.ref f)))
    (hf : PySem.W.isFn X.K (.ref f) = true) (hb : Binds X.K fd ps []) (hx : Passes CX X E) : OpR X (binaryOp op) (rOwn C sp E) := by
  intro pins s σ H x y v u Q I rx ry h
  obtain ⟨a, b, dx, dy, fs, gs, rfl, rfl, ha, hb', q⟩ := h
  cases rx
  cases ry
  obtain ⟨mA, J, _⟩ := ins_get I.hok ha
  obtain ⟨mB, J', _⟩ := ins_get I.hok hb'
  obtain ⟨od, J, _⟩ := J.look
  obtain ⟨od', J', _⟩ := J'.look
  obtain ⟨m, hF⟩ := I.fr
  refine PySem.W.binop_K hF I.ok.mod.kin J J'.type hc hs hf ?_
  exact thn (run_fn (us := [.ref a, .ref b]) (vs := [.ref a, .ref b]) F hr hb .nil hx I (.cons rfl (.cons rfl .nil)) q) fun v s' z => by
    obtain ⟨y, H', I', r, q'⟩ := z
    exact cmpBack_of ⟨y, H', I', r, q'⟩ (not_ni r)
theorem op_ownCmp {op : CmpOp} (F : FnOk X.prog X.w X.K X.mg X.base CX k f fd ps sp) (hr : Room k X.A) (hs : PySem.W.findIn X.K (.ref C) (cmpInfo op).2.1 = some (some (.ref f)))
    (hf : PySem.W.isFn X.K (.ref f) = true) (hb : Binds X.K fd ps []) (hx : Passes CX X E) : OpR X (richCompare op) (rOwn C sp E) := by
  intro pins s σ H x y v u Q I rx ry h
  obtain ⟨a, b, dx, dy, fs, gs, rfl, rfl, ha, hb', q⟩ := h
  cases rx
  cases ry
  obtain ⟨mA, J, _⟩ := ins_get I.hok ha
  obtain ⟨mB, J', _⟩ := ins_get I.hok hb'
  obtain ⟨od, J, _⟩ := J.look
  obtain ⟨od', J', _⟩ := J'.look
  obtain ⟨m, hF⟩ := I.fr
  refine PySem.W.cmp_K (op := op) (tb := .ref C) hr.units0 hF I.ok.mod.kin J J'.type (by simp [PySem.W.notFirst]) hs hf ?_
  exact thn (run_fn (us := [.ref a, .ref b]) (vs := [.ref a, .ref b]) F hr hb .nil hx I (.cons rfl (.cons rfl .nil)) q) fun v s' z => by
    obtain ⟨y, H', I', r, q'⟩ := z
    exact cmpBack_of ⟨y, H', I', r, q'⟩ (not_ni r)
theorem un_ownNeg (F : FnOk X.prog X.w X.K X.mg X.base CX k f fd ps sp) (hr : Room k X.A) (hs : PySem.W.findIn X.K (.ref C) "__neg__" = some (some (.ref f)))
    (hf : PySem.W.isFn X.K (.ref f) = true) (hb : Binds X.K fd ps []) (hx : Passes CX X E) : UnR X (unaryOp .USub) (rOwn1 C sp E) := by
  intro pins s σ H x v Q I rx h
  obtain ⟨a, dx, fs, rfl, ha, q⟩ := h
  cases rx
  obtain ⟨mA, J, _⟩ := ins_get I.hok ha
  obtain ⟨od, J, _⟩ := J.look
  obtain ⟨m, hF⟩ := I.fr
  refine PySem.W.ksp_neg hF I.ok.mod.kin J hs hf ?_
  exact run_fn (us := [.ref a]) (vs := [.ref a]) F hr hb .nil hx I (.cons rfl .nil) q
/-- // by any divisor but 0, below 2 ^ 9000 -/
def CDivX (_ j : Int) : Prop := j ≠ 0 ∧ j.natAbs.log2 < 9000
theorem op_fdivX : OpR X (binaryOp .FloorDiv) (rI CDivX fun i j => .int (i.fdiv j)) := opI fun i j _ _ _ _ _ hc q =>
  PyProof.Rows.floordiv_int hc.1 q (.inl (PyProof.noPylong_of_log2 hc.2))
end
end Pn

namespace Pn
open PySem L2 Evl
section
variable {X : Cx} {CX : CXT} {k : Nat} {f C : Addr} {fd : FuncData} {ps : List Str} {sp : Sp} {E : XK}
/-- the callee runs somewhere below the running body -/
theorem run_fnA {A : Around} {pins : List (Addr × Obj)} {σ : St} {H : Hp} {s : Shared} {Q : VK} {us : List Value} {vs : List V} (F : FnOk X.prog X.w X.K X.mg X.base CX k f fd ps sp) (hr : Room k A) (hA : A.frames = X.A.frames) (hb : Binds X.K fd ps [])
    (hx : Passes CX X E) (I : Inv X pins σ H s) (r : Vals vs us) (h : sp vs H Q E) : wpAny (model X.prog X.w) A (call (.ref f) us) (EP X pins σ Q) X.xe s := by
  have e0 : Env0 X.prog X.w X.K X.mg X.base A X.stack s H := by
    have e := I.env0
    exact ⟨by rw [hA]; exact e.frames, e.mod, e.bs, e.bsz, e.funs, e.frf, e.hok, e.bare⟩
  have hl := F.len _ _ _ _ h
  have hb2 := hb s us I.kIn (by rw [List.append_nil, ← r.length]; exact hl)
  rw [List.append_nil] at hb2
  refine wpAny_call (codeAny_mono (F.run A X.stack s H ⟨us, []⟩ us vs Q E hr e0 hb2 r h) fun r' s' hq => ?_)
  cases r' with
  | error e => exact hx pins σ H s e s' I hq
  | ok fl =>
    cases fl with
    | ret u => exact I.after hq
    | next => exact False.elim hq
    | brk => exact False.elim hq
    | cont => exact False.elim hq
/-- abs of an instance with its own __abs__ -/
theorem cr_absOwn (F : FnOk X.prog X.w X.K X.mg X.base CX k f fd ps sp) (hr : Room (k + 1) X.A) (hs : PySem.W.findIn X.K (.ref C) "__abs__" = some (some (.ref f)))
    (hf : PySem.W.isFn X.K (.ref f) = true) (hb : Binds X.K fd ps []) (hx : Passes CX X E) : CallR X (.builtin "abs") (fun vs H Q => ∃ x, vs = [x] ∧ rOwn1 C sp E x H Q) := by
  intro pins s σ H xs us Q I rx h
  obtain ⟨x, rfl, a, dx, fs, rfl, ha, q⟩ := h
  cases rx with
  | cons r1 r2 =>
  cases r2
  cases r1
  obtain ⟨mA, J, _⟩ := ins_get I.hok ha
  obtain ⟨od, J, _⟩ := J.look
  refine PySem.Calls.call_function_entry PyProof.Rows.kind_abs PyProof.Rows.plain_abs PyProof.Rows.entry_abs (PyProof.Rows.args_abs _) ?_
  unfold Builtin.«abs»
  refine wpAny_bind (m := oneArg "abs" _) (wpAny_pure ?_)
  refine wpAny_bind (m := callSpecial? (.ref a) (Str.ofString "__abs__")) (PySem.W.special_fn I.kIn J hs (beq_iff_eq.mp hf) ?_)
  refine thn (run_fnA (A := X.A.in1) (us := [.ref a]) (vs := [.ref a]) F hr.in1 rfl hb hx I (.cons rfl .nil) q) fun v s' z => ?_
  exact wpAny_pure ⟨_, rfl, z⟩
end
end Pn

namespace Pn
open PySem L2 Evl
/-- a def that keeps a promise, ready to be called with all its parameters -/
structure FnG (P : Program) (w : World) (K : PySem.W.Frag) (mg : Str → Option Value) (base : Heap) (k : Nat) (f : Addr) (ps : List Str) (sp : Sp) : Prop where
  ex : ∃ fd, FnOk P w K mg base CX0 k f fd ps sp ∧ Binds K fd ps []
  kp : PySem.W.keepIn K (.ref f) = true
/-- the same with one default left out -/
structure FnD1 (P : Program) (w : World) (K : PySem.W.Frag) (mg : Str → Option Value) (base : Heap) (k : Nat) (f : Addr) (ps : List Str) (dvs : List V) (sp : Sp) : Prop where
  ex : ∃ fd ds, FnOk P w K mg base CX0 k f fd ps sp ∧ Vals dvs ds ∧ Binds K fd ps ds
  kp : PySem.W.keepIn K (.ref f) = true
section
variable {X : Cx} {k : Nat} {f C : Addr} {ps : List Str} {sp : Sp} {x m : Str} {p pos apos : Pos} {e o : Expr} {es : List Expr} {ta : TE} {t : TA} {dvs : List V}
theorem pe_callF (F : FnG X.prog X.w X.K X.mg X.base k f ps sp) (hr : Room k X.A) (hm : X.mg x = some (.ref f)) (ha : PA X (e :: es) t) (hg : Gl X x := by rfl)
    (hdb : (x == ("__debug__" : Str)) = false := by decide) (he : starEach (e :: es) X.env = (false, eval e X.env) :: starEach es X.env := by rfl) (hpl : (backTo pos (starEach es X.env)).any (·.1) = false := by rfl) :
    PE X (.Call (.Name x p) (e :: es) [] pos) (tCall sp [] E0 t) := by
  obtain ⟨fd, F1, b⟩ := F.ex
  exact pe_call F1 hr hg hm F.kp b .nil pass0 ha hdb he hpl
theorem pe_makeF (M : Mk X.K C f) (F : FnG X.prog X.w X.K X.mg X.base k f ps sp) (hr : Room (k + 1) X.A) (hm : X.mg x = some (.ref C)) (ha : PA X (e :: es) t) (hg : Gl X x := by rfl)
    (hdb : (x == ("__debug__" : Str)) = false := by decide) (he : starEach (e :: es) X.env = (false, eval e X.env) :: starEach es X.env := by rfl) (hpl : (backTo pos (starEach es X.env)).any (·.1) = false := by rfl) :
    PE X (.Call (.Name x p) (e :: es) [] pos) (tMake C sp [] E0 t) := by
  obtain ⟨fd, F1, b⟩ := F.ex
  exact pe_make M F1 hr hg hm b .nil pass0 ha hdb he hpl
theorem pe_makeD (M : Mk X.K C f) (F : FnD1 X.prog X.w X.K X.mg X.base k f ps dvs sp) (hr : Room (k + 1) X.A) (hm : X.mg x = some (.ref C)) (ha : PA X (e :: es) t) (hg : Gl X x := by rfl)
    (hdb : (x == ("__debug__" : Str)) = false := by decide) (he : starEach (e :: es) X.env = (false, eval e X.env) :: starEach es X.env := by rfl) (hpl : (backTo pos (starEach es X.env)).any (·.1) = false := by rfl) :
    PE X (.Call (.Name x p) (e :: es) [] pos) (tMake C sp dvs E0 t) := by
  obtain ⟨fd, ds, F1, v, b⟩ := F.ex
  exact pe_make M F1 hr hg hm b v pass0 ha hdb he hpl
theorem pe_methF {pl : Sem Bool} (he : PE X o ta) (c : Cls X.K C) (hm : Meth X.K C m f) (F : FnG X.prog X.w X.K X.mg X.base k f ps sp) (hr : Room k X.A) (ha : PA X (e :: es) t)
    (hst : starEach (e :: es) X.env = (false, eval e X.env) :: starEach es X.env := by rfl) (hpl : (backTo pos (starEach es X.env)).any (·.1) = false := by rfl)
    (ht : eval (.Call (.Attribute o m apos) (e :: es) [] pos) X.env = (do
      let ov ← eval o X.env
      standAt apos.atName
      let (f, first) ← holding [ov] (getMethod ov m pl)
      callWith pos f first (backTo pos (starEach (e :: es) X.env)) (backToKw pos (keywordEach [] X.env))) := by rfl) :
    PE X (.Call (.Attribute o m apos) (e :: es) [] pos) (tMeth C m sp [] E0 ta t) := by
  obtain ⟨fd, F1, b⟩ := F.ex
  exact pe_meth he c hm F1 hr b .nil pass0 ha hst hpl ht
theorem op_ownF {op : Operator} (F : FnG X.prog X.w X.K X.mg X.base k f ps sp) (hr : Room k X.A) (hc : PySem.W.selfFirst X.K C = true) (hs : Meth X.K C (PySem.dunder op.info.2) f) : OpR X (binaryOp op) (rOwn C sp E0) := by
  obtain ⟨fd, F1, b⟩ := F.ex
  exact op_own F1 hr hc hs.at_ hs.fn b pass0
theorem op_cmpF {op : CmpOp} (F : FnG X.prog X.w X.K X.mg X.base k f ps sp) (hr : Room k X.A) (hs : Meth X.K C (cmpInfo op).2.1 f) : OpR X (richCompare op) (rOwn C sp E0) := by
  obtain ⟨fd, F1, b⟩ := F.ex
  exact op_ownCmp F1 hr hs.at_ hs.fn b pass0
theorem un_negF (F : FnG X.prog X.w X.K X.mg X.base k f ps sp) (hr : Room k X.A) (hs : Meth X.K C "__neg__" f) : UnR X (unaryOp .USub) (rOwn1 C sp E0) := by
  obtain ⟨fd, F1, b⟩ := F.ex
  exact un_ownNeg F1 hr hs.at_ hs.fn b pass0
def rAbsOwn (C : Addr) (sp : Sp) : List V → Hp → VK → Prop := fun vs H Q => ∃ x, vs = [x] ∧ rOwn1 C sp E0 x H Q
theorem cr_absF (F : FnG X.prog X.w X.K X.mg X.base k f ps sp) (hr : Room (k + 1) X.A) (hs : Meth X.K C "__abs__" f) : CallR X (.builtin "abs") (rAbsOwn C sp) := by
  obtain ⟨fd, F1, b⟩ := F.ex
  exact cr_absOwn F1 hr hs.at_ hs.fn b pass0
end
section
variable {K : PySem.W.Frag} {fa : List He.Fa} {fn : List He.DefD} {mg : Str → Option Value}
/-- what the head tells -/
structure Tx (fa : List He.Fa) (fn : List He.DefD) (ex : PySem.W.Frag → Bool) (K : PySem.W.Frag) (mg : Str → Option Value) : Prop where
  c : He.SaysD fa fn K
  e : ex K = true
  h : ∃ h : Heap, K.In h ∧ h.Ns mainGlobals mg
variable {ex : PySem.W.Frag → Bool}
theorem Tx.free (T : Tx fa fn ex K mg) (i : Nat) {x : Str} (hi : fa[i]? = some (.free x)) : mg x = none := by
  obtain ⟨h, X, G⟩ := T.h
  exact He.free_ok X G (T.c.fact i hi)
theorem Tx.glo (T : Tx fa fn ex K mg) (i : Nat) {x : Str} (hi : fa[i]? = some (.glo x)) : mg x = some (.ref (He.ga K x)) := by
  obtain ⟨h, X, G⟩ := T.h
  exact He.glo_ok X G (T.c.fact i hi)
theorem Tx.int (T : Tx fa fn ex K mg) (i : Nat) {x : Str} {n : Int} (hi : fa[i]? = some (.int x n)) : ∃ t, mg x = some (.int n t) := by
  obtain ⟨h, X, G⟩ := T.h
  exact He.int_ok X G (T.c.fact i hi)
theorem Tx.cls (T : Tx fa fn ex K mg) (i : Nat) {x : Str} (hi : fa[i]? = some (.cls x)) : Cls K (He.ga K x) := He.cls_ok (T.c.fact i hi)
theorem Tx.noat (T : Tx fa fn ex K mg) (i : Nat) {x f : Str} (hi : fa[i]? = some (.noat x f)) : NoAttr K (He.ga K x) f := He.noat_ok (T.c.fact i hi)
theorem Tx.meth (T : Tx fa fn ex K mg) (i : Nat) {x f : Str} (hi : fa[i]? = some (.meth x f)) : Meth K (He.ga K x) f (He.ma K (He.ga K x) f) := He.meth_ok (T.c.fact i hi)
theorem Tx.mkr (T : Tx fa fn ex K mg) (i : Nat) {x : Str} (hi : fa[i]? = some (.mkr x)) : Mk K (He.ga K x) (He.ma K (He.ga K x) "__init__") := He.mkr_ok (T.c.fact i hi)
end
end Pn
namespace Pn
open PySem L2 Evl
/-- what isinstance asks of the class at C -/
structure Ri (K : PySem.W.Frag) (C : Addr) : Prop where
  cl : Cls K C
  ha : PySem.W.findIn K (.ref C) "__class__" = some (some (.builtin "object.__class__"))
  hn : PySem.W.specialIn K (.builtin "object.__class__") "__get__" = some (some (.builtin "getset_descriptor.__get__"))
  htk : PySem.W.takesIn K (.builtin "object.__class__") = some true
  hm : PySem.W.mroIn K C (.type "object") = some true
  me : PySem.W.kitOne K (.ref C) (.ref C) = some true
  ki : PySem.W.kitOne K (.type "int") (.ref C) = some false
  ks : PySem.W.kitOne K (.type "str") (.ref C) = some false
  kn : PySem.W.kitOne K (.type "NoneType") (.ref C) = some false
  si : PySem.W.subIn K (.type "int") (.ref C) = some false
  ss : PySem.W.subIn K (.type "str") (.ref C) = some false
  sn : PySem.W.subIn K (.type "NoneType") (.ref C) = some false
def riB (K : PySem.W.Frag) (C : Addr) : Bool :=
  decide (PySem.W.findIn K (.ref C) "__class__" = some (some (.builtin "object.__class__"))) && (decide (PySem.W.specialIn K (.builtin "object.__class__") "__get__" = some (some (.builtin "getset_descriptor.__get__"))) &&
  (decide (PySem.W.takesIn K (.builtin "object.__class__") = some true) && (decide (PySem.W.mroIn K C (.type "object") = some true) && (decide (PySem.W.kitOne K (.ref C) (.ref C) = some true) &&
  (decide (PySem.W.kitOne K (.type "int") (.ref C) = some false) && (decide (PySem.W.kitOne K (.type "str") (.ref C) = some false) && (decide (PySem.W.kitOne K (.type "NoneType") (.ref C) = some false) &&
  (decide (PySem.W.subIn K (.type "int") (.ref C) = some false) && (decide (PySem.W.subIn K (.type "str") (.ref C) = some false) && decide (PySem.W.subIn K (.type "NoneType") (.ref C) = some false))))))))))
theorem ri_of {K : PySem.W.Frag} {C : Addr} (cl : Cls K C) (h : riB K C = true) : Ri K C := by
  obtain ⟨h1, h⟩ := He.ba h
  obtain ⟨h2, h⟩ := He.ba h
  obtain ⟨h3, h⟩ := He.ba h
  obtain ⟨h4, h⟩ := He.ba h
  obtain ⟨h5, h⟩ := He.ba h
  obtain ⟨h6, h⟩ := He.ba h
  obtain ⟨h7, h⟩ := He.ba h
  obtain ⟨h8, h⟩ := He.ba h
  obtain ⟨h9, h⟩ := He.ba h
  obtain ⟨h10, h11⟩ := He.ba h
  exact ⟨cl, of_decide_eq_true h1, of_decide_eq_true h2, of_decide_eq_true h3, of_decide_eq_true h4, of_decide_eq_true h5, of_decide_eq_true h6, of_decide_eq_true h7, of_decide_eq_true h8, of_decide_eq_true h9, of_decide_eq_true h10, of_decide_eq_true h11⟩
theorem Ri.ty {K : PySem.W.Frag} {C : Addr} (r : Ri K C) {H : Hp} {a dx : Addr} {fs : List (Str × V)} (h : H a = some (.ins C dx fs)) : TyX K H (.ref a) (.ref C) :=
  .base (.ins h r.cl r.ha r.hn r.htk r.hm)
end Pn
namespace Pn
open PySem L2 Evl
/-- a number, a text, or None -/
inductive Scal : V → Prop where
  | int (i : Int) : Scal (.int i)
  | str (x : Str) : Scal (.str x)
  | non : Scal .non
/-- an own comparison of an instance with such a value -/
def rOwnS (C : Addr) (sp : Sp) : R2 := fun x y H Q => ∃ a dx fs, x = .ref a ∧ Scal y ∧ H a = some (.ins C dx fs) ∧ sp [x, y] H Q E0
section
variable {X : Cx} {k : Nat} {f C : Addr} {ps : List Str} {sp : Sp}
theorem op_cmpS {op : CmpOp} (r : Ri X.K C) (F : FnG X.prog X.w X.K X.mg X.base k f ps sp) (hr : Room k X.A) (hs : Meth X.K C (cmpInfo op).2.1 f) : OpR X (richCompare op) (rOwnS C sp) := by
  obtain ⟨fd, F1, b⟩ := F.ex
  intro pins s σ H x y v u Q I rx ry h
  obtain ⟨a, dx, fs, rfl, sy, ha, q⟩ := h
  cases rx
  obtain ⟨mA, J, _⟩ := ins_get I.hok ha
  obtain ⟨od, J, _⟩ := J.look
  obtain ⟨m, hF⟩ := I.fr
  have fin : wpAny (model X.prog X.w) X.A (call (.ref f) [.ref a, u]) (PySem.W.CmpBack (EP X pins σ Q)) X.xe s :=
    thn (run_fn (us := [.ref a, u]) (vs := [.ref a, y]) F1 hr b .nil pass0 I (.cons rfl (.cons ry .nil)) q) fun v s' z => by
      obtain ⟨y, H', I', r, q'⟩ := z
      exact cmpBack_of ⟨y, H', I', r, q'⟩ (not_ni r)
  cases sy with
  | int i =>
    obtain ⟨t, rfl⟩ := ry
    exact PySem.W.cmp_K (op := op) (tb := .type "int") hr.units0 hF I.ok.mod.kin J (PySem.W.Looks.of_pure rfl) (by simp [PySem.W.notFirst, r.si]) hs.at_ hs.fn fin
  | str i =>
    obtain ⟨t, rfl⟩ := ry
    exact PySem.W.cmp_K (op := op) (tb := .type "str") hr.units0 hF I.ok.mod.kin J (PySem.W.Looks.of_pure rfl) (by simp [PySem.W.notFirst, r.ss]) hs.at_ hs.fn fin
  | non =>
    cases ry
    exact PySem.W.cmp_K (op := op) (tb := .type "NoneType") hr.units0 hF I.ok.mod.kin J (PySem.W.Looks.of_pure rfl) (by simp [PySem.W.notFirst, r.sn]) hs.at_ hs.fn fin
end
theorem Scal.ty {K : PySem.W.Frag} {C : Addr} {H : Hp} {y : V} (r : Ri K C) (s : Scal y) : ∃ t, TyX K H y t ∧ PySem.W.kitOne K t (.ref C) = some false := by
  cases s with
  | int i => exact ⟨_, .base (.int i), r.ki⟩
  | str i => exact ⟨_, .base (.str i), r.ks⟩
  | non => exact ⟨_, .base .non, r.kn⟩
end Pn
namespace Pn
open PySem L2 Evl
section
variable {X : Cx} {K : PySem.W.Frag} {a b e l : Expr} {f : Str} {pos : Pos} {ta tb tl : TE} {tg : Expr}
/-! the same rules with the written part named, so that a reading speaks of no block -/
theorem pe_fldK (hK : X.K = K) (he : PE X e ta) (hb : attributeBase e f X.env (eval e X.env) = eval e X.env) : PE X (.Attribute e f pos) (tFld K ta f) := by
  subst hK
  exact pe_fld he hb
theorem ix_tupK (hK : X.K = K) : IxR X (rIxT K) := by
  subst hK
  exact ix_tup
theorem ix_listK (hK : X.K = K) : IxR X (rIxL K) := by
  subst hK
  exact ix_list
def rTupL (K : PySem.W.Frag) : List V → Hp → VK → Prop := fun xs H Q => ∃ p ys, xs = [.ref p] ∧ SqL K H p ys ∧ ∀ l, H l = none → Q (.ref l) (upd H l (.tup ys))
theorem call_tupL (hK : X.K = K) : CallR X (.type "tuple") (rTupL K) := by
  subst hK
  exact fun pins s σ H xs us Q I r ⟨p, ys, e, h1, h2⟩ => call_tuple_of pins s σ H xs us Q I r ⟨p, ys, e, .inl ⟨h1, h2⟩⟩
def rLen2 (K : PySem.W.Frag) : List V → Hp → VK → Prop := fun xs H Q => ∃ p ys, xs = [.ref p] ∧ (SqL K H p ys ∨ SqT K H p ys) ∧ Q (.int ys.length) H
theorem call_lenK (hK : X.K = K) : CallR X (.builtin "len") (rLen2 K) := by
  subst hK
  exact call_len_seq
theorem pi_listK (hK : X.K = K) (hl : PE X l tl) : PI X tg l (iList K tl) := by
  subst hK
  exact pi_list hl
theorem pi_tupK (hK : X.K = K) (hl : PE X l tl) : PI X tg l (iTup K tl) := by
  subst hK
  exact pi_tup hl
theorem call_isiKK (hK : X.K = K) : CallR X (.builtin "isinstance") (rIsi K) := by
  subst hK
  exact call_isi
theorem cr_allK (hK : X.K = K) (hc : X.calm = true) : CallR X (.builtin "all") (rAll K) := by
  subst hK
  exact cr_all hc
theorem cr_anyK (hK : X.K = K) (hc : X.calm = true) : CallR X (.builtin "any") (rAny K) := by
  subst hK
  exact cr_any hc
end
end Pn

namespace Pn
theorem init_pos {t b : Int} (hb : 0 < b) : t.fdiv ((Nat.gcd t.natAbs b.natAbs : Nat) : Int) = (Rat.divInt t b).num ∧ b.fdiv ((Nat.gcd t.natAbs b.natAbs : Nat) : Int) = ((Rat.divInt t b).den : Int) := by
  have hg : b.gcd t = Nat.gcd t.natAbs b.natAbs := by rw [Int.gcd_comm]; rfl
  have g0 : (0 : Int) ≤ ((Nat.gcd t.natAbs b.natAbs : Nat) : Int) := Int.natCast_nonneg _
  rw [Rat.num_divInt, Rat.den_divInt, hg, if_neg (by omega), Int.fdiv_eq_ediv_of_nonneg _ g0, Int.fdiv_eq_ediv_of_nonneg _ g0, Int.sign_eq_one_of_pos hb, Int.one_mul]
  refine ⟨rfl, ?_⟩
  rw [Int.natCast_ediv, Int.natAbs_of_nonneg (by omega)]
theorem init_neg {t b : Int} (hb : b < 0) : t.fdiv (-((Nat.gcd t.natAbs b.natAbs : Nat) : Int)) = (Rat.divInt t b).num ∧ b.fdiv (-((Nat.gcd t.natAbs b.natAbs : Nat) : Int)) = ((Rat.divInt t b).den : Int) := by
  have hg : b.gcd t = Nat.gcd t.natAbs b.natAbs := by rw [Int.gcd_comm]; rfl
  have gp : 0 < Nat.gcd t.natAbs b.natAbs := Nat.gcd_pos_of_pos_right _ (by omega)
  have g0 : (0 : Int) ≤ ((Nat.gcd t.natAbs b.natAbs : Nat) : Int) := Int.natCast_nonneg _
  have gn : ((Nat.gcd t.natAbs b.natAbs : Nat) : Int) ≠ 0 := by omega
  have d1 : ((Nat.gcd t.natAbs b.natAbs : Nat) : Int) ∣ t := Int.ofNat_dvd_left.mpr (Nat.gcd_dvd_left _ _)
  have d2 : ((Nat.gcd t.natAbs b.natAbs : Nat) : Int) ∣ b := Int.ofNat_dvd_left.mpr (Nat.gcd_dvd_right _ _)
  rw [Rat.num_divInt, Rat.den_divInt, hg, if_neg (by omega), Int.fdiv_neg gn, Int.fdiv_neg gn, if_pos d1, if_pos d2, Int.fdiv_eq_ediv_of_nonneg _ g0, Int.fdiv_eq_ediv_of_nonneg _ g0, Int.sign_eq_neg_one_of_neg hb]
  constructor
  · rw [← Int.neg_ediv_of_dvd d1]
    congr 1
    omega
  · rw [Int.natCast_ediv, ← Int.neg_ediv_of_dvd d2]
    congr 1
    omega
theorem divInt_add (p q : Rat) : Rat.divInt (p.num * q.den + q.num * p.den) (p.den * q.den) = p + q := by
  have h := Rat.divInt_add_divInt p.num q.num (d₁ := p.den) (d₂ := q.den) (by have := p.den_nz; omega) (by have := q.den_nz; omega)
  rw [Rat.num_divInt_den, Rat.num_divInt_den] at h
  exact h.symm
theorem divInt_sub (p q : Rat) : Rat.divInt (p.num * q.den - q.num * p.den) (p.den * q.den) = p - q := by
  have h := Rat.divInt_sub_divInt p.num q.num (d₁ := p.den) (d₂ := q.den) (by have := p.den_nz; omega) (by have := q.den_nz; omega)
  rw [Rat.num_divInt_den, Rat.num_divInt_den] at h
  exact h.symm
theorem divInt_mul (p q : Rat) : Rat.divInt (p.num * q.num) (p.den * q.den) = p * q := by
  have h := Rat.divInt_mul_divInt p.num q.num (d₁ := p.den) (d₂ := q.den)
  rw [Rat.num_divInt_den, Rat.num_divInt_den] at h
  exact h.symm
theorem divInt_neg' (p : Rat) : Rat.divInt (-p.num) p.den = -p := by
  rw [← Rat.neg_divInt, Rat.num_divInt_den]
theorem divInt_div (p q : Rat) : Rat.divInt (p.num * q.den) (p.den * q.num) = p / q := by
  rw [Rat.div_def, Rat.inv_def]
  have h := Rat.divInt_mul_divInt p.num q.den (d₁ := p.den) (d₂ := q.num)
  rw [Rat.num_divInt_den] at h
  exact h.symm
theorem divInt_abs (p : Rat) : Rat.divInt (if p.num < 0 then -p.num else p.num) p.den = p.abs := by
  unfold Rat.abs
  by_cases h : p.num < 0
  · rw [if_pos h, if_neg (by rw [← Rat.num_nonneg]; omega), divInt_neg']
  · rw [if_neg h, if_pos (by rw [← Rat.num_nonneg]; omega), Rat.num_divInt_den]
theorem den_ne (p : Rat) : (p.den : Int) ≠ 0 := by have := p.den_nz; omega
theorem den_pos (p : Rat) : (0 : Int) < p.den := by have := p.den_pos; omega
/-- sizes -/
theorem natAbs_mul_lt {i j : Int} {a b : Nat} (ha : i.natAbs < 2 ^ a) (hb : j.natAbs < 2 ^ b) : (i * j).natAbs < 2 ^ (a + b) := by
  rw [Int.natAbs_mul, Nat.pow_add]
  exact Nat.mul_lt_mul'' ha hb
theorem log2_lt' {n k : Nat} (h : n < 2 ^ k) (hk : 0 < k) : n.log2 < k := by
  by_cases h0 : n = 0
  · subst h0; rw [show Nat.log2 0 = 0 by decide]; exact hk
  · exact (Nat.log2_lt h0).mpr h
end Pn
namespace Pn
/-- top and bottom below 2 ^ n -/
def SmB (n : Nat) (q : Rat) : Prop := q.num.natAbs < 2 ^ n ∧ q.den < 2 ^ n
theorem SmB.mono {n m : Nat} {q : Rat} (h : SmB n q) (k : n ≤ m) : SmB m q := ⟨Nat.lt_of_lt_of_le h.1 (Nat.pow_le_pow_right (by decide) k), Nat.lt_of_lt_of_le h.2 (Nat.pow_le_pow_right (by decide) k)⟩
/-- two that may be reckoned with -/
def Ok2 (p q : Rat) : Prop := ∃ n m, 0 < n ∧ 0 < m ∧ SmB n p ∧ SmB m q ∧ n + m ≤ 900000
theorem num_le (t b : Int) : (Rat.divInt t b).num.natAbs ≤ t.natAbs := by
  rw [Rat.num_divInt, Int.natAbs_ediv_of_dvd, Int.natAbs_mul]
  · by_cases hb : b = 0
    · subst hb; simp
    · rw [Int.natAbs_sign_of_ne_zero hb, Nat.one_mul]
      exact Nat.div_le_self _ _
  · exact Int.dvd_mul_of_dvd_right (by rw [Int.gcd_comm]; exact Int.gcd_dvd_left ..)
theorem den_le (t b : Int) (hb : b ≠ 0) : (Rat.divInt t b).den ≤ b.natAbs := by
  rw [Rat.den_divInt, if_neg hb]
  exact Nat.div_le_self _ _
theorem smB_add {n m : Nat} {p q : Rat} (h1 : SmB n p) (h2 : SmB m q) : SmB (n + m + 1) (p + q) := by
  have a1 : (p.num * (q.den : Int)).natAbs < 2 ^ (n + m) := natAbs_mul_lt h1.1 (by rw [Int.natAbs_natCast]; exact h2.2)
  have a2 : (q.num * (p.den : Int)).natAbs < 2 ^ (m + n) := natAbs_mul_lt h2.1 (by rw [Int.natAbs_natCast]; exact h1.2)
  have a3 : ((p.den : Int) * (q.den : Int)).natAbs < 2 ^ (n + m) := natAbs_mul_lt (by rw [Int.natAbs_natCast]; exact h1.2) (by rw [Int.natAbs_natCast]; exact h2.2)
  have e : 2 ^ (n + m + 1) = 2 ^ (n + m) + 2 ^ (n + m) := by rw [Nat.pow_succ]; omega
  rw [Nat.add_comm m n] at a2
  rw [← divInt_add p q]
  refine ⟨Nat.lt_of_le_of_lt (num_le _ _) ?_, Nat.lt_of_le_of_lt (den_le _ _ (Int.mul_ne_zero (den_ne p) (den_ne q))) (by omega)⟩
  omega
theorem smB_sub {n m : Nat} {p q : Rat} (h1 : SmB n p) (h2 : SmB m q) : SmB (n + m + 1) (p - q) := by
  have a1 : (p.num * (q.den : Int)).natAbs < 2 ^ (n + m) := natAbs_mul_lt h1.1 (by rw [Int.natAbs_natCast]; exact h2.2)
  have a2 : (q.num * (p.den : Int)).natAbs < 2 ^ (m + n) := natAbs_mul_lt h2.1 (by rw [Int.natAbs_natCast]; exact h1.2)
  have a3 : ((p.den : Int) * (q.den : Int)).natAbs < 2 ^ (n + m) := natAbs_mul_lt (by rw [Int.natAbs_natCast]; exact h1.2) (by rw [Int.natAbs_natCast]; exact h2.2)
  have e : 2 ^ (n + m + 1) = 2 ^ (n + m) + 2 ^ (n + m) := by rw [Nat.pow_succ]; omega
  rw [Nat.add_comm m n] at a2
  rw [← divInt_sub p q]
  refine ⟨Nat.lt_of_le_of_lt (num_le _ _) ?_, Nat.lt_of_le_of_lt (den_le _ _ (Int.mul_ne_zero (den_ne p) (den_ne q))) (by omega)⟩
  omega
theorem smB_mul {n m : Nat} {p q : Rat} (h1 : SmB n p) (h2 : SmB m q) : SmB (n + m) (p * q) := by
  have a1 : (p.num * q.num).natAbs < 2 ^ (n + m) := natAbs_mul_lt h1.1 h2.1
  have a3 : ((p.den : Int) * (q.den : Int)).natAbs < 2 ^ (n + m) := natAbs_mul_lt (by rw [Int.natAbs_natCast]; exact h1.2) (by rw [Int.natAbs_natCast]; exact h2.2)
  rw [← divInt_mul p q]
  exact ⟨Nat.lt_of_le_of_lt (num_le _ _) a1, Nat.lt_of_le_of_lt (den_le _ _ (Int.mul_ne_zero (den_ne p) (den_ne q))) a3⟩
theorem smB_neg {n : Nat} {p : Rat} (h1 : SmB n p) : SmB n (-p) := ⟨by rw [Rat.neg_num, Int.natAbs_neg]; exact h1.1, by rw [Rat.neg_den]; exact h1.2⟩
theorem num_ne {q : Rat} (h : q ≠ 0) : q.num ≠ 0 := fun e => h (Rat.num_eq_zero.mp e)
theorem smB_div {n m : Nat} {p q : Rat} (h1 : SmB n p) (h2 : SmB m q) (h0 : q ≠ 0) : SmB (n + m) (p / q) := by
  have a1 : (p.num * (q.den : Int)).natAbs < 2 ^ (n + m) := natAbs_mul_lt h1.1 (by rw [Int.natAbs_natCast]; exact h2.2)
  have a3 : ((p.den : Int) * q.num).natAbs < 2 ^ (n + m) := natAbs_mul_lt (by rw [Int.natAbs_natCast]; exact h1.2) h2.1
  rw [← divInt_div p q]
  exact ⟨Nat.lt_of_le_of_lt (num_le _ _) a1, Nat.lt_of_le_of_lt (den_le _ _ (Int.mul_ne_zero (den_ne p) (num_ne h0))) a3⟩
theorem ok2_den {p q : Rat} (h : Ok2 p q) : (p.den : Int) * (q.den : Int) ≠ 0 ∧ ((p.den : Int) * (q.den : Int)).natAbs < 2 ^ 900000 := by
  obtain ⟨n, m, _, _, h1, h2, hs⟩ := h
  refine ⟨Int.mul_ne_zero (den_ne p) (den_ne q), Nat.lt_of_lt_of_le (natAbs_mul_lt (by rw [Int.natAbs_natCast]; exact h1.2) (by rw [Int.natAbs_natCast]; exact h2.2)) (Nat.pow_le_pow_right (by decide) hs)⟩
theorem ok2_div {p q : Rat} (h : Ok2 p q) (h0 : q ≠ 0) : (p.den : Int) * q.num ≠ 0 ∧ ((p.den : Int) * q.num).natAbs < 2 ^ 900000 := by
  obtain ⟨n, m, _, _, h1, h2, hs⟩ := h
  refine ⟨Int.mul_ne_zero (den_ne p) (num_ne h0), Nat.lt_of_lt_of_le (natAbs_mul_lt (by rw [Int.natAbs_natCast]; exact h1.2) h2.1) (Nat.pow_le_pow_right (by decide) hs)⟩
end Pn

namespace Pn
open PySem L2 Evl
theorem tb_ : ¬ (("bottom" : Str) = "top") := by decide +kernel
theorem bt_ : ¬ (("top" : Str) = "bottom") := by decide +kernel
/-- the attributes of a fraction -/
def RatO (q : Rat) : List (Str × V) := [(("top" : Str), V.int q.num), (("bottom" : Str), V.int (q.den : Int))]
theorem ratO_top (q : Rat) : (RatO q).lookup ("top" : Str) = some (.int q.num) := by
  unfold RatO
  simp [List.lookup]
theorem ratO_bot (q : Rat) : (RatO q).lookup ("bottom" : Str) = some (.int (q.den : Int)) := by
  unfold RatO
  have h : ((("bottom" : Str) == ("top" : Str)) = false) := by decide +kernel
  simp [List.lookup, h]
theorem ratO_no (q : Rat) {m : Str} (h1 : (m == ("top" : Str)) = false) (h2 : (m == ("bottom" : Str)) = false) : (RatO q).lookup m = none := by
  unfold RatO
  simp [List.lookup, h1, h2]
theorem putF_top (t : Int) : putF "top" (.int t) [] = [(("top" : Str), V.int t)] := rfl
theorem putF_bot (t b : Int) : putF "bottom" (.int b) [(("top" : Str), V.int t)] = [(("top" : Str), V.int t), (("bottom" : Str), V.int b)] := by
  show (if ("top" : Str) = "bottom" then [(("top" : Str), V.int b)] else (("top" : Str), V.int t) :: putF "bottom" (V.int b) []) = _
  rw [if_neg bt_]
  rfl
/-- at the value v stands the fraction q -/
def RatAt (C : Addr) (H : Hp) (v : V) (q : Rat) : Prop := ∃ a dx, v = .ref a ∧ H a = some (.ins C dx (RatO q))
theorem RatAt.mono {C : Addr} {H H' : Hp} {v : V} {q : Rat} (h : RatAt C H v q) (e : Ex H H') : RatAt C H' v q := by
  obtain ⟨a, dx, rfl, ha⟩ := h
  exact ⟨a, dx, rfl, e _ _ ha⟩
/-- at the value v stands a pair of ints -/
def PairAt (H : Hp) (v : V) (i j : Int) : Prop := ∃ a, v = .ref a ∧ H a = some (.tup [.int i, .int j])
theorem PairAt.mono {H H' : Hp} {v : V} {i j : Int} (h : PairAt H v i j) (e : Ex H H') : PairAt H' v i j := by
  obtain ⟨a, rfl, ha⟩ := h
  exact ⟨a, rfl, e _ _ ha⟩
/-- small enough for what the machine's division takes -/
def Sm (q : Rat) : Prop := q.num.natAbs < 2 ^ 4000 ∧ q.den < 2 ^ 4000
/-! ### promises -/
def spInit (C : Addr) : Sp := fun vs H Q _ => ∃ (p dx : Addr) (t b : Int), vs = [.ref p, .int t, .int b] ∧ H p = some (.ins C dx []) ∧ b ≠ 0 ∧ b.natAbs < 2 ^ 900000 ∧ ∀ H', H' = upd H p (.ins C dx (RatO (Rat.divInt t b))) → Q .non H'
def spBin (C : Addr) (ok : Rat → Rat → Prop) (f : Rat → Rat → Rat) : Sp := fun vs H Q _ => ∃ (x y : V) (p q : Rat), vs = [x, y] ∧ RatAt C H x p ∧ RatAt C H y q ∧ ok p q ∧ ∀ r H', Ex H H' → (∃ a, r = .ref a ∧ H a = none) → RatAt C H' r (f p q) → Q r H'
def spUn (C : Addr) (ok : Rat → Prop) (f : Rat → Rat) : Sp := fun vs H Q _ => ∃ (x : V) (p : Rat), vs = [x] ∧ RatAt C H x p ∧ ok p ∧ ∀ r H', Ex H H' → (∃ a, r = .ref a ∧ H a = none) → RatAt C H' r (f p) → Q r H'
def spCmp (C : Addr) (f : Rat → Rat → Bool) : Sp := fun vs H Q _ => ∃ (x y : V) (p q : Rat) (b : Bool), vs = [x, y] ∧ RatAt C H x p ∧ RatAt C H y q ∧ f p q = b ∧ Q (.bl b) H
end Pn
namespace Pn
open PySem L2 Evl
theorem ifT {c : Bool} {A B : Prop} (hc : c = true) (h : A) : if c = true then A else B := by
  rw [if_pos hc]
  exact h
theorem ifF {c : Bool} {A B : Prop} (hc : c = false) (h : B) : if c = true then A else B := by
  rw [hc, if_neg Bool.false_ne_true]
  exact h
theorem ifB {c : Bool} {A B : Prop} (h1 : c = true → A) (h2 : c = false → B) : if c = true then A else B := by
  cases c with
  | true => exact ifT rfl (h1 rfl)
  | false => exact ifF rfl (h2 rfl)
theorem dec_ne {i j : Int} (h : i ≠ j) : decide (V.int i = V.int j) = false := decide_eq_false fun e => h (V.int.inj e)
theorem gcd_log {t b : Int} (hb : b ≠ 0) (h : b.natAbs < 2 ^ 900000) : ((Nat.gcd t.natAbs b.natAbs : Nat) : Int) ≠ 0 ∧ ((Nat.gcd t.natAbs b.natAbs : Nat) : Int).natAbs.log2 < 900000 := by
  have gp : 0 < Nat.gcd t.natAbs b.natAbs := Nat.gcd_pos_of_pos_right _ (by omega)
  have gl : Nat.gcd t.natAbs b.natAbs ≤ b.natAbs := Nat.gcd_le_right _ (by omega)
  refine ⟨Int.natCast_ne_zero.mpr (Nat.ne_of_gt gp), log2_lt' ?_ (by decide)⟩
  rw [Int.natAbs_natCast]
  exact Nat.lt_of_le_of_lt gl h
theorem gcd_logN {t b : Int} (hb : b ≠ 0) (h : b.natAbs < 2 ^ 900000) : -((Nat.gcd t.natAbs b.natAbs : Nat) : Int) ≠ 0 ∧ (-((Nat.gcd t.natAbs b.natAbs : Nat) : Int)).natAbs.log2 < 900000 := by
  obtain ⟨h1, h2⟩ := gcd_log hb h
  exact ⟨Int.neg_ne_zero.mpr h1, by rw [Int.natAbs_neg]; exact h2⟩
end Pn
namespace Pn
open PySem L2 Evl
theorem made {C x dx : Addr} {H : Hp} {q : Rat} (nx : H x = none) (ndx : H dx = none) : Ex H (upd (upd (upd H dx (.own x)) x (.ins C dx [])) x (.ins C dx (RatO q))) ∧ RatAt C (upd (upd (upd H dx (.own x)) x (.ins C dx [])) x (.ins C dx (RatO q))) (.ref x) q := by
  refine ⟨fun b o e => ?_, x, dx, rfl, upd_same⟩
  have n1 : b ≠ x := ne_of_none e nx
  have n2 : b ≠ dx := ne_of_none e ndx
  rw [upd_ne n1, upd_ne n1, upd_ne n2]
  exact e
theorem mulW {i j : Int} {n m : Nat} (h1 : i.natAbs < 2 ^ n) (h2 : j.natAbs < 2 ^ m) (n0 : 0 < n) (m0 : 0 < m) (h : n + m ≤ 900000) : CMulW i j := wide_mul h1 h2 n0 m0 (Nat.le_trans h (by decide))
theorem ok2_mul {p q : Rat} (h : Ok2 p q) : CMulW p.num (q.den : Int) ∧ CMulW q.num (p.den : Int) ∧ CMulW (p.den : Int) (q.den : Int) ∧ CMulW p.num q.num ∧ CMulW (p.den : Int) q.num := by
  obtain ⟨n, m, n0, m0, h1, h2, hs⟩ := h
  have d1 : ((p.den : Int)).natAbs < 2 ^ n := by rw [Int.natAbs_natCast]; exact h1.2
  have d2 : ((q.den : Int)).natAbs < 2 ^ m := by rw [Int.natAbs_natCast]; exact h2.2
  exact ⟨mulW h1.1 d2 n0 m0 hs, mulW h2.1 d1 m0 n0 (by omega), mulW d1 d2 n0 m0 hs, mulW h1.1 h2.1 n0 m0 hs, mulW d1 h2.1 n0 m0 hs⟩
def OkDiv (p q : Rat) : Prop := Ok2 p q ∧ q ≠ 0
def Ok1 (p : Rat) : Prop := p.den < 2 ^ 900000
end Pn
namespace Pn
open PySem L2 Evl
theorem eq_dec2 {p q : Rat} (h : decide (V.int p.num = V.int q.num) = true) : decide (V.int (p.den : Int) = V.int (q.den : Int)) = decide (p = q) := by
  have e : p.num = q.num := V.int.inj (of_decide_eq_true h)
  rw [Bool.eq_iff_iff]
  simp only [decide_eq_true_eq]
  constructor
  · intro d
    exact Rat.ext e (by have := V.int.inj d; omega)
  · intro d
    rw [d]
theorem eq_dec0 {p q : Rat} (h : decide (V.int p.num = V.int q.num) = false) : decide (p = q) = false :=
  decide_eq_false fun e => of_decide_eq_false h (by rw [e])
theorem ne_dec1 {p q : Rat} (h : (!decide (V.int p.num = V.int q.num)) = true) : (!decide (p = q)) = true := by
  rw [eq_dec0 (by simpa using h)]
  rfl
theorem ne_dec2 {p q : Rat} (h : (!decide (V.int p.num = V.int q.num)) = false) : (!decide (V.int (p.den : Int) = V.int (q.den : Int))) = !decide (p = q) := by
  rw [eq_dec2 (by simpa using h)]
theorem dec_lt (p q : Rat) : decide (p < q) = decide (p.num * (q.den : Int) < q.num * (p.den : Int)) := decide_eq_decide.mpr (Rat.lt_iff p q)
theorem dec_le (p q : Rat) : decide (p ≤ q) = decide (p.num * (q.den : Int) ≤ q.num * (p.den : Int)) := decide_eq_decide.mpr (Rat.le_iff p q)
theorem dec_gt (p q : Rat) : decide (q < p) = decide (q.num * (p.den : Int) < p.num * (q.den : Int)) := decide_eq_decide.mpr (Rat.lt_iff q p)
theorem dec_ge (p q : Rat) : decide (q ≤ p) = decide (q.num * (p.den : Int) ≤ p.num * (q.den : Int)) := decide_eq_decide.mpr (Rat.le_iff q p)
/-- an order: both small enough to be multiplied crosswise -/
def spCmpO (C : Addr) (f : Rat → Rat → Bool) : Sp := fun vs H Q _ => ∃ (x y : V) (p q : Rat) (b : Bool), vs = [x, y] ∧ RatAt C H x p ∧ RatAt C H y q ∧ (Ok2 p q ∧ f p q = b) ∧ Q (.bl b) H
end Pn

namespace Pn
/-- Euclid's way from (a, b): behind i turns (x, y) -/
def EucI (a b B i x y : Nat) : Prop := Nat.gcd x y = Nat.gcd a b ∧ (i = 0 → x = a ∧ y = b) ∧ (1 ≤ i → y < x ∧ x * y < 2 ^ (2 * B + 1 - i))
theorem euc_start (a b B : Nat) : EucI a b B 0 a b := ⟨rfl, fun _ => ⟨rfl, rfl⟩, fun h => absurd h (by decide)⟩
theorem euc_turn {a b B i x y : Nat} (hb : b < 2 ^ B) (h : EucI a b B i x y) (hy : y ≠ 0) : EucI a b B (i + 1) y (x % y) := by
  obtain ⟨h1, h2, h3⟩ := h
  have hy0 : 0 < y := Nat.pos_of_ne_zero hy
  have hm : x % y < y := Nat.mod_lt _ hy0
  refine ⟨?_, fun z => absurd z (Nat.succ_ne_zero i), fun _ => ⟨hm, ?_⟩⟩
  · rw [← h1, Nat.gcd_comm x y, Nat.gcd_rec y x, Nat.gcd_comm]
  · by_cases hi : i = 0
    · obtain ⟨rfl, rfl⟩ := h2 hi
      subst hi
      have e : 2 * B + 1 - (0 + 1) = B + B := by omega
      rw [e, Nat.pow_add]
      exact Nat.mul_lt_mul'' hb (Nat.lt_trans hm hb)
    · obtain ⟨h4, h5⟩ := h3 (by omega)
      have h6 : 2 * (x % y) ≤ x := by
        have d := Nat.div_add_mod x y
        have q : 1 ≤ x / y := (Nat.one_le_div_iff hy0).mpr (Nat.le_of_lt h4)
        have z : y * 1 ≤ y * (x / y) := Nat.mul_le_mul_left _ q
        omega
      have h7 : 2 * (y * (x % y)) ≤ x * y := by
        have z := Nat.mul_le_mul_right y h6
        have e : 2 * (x % y) * y = 2 * (y * (x % y)) := by rw [Nat.mul_assoc, Nat.mul_comm (x % y) y]
        rw [e] at z
        exact z
      have h8 : 1 ≤ x * y := Nat.mul_pos (by omega) hy0
      have h9 : 2 * B + 1 - i ≠ 0 := fun z => by
        rw [z] at h5
        omega
      have e : 2 * B + 1 - i = (2 * B + 1 - (i + 1)) + 1 := by omega
      rw [e, Nat.pow_succ] at h5
      omega
theorem euc_end {a b B x y : Nat} (h : EucI a b B (2 * B + 3) x y) : x = Nat.gcd a b := by
  obtain ⟨h1, _, h3⟩ := h
  obtain ⟨h4, h5⟩ := h3 (by omega)
  have e : 2 * B + 1 - (2 * B + 3) = 0 := by omega
  rw [e, Nat.pow_zero] at h5
  have hy : y = 0 := by
    rcases Nat.mul_eq_zero.mp (Nat.lt_one_iff.mp h5) with z | z
    · omega
    · exact z
  rw [← h1, hy, Nat.gcd_zero_right]
theorem euc_zero {a b B i x : Nat} (h : EucI a b B i x 0) : x = Nat.gcd a b := by
  rw [← h.1, Nat.gcd_zero_right]
end Pn

namespace Pn
open PySem L2 Evl
section
variable {X : Cx}
/-- int of an int -/
def rIntI : List V → Hp → VK → Prop := fun xs H Q => ∃ i, xs = [.int i] ∧ Q (.int i) H
theorem call_intI : CallR X (.type "int") rIntI := fun pins s σ H xs us Q I r h => call_int1 pins s σ H xs us Q I r (.inl h)
end
theorem mapInt {ns : List Int} {i : Nat} {y : V} (h : (ns.map V.int)[i]? = some y) : ∃ u, y = .int u ∧ ns[i]? = some u := by
  rw [List.getElem?_map] at h
  cases e : ns[i]? with
  | none => rw [e] at h; cases h
  | some u => rw [e] at h; exact ⟨u, (Option.some.inj h).symm, rfl⟩
/-- the top of what a tape's item may be -/
def tapeTop : Int := 2147483629
/-- a list that was made behind H0 and holds the items -/
def TapeI (p : Addr) (H0 H : Hp) (items : List Int) : Prop := H0 p = none ∧ Ex H0 H ∧ H p = some (.lst (items.map V.int)) ∧ ∀ x ∈ items, 0 ≤ x ∧ x < tapeTop
theorem TapeI.push {p : Addr} {H0 H : Hp} {items : List Int} (h : TapeI p H0 H items) {x : Int} (h0 : 0 ≤ x) (h1 : x < tapeTop) : TapeI p H0 (upd H p (.lst (items.map V.int ++ [.int x]))) (items ++ [x]) := by
  obtain ⟨a, b, c, d⟩ := h
  refine ⟨a, Ex.mut b a, ?_, fun y hy => ?_⟩
  · rw [upd_same, List.map_append]
    rfl
  · rcases List.mem_append.mp hy with q | q
    · exact d y q
    · rw [List.mem_singleton.mp q]
      exact ⟨h0, h1⟩
def spTape (K : PySem.W.Frag) : Sp := fun vs H Q _ => ∃ (a : Addr) (ns : List Int), vs = [.ref a] ∧ SqL K H a (ns.map V.int) ∧ ns.length ≤ 63 ∧ ∀ p H' items, TapeI p H H' items → items.length ≤ 2520 → Q (.ref p) H'
theorem ex_sq {K : PySem.W.Frag} {H H' : Hp} {a : Addr} {xs : List V} (h : SqL K H a xs) (e : Ex H H') : SqL K H' a xs := ex_l e h
end Pn
namespace Pn
open PySem L2 Evl
/-- the law's state at st.1: the tape at st.2 and how much was taken of it, at most c -/
def StAt (st : Addr × Addr) (c : Nat) (H : Hp) : Prop := ∃ (items : List Int) (n : Nat), H st.1 = some (.lst [.ref st.2, .int (n : Int)]) ∧ H st.2 = some (.lst (items.map V.int)) ∧ st.1 ≠ st.2 ∧ (∀ x ∈ items, 0 ≤ x ∧ x < tapeTop) ∧ items.length ≤ 2520 ∧ n ≤ c
theorem StAt.mono {st : Addr × Addr} {c d : Nat} {H : Hp} (h : StAt st c H) (k : c ≤ d) : StAt st d H := by
  obtain ⟨items, n, h1, h2, h3, h4, h5, h6⟩ := h
  exact ⟨items, n, h1, h2, h3, h4, h5, Nat.le_trans h6 k⟩
theorem StAt.ex {st : Addr × Addr} {c : Nat} {H H' : Hp} (h : StAt st c H) (e : Ex H H') : StAt st c H' := by
  obtain ⟨items, n, h1, h2, h3, h4, h5, h6⟩ := h
  exact ⟨items, n, e _ _ h1, e _ _ h2, h3, h4, h5, h6⟩
/-- all but what stands at st.1 is as it was -/
def FrS (st : Addr × Addr) (H H' : Hp) : Prop := ∀ a o, a ≠ st.1 → H a = some o → H' a = some o
theorem FrS.refl (st : Addr × Addr) (H : Hp) : FrS st H H := fun _ _ _ h => h
theorem FrS.trans {st : Addr × Addr} {H H1 H2 : Hp} (a : FrS st H H1) (b : FrS st H1 H2) : FrS st H H2 := fun x o n h => b x o n (a x o n h)
theorem FrS.of {st : Addr × Addr} {H H' : Hp} (e : Ex H H') : FrS st H H' := fun x o _ h => e x o h
theorem FrS.upd {st : Addr × Addr} {H H' : Hp} {o : HO} (e : FrS st H H') : FrS st H (L2.upd H' st.1 o) := fun a u n h => by
  rw [upd_ne n]
  exact e a u n h
theorem StAt.ne {st : Addr × Addr} {c : Nat} {H : Hp} {a : Addr} {o : HO} (h : StAt st c H) (ha : H a = some o) (hn : ∀ xs, o ≠ .lst xs) : a ≠ st.1 := by
  obtain ⟨items, n, h1, _⟩ := h
  exact ne_of ha h1 (hn _)
theorem StAt.fresh {st : Addr × Addr} {c : Nat} {H : Hp} {a : Addr} (h : StAt st c H) (ha : H a = none) : a ≠ st.1 := by
  obtain ⟨items, n, h1, _⟩ := h
  intro e
  subst e
  rw [ha] at h1
  cases h1
theorem StAt.fresh2 {st : Addr × Addr} {c : Nat} {H : Hp} {a : Addr} (h : StAt st c H) (ha : H a = none) : a ≠ st.2 := by
  obtain ⟨items, n, h1, h2, _⟩ := h
  intro e
  subst e
  rw [ha] at h2
  cases h2
theorem RatAt.monoS {C : Addr} {st : Addr × Addr} {c : Nat} {H H' : Hp} {v : V} {q : Rat} (h : RatAt C H v q) (s : StAt st c H) (e : FrS st H H') : RatAt C H' v q := by
  obtain ⟨a, dx, rfl, ha⟩ := h
  exact ⟨a, dx, rfl, e _ _ (s.ne ha fun xs z => nomatch z) ha⟩
theorem PairAt.monoS {st : Addr × Addr} {c : Nat} {H H' : Hp} {v : V} {i j : Int} (h : PairAt H v i j) (s : StAt st c H) (e : FrS st H H') : PairAt H' v i j := by
  obtain ⟨a, rfl, ha⟩ := h
  exact ⟨a, rfl, e _ _ (s.ne ha fun xs z => nomatch z) ha⟩
abbrev PrAt (H : Hp) (v : V) (q : Rat) : Prop := PairAt H v q.num (q.den : Int)
/-- more than is ever taken -/
def cMax : Nat := 1000000000
def spDraw : Sp := fun vs H Q _ => ∃ (tp : Addr) (items : List Int) (n : Nat) (many : Int), vs = [.ref tp, .int (n : Int), .int many] ∧ H tp = some (.lst (items.map V.int)) ∧ (∀ x ∈ items, 0 ≤ x ∧ x < tapeTop) ∧ items.length ≤ 2520 ∧ n ≤ cMax ∧ 0 < many ∧ ∀ d, 0 ≤ d → d < many → Q (.int d) H
def spTake : Sp := fun vs H Q _ => ∃ (st : Addr × Addr) (c : Nat) (many : Int), vs = [.ref st.1, .int many] ∧ StAt st c H ∧ c < cMax ∧ 0 < many ∧ ∀ d H', 0 ≤ d → d < many → StAt st (c + 1) H' → FrS st H H' → Q (.int d) H'
def spCommon : Sp := fun vs H Q _ => ∃ (a b : Nat), vs = [.int (a : Int), .int (b : Int)] ∧ b < 2 ^ 1000000 ∧ Q (.int ((Nat.gcd a b : Nat) : Int)) H
/-- a fresh pair, what stood stands -/
def NewPr (H : Hp) (q : Rat) (Q : VK) : Prop := ∀ r H', Ex H H' → (∃ a, r = .ref a ∧ H a = none) → PrAt H' r q → Q r H'
def spPair : Sp := fun vs H Q _ => ∃ (t b : Int), vs = [.int t, .int b] ∧ 0 < b ∧ b.natAbs < 2 ^ 900000 ∧ NewPr H (Rat.divInt t b) Q
def spNumber : Sp := fun vs H Q _ => ∃ (st : Addr × Addr) (c : Nat), vs = [.ref st.1] ∧ StAt st c H ∧ c + 4 < cMax ∧ ∀ q r H', SmB 40 q → PrAt H' r q → StAt st (c + 4) H' → FrS st H H' → Q r H'
def spMade (C : Addr) : Sp := fun vs H Q _ => ∃ (x : V) (q : Rat), vs = [x] ∧ PrAt H x q ∧ q.den < 2 ^ 900000 ∧ ∀ r H', Ex H H' → (∃ a, r = .ref a ∧ H a = none) → RatAt C H' r q → Q r H'
theorem bits_lt {b k : Nat} (h : b < 2 ^ k) : b < 2 ^ (Builtin.Int.intBits (b : Int)) := by
  unfold Builtin.Int.intBits
  by_cases h0 : b = 0
  · subst h0; simp
  · rw [if_neg (by simpa using h0), Int.natAbs_natCast]
    exact Nat.lt_log2_self
theorem bits_le {b : Nat} {k : Nat} (h : b < 2 ^ k) : Builtin.Int.intBits (b : Int) ≤ k := PyProof.Rows.intBits_le (by rw [Int.natAbs_natCast]; exact h)
theorem at_map {items : List Int} {j : Nat} (h : j < items.length) : atI (items.map V.int) (j : Int) = some (.int items[j]) := by
  refine atI_nat ?_
  rw [List.getElem?_map, List.getElem?_eq_getElem h]
  rfl
end Pn
namespace Pn
open PySem L2 Evl
theorem at_mapI {items : List Int} {i : Int} (h0 : 0 ≤ i) (h : i < (items.length : Int)) : ∃ v, atI (items.map V.int) i = some (.int v) := by
  have e : i = (i.toNat : Int) := (Int.toNat_of_nonneg h0).symm
  rw [e]
  exact ⟨_, at_map (by omega)⟩
end Pn
namespace Pn
open PySem L2 Evl
theorem sq_lt {e : Int} (h0 : 0 ≤ e) (h1 : e < 1000) : 0 ≤ e ^ (2 : Int).toNat ∧ e ^ (2 : Int).toNat < 1000000 := by
  have e2 : e ^ (2 : Int).toNat = e * e := by show e ^ 2 = _; rw [Int.pow_succ, Int.pow_succ, Int.pow_zero, Int.one_mul]
  rw [e2]
  have z := Int.mul_nonneg h0 h0
  have y : e * e ≤ 999 * 999 := Int.mul_le_mul (by omega) (by omega) h0 (by decide)
  omega
theorem cu_lt {e : Int} (h0 : 0 ≤ e) (h1 : e < 1000) : 0 ≤ e ^ (3 : Int).toNat ∧ e ^ (3 : Int).toNat < 1000000000 := by
  have e2 : e ^ (3 : Int).toNat = e * e * e := by show e ^ 3 = _; rw [Int.pow_succ, Int.pow_succ, Int.pow_succ, Int.pow_zero, Int.one_mul]
  rw [e2]
  have z := Int.mul_nonneg h0 h0
  have y : e * e ≤ 999 * 999 := Int.mul_le_mul (by omega) (by omega) h0 (by decide)
  have x : e * e * e ≤ 999 * 999 * 999 := Int.mul_le_mul y (by omega) h0 (by decide)
  have w := Int.mul_nonneg z h0
  omega
theorem smB_div40 {t b : Int} (hb : 0 < b) (h1 : t.natAbs < 2 ^ 40) (h2 : b.natAbs < 2 ^ 40) : SmB 40 (Rat.divInt t b) :=
  ⟨Nat.lt_of_le_of_lt (num_le _ _) h1, Nat.lt_of_le_of_lt (den_le _ _ (Int.ne_of_gt hb)) h2⟩
theorem pow_ok {i j : Int} (h0 : 0 ≤ i) (h1 : i < 1000) (j0 : 0 ≤ j) (j1 : j ≤ 10) : CPow i j := ⟨j0, by omega, by omega⟩
theorem lt9000 {n : Nat} (h : n < 2 ^ 40) : n < 2 ^ 900000 := Nat.lt_of_lt_of_le h (Nat.pow_le_pow_right (by decide) (by decide))
end Pn

namespace Pn
open PySem L2 Evl
theorem divInt_one (n : Int) : Rat.divInt n 1 = (n : Rat) := by
  have h := Rat.num_divInt_den (n : Rat)
  rw [Rat.num_intCast, Rat.den_intCast] at h
  exact h
/-- what evaluates to a fraction -/
def EvQ (C : Addr) (te : TE) (σ : L2.St) (H : Hp) (q : Rat) : Prop := ∀ H1, Ex H H1 → ∀ Q : VK, (∀ v H2, Ex H1 H2 → RatAt C H2 v q → Q v H2) → te σ H1 Q
section
variable {C : Addr} {σ : L2.St} {H H' : Hp} {ta tb te : TE} {p q : Rat} {E : XK} {ok : Rat → Rat → Prop} {ok1 : Rat → Prop} {f : Rat → Rat → Rat} {g : Rat → Rat} {cf : Rat → Rat → Bool}
theorem EvQ.mono (h : EvQ C te σ H q) (e : Ex H H') : EvQ C te σ H' q := fun H1 a Q k => h H1 (e.trans a) Q k
theorem fq_var {i : Nat} {v : V} (hr : RatAt C H v q) (h : σ[i]? = some (some v) := by rfl) : EvQ C (tVar i) σ H q := fun H1 e _ k => ⟨v, h, k _ _ (Ex.refl H1) (hr.mono e)⟩
theorem fq_bin (ha : EvQ C ta σ H p) (hb : EvQ C tb σ H q) (o : ok p q) : EvQ C (tOp (rOwn C (spBin C ok f) E) ta tb) σ H (f p q) := fun H1 e Q k =>
  ha H1 e _ fun x H2 e2 hx => hb H2 (e.trans e2) _ fun y H3 e3 hy => by
    have hx' := hx.mono e3
    obtain ⟨a, dx, rfl, h1⟩ := id hx'
    obtain ⟨b, dy, rfl, h2⟩ := id hy
    exact ⟨a, b, dx, dy, _, _, rfl, rfl, h1, h2, _, _, p, q, rfl, hx', hy, o, fun r H4 e4 _ hr => k r H4 ((e2.trans e3).trans e4) hr⟩
theorem fq_un (ha : EvQ C ta σ H p) (o : ok1 p) : EvQ C (tUn (rOwn1 C (spUn C ok1 g) E) ta) σ H (g p) := fun H1 e Q k =>
  ha H1 e _ fun x H2 e2 hx => by
    obtain ⟨a, dx, rfl, h1⟩ := id hx
    exact ⟨a, dx, _, rfl, h1, _, p, rfl, hx, o, fun r H4 e4 _ hr => k r H4 (e2.trans e4) hr⟩
theorem fq_abs (ha : EvQ C ta σ H p) (o : ok1 p) : EvQ C (tCB (rAbsOwn C (spUn C ok1 g)) (tCons ta tNil)) σ H (g p) := fun H1 e Q k =>
  ha H1 e _ fun x H2 e2 hx => by
    obtain ⟨a, dx, rfl, h1⟩ := id hx
    exact ⟨_, rfl, a, dx, _, rfl, h1, _, p, rfl, hx, o, fun r H4 e4 _ hr => k r H4 (e2.trans e4) hr⟩
theorem fq_meth {m : Str} (ha : EvQ C ta σ H p) (hb : EvQ C tb σ H q) (o : ok p q) (h1 : (m == ("top" : Str)) = false := by decide +kernel) (h2 : (m == ("bottom" : Str)) = false := by decide +kernel) :
    EvQ C (tMeth C m (spBin C ok f) [] E ta (tCons tb tNil)) σ H (f p q) := fun H1 e Q k =>
  ha H1 e _ fun x H2 e2 hx => by
    obtain ⟨a, dx, rfl, hx1⟩ := id hx
    refine ⟨a, dx, _, rfl, hx1, ratO_no p h1 h2, ?_⟩
    refine hb H2 (e.trans e2) _ fun y H3 e3 hy => ?_
    exact ⟨_, _, p, q, rfl, hx.mono e3, hy, o, fun r H4 e4 _ hr => k r H4 ((e2.trans e3).trans e4) hr⟩
theorem fq_int {n : Int} : EvQ C (tMake C (spInit C) [.int 1] E (tCons (tC (.int n)) tNil)) σ H (n : Rat) := fun H1 e Q k => by
  intro x dx nx ndx nex
  refine ⟨x, dx, n, 1, rfl, upd_same, by decide, Nat.one_lt_two_pow (by decide), fun H' e => ⟨rfl, ?_⟩⟩
  rw [divInt_one] at e
  subst e
  exact k _ _ (made nx ndx).1 (made nx ndx).2
theorem ev_cmp (ha : EvQ C ta σ H p) (hb : EvQ C tb σ H q) : Ev (tOp (rOwn C (spCmp C cf) E) ta tb) σ H (.bl (cf p q)) := fun H1 e Q k =>
  ha H1 e _ fun x H2 e2 hx => hb H2 (e.trans e2) _ fun y H3 e3 hy => by
    have hx' := hx.mono e3
    obtain ⟨a, dx, rfl, h1⟩ := id hx'
    obtain ⟨b, dy, rfl, h2⟩ := id hy
    exact ⟨a, b, dx, dy, _, _, rfl, rfl, h1, h2, _, _, p, q, _, rfl, hx', hy, rfl, k H3 (e2.trans e3)⟩
theorem ev_cmpO (ha : EvQ C ta σ H p) (hb : EvQ C tb σ H q) (o : Ok2 p q) : Ev (tOp (rOwn C (spCmpO C cf) E) ta tb) σ H (.bl (cf p q)) := fun H1 e Q k =>
  ha H1 e _ fun x H2 e2 hx => hb H2 (e.trans e2) _ fun y H3 e3 hy => by
    have hx' := hx.mono e3
    obtain ⟨a, dx, rfl, h1⟩ := id hx'
    obtain ⟨b, dy, rfl, h2⟩ := id hy
    exact ⟨a, b, dx, dy, _, _, rfl, rfl, h1, h2, _, _, p, q, _, rfl, hx', hy, ⟨o, rfl⟩, k H3 (e2.trans e3)⟩
end
section
variable {X : Cx}
def rIntB : List V → Hp → VK → Prop := fun xs H Q => ∃ k, xs = [.bl k] ∧ Q (.int (if k then 1 else 0)) H
theorem call_intB : CallR X (.type "int") rIntB := fun pins s σ H xs us Q I r h => call_int1 pins s σ H xs us Q I r (.inr h)
theorem ev_intB {ta : TE} {σ : L2.St} {H : Hp} {b : Bool} (ha : Ev ta σ H (.bl b)) : Ev (tCB rIntB (tCons ta tNil)) σ H (.int (if b then 1 else 0)) := fun H1 e Q k => ha H1 e _ fun H2 e2 => ⟨b, rfl, k H2 e2⟩
end
/-! ### sizes by count -/
theorem ok2_of {n m : Nat} {p q : Rat} (h1 : SmB n p) (h2 : SmB m q) (n0 : 0 < n) (m0 : 0 < m) (h : n + m ≤ 900000) : Ok2 p q := ⟨n, m, n0, m0, h1, h2, h⟩
theorem smB_int {n : Int} {k : Nat} (h : n.natAbs < 2 ^ k) (hk : 1 < 2 ^ k) : SmB k (n : Rat) := ⟨by rw [Rat.num_intCast]; exact h, by rw [Rat.den_intCast]; exact hk⟩
theorem smB_abs {n : Nat} {p : Rat} (h1 : SmB n p) : SmB n p.abs := by
  unfold Rat.abs
  split
  · exact h1
  · exact smB_neg h1
/-- the law's own promise -/
def spLaw (K : PySem.W.Frag) : Sp := fun vs H Q _ => ∃ (a : Addr) (ns : List Int), vs = [.ref a] ∧ SqL K H a (ns.map V.int) ∧ ns.length ≤ 63 ∧ ∀ H', Q (.bl true) H'
/-- a state made anew: a list of the tape and 0 -/
theorem stAt_new {p st : Addr} {H H1 : Hp} {items : List Int} (t : TapeI p H H1 items) (hl : items.length ≤ 2520) (hn : H1 st = none) : StAt (st, p) 0 (upd H1 st (.lst [.ref p, .int 0])) := by
  obtain ⟨a, b, c, d⟩ := t
  have ne : st ≠ p := (ne_of_none c hn).symm
  exact ⟨items, 0, upd_same, (upd_ne ne.symm).trans c, ne, d, hl, Nat.le_refl _⟩
end Pn
namespace Pn
theorem okD {n : Nat} {p : Rat} (h : SmB n p) (k : n ≤ 900000) : Ok1 p := Nat.lt_of_lt_of_le h.2 (Nat.pow_le_pow_right (by decide) k)
theorem nzOf {p : Rat} {n : Int} (h : (!decide (p = (n : Rat))) = true) (e : n = 0 := by rfl) : p ≠ 0 := by
  subst e
  simpa using h
end Pn
namespace Pn
open PySem L2 Evl
section
variable {C : Addr} {σ : L2.St} {H : Hp} {te : TE} {q : Rat} {D : Ends} {tz : TS}
theorem q_asgQ {i : Nat} (h : EvQ C te σ H q) (k : ∀ v H1, Ex H H1 → RatAt C H1 v q → tz D (σ.set i (some v)) H1) : tSeq (tAsg te (gName i)) tz D σ H := h H (Ex.refl H) _ fun v H1 e r => k v H1 e r
theorem s_asgQ {i : Nat} (h : EvQ C te σ H q) (k : ∀ v H1, Ex H H1 → RatAt C H1 v q → D.nx (σ.set i (some v)) H1) : tAsg te (gName i) D σ H := h H (Ex.refl H) _ fun v H1 e r => k v H1 e r
end
end Pn
namespace Pn
open PySem L2 Evl
/-- an own comparison with what is no fraction -/
def spCmpS (C : Addr) (b : Bool) : Sp := fun vs H Q _ => ∃ (x y : V) (p : Rat), vs = [x, y] ∧ RatAt C H x p ∧ Scal y ∧ Q (.bl b) H
theorem ev_cmpS {C : Addr} {σ : L2.St} {H : Hp} {ta tb : TE} {p : Rat} {y : V} {b : Bool} (ha : EvQ C ta σ H p) (hb : Ev tb σ H y) (hy : Scal y) : Ev (tOp (rOwnS C (spCmpS C b)) ta tb) σ H (.bl b) := fun H1 e Q k =>
  ha H1 e _ fun x H2 e2 hx => hb H2 (e.trans e2) _ fun H3 e3 => by
    have hx' := hx.mono e3
    obtain ⟨a, dx, rfl, h1⟩ := id hx'
    exact ⟨a, dx, _, rfl, hy, h1, _, _, p, rfl, hx', hy, k H3 (e2.trans e3)⟩
/-- a flag is what is due -/
def spFlag : Sp := fun vs H Q _ => ∃ a b : Bool, vs = [.bl a, .bl b] ∧ a = b ∧ Q (.bl true) H
theorem flag_spv {a b : Bool} {H : Hp} (h : a = b) : SpV spFlag [.bl a, .bl b] H (.bl true) := fun H1 _ Q q E => ⟨a, b, rfl, h, q H1 (Ex.refl H1)⟩
end Pn

namespace Pn
open PySem L2 Evl
/-- what evaluates to something of which R holds -/
def EvP (te : TE) (σ : L2.St) (H : Hp) (R : V → Hp → Prop) : Prop := ∀ H1, Ex H H1 → ∀ Q : VK, (∀ v H2, Ex H1 H2 → R v H2 → Q v H2) → te σ H1 Q
/-- what a walk goes over: n items, the i-th by Y -/
def Src (wi : TI) (σ : L2.St) (H : Hp) (n : Nat) (Y : Nat → Hp → V → Hp → Prop) : Prop := ∀ H1, Ex H H1 → ∀ R : It → Hp → Prop, (∀ J G H2, Ex H1 H2 → Walk J n G Y → (∀ H3, Ex H2 H3 → G H3) → R J H2) → wi σ H1 R
def MonoR {α : Type} (R : α → V → Hp → Prop) : Prop := ∀ x v H H', Ex H H' → R x v H → R x v H'
def AllR {α : Type} (R : α → V → Hp → Prop) (xs : List α) (vs : List V) (H : Hp) : Prop := vs.length = xs.length ∧ ∀ (i : Nat) x v, xs[i]? = some x → vs[i]? = some v → R x v H
def TupAt {α : Type} (R : α → V → Hp → Prop) (xs : List α) (v : V) (H : Hp) : Prop := ∃ a vs, v = .ref a ∧ H a = some (.tup vs) ∧ AllR R xs vs H
def LstAt {α : Type} (R : α → V → Hp → Prop) (xs : List α) (v : V) (H : Hp) : Prop := ∃ a vs, v = .ref a ∧ H a = some (.lst vs) ∧ AllR R xs vs H
def RQ (C : Addr) : Rat → V → Hp → Prop := fun q v H => RatAt C H v q
def RP : Rat → V → Hp → Prop := fun q v H => PrAt H v q
section
variable {α β : Type} {R : α → V → Hp → Prop} {S : β → V → Hp → Prop} {C : Addr}
theorem mono_rq : MonoR (RQ C) := fun _ _ _ _ e h => h.mono e
theorem mono_rp : MonoR RP := fun _ _ _ _ e h => h.mono e
theorem AllR.mono {xs : List α} {vs : List V} {H H' : Hp} (m : MonoR R) (h : AllR R xs vs H) (e : Ex H H') : AllR R xs vs H' := ⟨h.1, fun i x v h1 h2 => m x v H H' e (h.2 i x v h1 h2)⟩
theorem mono_tup (m : MonoR R) : MonoR (TupAt R) := fun xs v H H' e ⟨a, vs, h1, h2, h3⟩ => ⟨a, vs, h1, e _ _ h2, h3.mono m e⟩
theorem mono_lst (m : MonoR R) : MonoR (LstAt R) := fun xs v H H' e ⟨a, vs, h1, h2, h3⟩ => ⟨a, vs, h1, e _ _ h2, h3.mono m e⟩
/-- the item at a place -/
theorem AllR.get {xs : List α} {vs : List V} {H : Hp} (h : AllR R xs vs H) {i : Nat} {x : α} (hx : xs[i]? = some x) : ∃ v, vs[i]? = some v ∧ R x v H := by
  have hi : i < vs.length := by
    rw [h.1]
    exact (List.getElem?_eq_some_iff.mp hx).1
  exact ⟨vs[i], List.getElem?_eq_getElem hi, h.2 i x _ hx (List.getElem?_eq_getElem hi)⟩
theorem AllR.getV {xs : List α} {vs : List V} {H : Hp} (h : AllR R xs vs H) {i : Nat} {v : V} (hv : vs[i]? = some v) : ∃ x, xs[i]? = some x ∧ R x v H := by
  have hi : i < xs.length := by
    rw [← h.1]
    exact (List.getElem?_eq_some_iff.mp hv).1
  exact ⟨xs[i], List.getElem?_eq_getElem hi, h.2 i _ v (List.getElem?_eq_getElem hi) hv⟩
end
/-! ### comprehensions -/
/-- a new list of n items, the i-th one by S i -/
def NewL (H : Hp) (n : Nat) (S : Nat → V → Hp → Prop) (v : V) (H2 : Hp) : Prop := ∃ p ys, v = .ref p ∧ H p = none ∧ H2 p = some (.lst ys) ∧ ys.length = n ∧ ∀ (i : Nat) y, ys[i]? = some y → S i y H2
/-- kept by whatever is done to a list -/
def Stab (S : V → Hp → Prop) : Prop := ∀ v H H' D xs, (∀ a o, a ≠ D → H a = some o → H' a = some o) → H D = some (.lst xs) → S v H → S v H'
/-- kept by whatever is made -/
def Mono (S : V → Hp → Prop) : Prop := ∀ v H H', Ex H H' → S v H → S v H'
theorem stab_rat {C : Addr} {q : Rat} : Stab (fun v H => RatAt C H v q) := fun v H H' D xs f hD ⟨a, dx, e, h⟩ => ⟨a, dx, e, f _ _ (ne_of h hD fun z => nomatch z) h⟩
theorem stab_pair {i j : Int} : Stab (fun v H => PairAt H v i j) := fun v H H' D xs f hD ⟨a, e, h⟩ => ⟨a, e, f _ _ (ne_of h hD fun z => nomatch z) h⟩
theorem stab_tup {α : Type} {R : α → V → Hp → Prop} (hR : ∀ x, Stab (R x)) {xs : List α} : Stab (TupAt R xs) := fun v H H' D ys f hD ⟨a, vs, e, h, h2⟩ =>
  ⟨a, vs, e, f _ _ (ne_of h hD fun z => nomatch z) h, h2.1, fun i x v h3 h4 => hR x v H H' D ys f hD (h2.2 i x v h3 h4)⟩
theorem mono_rat {C : Addr} {q : Rat} : Mono (fun v H => RatAt C H v q) := fun _ _ _ e h => h.mono e
theorem mono_pair {i j : Int} : Mono (fun v H => PairAt H v i j) := fun _ _ _ e h => h.mono e
theorem evp_lc {wi : TI} {g : TG} {te : TE} {vs : List Nat} {σ : L2.St} {H : Hp} {n : Nat} {Y : Nat → Hp → V → Hp → Prop} {P : Nat → L2.St → Hp → Prop} {S : Nat → V → Hp → Prop}
    (hn : n ≤ 10000) (hsrc : Src wi σ H n Y) (hS : ∀ i, Mono (S i)) (hT : ∀ i, Stab (S i))
    (hitem : ∀ i H1 x H2 (K : L2.St → Hp → Prop), i < n → Ex H H1 → Y i H1 x H2 → (∀ σi H3, Ex H1 H3 → wipe σi vs = wipe σ vs → P i σi H3 → K σi H3) → g x (wipe σ vs) H2 K)
    (he : ∀ i σi H1, i < n → Ex H H1 → P i σi H1 → EvP te σi H1 (S i)) : EvP (tLc wi g tYes te vs) σ H (NewL H n S) := by
  intro H1 e1 Q k
  refine hsrc H1 e1 _ fun J G H2 e2 w hG => fun D hD => ?_
  refine lc_it w (fun i H' => Ex H2 H' ∧ ∃ ys, H' D = some (.lst ys) ∧ ys.length = i ∧ ∀ (j : Nat) y, ys[j]? = some y → S j y H') ⟨Ex.new hD, [], upd_same, rfl, fun j y z => by simp at z⟩ (fun i H' _ p => hG _ p.1) ?_ ?_
  · intro i x H' H'' hi p hy
    obtain ⟨p1, ys, p2, p3, p4⟩ := p
    refine hitem i H' x H'' _ hi ((e1.trans e2).trans p1) hy fun σi H3 e3 hw hP => ⟨hw, ?_⟩
    show te σi H3 _
    refine he i σi H3 hi (((e1.trans e2).trans p1).trans e3) hP H3 (Ex.refl _) _ fun y H4 e4 hSy => ?_
    have e34 := e3.trans e4
    have hD4 := e34 _ _ p2
    refine ⟨ys, hD4, sz_lt (by omega), Ex.mut (p1.trans e34) hD, ys ++ [y], upd_same, by rw [List.length_append, p3]; rfl, fun j z hz => ?_⟩
    have st : ∀ i v, S i v H4 → S i v (upd H4 D (.lst (ys ++ [y]))) := fun i v h => hT i v H4 _ D ys (fun a o ne ha => (upd_ne ne).trans ha) hD4 h
    by_cases hj : j < ys.length
    · rw [List.getElem?_append_left hj] at hz
      exact st j z (hS j z _ _ e34 (p4 j z hz))
    · have hj2 : j = i := by
        have := (List.getElem?_eq_some_iff.mp hz).1
        rw [List.length_append, List.length_singleton] at this
        omega
      subst hj2
      rw [List.getElem?_append_right (by omega), p3, Nat.sub_self] at hz
      simp at hz
      subst hz
      exact st _ _ hSy
  · intro H' p
    obtain ⟨p1, ys, p2, p3, p4⟩ := p
    exact k _ _ (e2.trans p1) ⟨D, ys, rfl, fresh_back (e1.trans e2) hD, p2, p3, p4⟩
end Pn
namespace Pn
open PySem L2 Evl
section
variable {α β γ : Type} {R : α → V → Hp → Prop} {R2 : β → V → Hp → Prop} {K : PySem.W.Frag} {tl te : TE} {σ : L2.St} {H : Hp}
theorem EvP.imp {R S : V → Hp → Prop} (h : EvP te σ H R) (k : ∀ v H', Ex H H' → R v H' → S v H') : EvP te σ H S := fun H1 e Q q => h H1 e Q fun v H2 e2 r => q v H2 e2 (k v H2 (e.trans e2) r)
theorem evp_var {S : V → Hp → Prop} {i : Nat} {v : V} (m : Mono S) (hr : S v H) (h : σ[i]? = some (some v) := by rfl) : EvP (tVar i) σ H S := fun H1 e _ k => ⟨v, h, k _ _ (Ex.refl H1) (m _ _ _ e hr)⟩
theorem evp_of {x : V} (h : Ev te σ H x) : EvP te σ H (fun v _ => v = x) := fun H1 e Q k => h H1 e Q fun H2 e2 => k _ _ e2 rfl
/-- a new tuple out of a new list -/
theorem evp_tup {n : Nat} {S : Nat → V → Hp → Prop} {xs : List α} (h : EvP tl σ H (NewL H n S)) (hn : xs.length = n) (hR : MonoR R) (hS : ∀ i x v H', xs[i]? = some x → S i v H' → R x v H') : EvP (tCB (rTupL K) (tCons tl tNil)) σ H (TupAt R xs) := fun H1 e Q k =>
  h H1 e _ fun v H2 e2 ⟨p, ys, ev, hp, h2, hl, hy⟩ => by
    subst ev
    refine ⟨p, ys, rfl, SqL.of h2, fun l hl0 => k _ _ (e2.trans (Ex.new hl0)) ⟨l, ys, rfl, upd_same, by omega, fun i x v h3 h4 => ?_⟩⟩
    exact hR _ _ _ _ (Ex.new hl0) (hS i x v _ h3 (hy i v h4))
/-- over a tuple -/
theorem src_tup (m : MonoR R) {xs : List α} (h : EvP tl σ H (TupAt R xs)) : Src (iTup K tl) σ H xs.length (fun i H1 v H2 => H2 = H1 ∧ ∃ x, xs[i]? = some x ∧ R x v H1) := fun H1 e S k =>
  h H1 e _ fun v H2 e2 ⟨a, vs, ev, ha, hA⟩ => by
    subst ev
    have z := k (Itt K a) (fun H3 => SqT K H3 a vs ∧ AllR R xs vs H3) H2 e2 (by
      have w := walk_tup (K := K) (a := a) (xs := vs)
      rw [hA.1] at w
      refine w.mono (fun _ g => g.1) fun i H3 v H4 hi g y => ?_
      obtain ⟨y1, y2⟩ := y
      obtain ⟨x, hx, hr⟩ := g.2.getV y2
      exact ⟨y1, x, hx, hr⟩) fun H3 e3 => ⟨ex_t e3 (SqT.of ha), hA.mono m e3⟩
    exact ⟨a, rfl, ⟨vs, SqT.of ha⟩, z⟩
/-- over range(n) -/
theorem src_rng {ta : TA} {n : Nat} (h : EvA ta σ H [.int (n : Int)]) (hn : n ≤ 10000) : Src (iRng1 ta) σ H n (fun i H1 v H2 => H2 = H1 ∧ v = .int (i : Int)) := fun H1 e S k =>
  h H1 e _ fun H2 e2 => by
    have z := k (Itr 0 ((n : Int)).toNat) (fun _ => True) H2 e2 (by
      have w := walk_range (lo := 0) (n := n)
      rw [Int.toNat_natCast]
      refine w.mono (fun _ _ => True.intro) fun i H3 v H4 hi _ y => ?_
      obtain ⟨y1, y2⟩ := y
      dsimp only at y2
      rw [Int.zero_add] at y2
      exact ⟨y1, y2⟩) fun _ _ => True.intro
    exact ⟨_, rfl, by omega, by omega, z⟩
theorem walk_zipT {a b : Addr} {xs ys : List V} {n : Nat} (h1 : xs.length = n) (h2 : ys.length = n) : Walk (RZ.ItzT K a b) n (fun H => SqT K H a xs ∧ SqT K H b ys) (YPair (fun i => xs[i]?) (fun i => ys[i]?)) := by
  refine ⟨fun i _ hi q => ?_, fun _ q => ⟨xs, ys, q.1, q.2, .inl (by omega)⟩, fun i H v H' _ q y => ?_⟩
  · have h3 : i < xs.length := by omega
    have h4 : i < ys.length := by omega
    exact ⟨xs, ys, xs[i], ys[i], q.1, q.2, List.getElem?_eq_getElem h3, List.getElem?_eq_getElem h4⟩
  · obtain ⟨T, x, z, e1, e2, e3, e4, e5⟩ := y
    exact ⟨T, x, z, e1, e2, e3, e4 xs q.1, e5 ys q.2⟩
/-- over zip of two tuples of one length -/
theorem src_zip (m1 : MonoR R) (m2 : MonoR R2) {ta tb : TE} {xs : List α} {ys : List β} (hl : xs.length = ys.length) (ha : EvP ta σ H (TupAt R xs)) (hb : EvP tb σ H (TupAt R2 ys)) :
    Src (RZ.iZipA K (tCons ta (tCons tb tNil))) σ H xs.length (fun i H1 v H2 => ∃ T x y p q, v = .ref T ∧ H1 T = none ∧ H2 = upd H1 T (.tup [x, y]) ∧ xs[i]? = some p ∧ ys[i]? = some q ∧ R p x H1 ∧ R2 q y H1) := fun H1 e S k =>
  ha H1 e _ fun v H2 e2 ⟨a, vs, ev, h2, hA⟩ => hb H2 (e.trans e2) _ fun w H3 e3 ⟨b, ws, ew, h3, hB⟩ => by
    subst ev ew
    have z := k (RZ.ItzT K a b) (fun H4 => (SqT K H4 a vs ∧ SqT K H4 b ws) ∧ AllR R xs vs H4 ∧ AllR R2 ys ws H4) H3 (e2.trans e3) (by
      refine (walk_zipT (K := K) (a := a) (b := b) (xs := vs) (ys := ws) (n := xs.length) hA.1 (by rw [hB.1]; exact hl.symm)).mono (fun _ g => g.1) fun i H3 v H4 hi g y => ?_
      obtain ⟨T, x, y, e1, e2, e3, e4, e5⟩ := y
      obtain ⟨p, hp, hr⟩ := g.2.1.getV e4
      obtain ⟨q, hq, hs⟩ := g.2.2.getV e5
      exact ⟨T, x, y, p, q, e1, e2, e3, hp, hq, hr, hs⟩) fun H4 e4 => ⟨⟨ex_t (e3.trans e4) (SqT.of h2), ex_t e4 (SqT.of h3)⟩, hA.mono m1 (e3.trans e4), hB.mono m2 e4⟩
    exact ⟨a, b, vs, ws, rfl, .inr ⟨ex_t e3 (SqT.of h2), SqT.of h3, z⟩⟩
end
end Pn

namespace Pn
/-! vectors of fractions, in plain Lean -/
def dotQ : List Rat → List Rat → Rat
  | p :: ps, q :: qs => p * q + dotQ ps qs
  | _, _ => 0
def AllS (n : Nat) (qs : List Rat) : Prop := ∀ q ∈ qs, SmB n q
theorem AllS.get {n : Nat} {qs : List Rat} (h : AllS n qs) {i : Nat} {q : Rat} (e : qs[i]? = some q) : SmB n q := h q (List.mem_of_getElem? e)
theorem dotQ_nil (qs : List Rat) : dotQ [] qs = 0 := by unfold dotQ; rfl
theorem dotQ_nil_right (ps : List Rat) : dotQ ps [] = 0 := by cases ps <;> rfl
theorem dotQ_take : ∀ (ps qs : List Rat) (i : Nat) (p q : Rat), ps[i]? = some p → qs[i]? = some q → dotQ (ps.take (i + 1)) (qs.take (i + 1)) = dotQ (ps.take i) (qs.take i) + p * q
  | [], _, i, p, q, h, _ => by simp at h
  | _ :: _, [], i, p, q, _, h => by simp at h
  | a :: ps, b :: qs, 0, p, q, h1, h2 => by
    simp at h1 h2
    subst h1; subst h2
    show a * b + dotQ (ps.take 0) (qs.take 0) = 0 + a * b
    rw [List.take_zero, dotQ_nil]
    grind
  | a :: ps, b :: qs, i + 1, p, q, h1, h2 => by
    have ih := dotQ_take ps qs i p q (by simpa using h1) (by simpa using h2)
    show a * b + dotQ (ps.take (i + 1)) (qs.take (i + 1)) = a * b + dotQ (ps.take i) (qs.take i) + p * q
    rw [ih]
    grind
theorem smB_zero {k : Nat} (h : 0 < k) : SmB k 0 := ⟨Nat.pow_pos (by decide), Nat.one_lt_two_pow (by omega)⟩
theorem dotQ_sm {n m : Nat} : ∀ {ps qs : List Rat}, AllS n ps → AllS m qs → SmB ((n + m + 1) * ps.length + 1) (dotQ ps qs)
  | [], qs, _, _ => by rw [dotQ_nil]; exact smB_zero (by omega)
  | _ :: _, [], _, _ => by rw [dotQ_nil_right]; exact smB_zero (by omega)
  | a :: ps, b :: qs, h1, h2 => by
    have ih := dotQ_sm (ps := ps) (qs := qs) (fun q hq => h1 q (List.mem_cons_of_mem _ hq)) (fun q hq => h2 q (List.mem_cons_of_mem _ hq))
    have s := smB_add (smB_mul (h1 a List.mem_cons_self) (h2 b List.mem_cons_self)) ih
    show SmB _ (a * b + dotQ ps qs)
    refine s.mono ?_
    rw [List.length_cons, Nat.mul_add]
    omega
theorem AllS.take {n : Nat} {qs : List Rat} (h : AllS n qs) (i : Nat) : AllS n (qs.take i) := fun q hq => h q (List.mem_of_mem_take hq)
def addQ (ps qs : List Rat) : List Rat := List.zipWith (· + ·) ps qs
def subQ (ps qs : List Rat) : List Rat := List.zipWith (· - ·) ps qs
def scaleQ (f : Rat) (qs : List Rat) : List Rat := qs.map (f * ·)
def zeroQ (n : Nat) : List Rat := (List.range n).map fun _ => 0
def unitQ (n i : Nat) : List Rat := (List.range n).map fun k => if k = i then 1 else 0
theorem smB_one {k : Nat} (h : 2 ≤ k) : SmB k 1 := ⟨Nat.one_lt_two_pow (by omega), Nat.one_lt_two_pow (by omega)⟩
end Pn

namespace Pn
open PySem L2 Evl
/-- at v stands a vector -/
abbrev VecAt (C : Addr) (qs : List Rat) (v : V) (H : Hp) : Prop := TupAt (RQ C) qs v H
theorem mono_vec {C : Addr} {qs : List Rat} : Mono (VecAt C qs) := fun v H H' e h => mono_tup mono_rq qs v H H' e h
theorem stab_vec {C : Addr} {qs : List Rat} : Stab (VecAt C qs) := stab_tup fun _ => stab_rat
def spDot (C : Addr) : Sp := fun vs H Q _ => ∃ (x y : V) (ps qs : List Rat) (n m : Nat), vs = [x, y] ∧ VecAt C ps x H ∧ VecAt C qs y H ∧ ps.length = qs.length ∧ AllS n ps ∧ AllS m qs ∧ (0 < n ∧ 0 < m ∧ (n + m + 1) * ps.length + 1 ≤ 900000) ∧
  ∀ r H', Ex H H' → RatAt C H' r (dotQ ps qs) → Q r H'
/-- a new value of which R holds -/
def NewV (R : V → Hp → Prop) (H : Hp) (Q : VK) : Prop := ∀ r H', Ex H H' → R r H' → Q r H'
def spScale (C : Addr) : Sp := fun vs H Q _ => ∃ (x y : V) (f : Rat) (qs : List Rat), vs = [x, y] ∧ RatAt C H x f ∧ VecAt C qs y H ∧ qs.length ≤ 10000 ∧ (∀ q ∈ qs, Ok2 f q) ∧ NewV (VecAt C (scaleQ f qs)) H Q
def spVec2 (C : Addr) (f : Rat → Rat → Rat) : Sp := fun vs H Q _ => ∃ (x y : V) (ps qs : List Rat), vs = [x, y] ∧ VecAt C ps x H ∧ VecAt C qs y H ∧ ps.length = qs.length ∧ ps.length ≤ 10000 ∧ (∀ p ∈ ps, ∀ q ∈ qs, Ok2 p q) ∧ NewV (VecAt C (List.zipWith f ps qs)) H Q
def spZero (C : Addr) : Sp := fun vs H Q _ => ∃ (n : Nat), vs = [.int (n : Int)] ∧ n ≤ 10000 ∧ NewV (VecAt C (zeroQ n)) H Q
def spUnit (C : Addr) : Sp := fun vs H Q _ => ∃ (n i : Nat), vs = [.int (n : Int), .int (i : Int)] ∧ n ≤ 10000 ∧ NewV (VecAt C (unitQ n i)) H Q
def spIsZero (C : Addr) : Sp := fun vs H Q _ => ∃ (x : V) (qs : List Rat), vs = [x] ∧ VecAt C qs x H ∧ qs.length ≤ 10000 ∧ ∀ H', Ex H H' → Q (.bl (qs.all fun q => decide (q = 0))) H'
section
variable {C : Addr} {K : PySem.W.Frag} {σ : L2.St} {H : Hp} {te : TE} {D : Ends}
theorem fq_mono {q : Rat} : Mono (fun v H => RatAt C H v q) := mono_rat
theorem s_retP {S : V → Hp → Prop} (h : EvP te σ H S) (k : ∀ v H1, Ex H H1 → S v H1 → D.rt v H1) : tRet te D σ H := h H (Ex.refl H) _ k
theorem sm9 {n m : Nat} {p q : Rat} (h1 : SmB n p) (h2 : SmB m q) (n0 : 0 < n) (m0 : 0 < m) (h : n + m ≤ 900000) : Ok2 p q := ok2_of h1 h2 n0 m0 h
end
theorem zipWith_get {f : Rat → Rat → Rat} {ps qs : List Rat} {i : Nat} {x : Rat} (h : (List.zipWith f ps qs)[i]? = some x) : ∃ p q, ps[i]? = some p ∧ qs[i]? = some q ∧ x = f p q := by
  rw [List.getElem?_zipWith] at h
  cases h1 : ps[i]? with
  | none => rw [h1] at h; simp at h
  | some p =>
    cases h2 : qs[i]? with
    | none => rw [h1, h2] at h; simp at h
    | some q => rw [h1, h2] at h; exact ⟨p, q, rfl, rfl, (Option.some.inj h).symm⟩
theorem map_get {α β : Type} {f : α → β} {xs : List α} {i : Nat} {y : β} (h : (xs.map f)[i]? = some y) : ∃ x, xs[i]? = some x ∧ y = f x := by
  rw [List.getElem?_map] at h
  cases h1 : xs[i]? with
  | none => rw [h1] at h; cases h
  | some x => rw [h1] at h; exact ⟨x, rfl, (Option.some.inj h).symm⟩
theorem range_get {n i k : Nat} (h : (List.range n)[i]? = some k) : k = i ∧ i < n := by
  have hi : i < n := by
    have := (List.getElem?_eq_some_iff.mp h).1
    rwa [List.length_range] at this
  rw [List.getElem?_range hi] at h
  exact ⟨(Option.some.inj h).symm, hi⟩
end Pn
namespace Pn
open PySem L2 Evl
theorem evp_if {S : V → Hp → Prop} {t : TT} {ta tb : TE} {σ : L2.St} {H : Hp} {b : Bool} (h : EvT t σ H b) (h1 : b = true → EvP ta σ H S) (h2 : b = false → EvP tb σ H S) : EvP (tIf t ta tb) σ H S := fun H1 e Q k => h H1 e _ fun H2 e2 => by
  cases b with
  | true =>
    show ta σ H2 Q
    exact h1 rfl H2 (e.trans e2) Q fun v H3 e3 => k v H3 (e2.trans e3)
  | false =>
    show tb σ H2 Q
    exact h2 rfl H2 (e.trans e2) Q fun v H3 e3 => k v H3 (e2.trans e3)
theorem decV {i j : Int} : decide (V.int i = V.int j) = decide (i = j) := decide_eq_decide.mpr ⟨fun h => V.int.inj h, fun h => congrArg V.int h⟩
theorem num_dec (q : Rat) : decide (V.int q.num = V.int 0) = decide (q = 0) := by
  rw [decV]
  exact decide_eq_decide.mpr Rat.num_eq_zero
end Pn
namespace Pn
open PySem L2 Evl
section
variable {K : PySem.W.Frag} {σ : L2.St} {H : Hp} {tl : TE}
theorem bools_eq {n : Nat} {S : Nat → V → Hp → Prop} {bs : List Bool} {ys : List V} {H' : Hp} (hn : bs.length = n) (hl : ys.length = n) (hy : ∀ (i : Nat) y, ys[i]? = some y → S i y H') (hS : ∀ i v H', S i v H' → ∃ b, bs[i]? = some b ∧ v = .bl b) : ys = bs.map V.bl := by
  refine List.ext_getElem? fun i => ?_
  rw [List.getElem?_map]
  by_cases hi : i < ys.length
  · obtain ⟨b, hb, ev⟩ := hS _ _ _ (hy i ys[i] (List.getElem?_eq_getElem hi))
    rw [List.getElem?_eq_getElem hi, hb, ev]
    rfl
  · rw [List.getElem?_eq_none (by omega), List.getElem?_eq_none (by omega)]
    rfl
theorem evp_all {n : Nat} {S : Nat → V → Hp → Prop} {bs : List Bool} (h : EvP tl σ H (NewL H n S)) (hn : bs.length = n) (hS : ∀ i v H', S i v H' → ∃ b, bs[i]? = some b ∧ v = .bl b) : EvP (tCB (rAll K) (tCons tl tNil)) σ H (fun v _ => v = .bl (bs.all id)) := fun H1 e Q k =>
  h H1 e _ fun v H2 e2 ⟨p, ys, ev, hp, h2, hl, hy⟩ => by
    subst ev
    have e3 := bools_eq hn hl hy hS
    subst e3
    exact ⟨p, bs, rfl, SqL.of h2, k _ _ e2 rfl⟩
theorem evp_any {n : Nat} {S : Nat → V → Hp → Prop} {bs : List Bool} (h : EvP tl σ H (NewL H n S)) (hn : bs.length = n) (hS : ∀ i v H', S i v H' → ∃ b, bs[i]? = some b ∧ v = .bl b) : EvP (tCB (rAny K) (tCons tl tNil)) σ H (fun v _ => v = .bl (bs.any id)) := fun H1 e Q k =>
  h H1 e _ fun v H2 e2 ⟨p, ys, ev, hp, h2, hl, hy⟩ => by
    subst ev
    have e3 := bools_eq hn hl hy hS
    subst e3
    exact ⟨p, bs, rfl, SqL.of h2, k _ _ e2 rfl⟩
end
end Pn

namespace Pn
open PySem L2 Evl
section
variable {X : Cx} {K : PySem.W.Frag}
/-- == of two tuples of numbers that are the same -/
theorem op_tupEq (hK : X.K = K) (hr : Room 1 X.A) : OpR X (compareOp .Eq) (rEqG (DTup K DFlat)) := by
  subst hK
  exact op_eqG (rcG_tup mon_flat eqG_flat) hr
end
theorem pair_same {K : PySem.W.Frag} {H : Hp} {a b : Addr} {i j : Int} (h1 : H a = some (.tup [.int i, .int j])) (h2 : H b = some (.tup [.int i, .int j])) : DTup K DFlat (.ref a) (.ref b) H := by
  refine ⟨a, b, _, _, rfl, rfl, SqT.of h1, SqT.of h2, ?_⟩
  refine Prs.cons ⟨rfl, rfl, ?_⟩ (Prs.cons ⟨rfl, rfl, ?_⟩ Prs.nil)
  · simp [eqV]
  · simp [eqV]
def spIs (C : Addr) : Sp := fun vs H Q _ => ∃ (x y : V) (q : Rat), vs = [x, y] ∧ RatAt C H x q ∧ PrAt H y q ∧ ∀ H', Ex H H' → Q (.bl true) H'
def spPairBin (f : Rat → Rat → Rat) : Sp := fun vs H Q _ => ∃ (x y : V) (p q : Rat), vs = [x, y] ∧ PrAt H x p ∧ PrAt H y q ∧ Ok2 p q ∧ NewPr H (f p q) Q
/-! ### lists that the law made: their places are not the state's -/
/-- at v stands a list of what R says, not at one of the places in B -/
def RowAt {α : Type} (B : Addr → Prop) (R : α → V → Hp → Prop) (xs : List α) (v : V) (H : Hp) : Prop := ∃ a vs, v = .ref a ∧ ¬ B a ∧ H a = some (.lst vs) ∧ AllR R xs vs H
theorem RowAt.lst {α : Type} {B : Addr → Prop} {R : α → V → Hp → Prop} {xs : List α} {v : V} {H : Hp} (h : RowAt B R xs v H) : LstAt R xs v H := let ⟨a, vs, e, _, h1, h2⟩ := h; ⟨a, vs, e, h1, h2⟩
/-- what is kept while lists at B change -/
def Kept {α : Type} (B : Addr → Prop) (R : α → V → Hp → Prop) : Prop := ∀ x v H H', (∀ b, B b → ∃ xs, H b = some (.lst xs)) → (∀ a o, ¬ B a → H a = some o → H' a = some o) → R x v H → R x v H'
theorem kept_rp {B : Addr → Prop} : Kept B RP := fun q v H H' hB f ⟨a, e, h⟩ => ⟨a, e, f _ _ (fun b => by obtain ⟨xs, z⟩ := hB a b; rw [h] at z; cases z) h⟩
theorem kept_rq {B : Addr → Prop} {C : Addr} : Kept B (RQ C) := fun q v H H' hB f ⟨a, dx, e, h⟩ => ⟨a, dx, e, f _ _ (fun b => by obtain ⟨xs, z⟩ := hB a b; rw [h] at z; cases z) h⟩
theorem AllR.kept {α : Type} {B : Addr → Prop} {R : α → V → Hp → Prop} (k : Kept B R) {xs : List α} {vs : List V} {H H' : Hp} (hB : ∀ b, B b → ∃ xs, H b = some (.lst xs)) (f : ∀ a o, ¬ B a → H a = some o → H' a = some o) (h : AllR R xs vs H) : AllR R xs vs H' :=
  ⟨h.1, fun i x v h1 h2 => k x v H H' hB f (h.2 i x v h1 h2)⟩
theorem kept_row {α : Type} {B : Addr → Prop} {R : α → V → Hp → Prop} (k : Kept B R) : Kept B (RowAt B R) := fun xs v H H' hB f ⟨a, vs, e, n, h, h2⟩ => ⟨a, vs, e, n, f _ _ n h, h2.kept k hB f⟩
theorem kept_tup {α : Type} {B : Addr → Prop} {R : α → V → Hp → Prop} (k : Kept B R) : Kept B (TupAt R) := fun xs v H H' hB f ⟨a, vs, e, h, h2⟩ => ⟨a, vs, e, f _ _ (fun b => by obtain ⟨xs, z⟩ := hB a b; rw [h] at z; cases z) h, h2.kept k hB f⟩
/-- the state's place alone -/
abbrev Bs (st : Addr × Addr) : Addr → Prop := fun a => a = st.1
theorem Kept.frS {α : Type} {R : α → V → Hp → Prop} {st : Addr × Addr} {c : Nat} {H H' : Hp} {x : α} {v : V} (k : Kept (Bs st) R) (h : R x v H) (s : StAt st c H) (f : FrS st H H') : R x v H' :=
  k x v H H' (fun b hb => by obtain ⟨items, n, h1, _⟩ := s; exact ⟨_, by rw [hb]; exact h1⟩) (fun a o n ha => f a o n ha) h
theorem mono_row {α : Type} {B : Addr → Prop} {R : α → V → Hp → Prop} (m : MonoR R) : MonoR (RowAt B R) := fun xs v H H' e ⟨a, vs, h1, n, h2, h3⟩ => ⟨a, vs, h1, n, e _ _ h2, h3.mono m e⟩
def spRow : Sp := fun vs H Q _ => ∃ (st : Addr × Addr) (c n : Nat), vs = [.ref st.1, .int (n : Int)] ∧ StAt st c H ∧ n ≤ 1000 ∧ c + 4 * n + 5 < cMax ∧ ∀ qs v H', qs.length = n → AllS 40 qs → RowAt (Bs st) RP qs v H' → (∃ a, v = .ref a ∧ H a = none) → StAt st (c + 4 * n + 1) H' → FrS st H H' → Q v H'
/-! ### a comprehension whose element takes of the state -/
theorem lc_state {st : Addr × Addr} {c n cost j : Nat} {te : TE} {vs : List Nat} {σ : L2.St} {H : Hp} {ta : TA} {S : Addr → Nat → V → Hp → Prop} {Q : VK} (h : EvA ta σ H [.int (n : Int)]) (hn : n ≤ 10000) (s0 : StAt st c H)
    (hw : ∀ x, wipe ((wipe σ vs).set j (some x)) vs = wipe σ vs)
    (he : ∀ (i : Nat) (D : Addr) (H' : Hp) (K : VK), i < n → StAt st (c + cost * i) H' → FrS st H H' → D ≠ st.1 → (∃ ys, H' D = some (.lst ys)) → H D = none → (∀ (v : V) (H2 : Hp), StAt st (c + cost * (i + 1)) H2 → FrS st H' H2 → S D i v H2 → K v H2) → te ((wipe σ vs).set j (some (.int (i : Int)))) H' K)
    (hS : ∀ (D : Addr) (i : Nat) (v : V) (H' H2 : Hp) (c : Nat), StAt st c H' → FrS st H' H2 → S D i v H' → S D i v H2) (hD : ∀ (D : Addr) (i : Nat) (v : V) (H' : Hp) (ys zs : List V), H' D = some (.lst ys) → S D i v H' → S D i v (upd H' D (.lst zs)))
    (k : ∀ (D : Addr) (ys : List V) (H' : Hp), D ≠ st.1 → H D = none → StAt st (c + cost * n) H' → FrS st H H' → H' D = some (.lst ys) → ys.length = n → (∀ (i : Nat) y, ys[i]? = some y → S D i y H') → Q (.ref D) H') :
    tLc (iRng1 ta) (gName j) tYes te vs σ H Q := by
  refine h H (Ex.refl _) _ fun H1 e1 => ⟨n, rfl, by omega, by omega, fun D hD0 => ?_⟩
  have hDH : H D = none := fresh_back e1 hD0
  have nD : D ≠ st.1 := s0.fresh hDH
  have eN : Ex H1 (upd H1 D (.lst [])) := Ex.new hD0
  have w := walk_range (lo := 0) (n := n)
  refine lc_it (w := by rw [Int.toNat_natCast]; exact w) (fun i H' => StAt st (c + cost * i) H' ∧ FrS st H H' ∧ ∃ ys, H' D = some (.lst ys) ∧ ys.length = i ∧ ∀ (m : Nat) y, ys[m]? = some y → S D m y H')
    ⟨s0.ex (e1.trans eN), .of (e1.trans eN), [], upd_same, rfl, fun m y z => by simp at z⟩ (fun _ _ _ _ => True.intro) ?_ ?_
  · rintro i x H' H2 hi ⟨p1, p2, ys, p3, p4, p5⟩ ⟨y1, y2⟩
    dsimp only at y2
    rw [Int.zero_add] at y2
    subst y1 y2
    refine ⟨hw _, ?_⟩
    show te _ H2 _
    refine he i D H2 _ hi p1 p2 nD ⟨ys, p3⟩ hDH fun v H3 q1 q2 q3 => ?_
    have d3 := q2 _ _ nD p3
    refine ⟨ys, d3, sz_lt (by omega), ?_, ?_, ys ++ [v], upd_same, by rw [List.length_append, p4]; rfl, fun m z hz => ?_⟩
    · obtain ⟨items, m, h1, h2, h3, h4, h5, h6⟩ := q1
      exact ⟨items, m, (upd_ne nD.symm).trans h1, (upd_ne (s0.fresh2 hDH).symm).trans h2, h3, h4, h5, h6⟩
    · intro a o na ha
      rw [upd_ne (ne_of_none ha hDH)]
      exact q2 a o na (p2 a o na ha)
    · by_cases hm : m < ys.length
      · rw [List.getElem?_append_left hm] at hz
        exact hD D m z H3 ys _ d3 (hS D m z H2 H3 _ p1 q2 (p5 m z hz))
      · have hm2 : m = i := by
          have := (List.getElem?_eq_some_iff.mp hz).1
          rw [List.length_append, List.length_singleton] at this
          omega
        subst hm2
        rw [List.getElem?_append_right (by omega), p4, Nat.sub_self] at hz
        simp at hz
        subst hz
        exact hD D _ _ H3 ys _ d3 q3
  · rintro H' ⟨p1, p2, ys, p3, p4, p5⟩
    exact k D ys H' nD hDH p1 p2 p3 p4 p5
end Pn
namespace Pn
open PySem L2 Evl
theorem pick {α : Type} {P : V → α → Prop} : ∀ {ys : List V}, (∀ (i : Nat) y, ys[i]? = some y → ∃ q, P y q) → ∃ qs : List α, qs.length = ys.length ∧ ∀ (i : Nat) y q, ys[i]? = some y → qs[i]? = some q → P y q
  | [], _ => ⟨[], rfl, fun i y q h => by simp at h⟩
  | a :: ys, h => by
    obtain ⟨q, hq⟩ := h 0 a rfl
    obtain ⟨qs, h1, h2⟩ := pick (ys := ys) fun i y hy => h (i + 1) y (by simpa using hy)
    refine ⟨q :: qs, by rw [List.length_cons, List.length_cons, h1], fun i y z hy hz => ?_⟩
    cases i with
    | zero =>
      simp at hy hz
      subst hy; subst hz
      exact hq
    | succ i => exact h2 i y z (by simpa using hy) (by simpa using hz)
theorem q_asgT {te : TE} {tz : TS} {D : Ends} {σ : L2.St} {H : Hp} {i : Nat} (h : te σ H fun v H' => tz D (σ.set i (some v)) H') : tSeq (tAsg te (gName i)) tz D σ H := h
theorem s_asgT {te : TE} {D : Ends} {σ : L2.St} {H : Hp} {i : Nat} (h : te σ H fun v H' => D.nx (σ.set i (some v)) H') : tAsg te (gName i) D σ H := h
theorem flat_rep {α : Type} (n : Nat) (x : α) : (List.replicate n [x]).flatten = List.replicate n x := by
  induction n with
  | zero => rfl
  | succ n ih => rw [List.replicate_succ, List.flatten_cons, ih, List.replicate_succ]; rfl
theorem allR_rep {α : Type} {R : α → V → Hp → Prop} {n : Nat} {x : α} {v : V} {H : Hp} (h : R x v H) : AllR R (List.replicate n x) (List.replicate n v) H := by
  refine ⟨by rw [List.length_replicate, List.length_replicate], fun i a b h1 h2 => ?_⟩
  rw [(List.mem_replicate.mp (List.mem_of_getElem? h1)).2, (List.mem_replicate.mp (List.mem_of_getElem? h2)).2]
  exact h
section
variable {α β : Type} {R : α → V → Hp → Prop} {K : PySem.W.Frag} {tl te ta tb : TE} {σ : L2.St} {H : Hp} {E : XK} {sp : Sp} {S S1 S2 S' : V → Hp → Prop}
theorem src_list (m : MonoR R) {xs : List α} (h : EvP tl σ H (LstAt R xs)) : Src (iList K tl) σ H xs.length (fun i H1 v H2 => H2 = H1 ∧ ∃ x, xs[i]? = some x ∧ R x v H1) := fun H1 e S k =>
  h H1 e _ fun v H2 e2 ⟨a, vs, ev, ha, hA⟩ => by
    subst ev
    have z := k (Itl K a) (fun H3 => SqL K H3 a vs ∧ AllR R xs vs H3) H2 e2 (by
      have w := walk_list (K := K) (a := a) (xs := vs)
      rw [hA.1] at w
      refine w.mono (fun _ g => g.1) fun i H3 v H4 hi g y => ?_
      obtain ⟨y1, y2⟩ := y
      obtain ⟨x, hx, hr⟩ := g.2.getV y2
      exact ⟨y1, x, hx, hr⟩) fun H3 e3 => ⟨ex_l e3 (SqL.of ha), hA.mono m e3⟩
    exact ⟨a, rfl, ⟨vs, SqL.of ha⟩, z⟩
theorem evp_call1 (ha : EvP ta σ H S) (hs : ∀ v H1, Ex H H1 → S v H1 → ∀ (Q : VK) (E : XK), (∀ r H2, Ex H1 H2 → S' r H2 → Q r H2) → sp [v] H1 Q E) : EvP (tCall sp [] E (tCons ta tNil)) σ H S' := fun H1 e Q k =>
  ha H1 e _ fun v H2 e2 hv => hs v H2 (e.trans e2) hv Q E fun r H3 e3 hr => k r H3 (e2.trans e3) hr
theorem evp_call2 (m : Mono S1) (ha : EvP ta σ H S1) (hb : EvP tb σ H S2) (hs : ∀ v w H1, Ex H H1 → S1 v H1 → S2 w H1 → ∀ (Q : VK) (E : XK), (∀ r H2, Ex H1 H2 → S' r H2 → Q r H2) → sp [v, w] H1 Q E) : EvP (tCall sp [] E (tCons ta (tCons tb tNil))) σ H S' := fun H1 e Q k =>
  ha H1 e _ fun v H2 e2 hv => hb H2 (e.trans e2) _ fun w H3 e3 hw => hs v w H3 ((e.trans e2).trans e3) (m _ _ _ e3 hv) hw Q E fun r H4 e4 hr => k r H4 ((e2.trans e3).trans e4) hr
theorem ev_of {x : V} (h : EvP te σ H (fun v _ => v = x)) : Ev te σ H x := fun H1 e Q k => h H1 e Q fun v H2 e2 ev => by
  subst ev
  exact k H2 e2
theorem evp_ixT {xs : List α} {i : Nat} {x : α} (m : MonoR R) (ha : EvP ta σ H (TupAt R xs)) (hb : Ev tb σ H (.int (i : Int))) (hx : xs[i]? = some x) : EvP (tOp (rIxT K) ta tb) σ H (R x) := fun H1 e Q k =>
  ha H1 e _ fun v H2 e2 ⟨a, vs, ev, h, hA⟩ => hb H2 (e.trans e2) _ fun H3 e3 => by
    subst ev
    obtain ⟨w, hw, hr⟩ := hA.get hx
    exact ⟨a, vs, i, w, rfl, rfl, SqT.of (e3 _ _ h), atI_nat hw, k w H3 (e2.trans e3) (m _ _ _ _ e3 hr)⟩
theorem evp_ixL {xs : List α} {i : Nat} {x : α} (m : MonoR R) (ha : EvP ta σ H (LstAt R xs)) (hb : Ev tb σ H (.int (i : Int))) (hx : xs[i]? = some x) : EvP (tOp (rIxL K) ta tb) σ H (R x) := fun H1 e Q k =>
  ha H1 e _ fun v H2 e2 ⟨a, vs, ev, h, hA⟩ => hb H2 (e.trans e2) _ fun H3 e3 => by
    subst ev
    obtain ⟨w, hw, hr⟩ := hA.get hx
    exact ⟨a, vs, i, w, rfl, rfl, SqL.of (e3 _ _ h), atI_nat hw, k w H3 (e2.trans e3) (m _ _ _ _ e3 hr)⟩
theorem ev_lenT {xs : List α} (ha : EvP ta σ H (TupAt R xs)) : Ev (tCB (rLen2 K) (tCons ta tNil)) σ H (.int (xs.length : Int)) := fun H1 e Q k =>
  ha H1 e _ fun v H2 e2 ⟨a, vs, ev, h, hA⟩ => by
    subst ev
    refine ⟨a, vs, rfl, .inr (SqT.of h), ?_⟩
    rw [hA.1]
    exact k H2 e2
theorem ev_lenL {xs : List α} (ha : EvP ta σ H (LstAt R xs)) : Ev (tCB (rLen2 K) (tCons ta tNil)) σ H (.int (xs.length : Int)) := fun H1 e Q k =>
  ha H1 e _ fun v H2 e2 ⟨a, vs, ev, h, hA⟩ => by
    subst ev
    refine ⟨a, vs, rfl, .inl (SqL.of h), ?_⟩
    rw [hA.1]
    exact k H2 e2
/-- a comprehension whose test never holds -/
theorem evp_lc0 {wi : TI} {g : TG} {tt : TT} {vs : List Nat} {n : Nat} {Y : Nat → Hp → V → Hp → Prop} {P : Nat → L2.St → Hp → Prop} (hsrc : Src wi σ H n Y)
    (hitem : ∀ (i : Nat) (H1 : Hp) (x : V) (H2 : Hp) (K : L2.St → Hp → Prop), i < n → Ex H H1 → Y i H1 x H2 → (∀ σi H3, Ex H1 H3 → wipe σi vs = wipe σ vs → P i σi H3 → K σi H3) → g x (wipe σ vs) H2 K)
    (ht : ∀ i σi H1, i < n → Ex H H1 → P i σi H1 → EvT tt σi H1 false) : EvP (tLc wi g tt te vs) σ H (fun v H2 => ∃ p, v = .ref p ∧ H2 p = some (.lst [])) := by
  intro H1 e1 Q k
  refine hsrc H1 e1 _ fun J G H2 e2 w hG => fun D hD => ?_
  refine lc_it w (fun i H' => Ex H2 H' ∧ H' D = some (.lst [])) ⟨Ex.new hD, upd_same⟩ (fun i H' _ p => hG _ p.1) ?_ ?_
  · intro i x H' H'' hi p hy
    refine hitem i H' x H'' _ hi ((e1.trans e2).trans p.1) hy fun σi H3 e3 hw hP => ⟨hw, ?_⟩
    refine ht i σi H3 hi (((e1.trans e2).trans p.1).trans e3) hP H3 (Ex.refl _) _ fun H4 e4 => ?_
    exact ifF rfl ⟨(p.1.trans e3).trans e4, e4 _ _ (e3 _ _ p.2)⟩
  · intro H' p
    exact k _ _ (e2.trans p.1) ⟨D, rfl, p.2⟩
end
def spVector (C : Addr) : Sp := fun vs H Q _ => ∃ (x : V) (qs : List Rat), vs = [x] ∧ LstAt RP qs x H ∧ qs.length ≤ 10000 ∧ (∀ q ∈ qs, q.den < 2 ^ 900000) ∧ NewV (VecAt C qs) H Q
def spVecIs (C : Addr) : Sp := fun vs H Q _ => ∃ (x y : V) (qs : List Rat), vs = [x, y] ∧ VecAt C qs x H ∧ LstAt RP qs y H ∧ qs.length ≤ 10000 ∧ ∀ H', Ex H H' → Q (.bl true) H'
def spLDot : Sp := fun vs H Q _ => ∃ (x y : V) (ps qs : List Rat) (n m : Nat), vs = [x, y] ∧ LstAt RP ps x H ∧ LstAt RP qs y H ∧ ps.length = qs.length ∧ AllS n ps ∧ AllS m qs ∧ (0 < n ∧ 0 < m ∧ (n + m + 1) * (ps.length + 1) + 1 ≤ 900000) ∧ NewV (fun v H' => PrAt H' v (dotQ ps qs)) H Q
end Pn
namespace Pn
open PySem L2 Evl
theorem ev_len0 {K : PySem.W.Frag} {tl : TE} {σ : L2.St} {H : Hp} (h : EvP tl σ H (fun v H2 => ∃ p, v = .ref p ∧ H2 p = some (.lst []))) : Ev (tCB (rLen2 K) (tCons tl tNil)) σ H (.int 0) := fun H1 e Q k =>
  h H1 e _ fun v H2 e2 ⟨p, ep, hp⟩ => by
    subst ep
    exact ⟨p, [], rfl, .inl (SqL.of hp), k H2 e2⟩
end Pn

namespace Pn
open PySem L2 Evl
section
variable {α β : Type} {R : α → V → Hp → Prop} {S : β → V → Hp → Prop} {C : Addr} {K : PySem.W.Frag} {tl te ta tb : TE} {σ : L2.St} {H : Hp} {E : XK} {p q : Rat} {ps qs : List Rat}
theorem mono_lrp {qs : List Rat} : Mono (LstAt RP qs) := fun v H H' e h => mono_lst mono_rp qs v H H' e h
theorem ev_is2 (ha : EvP ta σ H (fun v H => RatAt C H v q)) (hb : EvP tb σ H (fun v H => PrAt H v q)) : Ev (tCall (spIs C) [] E (tCons ta (tCons tb tNil))) σ H (.bl true) :=
  ev_of (evp_call2 mono_rat ha hb fun v w H1 _ r1 r2 Q2 E2 k2 => ⟨v, w, q, rfl, r1, r2, fun H4 e4 => k2 _ _ e4 rfl⟩)
theorem ev_vis (ha : EvP ta σ H (VecAt C qs)) (hb : EvP tb σ H (LstAt RP qs)) (hz : qs.length ≤ 10000) : Ev (tCall (spVecIs C) [] E (tCons ta (tCons tb tNil))) σ H (.bl true) :=
  ev_of (evp_call2 mono_vec ha hb fun v w H1 _ r1 r2 Q2 E2 k2 => ⟨v, w, qs, rfl, r1, r2, hz, fun H4 e4 => k2 _ _ e4 rfl⟩)
theorem evp_dot {n m : Nat} (ha : EvP ta σ H (VecAt C ps)) (hb : EvP tb σ H (VecAt C qs)) (hl : ps.length = qs.length) (s1 : AllS n ps) (s2 : AllS m qs) (n0 : 0 < n) (m0 : 0 < m) (hs : (n + m + 1) * ps.length + 1 ≤ 900000) : EvP (tCall (spDot C) [] E (tCons ta (tCons tb tNil))) σ H (fun v H => RatAt C H v (dotQ ps qs)) :=
  evp_call2 mono_vec ha hb fun v w H1 _ r1 r2 Q2 E2 k2 => ⟨v, w, ps, qs, n, m, rfl, r1, r2, hl, s1, s2, ⟨n0, m0, hs⟩, k2⟩
theorem evp_ldot {n m : Nat} (ha : EvP ta σ H (LstAt RP ps)) (hb : EvP tb σ H (LstAt RP qs)) (hl : ps.length = qs.length) (s1 : AllS n ps) (s2 : AllS m qs) (n0 : 0 < n) (m0 : 0 < m) (hs : (n + m + 1) * (ps.length + 1) + 1 ≤ 900000) : EvP (tCall spLDot [] E (tCons ta (tCons tb tNil))) σ H (fun v H => PrAt H v (dotQ ps qs)) :=
  evp_call2 mono_lrp ha hb fun v w H1 _ r1 r2 Q2 E2 k2 => ⟨v, w, ps, qs, n, m, rfl, r1, r2, hl, s1, s2, ⟨n0, m0, hs⟩, k2⟩
theorem evp_scale (ha : EvP ta σ H (fun v H => RatAt C H v p)) (hb : EvP tb σ H (VecAt C qs)) (hz : qs.length ≤ 10000) (ho : ∀ q ∈ qs, Ok2 p q) : EvP (tCall (spScale C) [] E (tCons ta (tCons tb tNil))) σ H (VecAt C (scaleQ p qs)) :=
  evp_call2 mono_rat ha hb fun v w H1 _ r1 r2 Q2 E2 k2 => ⟨v, w, p, qs, rfl, r1, r2, hz, ho, k2⟩
theorem evp_vec2 {f : Rat → Rat → Rat} (ha : EvP ta σ H (VecAt C ps)) (hb : EvP tb σ H (VecAt C qs)) (hl : ps.length = qs.length) (hz : ps.length ≤ 10000) (ho : ∀ p ∈ ps, ∀ q ∈ qs, Ok2 p q) : EvP (tCall (spVec2 C f) [] E (tCons ta (tCons tb tNil))) σ H (VecAt C (List.zipWith f ps qs)) :=
  evp_call2 mono_vec ha hb fun v w H1 _ r1 r2 Q2 E2 k2 => ⟨v, w, ps, qs, rfl, r1, r2, hl, hz, ho, k2⟩
theorem evp_zero {n : Nat} (ha : Ev ta σ H (.int (n : Int))) (hz : n ≤ 10000) : EvP (tCall (spZero C) [] E (tCons ta tNil)) σ H (VecAt C (zeroQ n)) :=
  evp_call1 (evp_of ha) fun v H1 _ ev Q2 E2 k2 => by subst ev; exact ⟨n, rfl, hz, k2⟩
theorem evp_unit {n i : Nat} (ha : Ev ta σ H (.int (n : Int))) (hb : Ev tb σ H (.int (i : Int))) (hz : n ≤ 10000) : EvP (tCall (spUnit C) [] E (tCons ta (tCons tb tNil))) σ H (VecAt C (unitQ n i)) :=
  evp_call2 (fun _ _ _ _ h => h) (evp_of ha) (evp_of hb) fun v w H1 _ ev ew Q2 E2 k2 => by subst ev ew; exact ⟨n, i, rfl, hz, k2⟩
theorem evp_made (ha : EvP ta σ H (fun v H => PrAt H v q)) (hd : q.den < 2 ^ 900000) : EvP (tCall (spMade C) [] E (tCons ta tNil)) σ H (fun v H => RatAt C H v q) :=
  evp_call1 ha fun v H1 _ pv Q2 E2 k2 => ⟨v, q, rfl, pv, hd, fun r H2 e2 _ rr => k2 r H2 e2 rr⟩
theorem evp_vector (ha : EvP ta σ H (LstAt RP qs)) (hz : qs.length ≤ 10000) (hd : ∀ q ∈ qs, q.den < 2 ^ 900000) : EvP (tCall (spVector C) [] E (tCons ta tNil)) σ H (VecAt C qs) :=
  evp_call1 ha fun v H1 _ pv Q2 E2 k2 => ⟨v, qs, rfl, pv, hz, hd, k2⟩
theorem evp_pbin {f : Rat → Rat → Rat} (ha : EvP ta σ H (fun v H => PrAt H v p)) (hb : EvP tb σ H (fun v H => PrAt H v q)) (o : Ok2 p q) : EvP (tCall (spPairBin f) [] E (tCons ta (tCons tb tNil))) σ H (fun v H => PrAt H v (f p q)) :=
  evp_call2 mono_pair ha hb fun v w H1 _ r1 r2 Q2 E2 k2 => ⟨v, w, p, q, rfl, r1, r2, o, fun r H2 e2 _ rr => k2 r H2 e2 rr⟩
theorem evp_pairI {i j : Int} (ha : Ev ta σ H (.int i)) (hb : Ev tb σ H (.int j)) : EvP (tTup (tCons ta (tCons tb tNil))) σ H (fun v H => PairAt H v i j) := fun H1 e Q k =>
  ha H1 e _ fun H2 e2 => hb H2 (e.trans e2) _ fun H3 e3 => ⟨by show 2 ≤ sizeLine; decide, fun p hp => k _ _ ((e2.trans e3).trans (Ex.new hp)) ⟨p, rfl, upd_same⟩⟩
theorem ev_p0 (ha : EvP ta σ H (fun v H => PrAt H v q)) : Ev (tOp (rIxT K) ta (tC (.int 0))) σ H (.int q.num) := fun H1 e Q k =>
  ha H1 e _ fun v H2 e2 ⟨a, ev, h⟩ => by
    subst ev
    exact ⟨a, _, _, _, rfl, rfl, SqT.of h, atI_nat (j := 0) rfl, k H2 e2⟩
theorem ev_p1 (ha : EvP ta σ H (fun v H => PrAt H v q)) : Ev (tOp (rIxT K) ta (tC (.int 1))) σ H (.int (q.den : Int)) := fun H1 e Q k =>
  ha H1 e _ fun v H2 e2 ⟨a, ev, h⟩ => by
    subst ev
    exact ⟨a, _, _, _, rfl, rfl, SqT.of h, atI_nat (j := 1) rfl, k H2 e2⟩
/-! ### comprehensions that turn each item -/
theorem newL_lst {n : Nat} {xs : List β} (hn : xs.length = n) {v : V} {H H' : Hp} (h : NewL H n (fun i v H => ∃ y, xs[i]? = some y ∧ S y v H) v H') : LstAt S xs v H' := by
  obtain ⟨p, ys, ev, hp, h2, hl, hy⟩ := h
  refine ⟨p, ys, ev, h2, by omega, fun i x w h3 h4 => ?_⟩
  obtain ⟨y, h5, h6⟩ := hy i w h4
  rw [h3] at h5
  cases h5
  exact h6
theorem evp_mapL {f : α → β} {j : Nat} {vs : List Nat} {xs : List α} (mR : MonoR R) (mS : MonoR S) (sS : ∀ y, Stab (S y)) (h : EvP tl σ H (LstAt R xs)) (hz : xs.length ≤ 10000) (hw : ∀ v, wipe ((wipe σ vs).set j (some v)) vs = wipe σ vs)
    (he : ∀ v x H1, Ex H H1 → x ∈ xs → R x v H1 → EvP te ((wipe σ vs).set j (some v)) H1 (S (f x))) : EvP (tLc (iList K tl) (gName j) tYes te vs) σ H (LstAt S (xs.map f)) :=
  EvP.imp (evp_lc (P := fun i σi H1 => ∃ v x, σi = (wipe σ vs).set j (some v) ∧ xs[i]? = some x ∧ R x v H1) (S := fun i v H => ∃ y, (xs.map f)[i]? = some y ∧ S y v H) hz (src_list mR h)
    (fun i v H1 H2 e ⟨y, h1, h2⟩ => ⟨y, h1, mS _ _ _ _ e h2⟩) (fun i v H1 H2 D zs fr hD ⟨y, h1, h2⟩ => ⟨y, h1, sS y v H1 H2 D zs fr hD h2⟩)
    (fun i H1 v H2 kk hi e ⟨e2, x, hx, hr⟩ kz => by subst e2; exact kz _ _ (Ex.refl _) (hw v) ⟨v, x, rfl, hx, hr⟩)
    (fun i σi H1 hi e ⟨v, x, e1, hx, hr⟩ => by
      subst e1
      exact EvP.imp (he v x H1 e (List.mem_of_getElem? hx) hr) fun w H2 _ r => ⟨f x, by rw [List.getElem?_map, hx]; rfl, r⟩))
    fun v H' _ r => newL_lst (by rw [List.length_map]) r
theorem evp_mapR {f : Nat → β} {j n : Nat} {vs : List Nat} {t1 : TA} (mS : MonoR S) (sS : ∀ y, Stab (S y)) (h : EvA t1 σ H [.int (n : Int)]) (hz : n ≤ 10000) (hw : ∀ v, wipe ((wipe σ vs).set j (some v)) vs = wipe σ vs)
    (he : ∀ (i : Nat) H1, Ex H H1 → i < n → EvP te ((wipe σ vs).set j (some (.int (i : Int)))) H1 (S (f i))) : EvP (tLc (iRng1 t1) (gName j) tYes te vs) σ H (LstAt S ((List.range n).map f)) :=
  EvP.imp (evp_lc (P := fun i σi H1 => σi = (wipe σ vs).set j (some (.int (i : Int)))) (S := fun i v H => ∃ y, ((List.range n).map f)[i]? = some y ∧ S y v H) hz (src_rng h hz)
    (fun i v H1 H2 e ⟨y, h1, h2⟩ => ⟨y, h1, mS _ _ _ _ e h2⟩) (fun i v H1 H2 D zs fr hD ⟨y, h1, h2⟩ => ⟨y, h1, sS y v H1 H2 D zs fr hD h2⟩)
    (fun i H1 v H2 kk hi e ⟨e2, ev⟩ kz => by subst e2 ev; exact kz _ _ (Ex.refl _) (hw _) rfl)
    (fun i σi H1 hi e e1 => by
      subst e1
      exact EvP.imp (he i H1 e hi) fun w H2 _ r => ⟨f i, by rw [List.getElem?_map, List.getElem?_range hi]; rfl, r⟩))
    fun v H' _ r => newL_lst (by rw [List.length_map, List.length_range]) r
/-- a comprehension that keeps some: how many -/
theorem ev_count {f : α → Bool} {j : Nat} {vs : List Nat} {xs : List α} {tt : TT} (mR : MonoR R) (h : EvP tl σ H (LstAt R xs)) (hz : xs.length ≤ 10000) (hw : ∀ v, wipe ((wipe σ vs).set j (some v)) vs = wipe σ vs) (hj : ∀ v, ((wipe σ vs).set j (some v))[j]? = some (some v))
    (ht : ∀ v x H1, Ex H H1 → x ∈ xs → R x v H1 → EvT tt ((wipe σ vs).set j (some v)) H1 (f x)) : Ev (tCB (rLen2 K) (tCons (tLc (iList K tl) (gName j) tt (tVar j) vs) tNil)) σ H (.int ((xs.filter f).length : Int)) := by
  intro H0 e0 Q k
  show tLc (iList K tl) (gName j) tt (tVar j) vs σ H0 (fun v H' => rLen2 K [v] H' Q)
  refine src_list (K := K) mR h H0 e0 _ fun J G H2 e2 w hG => fun D hD => ?_
  refine lc_it w (fun i H' => Ex H2 H' ∧ ∃ ys, H' D = some (.lst ys) ∧ ys.length = ((xs.take i).filter f).length) ⟨Ex.new hD, [], upd_same, by simp⟩ (fun i H' _ p => hG _ p.1) ?_ ?_
  · rintro i v H' H'' hi ⟨p1, ys, p2, p3⟩ ⟨y1, x, hx, hr⟩
    subst y1
    refine ⟨hw v, ?_⟩
    refine ht v x H'' ((e0.trans e2).trans p1) (List.mem_of_getElem? hx) hr H'' (Ex.refl _) _ fun H4 e4 => ?_
    have htk : xs.take (i + 1) = xs.take i ++ [x] := by rw [List.take_succ, hx]; rfl
    have hle : ys.length ≤ 10000 := by
      rw [p3]
      exact Nat.le_trans (List.length_filter_le _ _) (by rw [List.length_take]; omega)
    cases hf : f x with
    | true =>
      refine ifT rfl ⟨v, hj v, ys, e4 _ _ p2, sz_lt (by omega), Ex.mut (p1.trans e4) hD, _, upd_same, ?_⟩
      rw [List.length_append, p3, htk, List.filter_append, List.length_append]
      simp [hf]
    | false =>
      refine ifF rfl ⟨p1.trans e4, ys, e4 _ _ p2, ?_⟩
      rw [p3, htk, List.filter_append, List.length_append]
      simp [hf]
  · rintro H' ⟨p1, ys, p2, p3⟩
    rw [List.take_length] at p3
    refine ⟨D, ys, rfl, .inl (SqL.of p2), ?_⟩
    rw [p3]
    exact k _ (e2.trans p1)
end
theorem zip_range {f : Rat → Rat → Rat} {ps qs : List Rat} {n : Nat} (h1 : ps.length = n) (h2 : qs.length = n) : (List.range n).map (fun k => f (ps.getD k 0) (qs.getD k 0)) = List.zipWith f ps qs := by
  refine List.ext_getElem? fun i => ?_
  rw [List.getElem?_map, List.getElem?_zipWith]
  by_cases hi : i < n
  · rw [List.getElem?_range hi, List.getElem?_eq_getElem (by omega : i < ps.length), List.getElem?_eq_getElem (by omega : i < qs.length)]
    simp only [Option.map_some]
    rw [List.getD_eq_getElem?_getD, List.getD_eq_getElem?_getD, List.getElem?_eq_getElem (by omega : i < ps.length), List.getElem?_eq_getElem (by omega : i < qs.length)]
    rfl
  · rw [List.getElem?_eq_none (by rw [List.length_range]; omega), List.getElem?_eq_none (by omega : ps.length ≤ i)]
    rfl
theorem getD_get {α : Type} {xs : List α} {i : Nat} {d : α} (h : i < xs.length) : xs[i]? = some (xs.getD i d) := by
  rw [List.getD_eq_getElem?_getD, List.getElem?_eq_getElem h]
  rfl
end Pn
namespace Pn
open PySem L2 Evl
theorem vP {S : V → Hp → Prop} {v : V} {H : Hp} (m : Mono S) (h : S v H) : ∀ (σ : L2.St) (H1 : Hp) (i : Nat), Ex H H1 → σ[i]? = some (some v) → EvP (tVar i) σ H1 S := fun _ _ _ e hh => evp_var m (m _ _ _ e h) hh
theorem neg_pair {q : Rat} {v : V} {H : Hp} (h : PairAt H v (0 - q.num) (q.den : Int)) : PrAt H v (-q) := by
  unfold PrAt
  rw [Rat.neg_num, Rat.neg_den]
  rw [Int.zero_sub] at h
  exact h
theorem unit_pair {k i : Nat} {v : V} {H : Hp} (h : PairAt H v (if decide (V.int (k : Int) = V.int (i : Int)) then 1 else 0) 1) : PrAt H v (if k = i then 1 else 0) := by
  rw [decV] at h
  by_cases hk : k = i
  · rw [if_pos (by rw [hk]; simp)] at h
    rw [if_pos hk]
    exact h
  · rw [if_neg (by simpa using fun e => hk (by omega))] at h
    rw [if_neg hk]
    exact h
theorem sub_add : (fun p q : Rat => p - q) = fun p q => p + -q := by
  funext p q
  grind
theorem zeroQ_rep (n : Nat) : zeroQ n = List.replicate n 0 := by
  unfold zeroQ
  refine List.ext_getElem? fun i => ?_
  rw [List.getElem?_map, List.getElem?_replicate]
  by_cases hi : i < n
  · rw [List.getElem?_range hi, if_pos hi]
    rfl
  · rw [List.getElem?_eq_none (by rw [List.length_range]; omega), if_neg hi]
    rfl
/-- [(0, 1)] * n -/
theorem evp_rep {n : Nat} {tw : TE} {σ : L2.St} {H : Hp} (hw : ∀ H1, Ex H H1 → Ev tw σ H1 (.int (n : Int))) (hn : n ≤ 10000) : EvP (tOp rRep (tLst (tCons (tTup (tCons (tC (.int 0)) (tCons (tC (.int 1)) tNil))) tNil)) tw) σ H (LstAt RP (List.replicate n 0)) := fun H1 e Q k => by
  refine ⟨by show 2 ≤ sizeLine; decide, fun p hp => ?_⟩
  refine ⟨by show 1 ≤ sizeLine; decide, fun l hl => ?_⟩
  have e1 : Ex H1 (upd (upd H1 p (.tup [.int 0, .int 1])) l (.lst [.ref p])) := (Ex.new hp).trans (Ex.new hl)
  have nl : p ≠ l := (ne_of_none upd_same hl)
  have pA : PrAt (upd (upd H1 p (.tup [.int 0, .int 1])) l (.lst [.ref p])) (.ref p) 0 := ⟨p, rfl, by rw [upd_ne nl, upd_same]; rfl⟩
  have hlA : (upd (upd H1 p (.tup [.int 0, .int 1])) l (.lst [.ref p])) l = some (.lst [.ref p]) := upd_same
  generalize upd (upd H1 p (.tup [.int 0, .int 1])) l (.lst [.ref p]) = H2 at e1 pA hlA ⊢
  refine hw H2 (e.trans e1) H2 (Ex.refl _) _ fun H3 e3 => ?_
  refine ⟨l, n, [.ref p], rfl, rfl, e3 _ _ hlA, by omega, by omega, sz_of (by rw [Int.toNat_natCast, List.length_singleton]; omega), fun r hr => ?_⟩
  refine k _ _ ((e1.trans e3).trans (Ex.new hr)) ⟨r, _, rfl, upd_same, ?_⟩
  rw [flat_rep, Int.toNat_natCast]
  exact allR_rep (R := RP) ((pA.mono e3).mono (Ex.new hr))
theorem evp_at {S : V → Hp → Prop} {K : PySem.W.Frag} {σ : L2.St} {H : Hp} {ta : TE} {t : Addr} {vs : List V} {j : Nat} {v : V} (m : Mono S) (ht : H t = some (.tup vs)) (hv : vs[j]? = some v) (hS : S v H) (ha : Ev ta σ H (.ref t)) : EvP (tOp (rIxT K) ta (tC (.int (j : Int)))) σ H S := fun H1 e Q k =>
  ha H1 e _ fun H2 e2 => ⟨t, vs, j, v, rfl, rfl, SqT.of (e2 _ _ (e _ _ ht)), atI_nat hv, k _ _ e2 (m _ _ _ (e.trans e2) hS)⟩
theorem ev_isz {C : Addr} {ta : TE} {σ : L2.St} {H : Hp} {E : XK} {qs : List Rat} (ha : EvP ta σ H (VecAt C qs)) (hz : qs.length ≤ 10000) : Ev (tCall (spIsZero C) [] E (tCons ta tNil)) σ H (.bl (qs.all fun q => decide (q = 0))) :=
  ev_of (evp_call1 ha fun v H1 _ r Q2 E2 k2 => ⟨v, qs, rfl, r, hz, fun H4 e4 => k2 _ _ e4 rfl⟩)
theorem count_zero (qs : List Rat) : decide (V.int ((qs.filter fun q => !decide (V.int q.num = V.int 0)).length : Int) = V.int 0) = qs.all fun q => decide (q = 0) := by
  rw [decV, Bool.eq_iff_iff]
  simp only [decide_eq_true_eq, List.all_eq_true]
  constructor
  · intro h q hq
    have h0 : (qs.filter fun q => !decide (V.int q.num = V.int 0)).length = 0 := by omega
    rw [List.length_eq_zero_iff, List.filter_eq_nil_iff] at h0
    have z := h0 q hq
    rw [num_dec] at z
    simpa using z
  · intro h
    have h0 : (qs.filter fun q => !decide (V.int q.num = V.int 0)) = [] := by
      rw [List.filter_eq_nil_iff]
      intro q hq
      rw [num_dec]
      simpa using h q hq
    rw [h0]
    rfl
end Pn

namespace Pn
open PySem PySem.SeqAt
open AutoSeq1 (wpAny_loadPart')
open MeetsSeq MeetsSeq2 MeetsSeq3 SeqRoads2
section
variable {prog : Program} {w : World} {A : Around} {R : Result → Shared → Prop}
/-- == of two tuples of one length: whether all items are equal, f by their places -/
theorem tup_eqB (l b : Addr) (xs ys : Array Value) (n m : Nat) (d1 d2 : Option Addr) (sl1 sl2 : Array (Option Value)) (f : Nat → Bool) (hsz : xs.size = ys.size) (I : Nat → Shared → Prop)
    (turn : ∀ i (h1 : i < xs.size) (h2 : i < ys.size) s, I i s → (∀ j, j < i → f j = true) → wpAny (model prog w) A.in1 (eqBool xs[i] ys[i]) (fun r s' => r = f i ∧ I (i + 1) s') (fun e s' => R (.error e) s') s)
    (yes : ∀ s, (∀ j, j < xs.size → f j = true) → I xs.size s → R (.ok (.ret (.bool true))) s) (no : ∀ s i, i < xs.size → f i = false → I (i + 1) s → R (.ok (.ret (.bool false))) s)
    {s : Shared} (hx : s.heap.get? l = some { cls := .type "tuple", dict := d1, data := .seq xs n, slots := sl1 }) (hy : s.heap.get? b = some { cls := .type "tuple", dict := d2, data := .seq ys m, slots := sl2 }) (h : I 0 s) :
    wpAny (model prog w) A.in1 (Builtin.«tuple.__eq__» ⟨[.ref l, .ref b], []⟩) (GQ.FinOf prog w A R) (fun e s' => R (.error e) s') s := by
  have tt := AutoSeq1.sub_tuple_tuple
  have len : (xs.toList.zip ys.toList).length = xs.size := by simp [hsz]
  have start := h
  obtain ⟨hp, g, dr, tk, os⟩ := s
  wp_walk using wpAny_loadPart' hx, wpAny_loadPart' hy, wpAny_forIn_list _ (fun rest b s' => b.1 = none ∧ ∃ i, rest = (xs.toList.zip ys.toList).drop i ∧ i ≤ xs.size ∧ (∀ j, j < i → f j = true) ∧ I i s') _
  case turn =>
    rintro ⟨y, x⟩ rest b s' ⟨hb, i, hz, hi, hf, hI⟩
    have lt : i < (xs.toList.zip ys.toList).length := by
      rcases Nat.lt_or_ge i (xs.toList.zip ys.toList).length with q | q
      · exact q
      · rw [List.drop_of_length_le q] at hz; cases hz
    have h1 : i < xs.size := len ▸ lt
    have h2 : i < ys.size := hsz ▸ h1
    rw [List.drop_eq_getElem_cons lt] at hz
    injection hz with he hrest
    have ey : y = xs[i] := by have := congrArg Prod.fst he; simpa using this
    have ex : x = ys[i] := by have := congrArg Prod.snd he; simpa using this
    subst ey ex
    refine wpAny_bind (wpAny_mono (turn i h1 h2 s' hI hf) (fun r s2 q2 => ?_) fun _ _ x => x)
    obtain ⟨hr, q2⟩ := q2
    subst hr
    cases hfi : f i with
    | true =>
      wp_walk
      refine ⟨rfl, i + 1, hrest, h1, fun j hj => ?_, q2⟩
      by_cases e : j = i
      · rw [e]; exact hfi
      · exact hf j (by omega)
    | false =>
      have hn := no s2 i h1 hfi q2
      wp_walk
      exact hn
  case fin =>
    rintro ⟨b1, b2⟩ s' ⟨hb, i, hz, hi, hf, hI⟩
    simp only at hb
    subst hb
    have ge : xs.size ≤ i := by
      rcases Nat.lt_or_ge i (xs.toList.zip ys.toList).length with q | q
      · rw [List.drop_eq_getElem_cons q] at hz; cases hz
      · exact len ▸ q
    have ei : i = xs.size := by omega
    subst ei
    have hR : R (.ok (.ret (.bool true))) s' := yes s' hf hI
    wp_walk
    simpa [Builtin.Tuple.tupleCompareSizes, hsz] using hR
  case h => exact ⟨rfl, 0, rfl, Nat.zero_le _, fun j hj => absurd hj (Nat.not_lt_zero _), start⟩
/-- != of two tuples of one length: whether all items are equal, f by their places -/
theorem tup_neB (l b : Addr) (xs ys : Array Value) (n m : Nat) (d1 d2 : Option Addr) (sl1 sl2 : Array (Option Value)) (f : Nat → Bool) (hsz : xs.size = ys.size) (I : Nat → Shared → Prop)
    (turn : ∀ i (h1 : i < xs.size) (h2 : i < ys.size) s, I i s → (∀ j, j < i → f j = true) → wpAny (model prog w) A.in1 (eqBool xs[i] ys[i]) (fun r s' => r = f i ∧ I (i + 1) s') (fun e s' => R (.error e) s') s)
    (yes : ∀ s, (∀ j, j < xs.size → f j = true) → I xs.size s → R (.ok (.ret (.bool false))) s) (no : ∀ s i, i < xs.size → f i = false → I (i + 1) s → R (.ok (.ret (.bool true))) s)
    {s : Shared} (hx : s.heap.get? l = some { cls := .type "tuple", dict := d1, data := .seq xs n, slots := sl1 }) (hy : s.heap.get? b = some { cls := .type "tuple", dict := d2, data := .seq ys m, slots := sl2 }) (h : I 0 s) :
    wpAny (model prog w) A.in1 (Builtin.«tuple.__ne__» ⟨[.ref l, .ref b], []⟩) (GQ.FinOf prog w A R) (fun e s' => R (.error e) s') s := by
  have tt := AutoSeq1.sub_tuple_tuple
  have len : (xs.toList.zip ys.toList).length = xs.size := by simp [hsz]
  have start := h
  obtain ⟨hp, g, dr, tk, os⟩ := s
  wp_walk using wpAny_loadPart' hx, wpAny_loadPart' hy, wpAny_forIn_list _ (fun rest b s' => b.1 = none ∧ ∃ i, rest = (xs.toList.zip ys.toList).drop i ∧ i ≤ xs.size ∧ (∀ j, j < i → f j = true) ∧ I i s') _
  case turn =>
    rintro ⟨y, x⟩ rest b s' ⟨hb, i, hz, hi, hf, hI⟩
    have lt : i < (xs.toList.zip ys.toList).length := by
      rcases Nat.lt_or_ge i (xs.toList.zip ys.toList).length with q | q
      · exact q
      · rw [List.drop_of_length_le q] at hz; cases hz
    have h1 : i < xs.size := len ▸ lt
    have h2 : i < ys.size := hsz ▸ h1
    rw [List.drop_eq_getElem_cons lt] at hz
    injection hz with he hrest
    have ey : y = xs[i] := by have := congrArg Prod.fst he; simpa using this
    have ex : x = ys[i] := by have := congrArg Prod.snd he; simpa using this
    subst ey ex
    refine wpAny_bind (wpAny_mono (turn i h1 h2 s' hI hf) (fun r s2 q2 => ?_) fun _ _ x => x)
    obtain ⟨hr, q2⟩ := q2
    subst hr
    cases hfi : f i with
    | true =>
      wp_walk
      refine ⟨rfl, i + 1, hrest, h1, fun j hj => ?_, q2⟩
      by_cases e : j = i
      · rw [e]; exact hfi
      · exact hf j (by omega)
    | false =>
      have hn := no s2 i h1 hfi q2
      wp_walk
      exact hn
  case fin =>
    rintro ⟨b1, b2⟩ s' ⟨hb, i, hz, hi, hf, hI⟩
    simp only at hb
    subst hb
    have ge : xs.size ≤ i := by
      rcases Nat.lt_or_ge i (xs.toList.zip ys.toList).length with q | q
      · rw [List.drop_eq_getElem_cons q] at hz; cases hz
      · exact len ▸ q
    have ei : i = xs.size := by omega
    subst ei
    have hR : R (.ok (.ret (.bool false))) s' := yes s' hf hI
    wp_walk
    simpa [Builtin.Tuple.tupleCompareSizes, hsz] using hR
  case h => exact ⟨rfl, 0, rfl, Nat.zero_le _, fun j hj => absurd hj (Nat.not_lt_zero _), start⟩
end
end Pn

namespace Pn
open PySem L2 Evl
/-- how two values compare, by the abstract heap -/
abbrev Cmp := V → V → Bool → Hp → Prop
def MonC (S : Cmp) : Prop := ∀ x y b H H', Ex H H' → S x y b H → S x y b H'
def EqB (X : Cx) (n : Nat) (S : Cmp) : Prop :=
  ∀ (A : Around) (pins : List (Addr × Obj)) (s : Shared) (σ : L2.St) (H : Hp) (x y : V) (b : Bool) (u v : Value), Sub X n A → Inv X pins σ H s → RelV x u → RelV y v → S x y b H →
    wpAny (model X.prog X.w) A (eqBool u v) (fun r s' => r = b ∧ ∃ H', Inv X pins σ H' s' ∧ Ex H H') X.xe s
/-- op gives g b where b is told -/
def RcB (X : Cx) (op : CmpOp) (g : Bool → Bool) (n : Nat) (S : Cmp) : Prop :=
  ∀ (A : Around) (pins : List (Addr × Obj)) (s : Shared) (σ : L2.St) (H : Hp) (x y : V) (b : Bool) (u v : Value), Sub X n A → Inv X pins σ H s → RelV x u → RelV y v → S x y b H →
    wpAny (model X.prog X.w) A (richCompare op u v) (fun r s' => r = .bool (g b) ∧ ∃ H', Inv X pins σ H' s' ∧ Ex H H') X.xe s
/-- two fractions -/
def DR (C : Addr) : Cmp := fun x y b H => ∃ p q, RatAt C H x p ∧ RatAt C H y q ∧ decide (p = q) = b
/-- two tuples of one length -/
def DT (S : Cmp) : Cmp := fun x y b H => ∃ (a c : Addr) (xs ys : List V) (f : Nat → Bool), x = .ref a ∧ y = .ref c ∧ H a = some (.tup xs) ∧ H c = some (.tup ys) ∧ xs.length = ys.length ∧ (∀ i x y, xs[i]? = some x → ys[i]? = some y → S x y (f i) H) ∧
  (b = true ↔ ∀ i, i < xs.length → f i = true) ∧ (a = c → b = true)
theorem monC_dr {C : Addr} : MonC (DR C) := fun x y b H H' e ⟨p, q, h1, h2, h3⟩ => ⟨p, q, h1.mono e, h2.mono e, h3⟩
theorem monC_dt {S : Cmp} (m : MonC S) : MonC (DT S) := fun x y b H H' e ⟨a, c, xs, ys, f, e1, e2, h1, h2, hl, hs, hb, hr⟩ => ⟨a, c, xs, ys, f, e1, e2, e _ _ h1, e _ _ h2, hl, fun i x y g1 g2 => m _ _ _ _ _ e (hs i x y g1 g2), hb, hr⟩
theorem ratO_inj {p q : Rat} (h : RatO p = RatO q) : p = q := by
  unfold RatO at h
  injection h with h1 h2
  injection h2 with h3 _
  refine Rat.ext (V.int.inj (congrArg Prod.snd h1)) ?_
  have := V.int.inj (congrArg Prod.snd h3)
  omega
section
variable {X : Cx} {n : Nat} {S : Cmp} {C f : Addr} {ps : List Str}
theorem rcB_rat (F : FnG X.prog X.w X.K X.mg X.base n f ps (spCmp C fun p q => decide (p = q))) (hs : Meth X.K C "__eq__" f) : RcB X .Eq id n (DR C) := by
  obtain ⟨fd, F1, bi⟩ := F.ex
  intro A pins s σ H x y b u v sb I rx ry ⟨p, q, hx, hy, hb⟩
  have hx' := hx
  have hy' := hy
  obtain ⟨a, da, rfl, ha⟩ := hx
  obtain ⟨c, dc, rfl, hc⟩ := hy
  cases rx
  cases ry
  obtain ⟨mA, J, _⟩ := ins_get I.hok ha
  obtain ⟨mB, J', _⟩ := ins_get I.hok hc
  obtain ⟨od, J, _⟩ := J.look
  obtain ⟨od', J', _⟩ := J'.look
  obtain ⟨m, hF⟩ := I.fr
  refine PySem.W.cmp_K (op := .Eq) (tb := .ref C) sb.room.units0 hF I.ok.mod.kin J J'.type (by simp [PySem.W.notFirst]) hs.at_ hs.fn ?_
  refine thn (run_fnA (us := [.ref a, .ref c]) (vs := [.ref a, .ref c]) (Q := fun v H' => v = .bl b ∧ Ex H H') F1 sb.room sb.fr bi pass0 I (.cons rfl (.cons rfl .nil)) ⟨_, _, p, q, b, rfl, hx', hy', hb, rfl, Ex.refl H⟩) fun v s' z => ?_
  obtain ⟨w, H', I', rw', ew, e⟩ := z
  subst ew
  cases rw'
  exact ⟨rfl, H', I', e⟩
/-- inside a list or tuple: the same object is equal to itself -/
theorem eqB_of (h : RcB X .Eq id n S) (hr : ∀ x y b H, S x y b H → ∃ a c, x = .ref a ∧ y = .ref c ∧ (a = c → b = true)) : EqB X n S := by
  intro A pins s σ H x y b u v sb I rx ry d
  obtain ⟨a, c, rfl, rfl, same⟩ := hr _ _ _ _ d
  cases rx
  cases ry
  by_cases e : a = c
  · have hb := same e
    subst e hb
    exact SeqAt.EqAt.same (A := A) (s := s) (.ref a) X.prog X.w X.xe _ ⟨rfl, H, I, Ex.refl H⟩
  · refine GQ.eqBool_refG e (wpAny_mono (h A pins s σ H (.ref a) (.ref c) b _ _ sb I rfl rfl d) (fun r s' q => ?_) fun _ _ x => x)
    obtain ⟨hr', q⟩ := q
    exact ⟨b, hr', rfl, q⟩
theorem eqB_rat (F : FnG X.prog X.w X.K X.mg X.base n f ps (spCmp C fun p q => decide (p = q))) (hs : Meth X.K C "__eq__" f) : EqB X n (DR C) :=
  eqB_of (rcB_rat F hs) fun x y b H ⟨p, q, ⟨a, da, ex, ha⟩, ⟨c, dc, ey, hc⟩, hb⟩ => ⟨a, c, ex, ey, fun e => by
    subst e
    rw [ha] at hc
    injection hc with hc
    injection hc with _ _ h3
    rw [← hb, ratO_inj h3]
    simp⟩
theorem turnB (m : MonC S) (h : EqB X n S) {A : Around} (sb : Sub X (n + 1) A) {pins : List (Addr × Obj)} {σ : L2.St} {H : Hp} {xs ys : List V} {its its2 : List Value} {f : Nat → Bool} (p : ∀ i x y, xs[i]? = some x → ys[i]? = some y → S x y (f i) H) (r : Vals xs its) (r2 : Vals ys its2)
    (i : Nat) (h1 : i < its.toArray.size) (h2 : i < its2.toArray.size) (s' : Shared) (l : ∃ H', Inv X pins σ H' s' ∧ Ex H H') :
    wpAny (model X.prog X.w) A.in1 (eqBool its.toArray[i] its2.toArray[i]) (fun r s2 => r = f i ∧ ∃ H', Inv X pins σ H' s2 ∧ Ex H H') X.xe s' := by
  obtain ⟨H1, I1, e1⟩ := l
  have k1 : i < xs.length := by rw [r.length]; simpa using h1
  have k2 : i < ys.length := by rw [r2.length]; simpa using h2
  obtain ⟨u, hu, ru⟩ := r.get (List.getElem?_eq_getElem k1)
  obtain ⟨v, hv, rv⟩ := r2.get (List.getElem?_eq_getElem k2)
  have g1 : its.toArray[i] = u := by
    have : its[i]? = some its.toArray[i] := by
      rw [List.getElem?_eq_getElem (by simpa using h1)]
      simp
    rw [hu] at this
    exact (Option.some.inj this).symm
  have g2 : its2.toArray[i] = v := by
    have : its2[i]? = some its2.toArray[i] := by
      rw [List.getElem?_eq_getElem (by simpa using h2)]
      simp
    rw [hv] at this
    exact (Option.some.inj this).symm
  rw [g1, g2]
  refine wpAny_mono (h A.in1 pins s' σ H1 _ _ _ u v sb.in1 I1 ru rv (m _ _ _ _ _ e1 (p i _ _ (List.getElem?_eq_getElem k1) (List.getElem?_eq_getElem k2)))) (fun r s2 q => ?_) fun _ _ x => x
  obtain ⟨hr, H2, I2, e2⟩ := q
  exact ⟨hr, H2, I2, e1.trans e2⟩
theorem bool_of {b : Bool} {P : Prop} (h : b = true ↔ P) (hn : ¬ P) : b = false := by
  cases b with
  | false => rfl
  | true => exact absurd (h.mp rfl) hn
theorem rcB_tup (m : MonC S) (h : EqB X n S) : RcB X .Eq id (n + 1) (DT S) := by
  intro A pins s σ H x y b u v sb I rx ry ⟨a, c, xs, ys, f, ex, ey, ha, hc, hl, hs, hb, hr⟩
  subst ex ey
  cases rx
  cases ry
  obtain ⟨its, r, e, z⟩ := I.tuple (SqT.of ha)
  obtain ⟨its2, r2, e2, z2⟩ := I.tuple (SqT.of hc)
  have hsz : its.toArray.size = its2.toArray.size := by rw [List.size_toArray, List.size_toArray, ← r.length, ← r2.length]; exact hl
  obtain ⟨⟨cls, dd, data, sl⟩, ho, hcc, k, hd⟩ := e
  obtain ⟨⟨cls2, dd2, data2, sl2⟩, ho2, hc2, k2, hd2⟩ := e2
  simp only at hcc hd hc2 hd2
  subst hcc hd hc2 hd2
  have hn : its.toArray.size = xs.length := by rw [List.size_toArray, ← r.length]
  refine wpAny_richCompare_same_room (op := .Eq) ⟨_, ho, rfl⟩ ⟨_, ho2, rfl⟩ F.slot_tuple_eq (GQ.call_here F.slot_tuple_eq ⟨_, ho, rfl⟩ F.entry_tuple_eq (F.args_tuple_eq_2 _ _) ?_) sb.room.units0
  refine tup_eqB (R := wants (fun v s' => v ≠ .notImplemented ∧ (v = .bool (id b) ∧ ∃ H', Inv X pins σ H' s' ∧ Ex H H')) X.xe) a c its.toArray its2.toArray k k2 dd dd2 sl sl2 f hsz (fun _ s' => ∃ H', Inv X pins σ H' s' ∧ Ex H H')
    (fun i h1 h2 s' q _ => turnB m h sb hs r r2 i h1 h2 s' q) (fun s' q1 q => ⟨(fun x => nomatch x), by rw [hb.mpr (fun i hi => q1 i (by omega))]; rfl, q⟩) (fun s' i hi hf q => ⟨(fun x => nomatch x), by rw [bool_of hb (fun g => by rw [g i (by omega)] at hf; cases hf)]; rfl, q⟩) ho ho2 ⟨H, I, Ex.refl H⟩
theorem rcB_tupNe (m : MonC S) (h : EqB X n S) : RcB X .NotEq (!·) (n + 1) (DT S) := by
  intro A pins s σ H x y b u v sb I rx ry ⟨a, c, xs, ys, f, ex, ey, ha, hc, hl, hs, hb, hr⟩
  subst ex ey
  cases rx
  cases ry
  obtain ⟨its, r, e, z⟩ := I.tuple (SqT.of ha)
  obtain ⟨its2, r2, e2, z2⟩ := I.tuple (SqT.of hc)
  have hsz : its.toArray.size = its2.toArray.size := by rw [List.size_toArray, List.size_toArray, ← r.length, ← r2.length]; exact hl
  obtain ⟨⟨cls, dd, data, sl⟩, ho, hcc, k, hd⟩ := e
  obtain ⟨⟨cls2, dd2, data2, sl2⟩, ho2, hc2, k2, hd2⟩ := e2
  simp only at hcc hd hc2 hd2
  subst hcc hd hc2 hd2
  have hn : its.toArray.size = xs.length := by rw [List.size_toArray, ← r.length]
  refine wpAny_richCompare_same_room (op := .NotEq) ⟨_, ho, rfl⟩ ⟨_, ho2, rfl⟩ F.slot_tuple_ne (GQ.call_here F.slot_tuple_ne ⟨_, ho, rfl⟩ F.entry_tuple_ne (F.args_tuple_ne_2 _ _) ?_) sb.room.units0
  refine tup_neB (R := wants (fun v s' => v ≠ .notImplemented ∧ (v = .bool (!b) ∧ ∃ H', Inv X pins σ H' s' ∧ Ex H H')) X.xe) a c its.toArray its2.toArray k k2 dd dd2 sl sl2 f hsz (fun _ s' => ∃ H', Inv X pins σ H' s' ∧ Ex H H')
    (fun i h1 h2 s' q _ => turnB m h sb hs r r2 i h1 h2 s' q) (fun s' q1 q => ⟨(fun x => nomatch x), by rw [hb.mpr (fun i hi => q1 i (by omega))]; rfl, q⟩) (fun s' i hi hf q => ⟨(fun x => nomatch x), by rw [bool_of hb (fun g => by rw [g i (by omega)] at hf; cases hf)]; rfl, q⟩) ho ho2 ⟨H, I, Ex.refl H⟩
theorem eqB_tup (m : MonC S) (h : EqB X n S) : EqB X (n + 1) (DT S) := eqB_of (rcB_tup m h) fun x y b H ⟨a, c, xs, ys, f, ex, ey, ha, hc, hl, hs, hb, hr⟩ => ⟨a, c, ex, ey, hr⟩
/-- x == y, x != y as an expression -/
def rCmpB (g : Bool → Bool) (S : Cmp) : R2 := fun x y H Q => ∃ b, S x y b H ∧ ∀ H', Ex H H' → Q (.bl (g b)) H'
theorem op_cmpB {op : CmpOp} {g : Bool → Bool} (h : RcB X op g n S) (hr : Room n X.A) : OpR X (richCompare op) (rCmpB g S) := by
  intro pins s σ H x y v u Q I rx ry ⟨b, d, q⟩
  refine wpAny_mono (h X.A pins s σ H x y b v u ⟨hr, rfl⟩ I rx ry d) (fun r s' z => ?_) fun _ _ x => x
  obtain ⟨hr', H', I', e⟩ := z
  subst hr'
  exact ⟨.bl (g b), H', I', rfl, q H' e⟩
end
end Pn

namespace Pn
open PySem L2 Evl
section
variable {α β γ : Type} {R : α → V → Hp → Prop} {R2 : β → V → Hp → Prop} {S : γ → V → Hp → Prop} {K : PySem.W.Frag} {tl te ta tb : TE} {σ : L2.St} {H : Hp}
theorem evp_tupL {ys : List γ} (mS : MonoR S) (h : EvP tl σ H (LstAt S ys)) : EvP (tCB (rTupL K) (tCons tl tNil)) σ H (TupAt S ys) := fun H1 e Q k =>
  h H1 e _ fun v H2 e2 ⟨a, vs, ev, h2, hA⟩ => by
    subst ev
    exact ⟨a, vs, rfl, SqL.of h2, fun l hl => k _ _ (e2.trans (Ex.new hl)) ⟨l, vs, rfl, upd_same, hA.mono mS (Ex.new hl)⟩⟩
theorem evp_mapT {f : α → γ} {j : Nat} {vs : List Nat} {xs : List α} (mR : MonoR R) (mS : MonoR S) (sS : ∀ y, Stab (S y)) (h : EvP tl σ H (TupAt R xs)) (hz : xs.length ≤ 10000) (hw : ∀ v, wipe ((wipe σ vs).set j (some v)) vs = wipe σ vs)
    (he : ∀ v x H1, Ex H H1 → x ∈ xs → R x v H1 → EvP te ((wipe σ vs).set j (some v)) H1 (S (f x))) : EvP (tLc (iTup K tl) (gName j) tYes te vs) σ H (LstAt S (xs.map f)) :=
  EvP.imp (evp_lc (P := fun i σi H1 => ∃ v x, σi = (wipe σ vs).set j (some v) ∧ xs[i]? = some x ∧ R x v H1) (S := fun i v H => ∃ y, (xs.map f)[i]? = some y ∧ S y v H) hz (src_tup mR h)
    (fun i v H1 H2 e ⟨y, h1, h2⟩ => ⟨y, h1, mS _ _ _ _ e h2⟩) (fun i v H1 H2 D zs fr hD ⟨y, h1, h2⟩ => ⟨y, h1, sS y v H1 H2 D zs fr hD h2⟩)
    (fun i H1 v H2 kk hi e ⟨e2, x, hx, hr⟩ kz => by subst e2; exact kz _ _ (Ex.refl _) (hw v) ⟨v, x, rfl, hx, hr⟩)
    (fun i σi H1 hi e ⟨v, x, e1, hx, hr⟩ => by
      subst e1
      exact EvP.imp (he v x H1 e (List.mem_of_getElem? hx) hr) fun w H2 _ r => ⟨f x, by rw [List.getElem?_map, hx]; rfl, r⟩))
    fun v H' _ r => newL_lst (by rw [List.length_map]) r
theorem evp_mapZ {f : α → β → γ} {j1 j2 : Nat} {vs : List Nat} {xs : List α} {ys : List β} (m1 : MonoR R) (m2 : MonoR R2) (mS : MonoR S) (sS : ∀ y, Stab (S y)) (hl : xs.length = ys.length) (ha : EvP ta σ H (TupAt R xs)) (hb : EvP tb σ H (TupAt R2 ys)) (hz : xs.length ≤ 10000)
    (hw : ∀ v w, wipe (((wipe σ vs).set j1 (some v)).set j2 (some w)) vs = wipe σ vs)
    (he : ∀ v w x y H1, Ex H H1 → x ∈ xs → y ∈ ys → R x v H1 → R2 y w H1 → EvP te (((wipe σ vs).set j1 (some v)).set j2 (some w)) H1 (S (f x y))) :
    EvP (tLc (RZ.iZipA K (tCons ta (tCons tb tNil))) (gTup K 2 (gCons (gName j1) (gCons (gName j2) gNil))) tYes te vs) σ H (LstAt S (List.zipWith f xs ys)) :=
  EvP.imp (evp_lc (P := fun i σi H1 => ∃ v w x y, σi = ((wipe σ vs).set j1 (some v)).set j2 (some w) ∧ xs[i]? = some x ∧ ys[i]? = some y ∧ R x v H1 ∧ R2 y w H1) (S := fun i v H => ∃ y, (List.zipWith f xs ys)[i]? = some y ∧ S y v H) hz (src_zip m1 m2 hl ha hb)
    (fun i v H1 H2 e ⟨y, h1, h2⟩ => ⟨y, h1, mS _ _ _ _ e h2⟩) (fun i v H1 H2 D zs fr hD ⟨y, h1, h2⟩ => ⟨y, h1, sS y v H1 H2 D zs fr hD h2⟩)
    (fun i H1 v H2 kk hi e ⟨T, x, y, p, q, ev, hT, eH, hp, hq, rp, rq⟩ kz => by
      subst ev eH
      refine ⟨T, _, rfl, SqT.of upd_same, rfl, _, _, rfl, _, _, rfl, rfl, ?_⟩
      exact kz _ _ (Ex.new hT) (hw _ _) ⟨x, y, p, q, rfl, hp, hq, m1 _ _ _ _ (Ex.new hT) rp, m2 _ _ _ _ (Ex.new hT) rq⟩)
    (fun i σi H1 hi e ⟨v, w, x, y, e1, hx, hy, r1, r2⟩ => by
      subst e1
      exact EvP.imp (he v w x y H1 e (List.mem_of_getElem? hx) (List.mem_of_getElem? hy) r1 r2) fun u H2 _ r => ⟨f x y, by rw [List.getElem?_zipWith, hx, hy], r⟩))
    fun v H' _ r => newL_lst (by simp [hl]) r
end
/-! ### matrices -/
abbrev RV (C : Addr) : List Rat → V → Hp → Prop := TupAt (RQ C)
abbrev MatAt (C : Addr) (rows : List (List Rat)) (v : V) (H : Hp) : Prop := TupAt (RV C) rows v H
theorem mono_rv {C : Addr} : MonoR (RV C) := mono_tup mono_rq
theorem stab_rv {C : Addr} (row : List Rat) : Stab (RV C row) := stab_tup fun _ => stab_rat
theorem mono_mat {C : Addr} {rows : List (List Rat)} : Mono (MatAt C rows) := fun v H H' e h => mono_tup mono_rv rows v H H' e h
def Wide (n : Nat) (rows : List (List Rat)) : Prop := ∀ row ∈ rows, row.length = n
def AllM (n : Nat) (rows : List (List Rat)) : Prop := ∀ row ∈ rows, AllS n row
def transQ (rows : List (List Rat)) (w : Nat) : List (List Rat) := (List.range w).map fun k => rows.map fun row => row.getD k 0
def applyQ (rows : List (List Rat)) (v : List Rat) : List Rat := rows.map fun row => dotQ row v
def mulQ (a b : List (List Rat)) (w : Nat) : List (List Rat) := a.map fun row => applyQ (transQ b w) row
def idQ (n : Nat) : List (List Rat) := (List.range n).map fun i => unitQ n i
def zerosQ (h w : Nat) : List (List Rat) := (List.range h).map fun _ => zeroQ w
def outerQ (a b : List Rat) : List (List Rat) := a.map fun x => scaleQ x b
def addM (a b : List (List Rat)) : List (List Rat) := List.zipWith (fun p q => List.zipWith (fun x y => x + y) p q) a b
def scaleM (f : Rat) (a : List (List Rat)) : List (List Rat) := a.map fun row => scaleQ f row
/-- sizes with which a dot product of that length may be reckoned -/
def DotOk (n m len : Nat) : Prop := 0 < n ∧ 0 < m ∧ (n + m + 1) * len + 1 ≤ 900000
def spTrans (C : Addr) : Sp := fun vs H Q _ => ∃ (x : V) (rows : List (List Rat)) (w : Nat), vs = [x, .int (w : Int)] ∧ MatAt C rows x H ∧ Wide w rows ∧ rows.length ≤ 10000 ∧ w ≤ 10000 ∧ NewV (MatAt C (transQ rows w)) H Q
def spApply (C : Addr) : Sp := fun vs H Q _ => ∃ (x y : V) (rows : List (List Rat)) (v : List Rat) (n m : Nat), vs = [x, y] ∧ MatAt C rows x H ∧ VecAt C v y H ∧ Wide v.length rows ∧ rows.length ≤ 10000 ∧ AllM n rows ∧ AllS m v ∧ DotOk n m v.length ∧ NewV (VecAt C (applyQ rows v)) H Q
def spProduct (C : Addr) : Sp := fun vs H Q _ => ∃ (x y : V) (a b : List (List Rat)) (w n m : Nat), vs = [x, y, .int (w : Int)] ∧ MatAt C a x H ∧ MatAt C b y H ∧ Wide b.length a ∧ Wide w b ∧ a.length ≤ 10000 ∧ b.length ≤ 10000 ∧ w ≤ 10000 ∧ AllM n a ∧ AllM m b ∧ DotOk m n b.length ∧ NewV (MatAt C (mulQ a b w)) H Q
def spIdent (C : Addr) : Sp := fun vs H Q _ => ∃ (n : Nat), vs = [.int (n : Int)] ∧ n ≤ 10000 ∧ NewV (MatAt C (idQ n)) H Q
def spZeros (C : Addr) : Sp := fun vs H Q _ => ∃ (h w : Nat), vs = [.int (h : Int), .int (w : Int)] ∧ h ≤ 10000 ∧ w ≤ 10000 ∧ NewV (MatAt C (zerosQ h w)) H Q
def spOuter (C : Addr) : Sp := fun vs H Q _ => ∃ (x y : V) (a b : List Rat), vs = [x, y] ∧ VecAt C a x H ∧ VecAt C b y H ∧ a.length ≤ 10000 ∧ b.length ≤ 10000 ∧ (∀ p ∈ a, ∀ q ∈ b, Ok2 p q) ∧ NewV (MatAt C (outerQ a b)) H Q
def spSumOf (C : Addr) : Sp := fun vs H Q _ => ∃ (x y : V) (a b : List (List Rat)) (w : Nat), vs = [x, y] ∧ MatAt C a x H ∧ MatAt C b y H ∧ a.length = b.length ∧ a.length ≤ 10000 ∧ w ≤ 10000 ∧ Wide w a ∧ Wide w b ∧ (∀ r ∈ a, ∀ s ∈ b, ∀ p ∈ r, ∀ q ∈ s, Ok2 p q) ∧ NewV (MatAt C (addM a b)) H Q
def spScaled (C : Addr) : Sp := fun vs H Q _ => ∃ (x y : V) (f : Rat) (a : List (List Rat)), vs = [x, y] ∧ RatAt C H x f ∧ MatAt C a y H ∧ a.length ≤ 10000 ∧ (∀ r ∈ a, r.length ≤ 10000 ∧ ∀ q ∈ r, Ok2 f q) ∧ NewV (MatAt C (scaleM f a)) H Q
def spIsSym (C : Addr) : Sp := fun vs H Q _ => ∃ (x : V) (rows : List (List Rat)) (w : Nat), vs = [x] ∧ MatAt C rows x H ∧ Wide w rows ∧ rows.length ≤ 10000 ∧ w ≤ 10000 ∧ ∀ H', Ex H H' → Q (.bl (decide (rows.length = 0 ∨ w = rows.length) && decide (rows = transQ rows rows.length))) H'
theorem range_getD {k w : Nat} {f : Nat → Rat} : True := trivial
theorem mem_get {α : Type} {xs : List α} {x : α} (h : x ∈ xs) : ∃ i : Nat, xs[i]? = some x := by
  obtain ⟨i, hi, e⟩ := List.mem_iff_getElem.mp h
  exact ⟨i, by rw [List.getElem?_eq_getElem hi, e]⟩
theorem transQ_wide {rows : List (List Rat)} {w : Nat} : Wide rows.length (transQ rows w) := fun row h => by
  unfold transQ at h
  obtain ⟨k, _, rfl⟩ := List.mem_map.mp h
  rw [List.length_map]
theorem transQ_len (rows : List (List Rat)) (w : Nat) : (transQ rows w).length = w := by
  unfold transQ
  rw [List.length_map, List.length_range]
theorem transQ_sm {n w : Nat} {rows : List (List Rat)} (h : AllM n rows) (hw : Wide w rows) : AllM n (transQ rows w) := fun row hr q hq => by
  unfold transQ at hr
  obtain ⟨k, hk, rfl⟩ := List.mem_map.mp hr
  obtain ⟨r, hr, rfl⟩ := List.mem_map.mp hq
  have hk' : k < r.length := by rw [hw r hr]; exact List.mem_range.mp hk
  exact h r hr _ (List.mem_of_getElem? (getD_get hk'))
section
variable {C : Addr} {K : PySem.W.Frag} {ta tb tc : TE} {σ : L2.St} {H : Hp} {E : XK}
theorem evp_callT {sp : Sp} {S1 S2 S' : V → Hp → Prop} {w : Nat} (m1 : Mono S1) (m2 : Mono S2) (ha : EvP ta σ H S1) (hb : EvP tb σ H S2) (hc : Ev tc σ H (.int (w : Int))) (hs : ∀ v u H1, Ex H H1 → S1 v H1 → S2 u H1 → ∀ (Q : VK) (E : XK), (∀ r H2, Ex H1 H2 → S' r H2 → Q r H2) → sp [v, u, .int (w : Int)] H1 Q E) :
    EvP (tCall sp [] E (tCons ta (tCons tb (tCons tc tNil)))) σ H S' := fun H1 e Q k =>
  ha H1 e _ fun v H2 e2 hv => hb H2 (e.trans e2) _ fun u H3 e3 hu => hc H3 ((e.trans e2).trans e3) _ fun H4 e4 => hs v u H4 (((e.trans e2).trans e3).trans e4) (m1 _ _ _ (e3.trans e4) hv) (m2 _ _ _ e4 hu) Q E fun r H5 e5 hr => k r H5 (((e2.trans e3).trans e4).trans e5) hr
theorem evp_trans {rows : List (List Rat)} {w : Nat} (ha : EvP ta σ H (MatAt C rows)) (hb : Ev tb σ H (.int (w : Int))) (hw : Wide w rows) (h1 : rows.length ≤ 10000) (h2 : w ≤ 10000) : EvP (tCall (spTrans C) [] E (tCons ta (tCons tb tNil))) σ H (MatAt C (transQ rows w)) :=
  evp_call2 mono_mat ha (evp_of hb) fun v u H1 _ r1 eu Q2 E2 k2 => by subst eu; exact ⟨v, rows, w, rfl, r1, hw, h1, h2, k2⟩
theorem evp_apply {rows : List (List Rat)} {v : List Rat} {n m : Nat} (ha : EvP ta σ H (MatAt C rows)) (hb : EvP tb σ H (VecAt C v)) (hw : Wide v.length rows) (h1 : rows.length ≤ 10000) (s1 : AllM n rows) (s2 : AllS m v) (hd : DotOk n m v.length) : EvP (tCall (spApply C) [] E (tCons ta (tCons tb tNil))) σ H (VecAt C (applyQ rows v)) :=
  evp_call2 mono_mat ha hb fun x y H1 _ r1 r2 Q2 E2 k2 => ⟨x, y, rows, v, n, m, rfl, r1, r2, hw, h1, s1, s2, hd, k2⟩
theorem evp_product {a b : List (List Rat)} {w n m : Nat} (ha : EvP ta σ H (MatAt C a)) (hb : EvP tb σ H (MatAt C b)) (hc : Ev tc σ H (.int (w : Int))) (h1 : Wide b.length a) (h2 : Wide w b) (h3 : a.length ≤ 10000) (h4 : b.length ≤ 10000) (h5 : w ≤ 10000) (s1 : AllM n a) (s2 : AllM m b) (hd : DotOk m n b.length) : EvP (tCall (spProduct C) [] E (tCons ta (tCons tb (tCons tc tNil)))) σ H (MatAt C (mulQ a b w)) :=
  evp_callT mono_mat mono_mat ha hb hc fun x y H1 _ r1 r2 Q2 E2 k2 => ⟨x, y, a, b, w, n, m, rfl, r1, r2, h1, h2, h3, h4, h5, s1, s2, hd, k2⟩
theorem evp_ident {n : Nat} (ha : Ev ta σ H (.int (n : Int))) (hz : n ≤ 10000) : EvP (tCall (spIdent C) [] E (tCons ta tNil)) σ H (MatAt C (idQ n)) :=
  evp_call1 (evp_of ha) fun v H1 _ ev Q2 E2 k2 => by subst ev; exact ⟨n, rfl, hz, k2⟩
theorem evp_zeros {h w : Nat} (ha : Ev ta σ H (.int (h : Int))) (hb : Ev tb σ H (.int (w : Int))) (h1 : h ≤ 10000) (h2 : w ≤ 10000) : EvP (tCall (spZeros C) [] E (tCons ta (tCons tb tNil))) σ H (MatAt C (zerosQ h w)) :=
  evp_call2 (fun _ _ _ _ h => h) (evp_of ha) (evp_of hb) fun v u H1 _ ev eu Q2 E2 k2 => by subst ev eu; exact ⟨h, w, rfl, h1, h2, k2⟩
theorem evp_outer {a b : List Rat} (ha : EvP ta σ H (VecAt C a)) (hb : EvP tb σ H (VecAt C b)) (h1 : a.length ≤ 10000) (h2 : b.length ≤ 10000) (ho : ∀ p ∈ a, ∀ q ∈ b, Ok2 p q) : EvP (tCall (spOuter C) [] E (tCons ta (tCons tb tNil))) σ H (MatAt C (outerQ a b)) :=
  evp_call2 mono_vec ha hb fun x y H1 _ r1 r2 Q2 E2 k2 => ⟨x, y, a, b, rfl, r1, r2, h1, h2, ho, k2⟩
theorem evp_sumOf {a b : List (List Rat)} {w : Nat} (ha : EvP ta σ H (MatAt C a)) (hb : EvP tb σ H (MatAt C b)) (hl : a.length = b.length) (h1 : a.length ≤ 10000) (h2 : w ≤ 10000) (w1 : Wide w a) (w2 : Wide w b) (ho : ∀ r ∈ a, ∀ s ∈ b, ∀ p ∈ r, ∀ q ∈ s, Ok2 p q) : EvP (tCall (spSumOf C) [] E (tCons ta (tCons tb tNil))) σ H (MatAt C (addM a b)) :=
  evp_call2 mono_mat ha hb fun x y H1 _ r1 r2 Q2 E2 k2 => ⟨x, y, a, b, w, rfl, r1, r2, hl, h1, h2, w1, w2, ho, k2⟩
theorem evp_scaled {f : Rat} {a : List (List Rat)} (ha : EvP ta σ H (fun v H => RatAt C H v f)) (hb : EvP tb σ H (MatAt C a)) (h1 : a.length ≤ 10000) (ho : ∀ r ∈ a, r.length ≤ 10000 ∧ ∀ q ∈ r, Ok2 f q) : EvP (tCall (spScaled C) [] E (tCons ta (tCons tb tNil))) σ H (MatAt C (scaleM f a)) :=
  evp_call2 mono_rat ha hb fun x y H1 _ r1 r2 Q2 E2 k2 => ⟨x, y, f, a, rfl, r1, r2, h1, ho, k2⟩
theorem ev_isSym {rows : List (List Rat)} {w : Nat} (ha : EvP ta σ H (MatAt C rows)) (hw : Wide w rows) (h1 : rows.length ≤ 10000) (h2 : w ≤ 10000) : Ev (tCall (spIsSym C) [] E (tCons ta tNil)) σ H (.bl (decide (rows.length = 0 ∨ w = rows.length) && decide (rows = transQ rows rows.length))) :=
  ev_of (evp_call1 ha fun v H1 _ r Q2 E2 k2 => ⟨v, rows, w, rfl, r, hw, h1, h2, fun H4 e4 => k2 _ _ e4 rfl⟩)
/-- two vectors of one length, compared -/
theorem vec_dt {a b : List Rat} {x y : V} (hx : VecAt C a x H) (hy : VecAt C b y H) (hl : a.length = b.length) : DT (DR C) x y (decide (a = b)) H := by
  obtain ⟨p, xs, rfl, h1, A1⟩ := hx
  obtain ⟨q, ys, rfl, h2, A2⟩ := hy
  refine ⟨p, q, xs, ys, fun i => decide (a.getD i 0 = b.getD i 0), rfl, rfl, h1, h2, by rw [A1.1, A2.1]; exact hl, fun i x y g1 g2 => ?_, ?_, fun e => ?_⟩
  · obtain ⟨s, hs, rs⟩ := A1.getV g1
    obtain ⟨t, ht, rt⟩ := A2.getV g2
    exact ⟨s, t, rs, rt, by dsimp only; rw [List.getD_eq_getElem?_getD, List.getD_eq_getElem?_getD, hs, ht]; rfl⟩
  · rw [decide_eq_true_iff, A1.1]
    constructor
    · intro e i _
      rw [e]
      simp
    · intro h
      refine List.ext_getElem? fun i => ?_
      by_cases hi : i < a.length
      · have := of_decide_eq_true (h i hi)
        rw [getD_get (d := 0) hi, getD_get (d := 0) (hl ▸ hi), this]
      · rw [List.getElem?_eq_none (by omega), List.getElem?_eq_none (by omega)]
  · subst e
    rw [h1] at h2
    injection h2 with h2
    injection h2 with h2
    subst h2
    rw [decide_eq_true_iff]
    refine List.ext_getElem? fun i => ?_
    by_cases hi : i < a.length
    · obtain ⟨v, hv, r1⟩ := A1.get (List.getElem?_eq_getElem hi)
      obtain ⟨u, hu, r2⟩ := A2.get (List.getElem?_eq_getElem (hl ▸ hi))
      rw [hv] at hu
      cases hu
      obtain ⟨z, dz, ez, hz⟩ := r1
      obtain ⟨z', dz', ez', hz'⟩ := r2
      rw [ez] at ez'
      cases ez'
      rw [hz] at hz'
      injection hz' with hz'
      injection hz' with _ _ h3
      rw [List.getElem?_eq_getElem hi, List.getElem?_eq_getElem (hl ▸ hi), ratO_inj h3]
    · rw [List.getElem?_eq_none (by omega), List.getElem?_eq_none (by omega)]
end
end Pn

namespace Pn
open PySem L2 Evl
/-! ### lists of lists -/
/-- kept by whatever is done to a list that stands elsewhere -/
def StabN (S : V → Hp → Prop) : Prop := ∀ v H H' D xs, (∀ a o, a ≠ D → H a = some o → H' a = some o) → H D = some (.lst xs) → v ≠ .ref D → S v H → S v H'
theorem stabN_lst {α : Type} {R : α → V → Hp → Prop} (hR : ∀ x, Stab (R x)) {xs : List α} : StabN (LstAt R xs) := fun v H H' D ys f hD n ⟨a, vs, e, h, h2⟩ =>
  ⟨a, vs, e, f _ _ (fun z => n (by rw [e, z])) h, h2.1, fun i x v h3 h4 => hR x v H H' D ys f hD (h2.2 i x v h3 h4)⟩
/-- what is new behind H0 and of which S holds -/
def NewIn (S : V → Hp → Prop) (H0 : Hp) (v : V) (H : Hp) : Prop := S v H ∧ ∃ p, v = .ref p ∧ H0 p = none ∧ ∃ o, H p = some o
/-- a new list of new values -/
def NewLN (H : Hp) (n : Nat) (S : Nat → V → Hp → Prop) (v : V) (H2 : Hp) : Prop := ∃ p ys, v = .ref p ∧ H p = none ∧ H2 p = some (.lst ys) ∧ ys.length = n ∧ (∀ (i : Nat) y, ys[i]? = some y → S i y H2 ∧ y ≠ .ref p ∧ ∃ q, y = .ref q ∧ H q = none ∧ ∃ o, H2 q = some o) ∧
  ∀ (i j : Nat) y, ys[i]? = some y → ys[j]? = some y → i = j
theorem evp_lcN {wi : TI} {g : TG} {te : TE} {vs : List Nat} {σ : L2.St} {H : Hp} {n : Nat} {Y : Nat → Hp → V → Hp → Prop} {P : Nat → L2.St → Hp → Prop} {S : Nat → V → Hp → Prop}
    (hn : n ≤ 10000) (hsrc : Src wi σ H n Y) (hS : ∀ i, Mono (S i)) (hT : ∀ i, StabN (S i))
    (hitem : ∀ i H1 x H2 (K : L2.St → Hp → Prop), i < n → Ex H H1 → Y i H1 x H2 → (∀ σi H3, Ex H1 H3 → wipe σi vs = wipe σ vs → P i σi H3 → K σi H3) → g x (wipe σ vs) H2 K)
    (he : ∀ i σi H1, i < n → Ex H H1 → P i σi H1 → EvP te σi H1 (NewIn (S i) H1)) : EvP (tLc wi g tYes te vs) σ H (NewLN H n S) := by
  intro H1 e1 Q k
  refine hsrc H1 e1 _ fun J G H2 e2 w hG => fun D hD => ?_
  have e12 := e1.trans e2
  refine lc_it w (fun i H' => Ex H2 H' ∧ ∃ ys, H' D = some (.lst ys) ∧ ys.length = i ∧ (∀ (j : Nat) y, ys[j]? = some y → S j y H' ∧ y ≠ .ref D ∧ ∃ q, y = .ref q ∧ H q = none ∧ ∃ o, H' q = some o) ∧ ∀ (a b : Nat) y, ys[a]? = some y → ys[b]? = some y → a = b)
    ⟨Ex.new hD, [], upd_same, rfl, fun j y z => by simp at z, fun a b y z => by simp at z⟩ (fun i H' _ p => hG _ p.1) ?_ ?_
  · intro i x H' H'' hi p hy
    obtain ⟨p1, ys, p2, p3, p4, p5⟩ := p
    refine hitem i H' x H'' _ hi (e12.trans p1) hy fun σi H3 e3 hw hP => ⟨hw, ?_⟩
    show te σi H3 _
    refine he i σi H3 hi ((e12.trans p1).trans e3) hP H3 (Ex.refl _) _ fun y H4 e4 ⟨hSy, q, hyq, hq0, o, hqo⟩ => ?_
    have e34 := e3.trans e4
    have hD4 := e34 _ _ p2
    have hq1 : H q = none := fresh_back ((e12.trans p1).trans e3) hq0
    have hqD : q ≠ D := fun z => by
      rw [z, e3 _ _ p2] at hq0
      cases hq0
    refine ⟨ys, hD4, sz_lt (by omega), Ex.mut (p1.trans e34) hD, ys ++ [y], upd_same, by rw [List.length_append, p3]; rfl, fun j z hz => ?_, fun a b z ha hb => ?_⟩
    · have st : ∀ i v, v ≠ .ref D → S i v H4 → S i v (upd H4 D (.lst (ys ++ [y]))) := fun i v nv h => hT i v H4 _ D ys (fun a o ne ha => (upd_ne ne).trans ha) hD4 nv h
      by_cases hj : j < ys.length
      · rw [List.getElem?_append_left hj] at hz
        obtain ⟨s1, s2, r, s3, s4, o', s5⟩ := p4 j z hz
        refine ⟨st j z s2 (hS j z _ _ e34 s1), s2, r, s3, s4, o', ?_⟩
        rw [upd_ne (fun e => s2 (by rw [s3, e]))]
        exact e34 _ _ s5
      · have hj2 : j = i := by
          have := (List.getElem?_eq_some_iff.mp hz).1
          rw [List.length_append, List.length_singleton] at this
          omega
        subst hj2
        rw [List.getElem?_append_right (by omega), p3, Nat.sub_self] at hz
        simp at hz
        subst hz
        have nD : y ≠ .ref D := fun z => hqD (by rw [hyq] at z; exact V.ref.inj z)
        exact ⟨st _ _ nD hSy, nD, q, hyq, hq1, o, by rw [upd_ne hqD]; exact hqo⟩
    · have old : ∀ (c : Nat), c < ys.length → ys[c]? ≠ some y := fun c hc z => by
        obtain ⟨_, _, r, s3, _, o', s5⟩ := p4 c y z
        rw [hyq] at s3
        cases s3
        rw [e3 _ _ s5] at hq0
        cases hq0
      have big : ∀ (c : Nat) z, (ys ++ [y])[c]? = some z → ¬ c < ys.length → c = ys.length ∧ z = y := fun c z hz hc => by
        have h1 := (List.getElem?_eq_some_iff.mp hz).1
        rw [List.length_append, List.length_singleton] at h1
        have h2 : c = ys.length := by omega
        subst h2
        rw [List.getElem?_append_right (Nat.le_refl _), Nat.sub_self] at hz
        simp at hz
        exact ⟨rfl, hz.symm⟩
      by_cases h1 : a < ys.length
      · by_cases h2 : b < ys.length
        · rw [List.getElem?_append_left h1] at ha
          rw [List.getElem?_append_left h2] at hb
          exact p5 a b z ha hb
        · obtain ⟨_, ez⟩ := big b z hb h2
          subst ez
          rw [List.getElem?_append_left h1] at ha
          exact absurd ha (old a h1)
      · obtain ⟨ea, ez⟩ := big a z ha h1
        subst ez
        by_cases h2 : b < ys.length
        · rw [List.getElem?_append_left h2] at hb
          exact absurd hb (old b h2)
        · obtain ⟨eb, _⟩ := big b z hb h2
          omega
  · intro H' p
    obtain ⟨p1, ys, p2, p3, p4, p5⟩ := p
    exact k _ _ (e2.trans p1) ⟨D, ys, rfl, fresh_back e12 hD, p2, p3, p4, p5⟩
theorem newLN_new {β : Type} {S : β → V → Hp → Prop} {n : Nat} {xs : List β} (hn : xs.length = n) {v : V} {H H' : Hp} (h : NewLN H n (fun i v H => ∃ y, xs[i]? = some y ∧ S y v H) v H') : NewIn (LstAt S xs) H v H' := by
  obtain ⟨p, ys, ev, hp, h2, hl, hy, _⟩ := h
  refine ⟨⟨p, ys, ev, h2, by omega, fun i x w h3 h4 => ?_⟩, p, ev, hp, _, h2⟩
  obtain ⟨⟨y, h5, h6⟩, _⟩ := hy i w h4
  rw [h3] at h5
  cases h5
  exact h6
theorem newL_new {β : Type} {S : β → V → Hp → Prop} {n : Nat} {xs : List β} (hn : xs.length = n) {v : V} {H H' : Hp} (h : NewL H n (fun i v H => ∃ y, xs[i]? = some y ∧ S y v H) v H') : NewIn (LstAt S xs) H v H' := by
  have z := newL_lst hn h
  obtain ⟨p, ys, ev, hp, h2, _⟩ := h
  exact ⟨z, p, ev, hp, _, h2⟩
section
variable {α β γ : Type} {R : α → V → Hp → Prop} {R2 : β → V → Hp → Prop} {S : γ → V → Hp → Prop} {K : PySem.W.Frag} {tl te ta tb : TE} {σ : L2.St} {H : Hp}
theorem evp_new {S : V → Hp → Prop} (h : EvP te σ H (NewIn S H)) : EvP te σ H S := EvP.imp h fun _ _ _ r => r.1
/-- a list, new -/
theorem evp_mapLn {f : α → γ} {j : Nat} {vs : List Nat} {xs : List α} (mR : MonoR R) (mS : MonoR S) (sS : ∀ y, Stab (S y)) (h : EvP tl σ H (LstAt R xs)) (hz : xs.length ≤ 10000) (hw : ∀ v, wipe ((wipe σ vs).set j (some v)) vs = wipe σ vs)
    (he : ∀ v x H1, Ex H H1 → x ∈ xs → R x v H1 → EvP te ((wipe σ vs).set j (some v)) H1 (S (f x))) : EvP (tLc (iList K tl) (gName j) tYes te vs) σ H (NewIn (LstAt S (xs.map f)) H) :=
  EvP.imp (evp_lc (P := fun i σi H1 => ∃ v x, σi = (wipe σ vs).set j (some v) ∧ xs[i]? = some x ∧ R x v H1) (S := fun i v H => ∃ y, (xs.map f)[i]? = some y ∧ S y v H) hz (src_list mR h)
    (fun i v H1 H2 e ⟨y, h1, h2⟩ => ⟨y, h1, mS _ _ _ _ e h2⟩) (fun i v H1 H2 D zs fr hD ⟨y, h1, h2⟩ => ⟨y, h1, sS y v H1 H2 D zs fr hD h2⟩)
    (fun i H1 v H2 kk hi e ⟨e2, x, hx, hr⟩ kz => by subst e2; exact kz _ _ (Ex.refl _) (hw v) ⟨v, x, rfl, hx, hr⟩)
    (fun i σi H1 hi e ⟨v, x, e1, hx, hr⟩ => by
      subst e1
      exact EvP.imp (he v x H1 e (List.mem_of_getElem? hx) hr) fun w H2 _ r => ⟨f x, by rw [List.getElem?_map, hx]; rfl, r⟩))
    fun v H' _ r => newL_new (by rw [List.length_map]) r
theorem evp_mapRn {f : Nat → γ} {j n : Nat} {vs : List Nat} {t1 : TA} (mS : MonoR S) (sS : ∀ y, Stab (S y)) (h : EvA t1 σ H [.int (n : Int)]) (hz : n ≤ 10000) (hw : ∀ v, wipe ((wipe σ vs).set j (some v)) vs = wipe σ vs)
    (he : ∀ (i : Nat) H1, Ex H H1 → i < n → EvP te ((wipe σ vs).set j (some (.int (i : Int)))) H1 (S (f i))) : EvP (tLc (iRng1 t1) (gName j) tYes te vs) σ H (NewIn (LstAt S ((List.range n).map f)) H) :=
  EvP.imp (evp_lc (P := fun i σi H1 => σi = (wipe σ vs).set j (some (.int (i : Int)))) (S := fun i v H => ∃ y, ((List.range n).map f)[i]? = some y ∧ S y v H) hz (src_rng h hz)
    (fun i v H1 H2 e ⟨y, h1, h2⟩ => ⟨y, h1, mS _ _ _ _ e h2⟩) (fun i v H1 H2 D zs fr hD ⟨y, h1, h2⟩ => ⟨y, h1, sS y v H1 H2 D zs fr hD h2⟩)
    (fun i H1 v H2 kk hi e ⟨e2, ev⟩ kz => by subst e2 ev; exact kz _ _ (Ex.refl _) (hw _) rfl)
    (fun i σi H1 hi e e1 => by
      subst e1
      exact EvP.imp (he i H1 e hi) fun w H2 _ r => ⟨f i, by rw [List.getElem?_map, List.getElem?_range hi]; rfl, r⟩))
    fun v H' _ r => newL_new (by rw [List.length_map, List.length_range]) r
/-- lists of new lists -/
theorem evp_mapLN {f : α → γ} {j : Nat} {vs : List Nat} {xs : List α} (mR : MonoR R) (mS : MonoR S) (sS : ∀ y, StabN (S y)) (h : EvP tl σ H (LstAt R xs)) (hz : xs.length ≤ 10000) (hw : ∀ v, wipe ((wipe σ vs).set j (some v)) vs = wipe σ vs)
    (he : ∀ v x H1, Ex H H1 → x ∈ xs → R x v H1 → EvP te ((wipe σ vs).set j (some v)) H1 (NewIn (S (f x)) H1)) : EvP (tLc (iList K tl) (gName j) tYes te vs) σ H (NewLN H xs.length (fun i v H => ∃ y, (xs.map f)[i]? = some y ∧ S y v H)) :=
  (evp_lcN (P := fun i σi H1 => ∃ v x, σi = (wipe σ vs).set j (some v) ∧ xs[i]? = some x ∧ R x v H1) (S := fun i v H => ∃ y, (xs.map f)[i]? = some y ∧ S y v H) hz (src_list mR h)
    (fun i v H1 H2 e ⟨y, h1, h2⟩ => ⟨y, h1, mS _ _ _ _ e h2⟩) (fun i v H1 H2 D zs fr hD n ⟨y, h1, h2⟩ => ⟨y, h1, sS y v H1 H2 D zs fr hD n h2⟩)
    (fun i H1 v H2 kk hi e ⟨e2, x, hx, hr⟩ kz => by subst e2; exact kz _ _ (Ex.refl _) (hw v) ⟨v, x, rfl, hx, hr⟩)
    (fun i σi H1 hi e ⟨v, x, e1, hx, hr⟩ => by
      subst e1
      exact EvP.imp (he v x H1 e (List.mem_of_getElem? hx) hr) fun w H2 _ r => ⟨⟨f x, by rw [List.getElem?_map, hx]; rfl, r.1⟩, r.2⟩))
theorem evp_mapRN {f : Nat → γ} {j n : Nat} {vs : List Nat} {t1 : TA} (mS : MonoR S) (sS : ∀ y, StabN (S y)) (h : EvA t1 σ H [.int (n : Int)]) (hz : n ≤ 10000) (hw : ∀ v, wipe ((wipe σ vs).set j (some v)) vs = wipe σ vs)
    (he : ∀ (i : Nat) H1, Ex H H1 → i < n → EvP te ((wipe σ vs).set j (some (.int (i : Int)))) H1 (NewIn (S (f i)) H1)) : EvP (tLc (iRng1 t1) (gName j) tYes te vs) σ H (NewLN H n (fun i v H => ∃ y, ((List.range n).map f)[i]? = some y ∧ S y v H)) :=
  (evp_lcN (P := fun i σi H1 => σi = (wipe σ vs).set j (some (.int (i : Int)))) (S := fun i v H => ∃ y, ((List.range n).map f)[i]? = some y ∧ S y v H) hz (src_rng h hz)
    (fun i v H1 H2 e ⟨y, h1, h2⟩ => ⟨y, h1, mS _ _ _ _ e h2⟩) (fun i v H1 H2 D zs fr hD n ⟨y, h1, h2⟩ => ⟨y, h1, sS y v H1 H2 D zs fr hD n h2⟩)
    (fun i H1 v H2 kk hi e ⟨e2, ev⟩ kz => by subst e2 ev; exact kz _ _ (Ex.refl _) (hw _) rfl)
    (fun i σi H1 hi e e1 => by
      subst e1
      exact EvP.imp (he i H1 e hi) fun w H2 _ r => ⟨⟨f i, by rw [List.getElem?_map, List.getElem?_range hi]; rfl, r.1⟩, r.2⟩))
end
theorem mem_map_len {α β : Type} {f : α → β} {xs : List α} : (xs.map f).length = xs.length := List.length_map f
/-- [(0, 1)] * n, new -/
theorem evp_repN {n : Nat} {tw : TE} {σ : L2.St} {H : Hp} (hw : ∀ H1, Ex H H1 → Ev tw σ H1 (.int (n : Int))) (hn : n ≤ 10000) : EvP (tOp rRep (tLst (tCons (tTup (tCons (tC (.int 0)) (tCons (tC (.int 1)) tNil))) tNil)) tw) σ H (NewIn (LstAt RP (List.replicate n 0)) H) := fun H1 e Q k => by
  refine ⟨by show 2 ≤ sizeLine; decide, fun p hp => ?_⟩
  refine ⟨by show 1 ≤ sizeLine; decide, fun l hl => ?_⟩
  have e1 : Ex H1 (upd (upd H1 p (.tup [.int 0, .int 1])) l (.lst [.ref p])) := (Ex.new hp).trans (Ex.new hl)
  have nl : p ≠ l := (ne_of_none upd_same hl)
  have pA : PrAt (upd (upd H1 p (.tup [.int 0, .int 1])) l (.lst [.ref p])) (.ref p) 0 := ⟨p, rfl, by rw [upd_ne nl, upd_same]; rfl⟩
  have hlA : (upd (upd H1 p (.tup [.int 0, .int 1])) l (.lst [.ref p])) l = some (.lst [.ref p]) := upd_same
  generalize upd (upd H1 p (.tup [.int 0, .int 1])) l (.lst [.ref p]) = H2 at e1 pA hlA ⊢
  refine hw H2 (e.trans e1) H2 (Ex.refl _) _ fun H3 e3 => ?_
  refine ⟨l, n, [.ref p], rfl, rfl, e3 _ _ hlA, by omega, by omega, sz_of (by rw [Int.toNat_natCast, List.length_singleton]; omega), fun r hr => ?_⟩
  refine k _ _ ((e1.trans e3).trans (Ex.new hr)) ⟨⟨r, _, rfl, upd_same, ?_⟩, r, rfl, fresh_back ((e.trans e1).trans e3) hr, _, upd_same⟩
  rw [flat_rep, Int.toNat_natCast]
  exact allR_rep (R := RP) ((pA.mono e3).mono (Ex.new hr))
/-! ### lists of rows of pairs -/
abbrev RR : List Rat → V → Hp → Prop := LstAt RP
abbrev LLAt (rows : List (List Rat)) (v : V) (H : Hp) : Prop := LstAt RR rows v H
theorem mono_rr : MonoR RR := mono_lst mono_rp
theorem stabN_rr (row : List Rat) : StabN (RR row) := stabN_lst fun _ => stab_pair
theorem mono_ll {rows : List (List Rat)} : Mono (LLAt rows) := fun v H H' e h => mono_lst mono_rr rows v H H' e h
def spMatrix (C : Addr) : Sp := fun vs H Q _ => ∃ (x : V) (rows : List (List Rat)), vs = [x] ∧ LLAt rows x H ∧ rows.length ≤ 10000 ∧ (∀ r ∈ rows, r.length ≤ 10000 ∧ ∀ q ∈ r, q.den < 2 ^ 900000) ∧ NewV (MatAt C rows) H Q
def spMatIs (C : Addr) : Sp := fun vs H Q _ => ∃ (x y : V) (rows : List (List Rat)), vs = [x, y] ∧ MatAt C rows x H ∧ LLAt rows y H ∧ rows.length ≤ 10000 ∧ (∀ r ∈ rows, r.length ≤ 10000) ∧ ∀ H', Ex H H' → Q (.bl true) H'
def spTurned : Sp := fun vs H Q _ => ∃ (x : V) (rows : List (List Rat)) (w : Nat), vs = [x, .int (w : Int)] ∧ LLAt rows x H ∧ Wide w rows ∧ rows.length ≤ 10000 ∧ w ≤ 10000 ∧ NewV (LLAt (transQ rows w)) H Q
section
variable {C : Addr} {K : PySem.W.Frag} {ta tb : TE} {σ : L2.St} {H : Hp} {E : XK} {rows : List (List Rat)}
theorem evp_matrix (ha : EvP ta σ H (LLAt rows)) (h1 : rows.length ≤ 10000) (h2 : ∀ r ∈ rows, r.length ≤ 10000 ∧ ∀ q ∈ r, q.den < 2 ^ 900000) : EvP (tCall (spMatrix C) [] E (tCons ta tNil)) σ H (MatAt C rows) :=
  evp_call1 ha fun v H1 _ r Q2 E2 k2 => ⟨v, rows, rfl, r, h1, h2, k2⟩
theorem ev_mis (ha : EvP ta σ H (MatAt C rows)) (hb : EvP tb σ H (LLAt rows)) (h1 : rows.length ≤ 10000) (h2 : ∀ r ∈ rows, r.length ≤ 10000) : Ev (tCall (spMatIs C) [] E (tCons ta (tCons tb tNil))) σ H (.bl true) :=
  ev_of (evp_call2 mono_mat ha hb fun v u H1 _ r1 r2 Q2 E2 k2 => ⟨v, u, rows, rfl, r1, r2, h1, h2, fun H4 e4 => k2 _ _ e4 rfl⟩)
theorem evp_turned {w : Nat} (ha : EvP ta σ H (LLAt rows)) (hb : Ev tb σ H (.int (w : Int))) (hw : Wide w rows) (h1 : rows.length ≤ 10000) (h2 : w ≤ 10000) : EvP (tCall spTurned [] E (tCons ta (tCons tb tNil))) σ H (LLAt (transQ rows w)) :=
  evp_call2 mono_ll ha (evp_of hb) fun v u H1 _ r1 eu Q2 E2 k2 => by subst eu; exact ⟨v, rows, w, rfl, r1, hw, h1, h2, k2⟩
end
end Pn

namespace Pn
open PySem L2 Evl
/-- two matrices of one shape, compared -/
theorem mat_dt {C : Addr} {H : Hp} {a b : List (List Rat)} {x y : V} (hx : MatAt C a x H) (hy : MatAt C b y H) (hl : a.length = b.length) (hw : ∀ (i : Nat) p q, a[i]? = some p → b[i]? = some q → p.length = q.length) : DT (DT (DR C)) x y (decide (a = b)) H := by
  obtain ⟨p, xs, rfl, h1, A1⟩ := hx
  obtain ⟨q, ys, rfl, h2, A2⟩ := hy
  refine ⟨p, q, xs, ys, fun i => decide (a.getD i [] = b.getD i []), rfl, rfl, h1, h2, by rw [A1.1, A2.1]; exact hl, fun i x y g1 g2 => ?_, ?_, fun e => ?_⟩
  · obtain ⟨s, hs, rs⟩ := A1.getV g1
    obtain ⟨t, ht, rt⟩ := A2.getV g2
    have z := vec_dt rs rt (hw i s t hs ht)
    dsimp only
    rw [List.getD_eq_getElem?_getD, List.getD_eq_getElem?_getD, hs, ht]
    exact z
  · rw [decide_eq_true_iff, A1.1]
    constructor
    · intro e i _
      rw [e]
      simp
    · intro h
      refine List.ext_getElem? fun i => ?_
      by_cases hi : i < a.length
      · have := of_decide_eq_true (h i hi)
        rw [getD_get (d := []) hi, getD_get (d := []) (hl ▸ hi), this]
      · rw [List.getElem?_eq_none (by omega), List.getElem?_eq_none (by omega)]
  · subst e
    rw [h1] at h2
    injection h2 with h2
    injection h2 with h2
    subst h2
    rw [decide_eq_true_iff]
    refine List.ext_getElem? fun i => ?_
    by_cases hi : i < a.length
    · obtain ⟨v, hv, r1⟩ := A1.get (List.getElem?_eq_getElem hi)
      obtain ⟨u, hu, r2⟩ := A2.get (List.getElem?_eq_getElem (hl ▸ hi))
      rw [hv] at hu
      cases hu
      have z := vec_dt r1 r2 (hw i _ _ (List.getElem?_eq_getElem hi) (List.getElem?_eq_getElem (hl ▸ hi)))
      obtain ⟨a', c', _, _, _, e1, e2, _, _, _, _, _, hr⟩ := z
      rw [e1] at e2
      injection e2 with e2
      rw [List.getElem?_eq_getElem hi, List.getElem?_eq_getElem (hl ▸ hi), of_decide_eq_true (hr e2)]
    · rw [List.getElem?_eq_none (by omega), List.getElem?_eq_none (by omega)]
/-- == of two pairs -/
theorem op_eqDK {X : Cx} {K : PySem.W.Frag} (hK : X.K = K) (hu : X.A.units + 64 < cLine) : OpR X (compareOp .Eq) (rEqD K) := by
  subst hK
  exact op_eqD hu
theorem eqv_pair (a b c d : Int) : PyData.eqv (.tuple [.int a, .int b]) (.tuple [.int c, .int d]) = decide (a = c ∧ b = d) := by
  simp only [PyData.eqv, PyData.eqvAll]
  by_cases h1 : a = c <;> by_cases h2 : b = d <;> simp [h1, h2]
theorem rat_eq_dec (p q : Rat) : decide (p.num = q.num ∧ (p.den : Int) = (q.den : Int)) = decide (p = q) := by
  refine decide_eq_decide.mpr ⟨fun ⟨h1, h2⟩ => Rat.ext h1 (by omega), fun h => by rw [h]; exact ⟨rfl, rfl⟩⟩
section
variable {K : PySem.W.Frag} {σ : L2.St} {H : Hp} {ta tb : TE} {p q : Rat}
theorem ev_pairEq (ha : EvP ta σ H (fun v H => PrAt H v p)) (hb : EvP tb σ H (fun v H => PrAt H v q)) : Ev (tOp (rEqD K) ta tb) σ H (.bl (decide (p = q))) := fun H1 e Q k =>
  ha H1 e _ fun v H2 e2 ⟨a, ev, h1⟩ => hb H2 (e.trans e2) _ fun w H3 e3 ⟨b, ew, h2⟩ => by
    subst ev ew
    refine ⟨_, _, .tup (SqT.of (e3 _ _ h1)) (.cons (.int _) (.cons (.int _) .nil)), .tup (SqT.of h2) (.cons (.int _) (.cons (.int _) .nil)), rfl, rfl, ?_⟩
    rw [eqv_pair, rat_eq_dec]
    exact k _ (e2.trans e3)
theorem ev_cmpB {g : Bool → Bool} {S : Cmp} {b : Bool} {S1 S2 : V → Hp → Prop} (m : Mono S1) (ha : EvP ta σ H S1) (hb : EvP tb σ H S2) (hs : ∀ v w H1, Ex H H1 → S1 v H1 → S2 w H1 → S v w b H1) : Ev (tOp (rCmpB g S) ta tb) σ H (.bl (g b)) := fun H1 e Q k =>
  ha H1 e _ fun v H2 e2 hv => hb H2 (e.trans e2) _ fun w H3 e3 hw => ⟨b, hs v w H3 ((e.trans e2).trans e3) (m _ _ _ e3 hv) hw, fun H4 e4 => k _ ((e2.trans e3).trans e4)⟩
end
end Pn
namespace Pn
theorem sym_no {rows : List (List Rat)} {w : Nat} (hw : Wide w rows) (h : (rows.any fun r => !decide (r.length = rows.length)) = true) : (decide (rows.length = 0 ∨ w = rows.length) && decide (rows = transQ rows rows.length)) = false := by
  obtain ⟨r, hr, hb⟩ := List.any_eq_true.mp h
  have h1 : r.length ≠ rows.length := by simpa using hb
  have h2 : rows.length ≠ 0 := fun e => by
    rw [List.length_eq_zero_iff] at e
    subst e
    cases hr
  rw [hw r hr] at h1
  rw [decide_eq_false (by intro h; rcases h with h | h; exact h2 h; exact h1 h)]
  rfl
theorem sym_yes {rows : List (List Rat)} {w : Nat} (hw : Wide w rows) (h : (rows.any fun r => !decide (r.length = rows.length)) = false) : (decide (rows.length = 0 ∨ w = rows.length) && decide (rows = transQ rows rows.length)) = decide (rows = transQ rows rows.length) ∧ Wide rows.length rows := by
  have hall : ∀ r ∈ rows, r.length = rows.length := fun r hr => by
    have := List.any_eq_false.mp h r hr
    simpa using this
  refine ⟨?_, hall⟩
  cases rows with
  | nil => rfl
  | cons r rs =>
    have : w = (r :: rs).length := by rw [← hw r List.mem_cons_self, hall r List.mem_cons_self]
    rw [decide_eq_true (.inr this)]
    rfl
end Pn
namespace Pn
open PySem L2 Evl
def spSquare : Sp := fun vs H Q _ => ∃ (st : Addr × Addr) (c n : Nat), vs = [.ref st.1, .int (n : Int)] ∧ StAt st c H ∧ n ≤ 100 ∧ c + (4 * n + 1) * n + 10 < cMax ∧
  ∀ T vr rows H', rows.length = n → Wide n rows → AllM 40 rows → H' T = some (.tup [vr, .bl (decide (rows = transQ rows n))]) → LLAt rows vr H' → FrS st H H' → Q (.ref T) H'
end Pn

namespace Pn
def at2 (M : List (List Rat)) (k j : Nat) : Rat := (M.getD k []).getD j 0
theorem getD_map_range {α : Type} {n k : Nat} {f : Nat → α} {d : α} (h : k < n) : ((List.range n).map f).getD k d = f k := by
  rw [List.getD_eq_getElem?_getD, List.getElem?_map, List.getElem?_range h]
  rfl
theorem at2_fun {n w k j : Nat} {f : Nat → Nat → Rat} (hk : k < n) (hj : j < w) : at2 ((List.range n).map fun k => (List.range w).map fun j => f k j) k j = f k j := by
  unfold at2
  rw [getD_map_range hk, getD_map_range hj]
theorem getD_wide {M : List (List Rat)} {w k : Nat} (hw : Wide w M) (hk : k < M.length) : (M.getD k []).length = w := hw _ (List.mem_of_getElem? (getD_get hk))
theorem mat_ext {A B : List (List Rat)} {w : Nat} (hl : A.length = B.length) (hA : Wide w A) (hB : Wide w B) (h : ∀ i j, i < A.length → j < w → at2 A i j = at2 B i j) : A = B := by
  refine List.ext_getElem? fun i => ?_
  by_cases hi : i < A.length
  · rw [getD_get (d := []) hi, getD_get (d := []) (hl ▸ hi)]
    congr 1
    refine List.ext_getElem? fun j => ?_
    have l1 := getD_wide hA hi
    have l2 := getD_wide hB (k := i) (hl ▸ hi)
    by_cases hj : j < w
    · rw [getD_get (d := 0) (by rw [l1]; exact hj), getD_get (d := 0) (by rw [l2]; exact hj)]
      exact congrArg some (h i j hi hj)
    · rw [List.getElem?_eq_none (by rw [l1]; omega), List.getElem?_eq_none (by rw [l2]; omega)]
  · rw [List.getElem?_eq_none (by omega), List.getElem?_eq_none (by omega)]
theorem getD_map' {α β : Type} {f : α → β} {xs : List α} {i : Nat} {d : β} {e : α} (h : i < xs.length) : (xs.map f).getD i d = f (xs.getD i e) := by
  rw [List.getD_eq_getElem?_getD, List.getElem?_map, getD_get (d := e) h]
  rfl
theorem at2_trans {M : List (List Rat)} {w i j : Nat} (hi : i < w) (hj : j < M.length) : at2 (transQ M w) i j = at2 M j i := by
  unfold at2 transQ
  rw [getD_map_range hi, getD_map' (e := []) hj]
theorem sym_iff {M : List (List Rat)} {n : Nat} (hl : M.length = n) (hw : Wide n M) : M = transQ M n ↔ ∀ i j, i < n → j < n → at2 M i j = at2 M j i := by
  constructor
  · intro h i j hi hj
    have e := at2_trans (M := M) (w := n) (i := i) (j := j) hi (by omega)
    rw [← h] at e
    exact e
  · intro h
    refine mat_ext (w := n) (by rw [transQ_len]; exact hl) hw (by have := transQ_wide (rows := M) (w := n); rw [hl] at this; exact this) fun i j hi hj => ?_
    rw [at2_trans (by omega) (by omega)]
    exact h i j (by omega) hj
def symQ (n : Nat) (M : List (List Rat)) : List (List Rat) := (List.range n).map fun k => (List.range n).map fun j => if j < k then at2 M j k else at2 M k j
theorem symQ_len (n : Nat) (M : List (List Rat)) : (symQ n M).length = n := by unfold symQ; rw [List.length_map, List.length_range]
theorem symQ_wide (n : Nat) (M : List (List Rat)) : Wide n (symQ n M) := fun r hr => by
  unfold symQ at hr
  obtain ⟨k, _, rfl⟩ := List.mem_map.mp hr
  rw [List.length_map, List.length_range]
theorem at2_sm {M : List (List Rat)} {n m k j : Nat} (h : AllM m M) (hl : M.length = n) (hw : Wide n M) (hk : k < n) (hj : j < n) : SmB m (at2 M k j) := by
  have g := getD_get (xs := M) (d := []) (i := k) (by omega)
  have r := List.mem_of_getElem? g
  exact h _ r _ (List.mem_of_getElem? (getD_get (by rw [hw _ r]; exact hj)))
theorem symQ_sm {M : List (List Rat)} {n m : Nat} (h : AllM m M) (hl : M.length = n) (hw : Wide n M) : AllM m (symQ n M) := fun r hr q hq => by
  unfold symQ at hr
  obtain ⟨k, hk, rfl⟩ := List.mem_map.mp hr
  obtain ⟨j, hj, rfl⟩ := List.mem_map.mp hq
  rw [List.mem_range] at hk hj
  split
  · exact at2_sm h hl hw hj hk
  · exact at2_sm h hl hw hk hj
theorem symQ_sym (n : Nat) (M : List (List Rat)) : symQ n M = transQ (symQ n M) n := by
  refine (sym_iff (symQ_len n M) (symQ_wide n M)).mpr fun i j hi hj => ?_
  unfold symQ
  rw [at2_fun hi hj, at2_fun hj hi]
  by_cases h1 : j < i
  · rw [if_pos h1, if_neg (by omega)]
  · by_cases h2 : i < j
    · rw [if_neg h1, if_pos h2]
    · have : i = j := by omega
      subst this
      rfl
def set2 (M : List (List Rat)) (j k : Nat) (q : Rat) : List (List Rat) := M.set j ((M.getD j []).set k q)
theorem set2_len (M : List (List Rat)) (j k : Nat) (q : Rat) : (set2 M j k q).length = M.length := by unfold set2; rw [List.length_set]
theorem set2_mem {M : List (List Rat)} {j k : Nat} {q : Rat} {r : List Rat} (h : r ∈ set2 M j k q) (hj : j < M.length) : r ∈ M ∨ r = (M.getD j []).set k q := List.mem_or_eq_of_mem_set h
theorem set2_wide {M : List (List Rat)} {n j k : Nat} {q : Rat} (hw : Wide n M) (hj : j < M.length) : Wide n (set2 M j k q) := fun r hr => by
  rcases set2_mem hr hj with h | h
  · exact hw r h
  · rw [h, List.length_set]
    exact getD_wide hw hj
theorem set2_sm {M : List (List Rat)} {m j k : Nat} {q : Rat} (h : AllM m M) (hq : SmB m q) (hj : j < M.length) : AllM m (set2 M j k q) := fun r hr x hx => by
  rcases set2_mem hr hj with e | e
  · exact h r e x hx
  · subst e
    rcases List.mem_or_eq_of_mem_set hx with e | e
    · exact h _ (List.mem_of_getElem? (getD_get hj)) x e
    · exact e ▸ hq
theorem getD_set {α : Type} {xs : List α} {i j : Nat} {x d : α} (h : i < xs.length) : (xs.set i x).getD j d = if j = i then x else xs.getD j d := by
  rw [List.getD_eq_getElem?_getD, List.getD_eq_getElem?_getD, List.getElem?_set]
  by_cases e : i = j
  · subst e
    rw [if_pos rfl, if_pos h, if_pos rfl]
    rfl
  · rw [if_neg e, if_neg (fun z => e z.symm)]
theorem at2_set2 {M : List (List Rat)} {n j k a b : Nat} {q : Rat} (hw : Wide n M) (hj : j < M.length) (hk : k < n) : at2 (set2 M j k q) a b = if a = j ∧ b = k then q else at2 M a b := by
  unfold at2 set2
  rw [getD_set hj]
  by_cases e : a = j
  · subst e
    rw [if_pos rfl, getD_set (by rw [getD_wide hw hj]; exact hk)]
    by_cases e2 : b = k
    · rw [if_pos e2, if_pos ⟨rfl, e2⟩]
    · rw [if_neg e2, if_neg (fun z => e2 z.2)]
  · rw [if_neg e, if_neg (fun z => e z.1)]
theorem due_ok {M : List (List Rat)} {n j k : Nat} {q : Rat} (hl : M.length = n) (hw : Wide n M) (hs : M = transQ M n) (hj : j < n) (hk : k < n) (hjk : j ≠ k) :
    decide (at2 (set2 M j k q) j k = at2 (set2 M j k q) k j) = decide (set2 M j k q = transQ (set2 M j k q) n) := by
  refine decide_eq_decide.mpr ?_
  rw [sym_iff (by rw [set2_len]; exact hl) (set2_wide hw (by omega))]
  have s := (sym_iff hl hw).mp hs
  constructor
  · intro h a b ha hb
    rw [at2_set2 hw (by omega) hk, at2_set2 hw (by omega) hk, if_pos ⟨rfl, rfl⟩, if_neg (fun z => hjk z.2)] at h
    rw [at2_set2 hw (by omega) hk, at2_set2 hw (by omega) hk]
    by_cases h1 : a = j ∧ b = k
    · obtain ⟨rfl, rfl⟩ := h1
      rw [if_pos ⟨rfl, rfl⟩, if_neg (fun z => hjk z.2)]
      exact h
    · rw [if_neg h1]
      by_cases h2 : b = j ∧ a = k
      · obtain ⟨rfl, rfl⟩ := h2
        rw [if_pos ⟨rfl, rfl⟩]
        exact h.symm
      · rw [if_neg h2]
        exact s a b ha hb
  · intro h
    exact h j k hj hk
end Pn
namespace Pn
open PySem L2 Evl
/-- a list of rows of pairs, each row at a place of its own -/
def SqZ (st : Addr × Addr) (p : Addr) (zs : List V) (M : List (List Rat)) (H : Hp) : Prop := H p = some (.lst zs) ∧ zs.length = M.length ∧ p ≠ st.1 ∧
  (∀ (i : Nat) y, zs[i]? = some y → ∃ r q vs, M[i]? = some r ∧ y = .ref q ∧ q ≠ st.1 ∧ q ≠ p ∧ H q = some (.lst vs) ∧ AllR RP r vs H) ∧ ∀ (i j : Nat) y, zs[i]? = some y → zs[j]? = some y → i = j
theorem SqZ.frS {st : Addr × Addr} {p : Addr} {zs : List V} {M : List (List Rat)} {c : Nat} {H H' : Hp} (h : SqZ st p zs M H) (s : StAt st c H) (f : FrS st H H') : SqZ st p zs M H' := by
  obtain ⟨h1, h2, h3, h4, h5⟩ := h
  refine ⟨f _ _ h3 h1, h2, h3, fun i y hy => ?_, h5⟩
  obtain ⟨r, q, vs, g1, g2, g3, g4, g5, g6⟩ := h4 i y hy
  exact ⟨r, q, vs, g1, g2, g3, g4, f _ _ g3 g5, g6.kept (B := Bs st) kept_rp (fun b hb => by obtain ⟨items, n, h1, _⟩ := s; exact ⟨_, by rw [hb]; exact h1⟩) (fun a o n ha => f a o n ha)⟩
theorem SqZ.lst {st : Addr × Addr} {p : Addr} {zs : List V} {M : List (List Rat)} {H : Hp} (h : SqZ st p zs M H) : LLAt M (.ref p) H := by
  obtain ⟨h1, h2, h3, h4, h5⟩ := h
  refine ⟨p, zs, rfl, h1, h2, fun i x v hx hv => ?_⟩
  obtain ⟨r, q, vs, g1, g2, g3, g4, g5, g6⟩ := h4 i v hv
  rw [hx] at g1
  cases g1
  exact ⟨q, vs, g2, g5, g6⟩
theorem allR_set {r : List Rat} {vs : List V} {H : Hp} {k : Nat} {x : Rat} {v : V} (h : AllR RP r vs H) (hv : PrAt H v x) : AllR RP (r.set k x) (vs.set k v) H := by
  refine ⟨by rw [List.length_set, List.length_set]; exact h.1, fun i a b ha hb => ?_⟩
  rw [List.getElem?_set] at ha hb
  by_cases e : k = i
  · subst e
    rw [if_pos rfl] at ha hb
    split at ha
    · split at hb
      · cases ha
        cases hb
        exact hv
      · cases hb
    · cases ha
  · rw [if_neg e] at ha hb
    exact h.2 i a b ha hb
theorem SqZ.set {st : Addr × Addr} {p q : Addr} {zs vs : List V} {M : List (List Rat)} {H : Hp} {j k : Nat} {v : V} {x : Rat} (h : SqZ st p zs M H) (hj : zs[j]? = some (.ref q)) (hq : H q = some (.lst vs)) (hv : PrAt H v x) : SqZ st p zs (set2 M j k x) (upd H q (.lst (vs.set k v))) := by
  obtain ⟨h1, h2, h3, h4, h5⟩ := h
  obtain ⟨r, q', vs', g1, g2, g3, g4, g5, g6⟩ := h4 j _ hj
  cases g2
  rw [hq] at g5
  injection g5 with g5
  injection g5 with g5
  subst g5
  have hjl : j < M.length := (List.getElem?_eq_some_iff.mp g1).1
  have gr : M.getD j [] = r := by
    rw [getD_get (d := []) hjl] at g1
    exact Option.some.inj g1
  have kp : ∀ r vs1, AllR RP r vs1 H → AllR RP r vs1 (upd H q (.lst (vs.set k v))) := fun r vs1 a => a.kept (B := fun x => x = q) kept_rp (fun b hb => ⟨vs, by rw [hb]; exact hq⟩) (fun a o n ha => (upd_ne n).trans ha)
  refine ⟨(upd_ne (fun e => g4 e.symm)).trans h1, by rw [set2_len]; exact h2, h3, fun i y hy => ?_, h5⟩
  by_cases e : i = j
  · subst e
    rw [hj] at hy
    cases hy
    refine ⟨r.set k x, q, vs.set k v, ?_, rfl, g3, g4, upd_same, kp _ _ (allR_set g6 hv)⟩
    unfold set2
    rw [List.getElem?_set_self hjl, gr]
  · obtain ⟨r2, q2, vs2, a1, a2, a3, a4, a5, a6⟩ := h4 i y hy
    have nq : q2 ≠ q := fun z => e (h5 i j (.ref q) (by rw [hy, a2, z]) hj)
    refine ⟨r2, q2, vs2, ?_, a2, a3, a4, (upd_ne nq).trans a5, kp _ _ a6⟩
    unfold set2
    rw [List.getElem?_set_ne (fun z => e z.symm)]
    exact a1
end Pn
namespace Pn
theorem other_ix {n j k : Nat} {t : Int} (hn : 1 < n) (hj : j < n) (t0 : 0 ≤ t) (t1 : t < (n : Int) - 1) (h : ((j : Int) + 1 + t) % (n : Int) = (k : Int)) : k < n ∧ j ≠ k := by
  have h1 := Int.emod_lt_of_pos ((j : Int) + 1 + t) (b := (n : Int)) (by omega)
  refine ⟨by omega, fun e => ?_⟩
  subst e
  by_cases hh : (j : Int) + 1 + t < n
  · rw [Int.emod_eq_of_lt (by omega) hh] at h
    omega
  · have e2 : ((j : Int) + 1 + t) % (n : Int) = (j : Int) + 1 + t - n := by
      rw [← Int.sub_emod_right, Int.emod_eq_of_lt (by omega) (by omega)]
    omega
end Pn

namespace Pn
/-! determinants of rows that are functions of the column, newest row first -/
abbrev Rw := Nat → Rat
abbrev Fm := List Nat → Rat
def ext (r : Rw) (f : Fm) : List Nat → Rat
  | [] => 0
  | c :: cs => r c * f cs - ext r (fun t => f (c :: t)) cs
termination_by cs => cs.length
theorem ext_nil (r : Rw) (f : Fm) : ext r f [] = 0 := by unfold ext; rfl
theorem ext_cons (r : Rw) (f : Fm) (c : Nat) (cs : List Nat) : ext r f (c :: cs) = r c * f cs - ext r (fun t => f (c :: t)) cs := by
  rw [ext]
theorem ext_lin (r : Rw) (a b : Rat) (f g : Fm) (cs : List Nat) : ext r (fun t => a * f t + b * g t) cs = a * ext r f cs + b * ext r g cs := by
  induction cs generalizing f g with
  | nil => simp only [ext_nil]; grind
  | cons c cs ih =>
    simp only [ext_cons]
    rw [ih (fun t => f (c :: t)) (fun t => g (c :: t))]
    grind
theorem ext_row (r s : Rw) (a b : Rat) (f : Fm) (cs : List Nat) : ext (fun k => a * r k + b * s k) f cs = a * ext r f cs + b * ext s f cs := by
  induction cs generalizing f with
  | nil => simp only [ext_nil]; grind
  | cons c cs ih =>
    simp only [ext_cons]
    rw [ih (fun t => f (c :: t))]
    grind
theorem ext_zero (r : Rw) (cs : List Nat) : ext r (fun _ => 0) cs = 0 := by
  induction cs with
  | nil => exact ext_nil _ _
  | cons c cs ih =>
    rw [ext_cons, ih]
    grind
theorem ext_smul (r : Rw) (a : Rat) (f : Fm) (cs : List Nat) : ext r (fun t => a * f t) cs = a * ext r f cs := by
  have h := ext_lin r a 0 f (fun _ => 0) cs
  have e : (fun t => a * f t + 0 * (0 : Rat)) = fun t => a * f t := by funext t; grind
  rw [e] at h
  rw [h]
  grind
theorem ext_rsmul (r : Rw) (a : Rat) (f : Fm) (cs : List Nat) : ext (fun k => a * r k) f cs = a * ext r f cs := by
  have h := ext_row r r a 0 f cs
  have e : (fun k => a * r k + 0 * r k) = fun k => a * r k := by funext t; grind
  rw [e] at h
  rw [h]
  grind
theorem ext_anti (r s : Rw) (f : Fm) (cs : List Nat) : ext r (ext s f) cs = - ext s (ext r f) cs := by
  induction cs generalizing f with
  | nil => simp only [ext_nil]; grind
  | cons c cs ih =>
    have key : ∀ (r s : Rw), ext r (ext s f) (c :: cs) = r c * ext s f cs - s c * ext r f cs + ext r (ext s (fun t => f (c :: t))) cs := fun r s => by
      rw [ext_cons]
      have e : (fun t => ext s f (c :: t)) = fun t => s c * f t + (-1) * ext s (fun t => f (c :: t)) t := by
        funext t
        rw [ext_cons]
        grind
      rw [e, ext_lin r (s c) (-1) f (ext s (fun t => f (c :: t))) cs]
      grind
    rw [key r s, key s r, ih (fun t => f (c :: t))]
    grind
theorem ext_self (r : Rw) (f : Fm) (cs : List Nat) : ext r (ext r f) cs = 0 := by
  have h := ext_anti r r f cs
  grind
def D : List Rw → Fm
  | [] => fun cs => match cs with | [] => 1 | _ :: _ => 0
  | r :: X => ext r (D X)
/-- multiples of the head may be put to the rows behind it -/
inductive Mult (n : Rw) : List Rw → List Rw → Prop
  | nil : Mult n [] []
  | cons {x x' : Rw} {X X' : List Rw} (t : Rat) (h : ∀ k, x' k = x k + t * n k) (hX : Mult n X X') : Mult n (x :: X) (x' :: X')
theorem ext_mult {n : Rw} {X X' : List Rw} (h : Mult n X X') : ext n (D X') = ext n (D X) := by
  induction h with
  | nil => rfl
  | @cons x x' X X' t h hX ih =>
    funext cs
    show ext n (ext x' (D X')) cs = ext n (ext x (D X)) cs
    have e : x' = fun k => 1 * x k + t * n k := by funext k; rw [h k]; grind
    rw [ext_anti n x', ih, e, ext_row, ext_self, ext_anti n x]
    grind
/-- rows that are all 0 at a column -/
theorem D_col {j : Nat} : ∀ {X : List Rw}, (∀ r ∈ X, r j = 0) → ∀ t, D X (j :: t) = 0
  | [], _, t => rfl
  | r :: X, h, t => by
    show ext r (D X) (j :: t) = 0
    rw [ext_cons, h r List.mem_cons_self]
    have e : (fun t => D X (j :: t)) = fun _ => 0 := funext fun t => D_col (fun s hs => h s (List.mem_cons_of_mem _ hs)) t
    rw [e, ext_zero]
    grind
theorem ext_van {r : Rw} {f : Fm} : ∀ {cs : List Nat}, (∀ k ∈ cs, r k = 0) → ext r f cs = 0
  | [], _ => ext_nil _ _
  | c :: cs, h => by
    rw [ext_cons, h c List.mem_cons_self, ext_van (fun k hk => h k (List.mem_cons_of_mem _ hk))]
    grind
def topF (F : Nat → Rw) : Nat → List Rw
  | 0 => []
  | n + 1 => F n :: topF F n
theorem topF_mem {F : Nat → Rw} {n : Nat} {r : Rw} (h : r ∈ topF F n) : ∃ a, a < n ∧ r = F a := by
  induction n with
  | zero => cases h
  | succ n ih =>
    cases h with
    | head => exact ⟨n, by omega, rfl⟩
    | tail _ h =>
      obtain ⟨a, ha, e⟩ := ih h
      exact ⟨a, by omega, e⟩
/-- what the rows are at the pivots, newest first -/
def Tri (F : Nat → Rw) : List Nat → Prop
  | [] => True
  | j :: d => F d.length j = 1 ∧ (∀ k ∈ d, F d.length k = 0) ∧ (∀ a, a < d.length → F a j = 0) ∧ Tri F d
theorem Tri.congr {F G : Nat → Rw} : ∀ {d : List Nat}, (∀ a, a < d.length → ∀ k ∈ d, G a k = F a k) → Tri F d → Tri G d
  | [], _, _ => True.intro
  | j :: d, h, ⟨h1, h2, h3, h4⟩ => by
    refine ⟨?_, fun k hk => ?_, fun a ha => ?_, Tri.congr (fun a ha k hk => h a (Nat.lt_succ_of_lt ha) k (List.mem_cons_of_mem _ hk)) h4⟩
    · rw [h _ (Nat.lt_succ_self _) _ List.mem_cons_self]; exact h1
    · rw [h _ (Nat.lt_succ_self _) _ (List.mem_cons_of_mem _ hk)]; exact h2 k hk
    · rw [h _ (Nat.lt_succ_of_lt ha) _ List.mem_cons_self]; exact h3 a ha
theorem Tri.one {F : Nat → Rw} : ∀ {d : List Nat}, Tri F d → D (topF F d.length) d = 1
  | [], _ => rfl
  | j :: d, ⟨h1, h2, h3, h4⟩ => by
    show ext (F d.length) (D (topF F d.length)) (j :: d) = 1
    rw [ext_cons, h1, h4.one, ext_van h2]
    grind
theorem Tri.at {F : Nat → Rw} (k : Nat) : ∀ {d : List Nat}, Tri F d → ∀ a, a < d.length → ∃ d' : List Nat, d'.length = d.length ∧ D (topF F d.length) d' = F a k
  | [], _, a, h => absurd h (Nat.not_lt_zero _)
  | j :: d, ⟨h1, h2, h3, h4⟩, a, h => by
    by_cases ha : a = d.length
    · subst ha
      refine ⟨k :: d, rfl, ?_⟩
      show ext (F d.length) (D (topF F d.length)) (k :: d) = _
      rw [ext_cons, h4.one, ext_van h2]
      grind
    · have h' : a < d.length := by rw [List.length_cons] at h; omega
      obtain ⟨d', l, e⟩ := h4.at k a h'
      refine ⟨j :: d', by rw [List.length_cons, List.length_cons, l], ?_⟩
      show ext (F d.length) (D (topF F d.length)) (j :: d') = _
      have z : (fun t => D (topF F d.length) (j :: t)) = fun _ => 0 := funext fun t => D_col (fun r hr => by
        obtain ⟨b, hb, er⟩ := topF_mem hr
        rw [er]
        exact h3 b hb) t
      rw [ext_cons, h1, e, z, ext_zero]
      grind
/-- whole numbers of at most 2 ^ n -/
def IntB (n : Nat) (q : Rat) : Prop := ∃ z : Int, q = (z : Rat) ∧ z.natAbs ≤ 2 ^ n
theorem ext_int {b m n : Nat} {r : Rw} {f : Fm} (hr : ∀ k, IntB b (r k)) : ∀ {cs : List Nat}, (∀ t : List Nat, t.length + 1 ≤ cs.length → IntB m (f t)) → ∃ z : Int, ext r f cs = (z : Rat) ∧ z.natAbs ≤ cs.length * 2 ^ (b + m)
  | [], _ => ⟨0, by rw [ext_nil]; rfl, by simp⟩
  | c :: cs, h => by
    obtain ⟨y, ey, hy⟩ := ext_int (n := n) hr (cs := cs) (f := fun t => f (c :: t)) fun t ht => h (c :: t) (by rw [List.length_cons, List.length_cons]; omega)
    obtain ⟨u, eu, hu⟩ := hr c
    obtain ⟨v, ev, hv⟩ := h cs (Nat.le_refl _)
    refine ⟨u * v - y, by rw [ext_cons, eu, ev, ey, Rat.intCast_sub, Rat.intCast_mul], ?_⟩
    have a1 : (u * v).natAbs ≤ 2 ^ (b + m) := by
      rw [Int.natAbs_mul, Nat.pow_add]
      exact Nat.mul_le_mul hu hv
    have a2 : (u * v - y).natAbs ≤ (u * v).natAbs + y.natAbs := by omega
    rw [List.length_cons, Nat.add_mul]
    omega
theorem D_int {b : Nat} : ∀ {X : List Rw}, (∀ r ∈ X, ∀ k, IntB b (r k)) → ∀ t : List Nat, t.length ≤ 32 → IntB ((b + 5) * X.length) (D X t)
  | [], _, [], _ => ⟨1, rfl, by simp⟩
  | [], _, _ :: _, _ => ⟨0, rfl, by simp⟩
  | r :: X, h, t, ht => by
    obtain ⟨z, ez, hz⟩ := ext_int (n := 0) (h r List.mem_cons_self) (cs := t) (f := D X) fun s hs => D_int (fun s hs => h s (List.mem_cons_of_mem _ hs)) s (by omega)
    refine ⟨z, ez, Nat.le_trans hz ?_⟩
    have e : (b + 5) * (r :: X).length = 5 + (b + (b + 5) * X.length) := by rw [List.length_cons, Nat.mul_add]; omega
    have e2 : 2 ^ (5 + (b + (b + 5) * X.length)) = 32 * 2 ^ (b + (b + 5) * X.length) := by rw [Nat.pow_add]
    rw [e, e2]
    exact Nat.mul_le_mul_right _ ht
end Pn

namespace Pn
/-! elimination, by the entries -/
/-- the row that stands at i when rows l and a are exchanged -/
def sw (l a i : Nat) : Nat := if i = l then a else if i = a then l else i
/-- one step: the row a, divided by its number at column j, comes to l, and is taken from all others -/
def stepF (F : Nat → Rw) (l a j : Nat) : Nat → Rw := fun i k => if i = l then F a k / F a j else F (sw l a i) k - F (sw l a i) j * (F a k / F a j)
theorem sw_l (l a : Nat) : sw l a l = a := by unfold sw; rw [if_pos rfl]
theorem sw_lt {l a b : Nat} (h : b < l) (h2 : l ≤ a) : sw l a b = b := by unfold sw; rw [if_neg (by omega), if_neg (by omega)]
theorem sw_ge {l a i h : Nat} (h1 : l < i) (h2 : l ≤ a) (h3 : a < h) (h4 : i < h) : l ≤ sw l a i ∧ sw l a i < h := by
  unfold sw
  rw [if_neg (by omega)]
  split
  · omega
  · omega
/-- the state behind the pivots d, newest first -/
structure GI (h : Nat) (F : Nat → Rw) (d : List Nat) (P : Nat → Rw) (τ ρ : Rat) : Prop where
  tri : Tri F d
  low : ∀ i, d.length ≤ i → i < h → ∀ k ∈ d, F i k = 0
  s1 : ∀ cs, D (topF F d.length) cs = τ * D (topF P d.length) cs
  s2 : ∀ i, d.length ≤ i → i < h → ∀ cs, ρ * ext (F i) (D (topF F d.length)) cs = τ * ext (P i) (D (topF P d.length)) cs
theorem topF_congr {F G : Nat → Rw} {n : Nat} (h : ∀ a, a < n → G a = F a) : topF G n = topF F n := by
  induction n with
  | zero => rfl
  | succ n ih =>
    show G n :: topF G n = F n :: topF F n
    rw [h n (Nat.lt_succ_self n), ih fun a ha => h a (Nat.lt_succ_of_lt ha)]
theorem mult_top {F G : Nat → Rw} {n : Rw} : ∀ {m : Nat}, (∀ a, a < m → ∃ t : Rat, ∀ k, G a k = F a k + t * n k) → Mult n (topF F m) (topF G m)
  | 0, _ => .nil
  | m + 1, h => by
    obtain ⟨t, ht⟩ := h m (Nat.lt_succ_self m)
    exact .cons t ht (mult_top fun a ha => h a (Nat.lt_succ_of_lt ha))
theorem GI.tau {h : Nat} {F P : Nat → Rw} {d : List Nat} {τ ρ : Rat} (g : GI h F d P τ ρ) : τ * D (topF P d.length) d = 1 := by
  rw [← g.s1 d]
  exact g.tri.one
theorem step_l {F : Nat → Rw} {l a j k : Nat} : stepF F l a j l k = F a k / F a j := by unfold stepF; rw [if_pos rfl]
theorem step_o {F : Nat → Rw} {l a j i k : Nat} (h : i ≠ l) : stepF F l a j i k = F (sw l a i) k - F (sw l a i) j * (F a k / F a j) := by unfold stepF; rw [if_neg h]
theorem div_self' {x : Rat} (h : x ≠ 0) : x / x = 1 := by rw [Rat.div_def]; exact Rat.mul_inv_cancel _ h
theorem step_j {F : Nat → Rw} {l a j i : Nat} (h : i ≠ l) (hx : F a j ≠ 0) : stepF F l a j i j = 0 := by
  rw [step_o h, div_self' hx]
  grind
theorem GI.step {h : Nat} {F P : Nat → Rw} {d : List Nat} {τ ρ : Rat} {a j : Nat} (g : GI h F d P τ ρ) (hρ : ρ ≠ 0) (h1 : d.length ≤ a) (h2 : a < h) (hx : F a j ≠ 0) :
    GI h (stepF F d.length a j) (j :: d) (fun i => P (sw d.length a i)) (τ / (F a j * ρ)) ρ := by
  have htau : τ ≠ 0 := fun e => by
    have z := g.tau
    rw [e, Rat.zero_mul] at z
    exact absurd z (by decide)
  have lowa : ∀ k ∈ d, F a k = 0 := g.low a h1 h2
  have old : ∀ b, b < d.length → ∀ k ∈ d, stepF F d.length a j b k = F b k := fun b hb k hk => by
    rw [step_o (by omega), sw_lt hb h1, lowa k hk, Rat.div_def]
    grind
  have vd : ∀ k ∈ d, ∀ x : Rat, F a k / x = 0 := fun k hk x => by rw [lowa k hk, Rat.div_def, Rat.zero_mul]
  have nl : stepF F d.length a j d.length = fun k => (1 / F a j) * F a k := by
    funext k
    rw [step_l, Rat.div_def, Rat.div_def, Rat.one_mul, Rat.mul_comm]
  have eP : topF (fun i => P (sw d.length a i)) d.length = topF P d.length := topF_congr fun b hb => by rw [sw_lt hb h1]
  have eA : ext (stepF F d.length a j d.length) (D (topF (stepF F d.length a j) d.length)) = ext (stepF F d.length a j d.length) (D (topF F d.length)) := by
    refine ext_mult (mult_top fun b hb => ⟨-(F b j), fun k => ?_⟩)
    rw [step_o (by omega), sw_lt hb h1, step_l]
    grind
  have s1' : ∀ cs, ext (stepF F d.length a j d.length) (D (topF F d.length)) cs = (τ / (F a j * ρ)) * ext (P a) (D (topF P d.length)) cs := fun cs => by
    have z := g.s2 a h1 h2 cs
    rw [nl, ext_rsmul]
    have e1 : 1 / F a j * (ρ⁻¹ * (ρ * ext (F a) (D (topF F d.length)) cs)) = 1 / F a j * ext (F a) (D (topF F d.length)) cs := by
      rw [← Rat.mul_assoc ρ⁻¹, Rat.inv_mul_cancel _ hρ, Rat.one_mul]
    rw [← e1, z, Rat.div_def, Rat.div_def, Rat.inv_mul_rev]
    grind
  refine ⟨⟨?_, fun k hk => ?_, fun b hb => step_j (by omega) hx, Tri.congr old g.tri⟩, fun i hi hih k hk => ?_, fun cs => ?_, fun i hi hih cs => ?_⟩
  · rw [step_l, div_self' hx]
  · rw [step_l]; exact vd k hk _
  · rw [List.length_cons] at hi
    obtain ⟨s3, s4⟩ := sw_ge (l := d.length) (a := a) (i := i) (by omega) h1 h2 hih
    rcases List.mem_cons.mp hk with e | hk
    · subst e
      exact step_j (by omega) hx
    · rw [step_o (by omega), g.low _ s3 s4 k hk, vd k hk]
      grind
  · show ext (stepF F d.length a j d.length) (D (topF (stepF F d.length a j) d.length)) cs = _ * ext (P (sw d.length a d.length)) (D (topF (fun i => P (sw d.length a i)) d.length)) cs
    rw [eP, sw_l, eA]
    exact s1' cs
  · rw [List.length_cons] at hi
    obtain ⟨s3, s4⟩ := sw_ge (l := d.length) (a := a) (i := i) (by omega) h1 h2 hih
    show ρ * ext (stepF F d.length a j i) (ext (stepF F d.length a j d.length) (D (topF (stepF F d.length a j) d.length))) cs = _ * ext (P (sw d.length a i)) (ext (P (sw d.length a d.length)) (D (topF (fun i => P (sw d.length a i)) d.length))) cs
    rw [eP, sw_l, eA]
    have er : stepF F d.length a j i = fun k => 1 * F (sw d.length a i) k + (-(F (sw d.length a i) j)) * stepF F d.length a j d.length k := by
      funext k
      rw [step_o (by omega), step_l]
      grind
    rw [er, ext_row, ext_self, ext_anti]
    have e2 : ext (F (sw d.length a i)) (D (topF F d.length)) = fun t => (τ * ρ⁻¹) * ext (P (sw d.length a i)) (D (topF P d.length)) t := by
      funext t
      have z := g.s2 _ s3 s4 t
      have e1 : ρ⁻¹ * (ρ * ext (F (sw d.length a i)) (D (topF F d.length)) t) = ext (F (sw d.length a i)) (D (topF F d.length)) t := by
        rw [← Rat.mul_assoc, Rat.inv_mul_cancel _ hρ, Rat.one_mul]
      rw [← e1, z]
      grind
    have e3 : D (topF P d.length) = fun t => τ⁻¹ * D (topF F d.length) t := by
      funext t
      rw [g.s1 t, ← Rat.mul_assoc, Rat.inv_mul_cancel _ htau, Rat.one_mul]
    have e4 : ext (stepF F d.length a j d.length) (D (topF P d.length)) = fun t => (τ⁻¹ * (τ / (F a j * ρ))) * ext (P a) (D (topF P d.length)) t := by
      funext t
      rw [e3, ext_smul, s1' t, e3]
      grind
    rw [e2, ext_smul, ext_anti, e4, ext_smul]
    have c1 : ρ * ρ⁻¹ = 1 := Rat.mul_inv_cancel _ hρ
    have c2 : τ * τ⁻¹ = 1 := Rat.mul_inv_cancel _ htau
    grind
/-! sizes -/
theorem sm_of_frac {m n : Nat} {q : Rat} {y z : Int} (h : q * (z : Rat) = (y : Rat)) (hz : z ≠ 0) (h1 : y.natAbs < 2 ^ n) (h2 : z.natAbs < 2 ^ n) : SmB n q := by
  have zz : (z : Rat) ≠ 0 := by exact_mod_cast hz
  have e : q = Rat.divInt y z := by
    rw [Rat.divInt_eq_div, ← h, Rat.div_def, Rat.mul_assoc, Rat.mul_inv_cancel _ zz, Rat.mul_one]
  rw [e]
  exact ⟨Nat.lt_of_le_of_lt (num_le _ _) h1, Nat.lt_of_le_of_lt (den_le _ _ hz) h2⟩
theorem GI.size {h b s : Nat} {F P : Nat → Rw} {d : List Nat} {τ : Rat} {ρ : Nat} (g : GI h F d P τ (ρ : Rat)) (hρ : 0 < ρ) (hs : ρ < 2 ^ s) (hd : d.length ≤ 31) (hP : ∀ i k, IntB b (P i k)) :
    (∀ i k, i < h → SmB ((b + 5) * (d.length + 1) + s + 1) (F i k)) ∧ ∀ i k, i < d.length → SmB ((b + 5) * d.length + 1) (F i k) := by
  have tl : ∀ n, (topF P n).length = n := fun n => by
    induction n with
    | zero => rfl
    | succ n ih => show (topF P n).length + 1 = n + 1; rw [ih]
  have tm : ∀ r ∈ topF P d.length, ∀ k, IntB b (r k) := fun r hr k => by
    obtain ⟨a, _, e⟩ := topF_mem hr
    rw [e]
    exact hP a k
  obtain ⟨z, ez, hz⟩ := D_int tm d (by omega)
  rw [tl] at hz
  have ht := g.tau
  rw [ez] at ht
  have z0 : z ≠ 0 := fun e => by
    rw [e] at ht
    exact absurd (ht.symm.trans (by show τ * 0 = 0; rw [Rat.mul_zero])) (by decide)
  have hzl : z.natAbs < 2 ^ ((b + 5) * d.length + 1) := Nat.lt_of_le_of_lt hz (Nat.pow_lt_pow_right (by decide) (by omega))
  have top : ∀ i k, i < d.length → SmB ((b + 5) * d.length + 1) (F i k) := fun i k hi => by
    obtain ⟨d', l, e⟩ := g.tri.at k i hi
    obtain ⟨y, ey, hy⟩ := D_int tm d' (by omega)
    rw [tl] at hy
    rw [g.s1, ey] at e
    refine sm_of_frac (m := 0) (y := y) (z := z) ?_ z0 (Nat.lt_of_le_of_lt hy (Nat.pow_lt_pow_right (by decide) (by omega))) hzl
    rw [← e]
    grind
  refine ⟨fun i k hi => ?_, top⟩
  by_cases hid : i < d.length
  · exact (top i k hid).mono (by rw [Nat.mul_add]; omega)
  · have hid := Nat.not_lt.mp hid
    have l := g.s2 i hid hi (k :: d)
    have ev : ext (F i) (D (topF F d.length)) (k :: d) = F i k := by
      rw [ext_cons, g.tri.one, ext_van (g.low i hid hi)]
      grind
    rw [ev] at l
    obtain ⟨y, ey, hy⟩ := D_int (X := P i :: topF P d.length) (b := b) (fun r hr k => by
      rcases List.mem_cons.mp hr with e | hr
      · rw [e]; exact hP i k
      · exact tm r hr k) (k :: d) (by rw [List.length_cons]; omega)
    rw [List.length_cons, tl] at hy
    have ey' : ext (P i) (D (topF P d.length)) (k :: d) = (y : Rat) := ey
    rw [ey'] at l
    refine sm_of_frac (m := 0) (y := y) (z := (ρ : Int) * z) ?_ (Int.mul_ne_zero (by omega) z0) (Nat.lt_of_le_of_lt hy (Nat.pow_lt_pow_right (by decide) (by omega))) ?_
    · rw [Rat.intCast_mul]
      have e3 : (((ρ : Nat) : Int) : Rat) = ((ρ : Nat) : Rat) := rfl
      rw [e3]
      grind
    · rw [Int.natAbs_mul, Int.natAbs_natCast]
      have e4 : 2 ^ ((b + 5) * (d.length + 1) + s + 1) = 2 ^ (s + ((b + 5) * d.length + 1)) * 2 ^ (b + 5) := by
        rw [← Nat.pow_add]
        congr 1
        rw [Nat.mul_add]
        omega
      have e5 : ρ * z.natAbs < 2 ^ (s + ((b + 5) * d.length + 1)) := by
        rw [Nat.pow_add]
        exact Nat.mul_lt_mul'' hs hzl
      rw [e4]
      exact Nat.lt_of_lt_of_le e5 (Nat.le_mul_of_pos_right _ (Nat.pow_pos (by decide)))
end Pn

namespace Pn
/-! ### elimination on lists -/
def firstQ (R : List (List Rat)) (s c : Nat) : Option Nat := (List.range R.length).find? fun k => decide (s ≤ k) && !decide (at2 R k c = 0)
theorem firstQ_some {R : List (List Rat)} {s c a : Nat} (h : firstQ R s c = some a) : s ≤ a ∧ a < R.length ∧ at2 R a c ≠ 0 ∧ ∀ k, s ≤ k → k < a → at2 R k c = 0 := by
  unfold firstQ at h
  obtain ⟨h1, as, bs, h2, h3⟩ := List.find?_eq_some_iff_append.mp h
  rw [Bool.and_eq_true] at h1
  have ha : a ∈ List.range R.length := by rw [h2]; simp
  have ea : as.length = a := by
    have g : (List.range R.length)[as.length]? = some a := by rw [h2]; simp
    exact (range_get g).1.symm
  refine ⟨of_decide_eq_true h1.1, List.mem_range.mp ha, by simpa using h1.2, fun k k1 k2 => ?_⟩
  have hk : k ∈ as := by
    have g : (List.range R.length)[k]? = some k := List.getElem?_range (Nat.lt_trans k2 (List.mem_range.mp ha))
    rw [h2, List.getElem?_append_left (by omega)] at g
    exact List.mem_of_getElem? g
  have z := h3 k hk
  rw [decide_eq_true k1] at z
  simpa using z
theorem firstQ_none {R : List (List Rat)} {s c : Nat} (h : firstQ R s c = none) : ∀ k, s ≤ k → k < R.length → at2 R k c = 0 := fun k k1 k2 => by
  unfold firstQ at h
  have z := List.find?_eq_none.mp h k (List.mem_range.mpr k2)
  rw [decide_eq_true k1] at z
  simpa using z
theorem firstQ_is {R : List (List Rat)} {s c a : Nat} (h1 : s ≤ a) (h2 : a < R.length) (h3 : at2 R a c ≠ 0) (h4 : ∀ k, s ≤ k → k < a → at2 R k c = 0) : firstQ R s c = some a := by
  cases e : firstQ R s c with
  | none => exact absurd (firstQ_none e a h1 h2) h3
  | some b =>
    obtain ⟨b1, b2, b3, b4⟩ := firstQ_some e
    have : b = a := by
      rcases Nat.lt_trichotomy a b with h | h | h
      · exact absurd (b4 a h1 h) h3
      · exact h.symm
      · exact absurd (h4 b b1 h) b3
    rw [this]
theorem firstQ_no {R : List (List Rat)} {s c : Nat} (h : ∀ k, s ≤ k → k < R.length → at2 R k c = 0) : firstQ R s c = none := by
  cases e : firstQ R s c with
  | none => rfl
  | some b =>
    obtain ⟨b1, b2, b3, b4⟩ := firstQ_some e
    exact absurd (h b b1 b2) b3
def swapQ (R : List (List Rat)) (l a : Nat) : List (List Rat) := (R.set l (R.getD a [])).set a (R.getD l [])
def clr (S : List (List Rat)) (l j i : Nat) : List Rat := if i = l ∨ at2 S i j = 0 then S.getD i [] else subQ (S.getD i []) (scaleQ (at2 S i j) (S.getD l []))
def clearQ (S : List (List Rat)) (l j : Nat) : List (List Rat) := (List.range S.length).map (clr S l j)
def normRow (R : List (List Rat)) (l j : Nat) : List (List Rat) := R.set l (scaleQ (1 / at2 R l j) (R.getD l []))
def stepAt (R : List (List Rat)) (l a j : Nat) : List (List Rat) := clearQ (normRow (swapQ R l a) l j) l j
def stepQ (S : List (List Rat) × List Nat) (j : Nat) : List (List Rat) × List Nat :=
  match firstQ S.1 S.2.length j with
  | none => S
  | some a => (stepAt S.1 S.2.length a j, S.2 ++ [j])
def gaussQ (M : List (List Rat)) (w : Nat) : List (List Rat) × List Nat := (List.range w).foldl stepQ (M, [])
theorem gaussQ_succ (M : List (List Rat)) (w : Nat) : gaussQ M (w + 1) = stepQ (gaussQ M w) w := by
  unfold gaussQ
  rw [List.range_succ, List.foldl_append]
  rfl
theorem at2_ge {R : List (List Rat)} {i k : Nat} (h : R.length ≤ i) : at2 R i k = 0 := by
  unfold at2
  rw [List.getD_eq_getElem?_getD (l := R), List.getElem?_eq_none h]
  rfl
theorem at2_wide {R : List (List Rat)} {i k w : Nat} (h : Wide w R) (hk : w ≤ k) : at2 R i k = 0 := by
  by_cases hi : i < R.length
  · unfold at2
    have z := h _ (List.mem_of_getElem? (getD_get (d := []) hi))
    rw [List.getD_eq_getElem?_getD (l := R.getD i []), List.getElem?_eq_none (by omega)]
    rfl
  · exact at2_ge (Nat.not_lt.mp hi)
theorem swap_len {R : List (List Rat)} {l a : Nat} : (swapQ R l a).length = R.length := by
  unfold swapQ
  rw [List.length_set, List.length_set]
theorem swap_get {R : List (List Rat)} {l a i : Nat} (h1 : l < R.length) (h2 : a < R.length) : (swapQ R l a).getD i [] = R.getD (sw l a i) [] := by
  unfold swapQ sw
  rw [List.getD_eq_getElem?_getD, List.getElem?_set, List.length_set]
  by_cases e : a = i
  · subst e
    rw [if_pos rfl, if_pos h2]
    by_cases e2 : a = l
    · subst e2; rw [if_pos rfl]; rfl
    · rw [if_neg e2, if_pos rfl]; rfl
  · rw [if_neg e, List.getElem?_set]
    by_cases e2 : l = i
    · subst e2
      rw [if_pos rfl, if_pos h1, if_pos rfl]
      rfl
    · rw [if_neg e2, if_neg (fun z => e2 z.symm), if_neg (fun z => e z.symm)]
      rfl
theorem swap_at {R : List (List Rat)} {l a i k : Nat} (h1 : l < R.length) (h2 : a < R.length) : at2 (swapQ R l a) i k = at2 R (sw l a i) k := by
  unfold at2
  rw [swap_get h1 h2]
theorem wide_get {R : List (List Rat)} {w i : Nat} (h : Wide w R) (hi : i < R.length) : (R.getD i []).length = w := h _ (List.mem_of_getElem? (getD_get hi))
theorem wide_of {R : List (List Rat)} {w : Nat} (h : ∀ i, i < R.length → (R.getD i []).length = w) : Wide w R := fun r hr => by
  obtain ⟨i, hi, e⟩ := List.mem_iff_getElem.mp hr
  have z := h i hi
  rw [List.getD_eq_getElem?_getD, List.getElem?_eq_getElem hi] at z
  rw [← e]
  exact z
theorem sw_in {l a i n : Nat} (h1 : l < n) (h2 : a < n) (hi : i < n) : sw l a i < n := by
  unfold sw
  split
  · exact h2
  · split
    · exact h1
    · exact hi
theorem swap_wide {R : List (List Rat)} {l a w : Nat} (h : Wide w R) (h1 : l < R.length) (h2 : a < R.length) : Wide w (swapQ R l a) := wide_of fun i hi => by
  rw [swap_len] at hi
  rw [swap_get h1 h2]
  exact wide_get h (sw_in h1 h2 hi)
theorem norm_len' {R : List (List Rat)} {l j : Nat} : (normRow R l j).length = R.length := by unfold normRow; rw [List.length_set]
theorem normRow_get {R : List (List Rat)} {l j i : Nat} (h : l < R.length) : (normRow R l j).getD i [] = if i = l then scaleQ (1 / at2 R l j) (R.getD l []) else R.getD i [] := by
  unfold normRow
  rw [List.getD_eq_getElem?_getD, List.getElem?_set]
  by_cases e : l = i
  · subst e
    rw [if_pos rfl, if_pos h, if_pos rfl]
    rfl
  · rw [if_neg e, if_neg (fun z => e z.symm)]
    rfl
theorem scaleQ_getD {f : Rat} {qs : List Rat} {k : Nat} : (scaleQ f qs).getD k 0 = f * qs.getD k 0 := by
  unfold scaleQ
  rw [List.getD_eq_getElem?_getD, List.getElem?_map, List.getD_eq_getElem?_getD]
  cases qs[k]? with
  | none => show (0 : Rat) = f * 0; rw [Rat.mul_zero]
  | some q => rfl
theorem subQ_getD {a b : List Rat} {k : Nat} (h : a.length = b.length) : (subQ a b).getD k 0 = a.getD k 0 - b.getD k 0 := by
  unfold subQ
  rw [List.getD_eq_getElem?_getD, List.getElem?_zipWith, List.getD_eq_getElem?_getD, List.getD_eq_getElem?_getD]
  by_cases hk : k < a.length
  · rw [List.getElem?_eq_getElem hk, List.getElem?_eq_getElem (h ▸ hk)]
    rfl
  · rw [List.getElem?_eq_none (by omega), List.getElem?_eq_none (by omega)]
    show (0 : Rat) = 0 - 0
    grind
theorem scaleQ_len {f : Rat} {qs : List Rat} : (scaleQ f qs).length = qs.length := by unfold scaleQ; rw [List.length_map]
theorem subQ_len {a b : List Rat} (h : a.length = b.length) : (subQ a b).length = a.length := by unfold subQ; rw [List.length_zipWith, h, Nat.min_self]
theorem clear_len {S : List (List Rat)} {l j : Nat} : (clearQ S l j).length = S.length := by unfold clearQ; rw [List.length_map, List.length_range]
theorem clear_get {S : List (List Rat)} {l j i : Nat} (h : i < S.length) : (clearQ S l j).getD i [] = clr S l j i := by
  unfold clearQ
  rw [List.getD_eq_getElem?_getD, List.getElem?_map, List.getElem?_range h]
  rfl
theorem normRow_wide {R : List (List Rat)} {l j w : Nat} (h : Wide w R) (hl : l < R.length) : Wide w (normRow R l j) := wide_of fun i hi => by
  rw [norm_len'] at hi
  rw [normRow_get hl]
  split
  · rw [scaleQ_len]; exact wide_get h hl
  · exact wide_get h hi
theorem clear_wide {S : List (List Rat)} {l j w : Nat} (h : Wide w S) (hl : l < S.length) : Wide w (clearQ S l j) := wide_of fun i hi => by
  rw [clear_len] at hi
  rw [clear_get hi]
  unfold clr
  split
  · exact wide_get h hi
  · rw [subQ_len (by rw [scaleQ_len, wide_get h hi, wide_get h hl])]
    exact wide_get h hi
theorem stepAt_len {R : List (List Rat)} {l a j : Nat} : (stepAt R l a j).length = R.length := by unfold stepAt; rw [clear_len, norm_len', swap_len]
theorem stepAt_wide {R : List (List Rat)} {l a j w : Nat} (h : Wide w R) (h1 : l < R.length) (h2 : a < R.length) : Wide w (stepAt R l a j) :=
  clear_wide (normRow_wide (swap_wide h h1 h2) (by rw [swap_len]; exact h1)) (by rw [norm_len', swap_len]; exact h1)
/-- the rows of a step, by their entries -/
theorem stepAt_at {R : List (List Rat)} {l a j w i k : Nat} (h : Wide w R) (h1 : l < R.length) (h2 : a < R.length) : at2 (stepAt R l a j) i k = stepF (at2 R) l a j i k := by
  by_cases hi : i < R.length
  · have hS : ∀ i, (normRow (swapQ R l a) l j).getD i [] = if i = l then scaleQ (1 / at2 R a j) (R.getD a []) else R.getD (sw l a i) [] := fun i => by
      rw [normRow_get (by rw [swap_len]; exact h1), swap_get h1 h2, swap_get h1 h2, swap_at h1 h2, sw_l]
    have hA : ∀ i k, at2 (normRow (swapQ R l a) l j) i k = if i = l then at2 R a k / at2 R a j else at2 R (sw l a i) k := fun i k => by
      show ((normRow (swapQ R l a) l j).getD i []).getD k 0 = _
      rw [hS]
      split
      · rw [scaleQ_getD, Rat.div_def, Rat.div_def, Rat.one_mul, Rat.mul_comm]
        rfl
      · rfl
    have hc : at2 (stepAt R l a j) i k = (clr (normRow (swapQ R l a) l j) l j i).getD k 0 := by
      show ((stepAt R l a j).getD i []).getD k 0 = _
      unfold stepAt
      rw [clear_get (by rw [norm_len', swap_len]; exact hi)]
    have hw := normRow_wide (l := l) (j := j) (swap_wide h h1 h2) (by rw [swap_len]; exact h1)
    have ln : (normRow (swapQ R l a) l j).length = R.length := by rw [norm_len', swap_len]
    rw [hc]
    unfold clr
    by_cases e : i = l
    · subst e
      rw [if_pos (.inl rfl), step_l]
      have z := hA i k
      rw [if_pos rfl] at z
      exact z
    · rw [step_o e]
      have zj := hA i j
      have zk := hA i k
      rw [if_neg e] at zj zk
      have z0 := hA l k
      rw [if_pos rfl] at z0
      by_cases e2 : at2 (normRow (swapQ R l a) l j) i j = 0
      · rw [if_pos (.inr e2)]
        rw [e2] at zj
        rw [← zj]
        refine Eq.trans zk ?_
        grind
      · rw [if_neg (fun z => z.elim e e2), subQ_getD (by rw [scaleQ_len, wide_get hw (by omega), wide_get hw (by omega)]), scaleQ_getD, zj]
        show at2 (normRow (swapQ R l a) l j) i k - _ * at2 (normRow (swapQ R l a) l j) l k = _
        rw [zk, z0]
  · have hi := Nat.not_lt.mp hi
    rw [at2_ge (by rw [stepAt_len]; exact hi), step_o (by omega)]
    have e : sw l a i = i := by unfold sw; rw [if_neg (by omega), if_neg (by omega)]
    rw [e, at2_ge hi, at2_ge hi]
    grind
/-! ### what holds of the states -/
structure GS (M : List (List Rat)) (w b : Nat) (ρ : Nat) (t : Nat) (S : List (List Rat) × List Nat) : Prop where
  len : S.1.length = M.length
  wide : Wide w S.1
  ch : S.2.length ≤ M.length
  ct : S.2.length ≤ t
  asc : S.2.Pairwise (· < ·)
  lt : ∀ k ∈ S.2, k < t
  zero : ∀ i, S.2.length ≤ i → i < M.length → ∀ k, k < t → at2 S.1 i k = 0
  gi : ∃ P τ, GI M.length (at2 S.1) S.2.reverse P τ (ρ : Rat) ∧ ∀ i k, IntB b (P i k)
theorem gs_start {M : List (List Rat)} {w b ρ : Nat} (hw : Wide w M) (hM : ∀ i k, IntB b ((ρ : Rat) * at2 M i k)) : GS M w b ρ 0 (gaussQ M 0) :=
  ⟨rfl, hw, Nat.zero_le _, Nat.le_refl _, .nil, fun k hk => (nomatch hk), fun i _ _ k hk => absurd hk (Nat.not_lt_zero _),
    ⟨fun i k => (ρ : Rat) * at2 M i k, 1, ⟨True.intro, fun i _ _ k hk => (nomatch hk), fun cs => by show D [] cs = 1 * D [] cs; rw [Rat.one_mul], fun i _ _ cs => by
      show (ρ : Rat) * ext (at2 M i) (D []) cs = 1 * ext (fun k => (ρ : Rat) * at2 M i k) (D []) cs
      rw [ext_rsmul, Rat.one_mul]⟩, hM⟩⟩
theorem gs_step {M : List (List Rat)} {w b ρ t : Nat} {S : List (List Rat) × List Nat} (hρ : 0 < ρ) (g : GS M w b ρ t S) : GS M w b ρ (t + 1) (stepQ S t) := by
  unfold stepQ
  cases e : firstQ S.1 S.2.length t with
  | none =>
    have z := firstQ_none e
    exact ⟨g.len, g.wide, g.ch, Nat.le_succ_of_le g.ct, g.asc, fun k hk => Nat.lt_succ_of_lt (g.lt k hk), fun i h1 h2 k hk => by
      by_cases hk2 : k = t
      · subst hk2
        exact z i h1 (by rw [g.len]; exact h2)
      · exact g.zero i h1 h2 k (by omega), g.gi⟩
  | some a =>
    obtain ⟨a1, a2, a3, a4⟩ := firstQ_some e
    have ll : S.2.length < S.1.length := Nat.lt_of_le_of_lt a1 a2
    have al := g.len
    obtain ⟨P, τ, gi, hP⟩ := g.gi
    have fe : at2 (stepAt S.1 S.2.length a t) = stepF (at2 S.1) S.2.length a t := funext fun i => funext fun k => stepAt_at g.wide ll a2
    have g2 := gi.step (a := a) (j := t) (by exact_mod_cast Nat.ne_of_gt hρ) (by rw [List.length_reverse]; exact a1) (by omega) a3
    rw [List.length_reverse] at g2
    refine ⟨by rw [stepAt_len]; exact al, stepAt_wide g.wide ll a2, ?_, ?_, ?_, ?_, ?_, ⟨fun i => P (sw S.2.length a i), τ / (at2 S.1 a t * ρ), ?_, fun i k => hP _ k⟩⟩
    · rw [List.length_append, List.length_singleton]; omega
    · rw [List.length_append, List.length_singleton]; have := g.ct; omega
    · exact List.pairwise_append.mpr ⟨g.asc, List.pairwise_singleton _ _, fun x hx y hy => by rw [List.mem_singleton.mp hy]; exact g.lt x hx⟩
    · intro k hk
      rcases List.mem_append.mp hk with h | h
      · exact Nat.lt_succ_of_lt (g.lt k h)
      · rw [List.mem_singleton.mp h]; exact Nat.lt_succ_self _
    · intro i h1 h2 k hk
      rw [List.length_append, List.length_singleton] at h1
      show at2 (stepAt S.1 S.2.length a t) i k = 0
      rw [fe]
      by_cases hk2 : k = t
      · subst hk2
        exact step_j (by omega) a3
      · obtain ⟨s3, s4⟩ := sw_ge (l := S.2.length) (a := a) (i := i) (h := M.length) (by omega) a1 (by omega) h2
        rw [step_o (by omega), g.zero _ s3 s4 k (by omega), g.zero a a1 (by omega) k (by omega), Rat.div_def]
        grind
    · show GI M.length (at2 (stepAt S.1 S.2.length a t)) (S.2 ++ [t]).reverse _ _ _
      rw [fe, List.reverse_append]
      exact g2
theorem gs_all {M : List (List Rat)} {w b ρ : Nat} (hρ : 0 < ρ) (hw : Wide w M) (hM : ∀ i k, IntB b ((ρ : Rat) * at2 M i k)) (t : Nat) : GS M w b ρ t (gaussQ M t) := by
  induction t with
  | zero => exact gs_start hw hM
  | succ t ih =>
    rw [gaussQ_succ]
    exact gs_step hρ ih
/-- the sizes of all states -/
theorem GS.sm {M : List (List Rat)} {w b ρ t s m : Nat} {S : List (List Rat) × List Nat} (g : GS M w b ρ t S) (hρ : 0 < ρ) (hs : ρ < 2 ^ s) (hm : S.2.length ≤ m) (h7 : m ≤ 31) :
    (∀ i k, SmB ((b + 5) * (m + 1) + s + 1) (at2 S.1 i k)) ∧ ∀ i k, i < S.2.length → SmB ((b + 5) * m + 1) (at2 S.1 i k) := by
  obtain ⟨P, τ, gi, hP⟩ := g.gi
  have lr : S.2.reverse.length = S.2.length := List.length_reverse
  have z := gi.size hρ hs (by omega) hP
  rw [lr] at z
  have q1 : (b + 5) * (S.2.length + 1) ≤ (b + 5) * (m + 1) := Nat.mul_le_mul_left _ (by omega)
  have q2 : (b + 5) * S.2.length ≤ (b + 5) * m := Nat.mul_le_mul_left _ hm
  refine ⟨fun i k => ?_, fun i k hi => (z.2 i k hi).mono (by omega)⟩
  by_cases hi : i < M.length
  · exact (z.1 i k hi).mono (by omega)
  · rw [at2_ge (by rw [g.len]; exact Nat.not_lt.mp hi)]
    exact smB_zero (by omega)
theorem allM_at {R : List (List Rat)} {n : Nat} (h : ∀ i k, SmB n (at2 R i k)) : AllM n R := fun r hr q hq => by
  obtain ⟨i, hi, e⟩ := List.mem_iff_getElem.mp hr
  obtain ⟨k, hk, e2⟩ := List.mem_iff_getElem.mp hq
  have z := h i k
  unfold at2 at z
  rw [List.getD_eq_getElem?_getD (l := R), List.getElem?_eq_getElem hi] at z
  have z2 : SmB n (r.getD k 0) := by rw [← e]; exact z
  rw [List.getD_eq_getElem?_getD, List.getElem?_eq_getElem hk] at z2
  rw [← e2]
  exact z2
end Pn

namespace Pn
/-! ### sums, and what the kernel is -/
def sumN : Nat → (Nat → Rat) → Rat
  | 0, _ => 0
  | n + 1, g => sumN n g + g n
theorem sumN_congr {n : Nat} {f g : Nat → Rat} (h : ∀ k, k < n → f k = g k) : sumN n f = sumN n g := by
  induction n with
  | zero => rfl
  | succ n ih =>
    show sumN n f + f n = sumN n g + g n
    rw [ih fun k hk => h k (Nat.lt_succ_of_lt hk), h n (Nat.lt_succ_self n)]
theorem sumN_lin (n : Nat) (a b : Rat) (f g : Nat → Rat) : sumN n (fun k => a * f k + b * g k) = a * sumN n f + b * sumN n g := by
  induction n with
  | zero => show (0 : Rat) = a * 0 + b * 0; grind
  | succ n ih =>
    show sumN n (fun k => a * f k + b * g k) + (a * f n + b * g n) = a * (sumN n f + f n) + b * (sumN n g + g n)
    rw [ih]
    grind
theorem sumN_zero {n : Nat} {f : Nat → Rat} (h : ∀ k, k < n → f k = 0) : sumN n f = 0 := by
  induction n with
  | zero => rfl
  | succ n ih =>
    show sumN n f + f n = 0
    rw [ih fun k hk => h k (Nat.lt_succ_of_lt hk), h n (Nat.lt_succ_self n)]
    grind
theorem sumN_one {n p : Nat} {f : Nat → Rat} (hp : p < n) (h : ∀ k, k < n → k ≠ p → f k = 0) : sumN n f = f p := by
  induction n with
  | zero => exact absurd hp (Nat.not_lt_zero _)
  | succ n ih =>
    show sumN n f + f n = f p
    by_cases e : p = n
    · subst e
      rw [sumN_zero fun k hk => h k (Nat.lt_succ_of_lt hk) (Nat.ne_of_lt hk)]
      grind
    · rw [ih (by omega) fun k hk hk2 => h k (Nat.lt_succ_of_lt hk) hk2, h n (Nat.lt_succ_self n) (fun z => e z.symm)]
      grind
theorem sumN_two {n p q : Nat} {f : Nat → Rat} (hp : p < n) (hq : q < n) (hpq : p ≠ q) (h : ∀ k, k < n → k ≠ p → k ≠ q → f k = 0) : sumN n f = f p + f q := by
  induction n with
  | zero => exact absurd hp (Nat.not_lt_zero _)
  | succ n ih =>
    show sumN n f + f n = f p + f q
    by_cases e : p = n
    · subst e
      rw [sumN_one (p := q) (by omega) fun k hk hk2 => h k (Nat.lt_succ_of_lt hk) (Nat.ne_of_lt hk) hk2]
      grind
    · by_cases e2 : q = n
      · subst e2
        rw [sumN_one (p := p) (by omega) fun k hk hk2 => h k (Nat.lt_succ_of_lt hk) hk2 (Nat.ne_of_lt hk)]
      · rw [ih (by omega) (by omega) fun k hk h1 h2 => h k (Nat.lt_succ_of_lt hk) h1 h2, h n (Nat.lt_succ_self n) (fun z => e z.symm) (fun z => e2 z.symm)]
        grind
theorem dotN_take {a b : List Rat} (hl : a.length = b.length) : ∀ i, i ≤ a.length → dotQ (a.take i) (b.take i) = sumN i fun k => a.getD k 0 * b.getD k 0
  | 0, _ => by rw [List.take_zero, dotQ_nil]; rfl
  | i + 1, h => by
    rw [dotQ_take a b i _ _ (getD_get (d := 0) (by omega)) (getD_get (d := 0) (by omega)), dotN_take hl i (by omega)]
    rfl
theorem dotN_sum {a b : List Rat} {w : Nat} (ha : a.length = w) (hb : b.length = w) : dotQ a b = sumN w fun k => a.getD k 0 * b.getD k 0 := by
  have h := dotN_take (a := a) (b := b) (by omega) w (by omega)
  rw [List.take_of_length_le (by omega), List.take_of_length_le (by omega)] at h
  exact h
theorem sw_sw (l a i : Nat) : sw l a (sw l a i) = i := by
  unfold sw
  by_cases h1 : i = l
  · subst h1
    rw [if_pos rfl]
    by_cases h2 : a = i
    · rw [if_pos h2]; exact h2
    · rw [if_neg h2, if_pos rfl]
  · rw [if_neg h1]
    by_cases h2 : i = a
    · subst h2; rw [if_pos rfl, if_pos rfl]
    · rw [if_neg h2, if_neg h1, if_neg h2]
/-- what a step's rows make 0 was made 0 by the rows ahead of it -/
theorem ker_step {F : Nat → Rw} {l a j h w : Nat} {v : Nat → Rat} (h1 : l ≤ a) (h2 : a < h) (hx : F a j ≠ 0) (hk : ∀ i, i < h → sumN w (fun k => stepF F l a j i k * v k) = 0) : ∀ i, i < h → sumN w (fun k => F i k * v k) = 0 := by
  have ha : sumN w (fun k => F a k * v k) = 0 := by
    have z := hk l (by omega)
    have e : sumN w (fun k => stepF F l a j l k * v k) = (F a j)⁻¹ * sumN w (fun k => F a k * v k) + 0 * sumN w (fun k => F a k * v k) := by
      rw [← sumN_lin]
      refine sumN_congr fun k _ => ?_
      rw [step_l, Rat.div_def]
      grind
    rw [e] at z
    have z2 : (F a j)⁻¹ * sumN w (fun k => F a k * v k) = 0 := by grind
    have z3 : F a j * ((F a j)⁻¹ * sumN w (fun k => F a k * v k)) = sumN w (fun k => F a k * v k) := by rw [← Rat.mul_assoc, Rat.mul_inv_cancel _ hx, Rat.one_mul]
    rw [← z3, z2]
    grind
  intro i hi
  by_cases e : i = a
  · rw [e]; exact ha
  · have ni : sw l a i ≠ l := fun z => e (by have := sw_sw l a i; rw [z, sw_l] at this; exact this.symm)
    have hs : sw l a i < h := sw_in (by omega) h2 hi
    have z := hk _ hs
    have e2 : sumN w (fun k => stepF F l a j (sw l a i) k * v k) = 1 * sumN w (fun k => F i k * v k) + (-(F i j * (F a j)⁻¹)) * sumN w (fun k => F a k * v k) := by
      rw [← sumN_lin]
      refine sumN_congr fun k _ => ?_
      rw [step_o ni, sw_sw, Rat.div_def]
      grind
    rw [e2, ha] at z
    grind
theorem gauss_ker {M : List (List Rat)} {w b ρ : Nat} (u : Nat) {v : Nat → Rat} (hρ : 0 < ρ) (hw : Wide w M) (hM : ∀ i k, IntB b ((ρ : Rat) * at2 M i k)) : ∀ t, (∀ i, i < M.length → sumN u (fun k => at2 (gaussQ M t).1 i k * v k) = 0) → ∀ i, i < M.length → sumN u (fun k => at2 M i k * v k) = 0
  | 0, h => h
  | t + 1, h => by
    refine gauss_ker u hρ hw hM t ?_
    have g := gs_all hρ hw hM t
    rw [gaussQ_succ] at h
    unfold stepQ at h
    cases e : firstQ (gaussQ M t).1 (gaussQ M t).2.length t with
    | none => rw [e] at h; exact h
    | some a =>
      rw [e] at h
      dsimp only at h
      obtain ⟨a1, a2, a3, a4⟩ := firstQ_some e
      rw [g.len] at a2
      refine ker_step (F := at2 (gaussQ M t).1) (l := (gaussQ M t).2.length) (a := a) (j := t) a1 a2 a3 fun i hi => ?_
      rw [← h i hi]
      refine sumN_congr fun k _ => ?_
      rw [stepAt_at g.wide (by rw [g.len]; omega) (by rw [g.len]; exact a2)]
/-- pivots, by their places -/
theorem tri_piv {F : Nat → Rw} : ∀ {d : List Nat}, Tri F d → ∀ a b, a < d.length → b < d.length → F a (d.reverse.getD b 0) = if a = b then 1 else 0
  | [], _, a, b, h, _ => absurd h (Nat.not_lt_zero _)
  | j :: d, ⟨h1, h2, h3, h4⟩, a, b, ha, hb => by
    rw [List.length_cons] at ha hb
    have er : (j :: d).reverse.getD b 0 = if b = d.length then j else d.reverse.getD b 0 := by
      rw [List.reverse_cons, List.getD_eq_getElem?_getD]
      by_cases e : b = d.length
      · rw [if_pos e, List.getElem?_append_right (by rw [List.length_reverse]; omega), List.length_reverse, e, Nat.sub_self]
        rfl
      · rw [if_neg e, List.getElem?_append_left (by rw [List.length_reverse]; omega)]
        rfl
    rw [er]
    by_cases e : b = d.length
    · rw [if_pos e]
      by_cases e2 : a = d.length
      · rw [if_pos (by omega), e2]; exact h1
      · rw [if_neg (by omega)]; exact h3 a (by omega)
    · rw [if_neg e]
      by_cases e2 : a = d.length
      · rw [if_neg (by omega), e2]
        refine h2 _ ?_
        have z := List.mem_of_getElem? (getD_get (xs := d.reverse) (d := 0) (i := b) (by rw [List.length_reverse]; omega))
        exact List.mem_reverse.mp z
      · exact tri_piv h4 a b (by omega) (by omega)
theorem GS.piv {M : List (List Rat)} {w b ρ t : Nat} {S : List (List Rat) × List Nat} (g : GS M w b ρ t S) {a k : Nat} (ha : a < S.2.length) (hk : k < S.2.length) : at2 S.1 a (S.2.getD k 0) = if a = k then 1 else 0 := by
  obtain ⟨P, τ, gi, _⟩ := g.gi
  have z := tri_piv gi.tri a k (by rw [List.length_reverse]; exact ha) (by rw [List.length_reverse]; exact hk)
  rw [List.reverse_reverse] at z
  exact z
/-- numbers set at the pivots -/
def setN (vals : Nat → Rat) (c : List Nat) (v0 : List Rat) (n : Nat) : List Rat := (List.range n).foldl (fun v a => v.set (c.getD a 0) (vals a)) v0
theorem setN_succ (vals : Nat → Rat) (c : List Nat) (v0 : List Rat) (n : Nat) : setN vals c v0 (n + 1) = (setN vals c v0 n).set (c.getD n 0) (vals n) := by
  unfold setN
  rw [List.range_succ, List.foldl_append]
  rfl
theorem setN_len {vals : Nat → Rat} {c : List Nat} {v0 : List Rat} : ∀ n, (setN vals c v0 n).length = v0.length
  | 0 => rfl
  | n + 1 => by rw [setN_succ, List.length_set, setN_len n]
theorem set_getD {v : List Rat} {i k : Nat} {x : Rat} (hi : i < v.length) : (v.set i x).getD k 0 = if i = k then x else v.getD k 0 := by
  rw [List.getD_eq_getElem?_getD, List.getElem?_set]
  by_cases e : i = k
  · subst e
    rw [if_pos rfl, if_pos hi, if_pos rfl]
    rfl
  · rw [if_neg e, if_neg e]
    rfl
theorem asc_inj {c : List Nat} (h : c.Pairwise (· < ·)) {a b : Nat} (ha : a < c.length) (hb : b < c.length) (e : c.getD a 0 = c.getD b 0) : a = b := by
  rw [List.pairwise_iff_getElem] at h
  rw [List.getD_eq_getElem?_getD, List.getElem?_eq_getElem ha, List.getD_eq_getElem?_getD, List.getElem?_eq_getElem hb] at e
  have e : c[a] = c[b] := e
  rcases Nat.lt_trichotomy a b with z | z | z
  · have := h a b ha hb z; omega
  · exact z
  · have := h b a hb ha z; omega
theorem getD_mem {c : List Nat} {a : Nat} (ha : a < c.length) : c.getD a 0 ∈ c := List.mem_of_getElem? (getD_get ha)
theorem setN_oth {vals : Nat → Rat} {c : List Nat} {v0 : List Rat} (hc : ∀ k ∈ c, k < v0.length) {k : Nat} : ∀ n, n ≤ c.length → (∀ a, a < n → c.getD a 0 ≠ k) → (setN vals c v0 n).getD k 0 = v0.getD k 0
  | 0, _, _ => rfl
  | n + 1, hn, h => by
    rw [setN_succ, set_getD (by rw [setN_len]; exact hc _ (getD_mem (by omega))), if_neg (h n (Nat.lt_succ_self n))]
    exact setN_oth hc n (by omega) fun a ha => h a (Nat.lt_succ_of_lt ha)
theorem setN_at {vals : Nat → Rat} {c : List Nat} {v0 : List Rat} (hc : ∀ k ∈ c, k < v0.length) (asc : c.Pairwise (· < ·)) {a : Nat} : ∀ n, n ≤ c.length → a < n → (setN vals c v0 n).getD (c.getD a 0) 0 = vals a
  | 0, _, h => absurd h (Nat.not_lt_zero _)
  | n + 1, hn, h => by
    rw [setN_succ, set_getD (by rw [setN_len]; exact hc _ (getD_mem (by omega)))]
    by_cases e : n = a
    · rw [e, if_pos rfl]
    · rw [if_neg (fun z => e (asc_inj asc (by omega) (by omega) z))]
      exact setN_at hc asc n (by omega) (by omega)
theorem unitQ_getD {w f k : Nat} (hk : k < w) : (unitQ w f).getD k 0 = if k = f then 1 else 0 := by
  unfold unitQ
  exact getD_map_range hk
theorem zeroQ_getD {w k : Nat} : (zeroQ w).getD k 0 = 0 := by
  unfold zeroQ
  by_cases hk : k < w
  · exact getD_map_range hk
  · rw [List.getD_eq_getElem?_getD, List.getElem?_eq_none (by rw [List.length_map, List.length_range]; omega)]
    rfl
theorem unitQ_len (w f : Nat) : (unitQ w f).length = w := by unfold unitQ; rw [List.length_map, List.length_range]
theorem zeroQ_len (w : Nat) : (zeroQ w).length = w := by unfold zeroQ; rw [List.length_map, List.length_range]
/-- the vector of the kernel at the free column f -/
def kvQ (R : List (List Rat)) (c : List Nat) (w f : Nat) : List Rat := setN (fun a => -(at2 R a f)) c (unitQ w f) c.length
theorem kvQ_len (R : List (List Rat)) (c : List Nat) (w f : Nat) : (kvQ R c w f).length = w := by unfold kvQ; rw [setN_len, unitQ_len]
theorem not_at {c : List Nat} {k : Nat} (h : k ∉ c) : ∀ a, a < c.length → c.getD a 0 ≠ k := fun a ha e => h (by rw [← e]; exact getD_mem ha)
theorem mem_at {c : List Nat} {k : Nat} (h : k ∈ c) : ∃ a, a < c.length ∧ c.getD a 0 = k := by
  obtain ⟨a, ha, e⟩ := List.mem_iff_getElem.mp h
  exact ⟨a, ha, by rw [List.getD_eq_getElem?_getD, List.getElem?_eq_getElem ha]; exact e⟩
theorem kvQ_free {R : List (List Rat)} {c : List Nat} {w f k : Nat} (hc : ∀ k ∈ c, k < w) (hk : k < w) (h : k ∉ c) : (kvQ R c w f).getD k 0 = if k = f then 1 else 0 := by
  unfold kvQ
  rw [setN_oth (by rw [unitQ_len]; exact hc) _ (Nat.le_refl _) (not_at h), unitQ_getD hk]
theorem kvQ_piv {R : List (List Rat)} {c : List Nat} {w f a : Nat} (hc : ∀ k ∈ c, k < w) (asc : c.Pairwise (· < ·)) (ha : a < c.length) : (kvQ R c w f).getD (c.getD a 0) 0 = -(at2 R a f) := by
  unfold kvQ
  rw [setN_at (by rw [unitQ_len]; exact hc) asc _ (Nat.le_refl _) ha]
/-- it is made 0 by the rows of the state -/
theorem kvQ_state {M : List (List Rat)} {w b ρ : Nat} {S : List (List Rat) × List Nat} (g : GS M w b ρ w S) {f : Nat} (hf : f < w) (nf : f ∉ S.2) : ∀ i, i < M.length → sumN w (fun k => at2 S.1 i k * (kvQ S.1 S.2 w f).getD k 0) = 0 := fun i hi => by
  by_cases hr : i < S.2.length
  · have hci : S.2.getD i 0 < w := g.lt _ (getD_mem hr)
    have hne : f ≠ S.2.getD i 0 := fun e => nf (by rw [e]; exact getD_mem hr)
    rw [sumN_two (p := f) (q := S.2.getD i 0) hf hci hne fun k hk h1 h2 => ?_]
    · rw [kvQ_free g.lt hf nf, if_pos rfl, kvQ_piv g.lt g.asc hr, g.piv hr hr, if_pos rfl]
      grind
    · by_cases hm : k ∈ S.2
      · obtain ⟨a, ha, e⟩ := mem_at hm
        rw [← e, g.piv hr ha, if_neg (fun z => h2 (by rw [← e, z]))]
        grind
      · rw [kvQ_free g.lt hk hm, if_neg h1]
        grind
  · refine sumN_zero fun k hk => ?_
    rw [g.zero i (Nat.not_lt.mp hr) hi k hk]
    grind
theorem sumN_dot {M : List (List Rat)} {w : Nat} {v : List Rat} (hw : Wide w M) (hv : v.length = w) {i : Nat} (hi : i < M.length) : dotQ (M.getD i []) v = sumN w fun k => at2 M i k * v.getD k 0 := dotN_sum (wide_get hw hi) hv
theorem kvQ_dot {M : List (List Rat)} {w b ρ : Nat} (hρ : 0 < ρ) (hw : Wide w M) (hM : ∀ i k, IntB b ((ρ : Rat) * at2 M i k)) {f : Nat} (hf : f < w) (nf : f ∉ (gaussQ M w).2) {row : List Rat} (hr : row ∈ M) : dotQ row (kvQ (gaussQ M w).1 (gaussQ M w).2 w f) = 0 := by
  obtain ⟨i, hi, e⟩ := List.mem_iff_getElem.mp hr
  have er : M.getD i [] = row := by rw [List.getD_eq_getElem?_getD, List.getElem?_eq_getElem hi]; exact e
  rw [← er, sumN_dot hw (kvQ_len _ _ _ _) hi]
  exact gauss_ker w hρ hw hM w (kvQ_state (gs_all hρ hw hM w) hf nf) i hi
theorem kvQ_sm {R : List (List Rat)} {c : List Nat} {w f n : Nat} (hc : ∀ k ∈ c, k < w) (asc : c.Pairwise (· < ·)) (hn : 2 ≤ n) (sm : ∀ i k, i < c.length → SmB n (at2 R i k)) : AllS n (kvQ R c w f) := fun q hq => by
  obtain ⟨k, hk, e⟩ := List.mem_iff_getElem.mp hq
  rw [kvQ_len] at hk
  have eq : (kvQ R c w f).getD k 0 = q := by rw [List.getD_eq_getElem?_getD, List.getElem?_eq_getElem (by rw [kvQ_len]; exact hk)]; exact e
  rw [← eq]
  by_cases hm : k ∈ c
  · obtain ⟨a, ha, e⟩ := mem_at hm
    rw [← e, kvQ_piv hc asc ha]
    exact smB_neg (sm a f ha)
  · rw [kvQ_free hc hk hm]
    split
    · exact smB_one hn
    · exact smB_zero (by omega)
/-! ### solutions -/
def solV (R : List (List Rat)) (c : List Nat) (w : Nat) : List Rat := setN (fun a => at2 R a w) c (zeroQ w) c.length
theorem solV_len (R : List (List Rat)) (c : List Nat) (w : Nat) : (solV R c w).length = w := by unfold solV; rw [setN_len, zeroQ_len]
theorem solV_free {R : List (List Rat)} {c : List Nat} {w k : Nat} (hc : ∀ k ∈ c, k < w) (h : k ∉ c) : (solV R c w).getD k 0 = 0 := by
  unfold solV
  rw [setN_oth (by rw [zeroQ_len]; exact hc) _ (Nat.le_refl _) (not_at h), zeroQ_getD]
theorem solV_piv {R : List (List Rat)} {c : List Nat} {w a : Nat} (hc : ∀ k ∈ c, k < w) (asc : c.Pairwise (· < ·)) (ha : a < c.length) : (solV R c w).getD (c.getD a 0) 0 = at2 R a w := by
  unfold solV
  rw [setN_at (by rw [zeroQ_len]; exact hc) asc _ (Nat.le_refl _) ha]
theorem solV_sm {R : List (List Rat)} {c : List Nat} {w n : Nat} (hc : ∀ k ∈ c, k < w) (asc : c.Pairwise (· < ·)) (hn : 2 ≤ n) (sm : ∀ i k, i < c.length → SmB n (at2 R i k)) : AllS n (solV R c w) := fun q hq => by
  obtain ⟨k, hk, e⟩ := List.mem_iff_getElem.mp hq
  rw [solV_len] at hk
  have eq : (solV R c w).getD k 0 = q := by rw [List.getD_eq_getElem?_getD, List.getElem?_eq_getElem (by rw [solV_len]; exact hk)]; exact e
  rw [← eq]
  by_cases hm : k ∈ c
  · obtain ⟨a, ha, e⟩ := mem_at hm
    rw [← e, solV_piv hc asc ha]
    exact sm a w ha
  · rw [solV_free hc hm]
    exact smB_zero (by omega)
/-- a matrix with a vector behind it -/
def joinQ (M : List (List Rat)) (b : List Rat) : List (List Rat) := List.zipWith (fun row x => row ++ [x]) M b
theorem joinQ_len {M : List (List Rat)} {b : List Rat} (h : M.length = b.length) : (joinQ M b).length = M.length := by unfold joinQ; rw [List.length_zipWith, h, Nat.min_self]
theorem joinQ_get {M : List (List Rat)} {b : List Rat} (h : M.length = b.length) {i : Nat} (hi : i < M.length) : (joinQ M b).getD i [] = M.getD i [] ++ [b.getD i 0] := by
  unfold joinQ
  rw [List.getD_eq_getElem?_getD, List.getElem?_zipWith, getD_get (d := []) hi, getD_get (xs := b) (d := 0) (by omega)]
  rfl
theorem joinQ_wide {M : List (List Rat)} {b : List Rat} {w : Nat} (hw : Wide w M) (h : M.length = b.length) : Wide (w + 1) (joinQ M b) := wide_of fun i hi => by
  rw [joinQ_len h] at hi
  rw [joinQ_get h hi, List.length_append, wide_get hw hi]
  rfl
theorem joinQ_at {M : List (List Rat)} {b : List Rat} {w i k : Nat} (hw : Wide w M) (h : M.length = b.length) (hi : i < M.length) : at2 (joinQ M b) i k = if k < w then at2 M i k else if k = w then b.getD i 0 else 0 := by
  show ((joinQ M b).getD i []).getD k 0 = _
  rw [joinQ_get h hi, List.getD_eq_getElem?_getD]
  have l := wide_get hw hi
  by_cases h1 : k < w
  · rw [if_pos h1, List.getElem?_append_left (by omega), ← List.getD_eq_getElem?_getD]
    rfl
  · rw [if_neg h1, List.getElem?_append_right (by omega), l]
    by_cases h2 : k = w
    · rw [if_pos h2, h2, Nat.sub_self]
      rfl
    · rw [if_neg h2, List.getElem?_eq_none (by simp; omega)]
      rfl
end Pn

namespace Pn
/-! ### every matrix has a common denominator -/
theorem natAbs_le_pow (z : Int) : ∃ b : Nat, z.natAbs ≤ 2 ^ b := ⟨z.natAbs, Nat.le_of_lt Nat.lt_two_pow_self⟩
theorem int_mul_den (q : Rat) (d : Nat) (h : q.den ∣ d) : ∃ z : Int, (d : Rat) * q = (z : Rat) := by
  obtain ⟨e, rfl⟩ := h
  refine ⟨(e : Int) * q.num, ?_⟩
  have h1 : ((q.den : Rat)) * q = (q.num : Rat) := by
    have e := Rat.num_divInt_den q
    rw [Rat.divInt_eq_div, Rat.div_def] at e
    have n0 : (((q.den : Int)) : Rat) ≠ 0 := by exact_mod_cast q.den_nz
    have e2 : ((q.den : Rat)) = (((q.den : Int)) : Rat) := rfl
    rw [e2]
    have e3 : (((q.den : Int)) : Rat) * ((q.num : Rat) * (((q.den : Int)) : Rat)⁻¹) = (q.num : Rat) := by
      rw [Rat.mul_comm (q.num : Rat), ← Rat.mul_assoc, Rat.mul_inv_cancel _ n0, Rat.one_mul]
    rw [e] at e3
    exact e3
  have h2 : ((q.den * e : Nat) : Rat) = (e : Rat) * (q.den : Rat) := by
    rw [Rat.natCast_mul]; grind
  rw [h2, Rat.mul_assoc, h1, Rat.intCast_mul]
  rfl
theorem row_cd : ∀ (r : List Rat), ∃ d : Nat, 0 < d ∧ ∀ q ∈ r, q.den ∣ d
  | [] => ⟨1, by decide, fun q h => nomatch h⟩
  | q :: r => by
    obtain ⟨d, h0, h1⟩ := row_cd r
    refine ⟨q.den * d, Nat.mul_pos q.den_pos h0, fun x hx => ?_⟩
    rcases List.mem_cons.mp hx with e | hx
    · subst e; exact Nat.dvd_mul_right _ _
    · exact Nat.dvd_trans (h1 x hx) (Nat.dvd_mul_left _ _)
theorem mat_cd : ∀ (M : List (List Rat)), ∃ d : Nat, 0 < d ∧ ∀ r ∈ M, ∀ q ∈ r, q.den ∣ d
  | [] => ⟨1, by decide, fun q h => nomatch h⟩
  | r :: M => by
    obtain ⟨d, h0, h1⟩ := mat_cd M
    obtain ⟨e, g0, g1⟩ := row_cd r
    refine ⟨e * d, Nat.mul_pos g0 h0, fun x hx q hq => ?_⟩
    rcases List.mem_cons.mp hx with z | hx
    · subst z; exact Nat.dvd_trans (g1 q hq) (Nat.dvd_mul_right _ _)
    · exact Nat.dvd_trans (h1 x hx q hq) (Nat.dvd_mul_left _ _)
theorem row_bd (d : Nat) : ∀ (r : List Rat), (∀ q ∈ r, q.den ∣ d) → ∃ b : Nat, ∀ q ∈ r, IntB b ((d : Rat) * q)
  | [], _ => ⟨0, fun q h => nomatch h⟩
  | q :: r, h => by
    obtain ⟨b, hb⟩ := row_bd d r fun x hx => h x (List.mem_cons_of_mem _ hx)
    obtain ⟨z, hz⟩ := int_mul_den q d (h q List.mem_cons_self)
    obtain ⟨c, hc⟩ := natAbs_le_pow z
    refine ⟨b + c, fun x hx => ?_⟩
    rcases List.mem_cons.mp hx with e | hx
    · subst e; exact ⟨z, hz, Nat.le_trans hc (Nat.pow_le_pow_right (by decide) (Nat.le_add_left _ _))⟩
    · obtain ⟨y, h1, h2⟩ := hb x hx
      exact ⟨y, h1, Nat.le_trans h2 (Nat.pow_le_pow_right (by decide) (Nat.le_add_right _ _))⟩
theorem mat_bd (d : Nat) : ∀ (M : List (List Rat)), (∀ r ∈ M, ∀ q ∈ r, q.den ∣ d) → ∃ b : Nat, ∀ r ∈ M, ∀ q ∈ r, IntB b ((d : Rat) * q)
  | [], _ => ⟨0, fun q h => nomatch h⟩
  | r :: M, h => by
    obtain ⟨b, hb⟩ := mat_bd d M fun x hx => h x (List.mem_cons_of_mem _ hx)
    obtain ⟨c, hc⟩ := row_bd d r (h r List.mem_cons_self)
    refine ⟨b + c, fun x hx q hq => ?_⟩
    rcases List.mem_cons.mp hx with e | hx
    · subst e
      obtain ⟨y, h1, h2⟩ := hc q hq
      exact ⟨y, h1, Nat.le_trans h2 (Nat.pow_le_pow_right (by decide) (Nat.le_add_left _ _))⟩
    · obtain ⟨y, h1, h2⟩ := hb x hx q hq
      exact ⟨y, h1, Nat.le_trans h2 (Nat.pow_le_pow_right (by decide) (Nat.le_add_right _ _))⟩
theorem intB_zero (b : Nat) (d : Rat) : IntB b (d * 0) := ⟨0, by rw [Rat.mul_zero]; rfl, by simp⟩
theorem at2_bd {M : List (List Rat)} {d : Rat} {b : Nat} (h : ∀ r ∈ M, ∀ q ∈ r, IntB b (d * q)) (i k : Nat) : IntB b (d * at2 M i k) := by
  unfold at2
  by_cases hi : i < M.length
  · have hr := List.mem_of_getElem? (getD_get (d := []) hi)
    by_cases hk : k < (M.getD i []).length
    · exact h _ hr _ (List.mem_of_getElem? (getD_get (d := 0) hk))
    · rw [List.getD_eq_getElem?_getD (l := M.getD i []), List.getElem?_eq_none (by omega)]
      exact intB_zero b d
  · rw [List.getD_eq_getElem?_getD (l := M), List.getElem?_eq_none (by omega)]
    exact intB_zero b d
theorem cd_ex (M : List (List Rat)) : ∃ ρ b : Nat, 0 < ρ ∧ ∀ i k, IntB b ((ρ : Rat) * at2 M i k) := by
  obtain ⟨d, h0, h1⟩ := mat_cd M
  obtain ⟨b, hb⟩ := mat_bd d M h1
  exact ⟨d, b, h0, at2_bd hb⟩
theorem gs_ex {M : List (List Rat)} {w : Nat} (hw : Wide w M) (t : Nat) : ∃ ρ b : Nat, 0 < ρ ∧ GS M w b ρ t (gaussQ M t) := by
  obtain ⟨ρ, b, h0, h1⟩ := cd_ex M
  exact ⟨ρ, b, h0, gs_all h0 hw h1 t⟩
/-! ### kernels -/
/-- made 0 by all rows -/
def KerV (F : Nat → Rw) (h w : Nat) (x : Nat → Rat) : Prop := ∀ i, i < h → sumN w (fun k => F i k * x k) = 0
theorem ker_fwd {F : Nat → Rw} {l a j h w : Nat} {v : Nat → Rat} (h1 : l ≤ a) (h2 : a < h) (hk : KerV F h w v) : KerV (stepF F l a j) h w v := by
  have ha := hk a h2
  have e1 : ∀ c : Rat, sumN w (fun k => c * (F a k / F a j) * v k) = 0 := fun c => by
    have e : sumN w (fun k => c * (F a k / F a j) * v k) = (c * (F a j)⁻¹) * sumN w (fun k => F a k * v k) + 0 * sumN w (fun k => F a k * v k) := by
      rw [← sumN_lin]
      refine sumN_congr fun k _ => ?_
      rw [Rat.div_def]
      grind
    rw [e, ha]
    grind
  intro i hi
  by_cases e : i = l
  · subst e
    have z := e1 1
    rw [← z]
    refine sumN_congr fun k _ => ?_
    rw [step_l]
    grind
  · have hs : sw l a i < h := sw_in (by omega) h2 hi
    have z := hk _ hs
    have e2 : sumN w (fun k => stepF F l a j i k * v k) = 1 * sumN w (fun k => F (sw l a i) k * v k) + (-1) * sumN w (fun k => F (sw l a i) j * (F a k / F a j) * v k) := by
      rw [← sumN_lin]
      refine sumN_congr fun k _ => ?_
      rw [step_o e]
      grind
    rw [e2, z, e1]
    grind
theorem gauss_fwd {M : List (List Rat)} {w : Nat} (u : Nat) {v : Nat → Rat} (hw : Wide w M) (hk : KerV (at2 M) M.length u v) : ∀ t, KerV (at2 (gaussQ M t).1) M.length u v
  | 0 => hk
  | t + 1 => by
    have ih := gauss_fwd u hw hk t
    obtain ⟨ρ, b, hρ, g⟩ := gs_ex hw t
    rw [gaussQ_succ]
    unfold stepQ
    cases e : firstQ (gaussQ M t).1 (gaussQ M t).2.length t with
    | none => exact ih
    | some a =>
      dsimp only
      obtain ⟨a1, a2, a3, a4⟩ := firstQ_some e
      rw [g.len] at a2
      have z := ker_fwd (j := t) a1 a2 ih
      intro i hi
      rw [← z i hi]
      refine sumN_congr fun k _ => ?_
      rw [stepAt_at g.wide (by rw [g.len]; omega) (by rw [g.len]; exact a2)]
theorem gauss_bwd {M : List (List Rat)} {w : Nat} (u : Nat) {v : Nat → Rat} (hw : Wide w M) (t : Nat) (hk : KerV (at2 (gaussQ M t).1) M.length u v) : KerV (at2 M) M.length u v := by
  obtain ⟨ρ, b, h0, h1⟩ := cd_ex M
  exact gauss_ker u h0 hw h1 t hk
/-- the numbers ahead of a pivot are 0 -/
theorem ech {M : List (List Rat)} {w : Nat} (hw : Wide w M) : ∀ t, ∀ a, a < (gaussQ M t).2.length → ∀ k, k < (gaussQ M t).2.getD a 0 → at2 (gaussQ M t).1 a k = 0
  | 0, a, h, _, _ => absurd h (Nat.not_lt_zero _)
  | t + 1, a, h, k, hk => by
    have ih := ech hw t
    obtain ⟨ρ, b, hρ, g⟩ := gs_ex hw t
    rw [gaussQ_succ] at h hk ⊢
    unfold stepQ at h hk ⊢
    cases e : firstQ (gaussQ M t).1 (gaussQ M t).2.length t with
    | none => rw [e] at h hk; exact ih a h k hk
    | some c =>
      rw [e] at h hk
      dsimp only at h hk ⊢
      obtain ⟨a1, a2, a3, a4⟩ := firstQ_some e
      rw [List.length_append, List.length_singleton] at h
      have z0 : ∀ q, q < t → at2 (gaussQ M t).1 c q = 0 := fun q hq => g.zero c a1 (by rw [← g.len]; exact a2) q hq
      rw [stepAt_at g.wide (by omega) a2]
      by_cases ea : a = (gaussQ M t).2.length
      · subst ea
        rw [List.getD_eq_getElem?_getD, List.getElem?_append_right (Nat.le_refl _), Nat.sub_self] at hk
        have hk : k < t := hk
        rw [step_l, z0 k hk, Rat.div_def, Rat.zero_mul]
      · have ha : a < (gaussQ M t).2.length := by omega
        rw [List.getD_eq_getElem?_getD, List.getElem?_append_left ha, ← List.getD_eq_getElem?_getD] at hk
        have hkt : k < t := Nat.lt_trans hk (g.lt _ (getD_mem ha))
        rw [step_o ea, sw_lt ha a1, ih a ha k hk, z0 k hkt, Rat.div_def]
        grind
section
variable {M N : List (List Rat)} {w : Nat}
theorem piv_lt (hw : Wide w M) {k : Nat} (h : k ∈ (gaussQ M w).2) : k < w := by
  obtain ⟨ρ, b, hρ, g⟩ := gs_ex hw w
  exact g.lt k h
theorem piv_asc (hw : Wide w M) : (gaussQ M w).2.Pairwise (· < ·) := by
  obtain ⟨ρ, b, hρ, g⟩ := gs_ex hw w
  exact g.asc
theorem piv_one (hw : Wide w M) {a k : Nat} (ha : a < (gaussQ M w).2.length) (hk : k < (gaussQ M w).2.length) : at2 (gaussQ M w).1 a ((gaussQ M w).2.getD k 0) = if a = k then 1 else 0 := by
  obtain ⟨ρ, b, hρ, g⟩ := gs_ex hw w
  exact g.piv ha hk
theorem piv_row (hw : Wide w M) {a : Nat} (ha : a < (gaussQ M w).2.length) : a < M.length := by
  obtain ⟨ρ, b, hρ, g⟩ := gs_ex hw w
  exact Nat.lt_of_lt_of_le ha g.ch
/-- the told vectors of the kernel are in it -/
theorem kv_ker (hw : Wide w M) {f : Nat} (hf : f < w) (nf : f ∉ (gaussQ M w).2) : KerV (at2 M) M.length w fun k => (kvQ (gaussQ M w).1 (gaussQ M w).2 w f).getD k 0 := by
  obtain ⟨ρ, b, hρ, g⟩ := gs_ex hw w
  exact gauss_bwd w hw w (kvQ_state g hf nf)
/-- what a row of the reduced form says of a vector of the kernel -/
theorem ker_row (hw : Wide w M) {x : Nat → Rat} (hx : KerV (at2 M) M.length w x) {a : Nat} (ha : a < (gaussQ M w).2.length) : sumN w (fun k => at2 (gaussQ M w).1 a k * x k) = 0 := gauss_fwd w hw hx w a (piv_row hw ha)
/-- a column is free exactly if a vector of the kernel ends there -/
theorem free_iff (hw : Wide w M) {k : Nat} (hk : k < w) : k ∉ (gaussQ M w).2 ↔ ∃ x : Nat → Rat, KerV (at2 M) M.length w x ∧ x k = 1 ∧ ∀ j, k < j → j < w → x j = 0 := by
  constructor
  · intro nf
    refine ⟨_, kv_ker hw hk nf, ?_, fun j h1 h2 => ?_⟩
    · show (kvQ (gaussQ M w).1 (gaussQ M w).2 w k).getD k 0 = 1
      rw [kvQ_free (fun k h => piv_lt hw h) hk nf, if_pos rfl]
    · show (kvQ (gaussQ M w).1 (gaussQ M w).2 w k).getD j 0 = 0
      by_cases hj : j ∈ (gaussQ M w).2
      · obtain ⟨a, ha, e⟩ := mem_at hj
        rw [← e, kvQ_piv (fun k h => piv_lt hw h) (piv_asc hw) ha, ech hw w a ha k (by rw [e]; exact h1)]
        grind
      · rw [kvQ_free (fun k h => piv_lt hw h) h2 hj, if_neg (by omega)]
  · rintro ⟨x, hx, h1, h2⟩ hm
    obtain ⟨a, ha, e⟩ := mem_at hm
    have z := ker_row hw hx ha
    rw [sumN_one (p := k) hk fun j hj nj => ?_] at z
    · have o := piv_one hw ha ha
      rw [if_pos rfl, e] at o
      rw [o, h1, Rat.one_mul] at z
      exact absurd z (by decide)
    · rcases Nat.lt_or_gt_of_ne nj with l | l
      · rw [ech hw w a ha j (by rw [e]; exact l)]
        grind
      · rw [h2 j l hj]
        grind
/-- fewer vectors in the kernel: no pivot is lost -/
theorem piv_sub (hw : Wide w M) (hn : Wide w N) (h : ∀ x, KerV (at2 N) N.length w x → KerV (at2 M) M.length w x) {k : Nat} (hk : k ∈ (gaussQ M w).2) : k ∈ (gaussQ N w).2 := by
  have kl := piv_lt hw hk
  by_cases c : k ∈ (gaussQ N w).2
  · exact c
  · obtain ⟨x, h1, h2, h3⟩ := (free_iff hn kl).mp c
    exact absurd hk ((free_iff hw kl).mpr ⟨x, h x h1, h2, h3⟩)
/-- of two kernels one in the other with the same pivots the reduced rows are the same -/
theorem red_same (hw : Wide w M) (hn : Wide w N) (h : ∀ x, KerV (at2 N) N.length w x → KerV (at2 M) M.length w x) (hp : (gaussQ M w).2 = (gaussQ N w).2) {a k : Nat} (ha : a < (gaussQ M w).2.length) (hk : k < w) : at2 (gaussQ M w).1 a k = at2 (gaussQ N w).1 a k := by
  have ha' : a < (gaussQ N w).2.length := by rw [← hp]; exact ha
  by_cases c : k ∈ (gaussQ M w).2
  · obtain ⟨b, hb, e⟩ := mem_at c
    have e' := e
    rw [hp] at e'
    have o1 := piv_one hw ha hb
    have o2 := piv_one hn ha' (by rw [← hp]; exact hb)
    rw [e] at o1
    rw [e'] at o2
    rw [o1, o2]
  · have c' : k ∉ (gaussQ N w).2 := by rw [← hp]; exact c
    have z := ker_row hw (h _ (kv_ker hn hk c')) ha
    have hc := getD_mem ha
    have hca := piv_lt hw hc
    have ne : k ≠ (gaussQ M w).2.getD a 0 := fun e => c (by rw [e]; exact hc)
    have xv : ∀ j, j < w → j ∉ (gaussQ N w).2 → (kvQ (gaussQ N w).1 (gaussQ N w).2 w k).getD j 0 = if j = k then 1 else 0 := fun j hj nj => kvQ_free (fun k h => piv_lt hn h) hj nj
    rw [sumN_two (p := k) (q := (gaussQ M w).2.getD a 0) hk hca ne fun j hj n1 n2 => ?_] at z
    · have o := piv_one hw ha ha
      rw [if_pos rfl] at o
      have y : (kvQ (gaussQ N w).1 (gaussQ N w).2 w k).getD ((gaussQ M w).2.getD a 0) 0 = -(at2 (gaussQ N w).1 a k) := by
        rw [hp]
        exact kvQ_piv (fun k h => piv_lt hn h) (piv_asc hn) ha'
      rw [xv k hk c', if_pos rfl, o, y] at z
      grind
    · by_cases cj : j ∈ (gaussQ N w).2
      · have cj' : j ∈ (gaussQ M w).2 := by rw [hp]; exact cj
        obtain ⟨b, hb, e⟩ := mem_at cj'
        have o := piv_one hw ha hb
        rw [e, if_neg (fun z => n2 (by rw [← e, z]))] at o
        rw [o]
        grind
      · rw [xv j hj cj, if_neg n1]
        grind
end
/-- ascending lists, one in the other -/
theorem asc_len : ∀ (c d : List Nat), c.Pairwise (· < ·) → d.Pairwise (· < ·) → (∀ k ∈ c, k ∈ d) → c.length ≤ d.length ∧ (c.length = d.length → c = d)
  | [], d, _, _, _ => ⟨Nat.zero_le _, fun h => by
    have h0 : d.length = 0 := h.symm
    exact (List.length_eq_zero_iff.mp h0).symm⟩
  | x :: xs, [], _, _, h => absurd (h x List.mem_cons_self) (List.not_mem_nil)
  | x :: xs, y :: ys, h1, h2, h => by
    have hx := List.pairwise_cons.mp h1
    have hy := List.pairwise_cons.mp h2
    by_cases e : x = y
    · subst e
      have s : ∀ k ∈ xs, k ∈ ys := fun k hk => by
        rcases List.mem_cons.mp (h k (List.mem_cons_of_mem _ hk)) with z | z
        · have := hx.1 k hk; omega
        · exact z
      obtain ⟨l, q⟩ := asc_len xs ys hx.2 hy.2 s
      refine ⟨Nat.succ_le_succ l, fun z => ?_⟩
      rw [q (Nat.succ.inj z)]
    · have xy : x ∈ ys := by
        rcases List.mem_cons.mp (h x List.mem_cons_self) with z | z
        · exact absurd z e
        · exact z
      have lt := hy.1 x xy
      have s : ∀ k ∈ x :: xs, k ∈ ys := fun k hk => by
        rcases List.mem_cons.mp (h k hk) with z | z
        · rcases List.mem_cons.mp hk with u | u
          · omega
          · have := hx.1 k u; omega
        · exact z
      obtain ⟨l, q⟩ := asc_len (x :: xs) ys h1 hy.2 s
      refine ⟨Nat.le_succ_of_le l, fun z => ?_⟩
      rw [List.length_cons (a := y)] at z
      omega
section
variable {M N : List (List Rat)} {w : Nat}
/-- as many pivots, one kernel in the other: all is the same -/
theorem piv_same (hw : Wide w M) (hn : Wide w N) (h : ∀ x, KerV (at2 N) N.length w x → KerV (at2 M) M.length w x) (hl : (gaussQ M w).2.length = (gaussQ N w).2.length) : (gaussQ M w).2 = (gaussQ N w).2 :=
  (asc_len _ _ (piv_asc hw) (piv_asc hn) fun k hk => piv_sub hw hn h hk).2 hl
theorem piv_le (hw : Wide w M) (hn : Wide w N) (h : ∀ x, KerV (at2 N) N.length w x → KerV (at2 M) M.length w x) : (gaussQ M w).2.length ≤ (gaussQ N w).2.length :=
  (asc_len _ _ (piv_asc hw) (piv_asc hn) fun k hk => piv_sub hw hn h hk).1
/-- the kernel told by the reduced rows -/
theorem ker_of_red (hw : Wide w M) {x : Nat → Rat} (h : ∀ a, a < (gaussQ M w).2.length → sumN w (fun k => at2 (gaussQ M w).1 a k * x k) = 0) : KerV (at2 M) M.length w x := by
  obtain ⟨ρ, b, hρ, g⟩ := gs_ex hw w
  refine gauss_bwd w hw w fun i hi => ?_
  by_cases c : i < (gaussQ M w).2.length
  · exact h i c
  · refine sumN_zero fun k hk => ?_
    rw [g.zero i (Nat.not_lt.mp c) hi k hk]
    grind
theorem ker_same (hw : Wide w M) (hn : Wide w N) (h : ∀ x, KerV (at2 N) N.length w x → KerV (at2 M) M.length w x) (hl : (gaussQ M w).2.length = (gaussQ N w).2.length) {x : Nat → Rat} (hx : KerV (at2 M) M.length w x) : KerV (at2 N) N.length w x := by
  have hp := piv_same hw hn h hl
  refine ker_of_red hn fun a ha => ?_
  rw [← hp] at ha
  rw [← ker_row hw hx ha]
  refine sumN_congr fun k hk => ?_
  rw [red_same hw hn h hp ha hk]
end
end Pn

namespace Pn
section
variable {M : List (List Rat)} {b : List Rat} {w : Nat}
theorem sumN_succ (n : Nat) (f : Nat → Rat) : sumN (n + 1) f = sumN n f + f n := rfl
theorem join_ker (hw : Wide w M) (hl : M.length = b.length) {x : Nat → Rat} (i : Nat) (hi : i < M.length) : sumN (w + 1) (fun k => at2 (joinQ M b) i k * x k) = sumN w (fun k => at2 M i k * x k) + b.getD i 0 * x w := by
  rw [sumN_succ]
  congr 1
  · refine sumN_congr fun k hk => ?_
    rw [joinQ_at hw hl hi, if_pos hk]
  · rw [joinQ_at hw hl hi, if_neg (Nat.lt_irrefl _), if_pos rfl]
/-- the pivots ahead of the last column are those of the matrix -/
theorem join_piv (hw : Wide w M) (hl : M.length = b.length) {k : Nat} (hk : k < w) : k ∈ (gaussQ (joinQ M b) (w + 1)).2 ↔ k ∈ (gaussQ M w).2 := by
  have z : k ∉ (gaussQ (joinQ M b) (w + 1)).2 ↔ k ∉ (gaussQ M w).2 := by
    rw [free_iff (joinQ_wide hw hl) (Nat.lt_succ_of_lt hk), free_iff hw hk]
    constructor
    · rintro ⟨x, h1, h2, h3⟩
      refine ⟨x, fun i hi => ?_, h2, fun j h4 h5 => h3 j h4 (Nat.lt_succ_of_lt h5)⟩
      have z := h1 i (by rw [joinQ_len hl]; exact hi)
      rw [join_ker hw hl i hi, h3 w hk (Nat.lt_succ_self _)] at z
      rw [← z]
      grind
    · rintro ⟨x, h1, h2, h3⟩
      refine ⟨fun j => if j < w then x j else 0, fun i hi => ?_, (if_pos hk).trans h2, fun j h4 h5 => ?_⟩
      · rw [joinQ_len hl] at hi
        rw [join_ker hw hl i hi, if_neg (Nat.lt_irrefl _)]
        have e : sumN w (fun k => at2 M i k * (if k < w then x k else 0)) = sumN w (fun k => at2 M i k * x k) := sumN_congr fun k hk => by rw [if_pos hk]
        rw [e, h1 i hi]
        grind
      · dsimp only
        by_cases c : j < w
        · rw [if_pos c]; exact h3 j h4 c
        · rw [if_neg c]
  constructor
  · intro h
    by_cases c : k ∈ (gaussQ M w).2
    · exact c
    · exact absurd h (z.mpr c)
  · intro h
    by_cases c : k ∈ (gaussQ (joinQ M b) (w + 1)).2
    · exact c
    · exact absurd h (z.mp c)
/-- a solution there is exactly if the pivots stay -/
theorem join_same (hw : Wide w M) (hl : M.length = b.length) : (gaussQ (joinQ M b) (w + 1)).2 = (gaussQ M w).2 ↔ w ∉ (gaussQ (joinQ M b) (w + 1)).2 := by
  have a1 := piv_asc (joinQ_wide hw hl)
  have a2 := piv_asc hw
  constructor
  · intro e h
    rw [e] at h
    exact Nat.lt_irrefl _ (piv_lt hw h)
  · intro h
    have s1 : ∀ k ∈ (gaussQ (joinQ M b) (w + 1)).2, k ∈ (gaussQ M w).2 := fun k hk => by
      have l := piv_lt (joinQ_wide hw hl) hk
      have n : k ≠ w := fun e => h (e ▸ hk)
      exact (join_piv hw hl (by omega)).mp hk
    have s2 : ∀ k ∈ (gaussQ M w).2, k ∈ (gaussQ (joinQ M b) (w + 1)).2 := fun k hk => (join_piv hw hl (piv_lt hw hk)).mpr hk
    exact (asc_len _ _ a1 a2 s1).2 (Nat.le_antisymm (asc_len _ _ a1 a2 s1).1 (asc_len _ _ a2 a1 s2).1)
/-- the told solution -/
def solQ (M : List (List Rat)) (w : Nat) (b : List Rat) : List Rat := solV (gaussQ (joinQ M b) (w + 1)).1 (gaussQ (joinQ M b) (w + 1)).2 w
theorem solQ_len : (solQ M w b).length = w := solV_len _ _ _
theorem join_lt (hw : Wide w M) (hl : M.length = b.length) (h : w ∉ (gaussQ (joinQ M b) (w + 1)).2) : ∀ k ∈ (gaussQ (joinQ M b) (w + 1)).2, k < w := fun k hk => by
  have l := piv_lt (joinQ_wide hw hl) hk
  have n : k ≠ w := fun e => h (e ▸ hk)
  omega
theorem solQ_free (hw : Wide w M) (hl : M.length = b.length) (h : w ∉ (gaussQ (joinQ M b) (w + 1)).2) {k : Nat} (hk : k ∉ (gaussQ M w).2) : (solQ M w b).getD k 0 = 0 :=
  solV_free (join_lt hw hl h) (by rw [(join_same hw hl).mpr h]; exact hk)
theorem solQ_sum (hw : Wide w M) (hl : M.length = b.length) (h : w ∉ (gaussQ (joinQ M b) (w + 1)).2) {i : Nat} (hi : i < M.length) : sumN w (fun k => at2 M i k * (solQ M w b).getD k 0) = b.getD i 0 := by
  have lt := join_lt hw hl h
  have jw := joinQ_wide hw hl
  have asc := piv_asc jw
  have kv : KerV (at2 (joinQ M b)) (joinQ M b).length (w + 1) fun k => if k < w then (solQ M w b).getD k 0 else -1 := by
    refine ker_of_red jw fun a ha => ?_
    have hc := getD_mem ha
    have hl := lt _ hc
    have o := piv_one jw ha ha
    rw [if_pos rfl] at o
    rw [sumN_two (p := (gaussQ (joinQ M b) (w + 1)).2.getD a 0) (q := w) (by omega) (Nat.lt_succ_self _) (by omega) fun k hk n1 n2 => ?_]
    · rw [o, if_pos hl, if_neg (Nat.lt_irrefl _)]
      unfold solQ
      rw [solV_piv lt asc ha]
      grind
    · have kw : k < w := by omega
      rw [if_pos kw]
      by_cases c : k ∈ (gaussQ (joinQ M b) (w + 1)).2
      · obtain ⟨d, hd, e⟩ := mem_at c
        have z := piv_one jw ha hd
        rw [e, if_neg (fun y => n1 (by rw [← e, y]))] at z
        rw [z]
        grind
      · unfold solQ
        rw [solV_free lt c]
        grind
  have z := kv i (by rw [joinQ_len hl]; exact hi)
  rw [join_ker hw hl i hi, if_neg (Nat.lt_irrefl _)] at z
  have e : sumN w (fun k => at2 M i k * (if k < w then (solQ M w b).getD k 0 else -1)) = sumN w (fun k => at2 M i k * (solQ M w b).getD k 0) := sumN_congr fun k hk => by rw [if_pos hk]
  rw [e] at z
  grind
theorem solQ_dot (hw : Wide w M) (hl : M.length = b.length) (h : w ∉ (gaussQ (joinQ M b) (w + 1)).2) {i : Nat} (hi : i < M.length) : dotQ (M.getD i []) (solQ M w b) = b.getD i 0 := by
  rw [sumN_dot hw solQ_len hi]
  exact solQ_sum hw hl h hi
/-- if there is a solution, the pivots stay -/
theorem sol_ex (hw : Wide w M) (hl : M.length = b.length) {x : Nat → Rat} (hx : ∀ i, i < M.length → sumN w (fun k => at2 M i k * x k) = b.getD i 0) : w ∉ (gaussQ (joinQ M b) (w + 1)).2 := by
  refine (free_iff (joinQ_wide hw hl) (Nat.lt_succ_self w)).mpr ⟨fun k => if k < w then -(x k) else 1, fun i hi => ?_, if_neg (Nat.lt_irrefl _), fun j h1 h2 => absurd h2 (by omega)⟩
  rw [joinQ_len hl] at hi
  rw [join_ker hw hl i hi, if_neg (Nat.lt_irrefl _)]
  have e : sumN w (fun k => at2 M i k * (if k < w then -(x k) else 1)) = (-1) * sumN w (fun k => at2 M i k * x k) + 0 * sumN w (fun k => at2 M i k * x k) := by
    rw [← sumN_lin]
    refine sumN_congr fun k hk => ?_
    rw [if_pos hk]
    grind
  rw [e, hx i hi]
  grind
end
/-! ### rows behind rows -/
section
variable {M N : List (List Rat)} {w : Nat}
theorem at2_app {i k : Nat} : at2 (M ++ N) i k = if i < M.length then at2 M i k else at2 N (i - M.length) k := by
  unfold at2
  by_cases h : i < M.length
  · rw [if_pos h, List.getD_eq_getElem?_getD (l := M ++ N), List.getElem?_append_left h, ← List.getD_eq_getElem?_getD]
  · rw [if_neg h, List.getD_eq_getElem?_getD (l := M ++ N), List.getElem?_append_right (by omega), ← List.getD_eq_getElem?_getD]
theorem wide_app (h1 : Wide w M) (h2 : Wide w N) : Wide w (M ++ N) := fun r hr => (List.mem_append.mp hr).elim (h1 r) (h2 r)
theorem ker_app {x : Nat → Rat} : KerV (at2 (M ++ N)) (M ++ N).length w x ↔ KerV (at2 M) M.length w x ∧ KerV (at2 N) N.length w x := by
  constructor
  · intro h
    refine ⟨fun i hi => ?_, fun i hi => ?_⟩
    · rw [← h i (by rw [List.length_append]; omega)]
      refine sumN_congr fun k _ => ?_
      rw [at2_app, if_pos hi]
    · rw [← h (M.length + i) (by rw [List.length_append]; omega)]
      refine sumN_congr fun k _ => ?_
      rw [at2_app, if_neg (by omega), Nat.add_sub_cancel_left]
  · rintro ⟨h1, h2⟩ i hi
    rw [List.length_append] at hi
    by_cases c : i < M.length
    · rw [← h1 i c]
      refine sumN_congr fun k _ => ?_
      rw [at2_app, if_pos c]
    · rw [← h2 (i - M.length) (by omega)]
      refine sumN_congr fun k _ => ?_
      rw [at2_app, if_neg c]
end
end Pn

namespace Pn
/-- each row of a state is a sum of multiples of the rows -/
theorem row_comb {M : List (List Rat)} {w : Nat} (hw : Wide w M) : ∀ t i, ∃ y : Nat → Rat, ∀ k, at2 (gaussQ M t).1 i k = sumN M.length (fun m => y m * at2 M m k)
  | 0, i => by
    by_cases hi : i < M.length
    · refine ⟨fun m => if m = i then 1 else 0, fun k => ?_⟩
      rw [sumN_one (p := i) hi fun m hm ne => ?_]
      · show at2 M i k = (if i = i then 1 else 0) * at2 M i k
        rw [if_pos rfl]
        grind
      · show (if m = i then 1 else 0) * at2 M m k = 0
        rw [if_neg ne]
        grind
    · refine ⟨fun _ => 0, fun k => ?_⟩
      rw [sumN_zero fun m _ => by grind]
      exact at2_ge (Nat.not_lt.mp hi)
  | t + 1, i => by
    obtain ⟨ρ, b, hρ, g⟩ := gs_ex hw t
    rw [gaussQ_succ]
    unfold stepQ
    cases e : firstQ (gaussQ M t).1 (gaussQ M t).2.length t with
    | none => exact row_comb hw t i
    | some a =>
      obtain ⟨a1, a2, a3, a4⟩ := firstQ_some e
      obtain ⟨ya, ha⟩ := row_comb hw t a
      obtain ⟨ys, hs⟩ := row_comb hw t (sw (gaussQ M t).2.length a i)
      dsimp only
      by_cases ei : i = (gaussQ M t).2.length
      · refine ⟨fun m => (at2 (gaussQ M t).1 a t)⁻¹ * ya m + 0 * ya m, fun k => ?_⟩
        rw [stepAt_at g.wide (by omega) a2, ei, step_l, ha k, Rat.div_def]
        have z := sumN_lin M.length (at2 (gaussQ M t).1 a t)⁻¹ 0 (fun m => ya m * at2 M m k) (fun m => ya m * at2 M m k)
        rw [show (sumN M.length fun m => ((at2 (gaussQ M t).1 a t)⁻¹ * ya m + 0 * ya m) * at2 M m k) = sumN M.length fun m => (at2 (gaussQ M t).1 a t)⁻¹ * (ya m * at2 M m k) + 0 * (ya m * at2 M m k) from sumN_congr fun m _ => by grind, z]
        grind
      · refine ⟨fun m => 1 * ys m + (-(at2 (gaussQ M t).1 (sw (gaussQ M t).2.length a i) t * (at2 (gaussQ M t).1 a t)⁻¹)) * ya m, fun k => ?_⟩
        rw [stepAt_at g.wide (by omega) a2, step_o ei, hs k, ha k, Rat.div_def]
        have z := sumN_lin M.length 1 (-(at2 (gaussQ M t).1 (sw (gaussQ M t).2.length a i) t * (at2 (gaussQ M t).1 a t)⁻¹)) (fun m => ys m * at2 M m k) (fun m => ya m * at2 M m k)
        rw [show (sumN M.length fun m => (1 * ys m + (-(at2 (gaussQ M t).1 (sw (gaussQ M t).2.length a i) t * (at2 (gaussQ M t).1 a t)⁻¹)) * ya m) * at2 M m k) = sumN M.length fun m => 1 * (ys m * at2 M m k) + (-(at2 (gaussQ M t).1 (sw (gaussQ M t).2.length a i) t * (at2 (gaussQ M t).1 a t)⁻¹)) * (ya m * at2 M m k) from sumN_congr fun m _ => by grind, z]
        grind
section
variable {M : List (List Rat)} {v : List Rat} {w : Nat}
theorem one_ker {x : Nat → Rat} : KerV (at2 [v]) [v].length w x ↔ sumN w (fun k => v.getD k 0 * x k) = 0 := by
  constructor
  · intro h
    exact h 0 (by simp)
  · intro h i hi
    have e : i = 0 := by simp at hi; omega
    rw [e]
    exact h
theorem one_wide (hv : v.length = w) : Wide w [v] := fun r hr => by rw [List.mem_singleton.mp hr]; exact hv
theorem trans_sum (hw : Wide w M) {x : Nat → Rat} {j : Nat} (hj : j < w) : sumN M.length (fun m => at2 (transQ M w) j m * x m) = sumN M.length (fun m => x m * at2 M m j) :=
  sumN_congr fun m hm => by rw [at2_trans hj hm]; grind
theorem sumN_swap (n m : Nat) (f : Nat → Nat → Rat) : sumN n (fun i => sumN m (fun j => f i j)) = sumN m (fun j => sumN n (fun i => f i j)) := by
  induction n with
  | zero => exact (sumN_zero (n := m) (f := fun j => sumN 0 fun i => f i j) fun j _ => rfl).symm
  | succ n ih =>
    rw [sumN_succ, ih]
    have z := sumN_lin m 1 1 (fun j => sumN n fun i => f i j) (fun j => f n j)
    have e : sumN m (fun j => sumN (n + 1) fun i => f i j) = sumN m (fun j => 1 * (sumN n fun i => f i j) + 1 * f n j) := sumN_congr fun j _ => by rw [sumN_succ]; grind
    rw [e, z]
    grind
theorem sumN_mul (n : Nat) (a : Rat) (f : Nat → Rat) : sumN n (fun k => a * f k) = a * sumN n f := by
  have z := sumN_lin n a 0 f f
  have e : sumN n (fun k => a * f k + 0 * f k) = sumN n (fun k => a * f k) := sumN_congr fun k _ => by grind
  rw [e] at z
  rw [z]
  grind
/-- what the rows make 0 is made 0 by what is a sum of them -/
theorem comb_ker {x y : Nat → Rat} (hv : ∀ j, j < w → sumN M.length (fun m => y m * at2 M m j) = v.getD j 0) (hx : KerV (at2 M) M.length w x) : sumN w (fun k => v.getD k 0 * x k) = 0 := by
  have e : sumN w (fun k => v.getD k 0 * x k) = sumN w (fun k => sumN M.length (fun m => y m * (at2 M m k * x k))) := sumN_congr fun k hk => by
    rw [← hv k hk, Rat.mul_comm, ← sumN_mul]
    exact sumN_congr fun m _ => by grind
  rw [e, ← sumN_swap]
  refine sumN_zero fun m hm => ?_
  rw [sumN_mul, hx m hm, Rat.mul_zero]
/-- the rank does not grow exactly if the vector is a sum of the rows -/
theorem span_iff (hw : Wide w M) (hv : v.length = w) : M.length ∉ (gaussQ (joinQ (transQ M w) v) (M.length + 1)).2 ↔ (gaussQ (M ++ [v]) w).2.length ≤ (gaussQ M w).2.length := by
  have tw : Wide M.length (transQ M w) := transQ_wide
  have tl : (transQ M w).length = v.length := by rw [transQ_len]; exact hv.symm
  have aw := wide_app hw (one_wide hv)
  constructor
  · intro h
    refine piv_le aw hw fun x hx => ?_
    refine ker_app.mpr ⟨hx, one_ker.mpr ?_⟩
    refine comb_ker (y := fun m => (solQ (transQ M w) M.length v).getD m 0) (fun j hj => ?_) hx
    have z := solQ_sum tw tl h (i := j) (by rw [transQ_len]; exact hj)
    rw [trans_sum hw hj] at z
    exact z
  · intro h hm
    have jw := joinQ_wide tw tl
    obtain ⟨a, ha, e⟩ := mem_at hm
    obtain ⟨y, hy⟩ := row_comb jw (M.length + 1) a
    have jl := joinQ_len tl
    rw [jl, transQ_len] at hy
    have y0 : KerV (at2 M) M.length w y := fun i hi => by
      have z := hy i
      rw [ech jw _ a ha i (by rw [e]; exact hi)] at z
      rw [z]
      refine sumN_congr fun m hm => ?_
      rw [joinQ_at tw tl (by rw [transQ_len]; exact hm), if_pos hi, at2_trans hm hi]
      grind
    have le : (gaussQ M w).2.length ≤ (gaussQ (M ++ [v]) w).2.length := piv_le hw aw fun x hx => (ker_app.mp hx).1
    have y1 := ker_same hw aw (fun x hx => (ker_app.mp hx).1) (Nat.le_antisymm le h) y0
    have y2 := one_ker.mp (ker_app.mp y1).2
    have z := hy M.length
    have o := piv_one jw ha ha
    rw [if_pos rfl, e] at o
    rw [o] at z
    have e3 : sumN w (fun m => y m * at2 (joinQ (transQ M w) v) m M.length) = sumN w (fun k => v.getD k 0 * y k) := sumN_congr fun m hm => by
      rw [joinQ_at tw tl (by rw [transQ_len]; exact hm), if_neg (Nat.lt_irrefl _), if_pos rfl]
      grind
    rw [e3, y2] at z
    exact absurd z (by decide)
theorem take_snoc {k : Nat} (h : k < M.length) : M.take (k + 1) = M.take k ++ [M.getD k []] := by
  rw [List.take_succ, getD_get (d := []) h]
  rfl
theorem take_wide (hw : Wide w M) (k : Nat) : Wide w (M.take k) := fun r hr => hw r (List.mem_of_mem_take hr)
theorem take_at {k i j : Nat} (h : i < k) : at2 (M.take k) i j = at2 M i j := by
  unfold at2
  rw [List.getD_eq_getElem?_getD (l := M.take k), List.getElem?_take, if_pos h, ← List.getD_eq_getElem?_getD]
/-- a row that does not make the rank greater is no pivot of the transposed matrix -/
theorem dep_free (hw : Wide w M) {k : Nat} (hk : k < M.length) (h : (gaussQ (M.take (k + 1)) w).2.length ≤ (gaussQ (M.take k) w).2.length) : k ∉ (gaussQ (transQ M w) M.length).2 := by
  rw [take_snoc hk] at h
  have lk : (M.take k).length = k := by rw [List.length_take]; omega
  have wk := wide_get hw hk
  have n := (span_iff (take_wide hw k) wk).mpr h
  have tw : Wide (M.take k).length (transQ (M.take k) w) := transQ_wide
  have tl : (transQ (M.take k) w).length = (M.getD k []).length := by rw [transQ_len]; exact wk.symm
  have sol := fun j (hj : j < w) => solQ_sum tw tl n (i := j) (by rw [transQ_len]; exact hj)
  generalize solQ (transQ (M.take k) w) (M.take k).length (M.getD k []) = x at sol
  refine (free_iff (transQ_wide) hk).mpr ⟨fun m => if m < k then -(x.getD m 0) else if m = k then 1 else 0, fun j hj => ?_, (if_neg (Nat.lt_irrefl _)).trans (if_pos rfl), fun m h1 h2 => (if_neg (by omega)).trans (if_neg (by omega))⟩
  rw [transQ_len] at hj
  have z := sol j hj
  rw [trans_sum (take_wide hw k) hj, lk] at z
  rw [trans_sum hw hj]
  have split : ∀ n, k < n → sumN n (fun m => (if m < k then -(x.getD m 0) else if m = k then 1 else 0) * at2 M m j) = (-1) * sumN k (fun m => x.getD m 0 * at2 M m j) + at2 M k j := by
    intro n
    induction n with
    | zero => intro h; omega
    | succ n ih =>
      intro h
      rw [sumN_succ]
      by_cases e : n = k
      · rw [e, if_neg (Nat.lt_irrefl _), if_pos rfl, ← sumN_mul]
        rw [sumN_congr (f := fun m => (if m < k then -(x.getD m 0) else if m = k then 1 else 0) * at2 M m j) (g := fun m => -1 * (x.getD m 0 * at2 M m j)) fun m hm => by rw [if_pos hm]; grind]
        grind
      · rw [ih (by omega), if_neg (by omega), if_neg e]
        grind
  rw [split _ hk]
  have z2 : sumN k (fun m => x.getD m 0 * at2 M m j) = at2 M k j := by
    have e2 : sumN k (fun m => x.getD m 0 * at2 M m j) = sumN k (fun m => x.getD m 0 * at2 (M.take k) m j) := sumN_congr fun m hm => by rw [take_at hm]
    rw [e2, z]
    rfl
  rw [z2]
  grind
end
end Pn

namespace Pn
/-! ### matrices as functions of two places -/
abbrev M2 := Nat → Nat → Rat
def mulF (n : Nat) (A B : M2) : M2 := fun i j => sumN n fun k => A i k * B k j
def trF (A : M2) : M2 := fun i j => A j i
theorem sumN_add (n : Nat) (f g : Nat → Rat) : sumN n (fun k => f k + g k) = sumN n f + sumN n g := by
  have z := sumN_lin n 1 1 f g
  have e : sumN n (fun k => 1 * f k + 1 * g k) = sumN n (fun k => f k + g k) := sumN_congr fun k _ => by grind
  rw [e] at z
  rw [z]
  grind
theorem sumN_mulR (n : Nat) (a : Rat) (f : Nat → Rat) : sumN n (fun k => f k * a) = sumN n f * a := by
  rw [Rat.mul_comm, ← sumN_mul]
  exact sumN_congr fun k _ => by grind
theorem mulF_assoc (n m : Nat) (A B C : M2) : mulF n (mulF m A B) C = mulF m A (mulF n B C) := by
  funext i j
  unfold mulF
  have e1 : sumN n (fun k => sumN m (fun k_1 => A i k_1 * B k_1 k) * C k j) = sumN n fun k => sumN m fun l => A i l * B l k * C k j := sumN_congr fun k _ => by rw [← sumN_mulR]
  have e2 : sumN m (fun k => A i k * sumN n fun k_1 => B k k_1 * C k_1 j) = sumN m fun l => sumN n fun k => A i l * B l k * C k j := sumN_congr fun l _ => by
    rw [← sumN_mul]
    exact sumN_congr fun k _ => by grind
  rw [e1, e2, sumN_swap]
theorem trF_mul (n : Nat) (A B : M2) : trF (mulF n A B) = mulF n (trF B) (trF A) := by
  funext i j
  exact sumN_congr fun k _ => Rat.mul_comm _ _
theorem trF_trF (A : M2) : trF (trF A) = A := rfl
def idF (n : Nat) : M2 := fun i j => if i = j ∧ i < n then 1 else 0
theorem mulF_id {n : Nat} {A : M2} (h : ∀ i j, n ≤ j → A i j = 0) : mulF n A (idF n) = A := by
  funext i j
  unfold mulF idF
  by_cases hj : j < n
  · rw [sumN_one (p := j) hj fun k hk ne => by rw [if_neg (fun z => ne z.1)]; grind, if_pos ⟨rfl, hj⟩]
    grind
  · rw [sumN_zero fun k hk => by rw [if_neg (by omega)]; grind, h i j (Nat.not_lt.mp hj)]
theorem id_mulF {n : Nat} {A : M2} (h : ∀ i j, n ≤ i → A i j = 0) : mulF n (idF n) A = A := by
  funext i j
  unfold mulF idF
  by_cases hi : i < n
  · rw [sumN_one (p := i) hi fun k hk ne => by rw [if_neg (fun z => ne z.1.symm)]; grind, if_pos ⟨rfl, hi⟩]
    grind
  · rw [sumN_zero fun k hk => by rw [if_neg (by omega)]; grind, h i j (Nat.not_lt.mp hi)]
theorem trF_id (n : Nat) : trF (idF n) = idF n := by
  funext i j
  unfold trF idF
  by_cases h : i = j
  · subst h; rfl
  · rw [if_neg (fun z => h z.1.symm), if_neg (fun z => h z.1)]
theorem at2_mul {a b : List (List Rat)} {w : Nat} (ha : Wide b.length a) (hb : Wide w b) : at2 (mulQ a b w) = mulF b.length (at2 a) (at2 b) := by
  funext i j
  by_cases hi : i < a.length
  · have e : (mulQ a b w).getD i [] = applyQ (transQ b w) (a.getD i []) := by unfold mulQ; exact getD_map' hi
    show ((mulQ a b w).getD i []).getD j 0 = _
    rw [e]
    by_cases hj : j < w
    · unfold applyQ
      rw [getD_map' (e := []) (by rw [transQ_len]; exact hj)]
      have tl : ((transQ b w).getD j []).length = b.length := transQ_wide _ (List.mem_of_getElem? (getD_get (by rw [transQ_len]; exact hj)))
      rw [dotN_sum tl (wide_get ha hi)]
      refine sumN_congr fun k hk => ?_
      show at2 (transQ b w) j k * at2 a i k = _
      rw [at2_trans hj hk, Rat.mul_comm]
    · rw [List.getD_eq_getElem?_getD, List.getElem?_eq_none (by unfold applyQ; rw [List.length_map, transQ_len]; omega)]
      refine (sumN_zero fun k hk => ?_).symm
      rw [at2_wide hb (Nat.not_lt.mp hj), Rat.mul_zero]
  · rw [at2_ge (by unfold mulQ; rw [List.length_map]; omega)]
    refine (sumN_zero fun k hk => ?_).symm
    rw [at2_ge (Nat.not_lt.mp hi), Rat.zero_mul]
theorem at2_tr {M : List (List Rat)} {w : Nat} (hw : Wide w M) : at2 (transQ M w) = trF (at2 M) := by
  funext i j
  unfold trF
  by_cases hi : i < w
  · by_cases hj : j < M.length
    · exact at2_trans hi hj
    · rw [at2_wide transQ_wide (Nat.not_lt.mp hj), at2_ge (Nat.not_lt.mp hj)]
  · rw [at2_ge (by rw [transQ_len]; omega), at2_wide hw (Nat.not_lt.mp hi)]
theorem mulQ_len {a b : List (List Rat)} {w : Nat} : (mulQ a b w).length = a.length := by unfold mulQ; rw [List.length_map]
theorem mulQ_wide {a b : List (List Rat)} {w : Nat} : Wide w (mulQ a b w) := fun r hr => by
  unfold mulQ at hr
  obtain ⟨x, hx, rfl⟩ := List.mem_map.mp hr
  unfold applyQ
  rw [List.length_map, transQ_len]
/-- two lists of rows are the same if all numbers are -/
theorem mat_fun {A B : List (List Rat)} {w : Nat} (hl : A.length = B.length) (hA : Wide w A) (hB : Wide w B) (h : at2 A = at2 B) : A = B := mat_ext hl hA hB fun i j _ _ => by rw [h]
/-! ### sums of squares -/
theorem sq_nonneg (x : Rat) : 0 ≤ x * x := by
  rcases (Rat.le_total : (0 : Rat) ≤ x ∨ x ≤ 0) with h | h
  · exact Rat.mul_nonneg h h
  · have h2 : 0 ≤ -x := by grind
    have z := Rat.mul_nonneg h2 h2
    grind
theorem sumN_nonneg {n : Nat} {f : Nat → Rat} (h : ∀ k, k < n → 0 ≤ f k) : 0 ≤ sumN n f := by
  induction n with
  | zero => exact Rat.le_refl
  | succ n ih =>
    rw [sumN_succ]
    have a := ih fun k hk => h k (Nat.lt_succ_of_lt hk)
    have b := h n (Nat.lt_succ_self n)
    grind
theorem sumN_null {n : Nat} {f : Nat → Rat} (h : ∀ k, k < n → 0 ≤ f k) (e : sumN n f = 0) : ∀ k, k < n → f k = 0 := by
  induction n with
  | zero => intro k hk; omega
  | succ n ih =>
    rw [sumN_succ] at e
    have a := sumN_nonneg (n := n) (f := f) fun k hk => h k (Nat.lt_succ_of_lt hk)
    have b := h n (Nat.lt_succ_self n)
    have e1 : sumN n f = 0 := by grind
    have e2 : f n = 0 := by grind
    intro k hk
    by_cases c : k = n
    · rw [c]; exact e2
    · exact ih (fun k hk => h k (Nat.lt_succ_of_lt hk)) e1 k (by omega)
theorem sq_null {x : Rat} (h : x * x = 0) : x = 0 := by
  rcases Rat.mul_eq_zero.mp h with z | z <;> exact z
/-- a matrix times its transposed one kills what the transposed one kills -/
theorem gram_ker {A : M2} {r n : Nat} {x : Nat → Rat} (h : ∀ a, a < r → sumN r (fun b => mulF n A (trF A) a b * x b) = 0) : ∀ j, j < n → sumN r (fun a => x a * A a j) = 0 := by
  have e : sumN n (fun j => sumN r (fun a => x a * A a j) * sumN r (fun a => x a * A a j)) = 0 := by
    have e1 : sumN n (fun j => sumN r (fun a => x a * A a j) * sumN r (fun a => x a * A a j)) = sumN n (fun j => sumN r fun a => x a * (A a j * sumN r (fun b => x b * A b j))) := sumN_congr fun j _ => by
      rw [← sumN_mulR]
      exact sumN_congr fun a _ => by grind
    rw [e1, sumN_swap]
    refine sumN_zero fun a ha => ?_
    rw [sumN_mul]
    have e2 : sumN n (fun j => A a j * sumN r (fun b => x b * A b j)) = sumN r (fun b => mulF n A (trF A) a b * x b) := by
      have e3 : sumN n (fun j => A a j * sumN r (fun b => x b * A b j)) = sumN n (fun j => sumN r fun b => A a j * A b j * x b) := sumN_congr fun j _ => by
        rw [← sumN_mul]
        exact sumN_congr fun b _ => by grind
      rw [e3, sumN_swap]
      refine sumN_congr fun b _ => ?_
      unfold mulF trF
      rw [← sumN_mulR]
    rw [e2, h a ha, Rat.mul_zero]
  intro j hj
  exact sq_null (sumN_null (fun k _ => sq_nonneg _) e j hj)
/-! ### a matrix is its columns at the pivots times its reduced rows -/
section
variable {M : List (List Rat)} {w : Nat}
theorem factor (hw : Wide w M) {i k : Nat} (hi : i < M.length) (hk : k < w) : at2 M i k = sumN (gaussQ M w).2.length (fun a => at2 M i ((gaussQ M w).2.getD a 0) * at2 (gaussQ M w).1 a k) := by
  by_cases c : k ∈ (gaussQ M w).2
  · obtain ⟨b, hb, e⟩ := mem_at c
    rw [sumN_one (p := b) hb fun a ha ne => ?_]
    · have o := piv_one hw hb hb
      rw [if_pos rfl] at o
      rw [← e, o]
      grind
    · have o := piv_one hw ha hb
      rw [if_neg ne, e] at o
      rw [o]
      grind
  · have z := kv_ker hw hk c i hi
    have hc := fun j hj => piv_lt hw (k := j) hj
    -- the sum over all columns: k itself, the pivots
    have split : sumN w (fun j => at2 M i j * (kvQ (gaussQ M w).1 (gaussQ M w).2 w k).getD j 0) = at2 M i k + sumN (gaussQ M w).2.length (fun a => at2 M i ((gaussQ M w).2.getD a 0) * -(at2 (gaussQ M w).1 a k)) := by
      have asc := piv_asc hw
      have key : ∀ n, n ≤ (gaussQ M w).2.length → ∀ g : Nat → Rat, (∀ j, j < w → (∀ a, a < n → (gaussQ M w).2.getD a 0 ≠ j) → g j = 0) → sumN w g = sumN n (fun a => g ((gaussQ M w).2.getD a 0)) := by
        intro n
        induction n with
        | zero => intro _ g hg; exact sumN_zero fun j hj => hg j hj fun a ha => absurd ha (Nat.not_lt_zero _)
        | succ n ih =>
          intro hn g hg
          have hcn := hc _ (getD_mem (c := (gaussQ M w).2) (a := n) (by omega))
          have z1 := ih (by omega) (fun j => if j = (gaussQ M w).2.getD n 0 then 0 else g j) fun j hj h => by
            by_cases e : j = (gaussQ M w).2.getD n 0
            · rw [if_pos e]
            · rw [if_neg e]
              exact hg j hj fun a ha => by
                by_cases ea : a = n
                · rw [ea]; exact fun z => e z.symm
                · exact h a (by omega)
          have z2 : sumN w g = sumN w (fun j => if j = (gaussQ M w).2.getD n 0 then 0 else g j) + g ((gaussQ M w).2.getD n 0) := by
            have z3 := sumN_one (p := (gaussQ M w).2.getD n 0) (n := w) (f := fun j => if j = (gaussQ M w).2.getD n 0 then g j else 0) hcn fun j hj ne => if_neg ne
            rw [if_pos rfl] at z3
            rw [← z3, ← sumN_add]
            refine sumN_congr fun j _ => ?_
            by_cases e : j = (gaussQ M w).2.getD n 0
            · rw [if_pos e, if_pos e]; grind
            · rw [if_neg e, if_neg e]; grind
          rw [z2, z1, sumN_succ]
          congr 1
          refine sumN_congr fun a ha => ?_
          rw [if_neg]
          intro e
          have := asc_inj asc (a := a) (b := n) (by omega) (by omega) e
          omega
      have z3 := sumN_one (p := k) (n := w) (f := fun j => if j = k then at2 M i j else 0) hk fun j hj ne => if_neg ne
      rw [if_pos rfl] at z3
      have z4 := key (gaussQ M w).2.length (Nat.le_refl _) (fun j => if j = k then 0 else at2 M i j * (kvQ (gaussQ M w).1 (gaussQ M w).2 w k).getD j 0) fun j hj h => by
        by_cases e : j = k
        · rw [if_pos e]
        · rw [if_neg e]
          have nj : j ∉ (gaussQ M w).2 := fun hm => by
            obtain ⟨a, ha, ea⟩ := mem_at hm
            exact h a ha ea
          rw [kvQ_free hc hj nj, if_neg e]
          grind
      have z5 : sumN w (fun j => at2 M i j * (kvQ (gaussQ M w).1 (gaussQ M w).2 w k).getD j 0) = sumN w (fun j => if j = k then at2 M i j else 0) + sumN w (fun j => if j = k then 0 else at2 M i j * (kvQ (gaussQ M w).1 (gaussQ M w).2 w k).getD j 0) := by
        rw [← sumN_add]
        refine sumN_congr fun j hj => ?_
        by_cases e : j = k
        · rw [if_pos e, if_pos e, e, kvQ_free hc hk c, if_pos rfl]
          grind
        · rw [if_neg e, if_neg e]
          grind
      rw [z5, z3, z4]
      congr 1
      refine sumN_congr fun a ha => ?_
      rw [if_neg (fun e => c (by rw [← e]; exact getD_mem ha)), kvQ_piv hc asc ha]
    rw [split] at z
    have e2 : sumN (gaussQ M w).2.length (fun a => at2 M i ((gaussQ M w).2.getD a 0) * -(at2 (gaussQ M w).1 a k)) = (-1) * sumN (gaussQ M w).2.length (fun a => at2 M i ((gaussQ M w).2.getD a 0) * at2 (gaussQ M w).1 a k) := by
      rw [← sumN_mul]
      exact sumN_congr fun a _ => by grind
    rw [e2] at z
    grind
end
end Pn

namespace Pn
open PySem L2 Evl
theorem dotQ_comm : ∀ (a b : List Rat), dotQ a b = dotQ b a
  | [], b => by rw [dotQ_nil, dotQ_nil_right]
  | a :: as, [] => by rw [dotQ_nil_right, dotQ_nil]
  | a :: as, b :: bs => by
    unfold dotQ
    rw [dotQ_comm as bs, Rat.mul_comm]
theorem zerosQ_rep (h w : Nat) : zerosQ h w = (List.range h).map fun _ => List.replicate w (0 : Rat) := by
  unfold zerosQ
  rw [zeroQ_rep]
theorem mulQ_due {a b : List (List Rat)} {w : Nat} : mulQ a b w = a.map fun row => (transQ b w).map fun col => dotQ row col := by
  unfold mulQ applyQ
  refine List.map_congr_left fun row _ => List.map_congr_left fun col _ => dotQ_comm _ _
theorem at2_get {M : List (List Rat)} {n w a b : Nat} (hl : M.length = n) (hw : Wide w M) (ha : a < n) (hb : b < w) : M[a]? = some (M.getD a []) ∧ (M.getD a [])[b]? = some (at2 M a b) := by
  have g := getD_get (xs := M) (d := []) (i := a) (by omega)
  exact ⟨g, getD_get (by rw [hw _ (List.mem_of_getElem? g)]; exact hb)⟩
theorem addM_range {A B : List (List Rat)} {h w : Nat} (l1 : A.length = h) (l2 : B.length = h) (w1 : Wide w A) (w2 : Wide w B) : addM A B = (List.range h).map fun k => (List.range w).map fun j => at2 A k j + at2 B k j := by
  unfold addM
  refine List.ext_getElem? fun i => ?_
  by_cases hi : i < h
  · have g1 := getD_get (xs := A) (d := []) (i := i) (by omega)
    have g2 := getD_get (xs := B) (d := []) (i := i) (by omega)
    rw [List.getElem?_zipWith, g1, g2, List.getElem?_map, List.getElem?_range hi]
    show some _ = some _
    congr 1
    exact (zip_range (f := fun x y => x + y) (w1 _ (List.mem_of_getElem? g1)) (w2 _ (List.mem_of_getElem? g2))).symm
  · rw [List.getElem?_eq_none (by rw [List.length_zipWith]; omega), List.getElem?_eq_none (by rw [List.length_map, List.length_range]; omega)]
theorem ll_of {B : Addr → Prop} {M : List (List Rat)} {v : V} {H : Hp} (h : RowAt B (RowAt B RP) M v H) : LLAt M v H := by
  obtain ⟨a, vs, e, _, h1, h2, h3⟩ := h
  exact ⟨a, vs, e, h1, h2, fun i x v g1 g2 => (h3 i x v g1 g2).lst⟩
theorem kept_ll {B : Addr → Prop} : Kept B (RowAt B (RowAt B RP)) := kept_row (kept_row kept_rp)
theorem kept_mat {B : Addr → Prop} {C : Addr} : Kept B (TupAt (RV C)) := kept_tup (kept_tup kept_rq)
theorem mono_rowll {B : Addr → Prop} {M : List (List Rat)} : Mono (RowAt B (RowAt B RP) M) := fun v H H' e h => mono_row (mono_row mono_rp) M v H H' e h
/-- [_law_row(state, w) for k in range(h)] -/
theorem lc_rows {st : Addr × Addr} {c h w j a b : Nat} {vs : List Nat} {σ : L2.St} {H : Hp} {ta : TA} {E : XK} {Q : VK} (hA : EvA ta σ H [.int (h : Int)]) (hh : h ≤ 1000) (hw1 : w ≤ 1000) (s0 : StAt st c H) (hc : c + (4 * w + 1) * h + 5 < cMax)
    (hw : ∀ x, wipe ((wipe σ vs).set j (some x)) vs = wipe σ vs) (hS : ∀ x : V, ((wipe σ vs).set j (some x))[a]? = some (some (.ref st.1))) (hW : ∀ x : V, ((wipe σ vs).set j (some x))[b]? = some (some (.int (w : Int))))
    (k : ∀ M v H', M.length = h → Wide w M → AllM 40 M → RowAt (Bs st) (RowAt (Bs st) RP) M v H' → StAt st (c + (4 * w + 1) * h) H' → FrS st H H' → Q v H') :
    tLc (iRng1 ta) (gName j) tYes (tCall spRow [] E (tCons (tVar a) (tCons (tVar b) tNil))) vs σ H Q := by
  refine lc_state (st := st) (c := c) (n := h) (cost := 4 * w + 1) (S := fun D i v H => ∃ qs : List Rat, qs.length = w ∧ AllS 40 qs ∧ RowAt (fun a => a = st.1 ∨ a = D) RP qs v H) hA (by omega) s0 hw ?_ ?_ ?_ ?_
  · intro i D H' kk hi s f nD hD hD0 kz
    have hb : (4 * w + 1) * (i + 1) ≤ (4 * w + 1) * h := Nat.mul_le_mul_left _ hi
    rw [Nat.mul_add, Nat.mul_one] at hb
    refine ⟨_, hS _, _, hW _, st, c + (4 * w + 1) * i, w, rfl, s, (by omega), (by omega), fun qs v H2 l sm rA fr s2 f2 => ?_⟩
    refine kz v H2 (s2.mono (by rw [Nat.mul_add]; omega)) f2 ⟨qs, l, sm, ?_⟩
    obtain ⟨a, vs, rfl, nb, h1, h2⟩ := rA
    obtain ⟨a', e', fr⟩ := fr
    cases e'
    refine ⟨a, vs, rfl, fun z => ?_, h1, h2⟩
    rcases z with z | z
    · exact nb z
    · obtain ⟨ys, hy⟩ := hD
      rw [← z, fr] at hy
      cases hy
  · rintro D i v H' H2 c' s f ⟨qs, l, sm, a, vs, e, nb, h1, h2⟩
    exact ⟨qs, l, sm, a, vs, e, nb, f _ _ (fun z => nb (.inl z)) h1, h2.kept (B := Bs st) kept_rp (fun b hb => by obtain ⟨items, n, h1, _⟩ := s; exact ⟨_, by rw [hb]; exact h1⟩) (fun a o n ha => f a o n ha)⟩
  · rintro D i v H' ys zs hD ⟨qs, l, sm, a, vs, e, nb, h1, h2⟩
    exact ⟨qs, l, sm, a, vs, e, nb, (upd_ne (fun z => nb (.inr z))).trans h1, h2.kept (B := fun x => x = D) kept_rp (fun b hb => ⟨ys, by rw [hb]; exact hD⟩) (fun a o n ha => (upd_ne n).trans ha)⟩
  intro D ys H' nD hD0 s f hD hl hy
  obtain ⟨M, m1, m2⟩ := pick hy
  have get : ∀ r ∈ M, ∃ y, r.length = w ∧ AllS 40 r ∧ RowAt (fun a => a = st.1 ∨ a = D) RP r y H' := fun r hr => by
    obtain ⟨i, hi, e⟩ := List.mem_iff_getElem.mp hr
    exact ⟨_, m2 i _ r (List.getElem?_eq_getElem (by omega)) (by rw [List.getElem?_eq_getElem hi, e])⟩
  refine k M _ H' (by omega) (fun r hr => (get r hr).choose_spec.1) (fun r hr => (get r hr).choose_spec.2.1) ⟨D, ys, rfl, nD, hD, m1.symm, fun i x v h1 h2 => ?_⟩ s f
  obtain ⟨_, _, a, vs, e, nb, g1, g2⟩ := m2 i v x h2 h1
  exact ⟨a, vs, e, fun z => nb (.inl z), g1, g2⟩
end Pn
namespace Pn
open PySem L2 Evl
theorem mono_tupE {H H' : Hp} {a : Addr} {o : HO} (h : H a = some o) (e : Ex H H') : H' a = some o := e _ _ h
theorem rv_notB {a b : Bool} {H : Hp} : Evl.RV rNotB (.bl a) (.bl b) H (.bl (!decide (a = b))) := fun H1 _ Q k => ⟨a, b, rfl, rfl, k H1 (Ex.refl H1)⟩
theorem rv_isB {a b : Bool} {H : Hp} : Evl.RV rIsB (.bl a) (.bl b) H (.bl (decide (a = b))) := fun H1 _ Q k => ⟨a, b, rfl, rfl, k H1 (Ex.refl H1)⟩
end Pn

namespace Pn
open PySem L2 Evl
/-- the state of the later laws: digits at st.2, how much was taken, a seed -/
def St3 (st : Addr × Addr) (c : Nat) (H : Hp) : Prop := ∃ (items : List Int) (n : Nat) (sd : Int), H st.1 = some (.lst [.ref st.2, .int (n : Int), .int sd]) ∧ H st.2 = some (.lst (items.map V.int)) ∧ st.1 ≠ st.2 ∧ items.length ≤ 3780 ∧ n ≤ c
theorem St3.mono {st : Addr × Addr} {c d : Nat} {H : Hp} (h : St3 st c H) (k : c ≤ d) : St3 st d H := by
  obtain ⟨items, n, sd, h1, h2, h3, h4, h5⟩ := h
  exact ⟨items, n, sd, h1, h2, h3, h4, Nat.le_trans h5 k⟩
theorem St3.ex {st : Addr × Addr} {c : Nat} {H H' : Hp} (h : St3 st c H) (e : Ex H H') : St3 st c H' := by
  obtain ⟨items, n, sd, h1, h2, h3, h4, h5⟩ := h
  exact ⟨items, n, sd, e _ _ h1, e _ _ h2, h3, h4, h5⟩
theorem St3.lst {st : Addr × Addr} {c : Nat} {H : Hp} (h : St3 st c H) : ∃ xs, H st.1 = some (.lst xs) := by
  obtain ⟨items, n, sd, h1, _⟩ := h
  exact ⟨_, h1⟩
theorem St3.ne {st : Addr × Addr} {c : Nat} {H : Hp} {a : Addr} {o : HO} (h : St3 st c H) (ha : H a = some o) (hn : ∀ xs, o ≠ .lst xs) : a ≠ st.1 := by
  obtain ⟨xs, h1⟩ := h.lst
  exact ne_of ha h1 (hn _)
theorem St3.fresh {st : Addr × Addr} {c : Nat} {H : Hp} {a : Addr} (h : St3 st c H) (ha : H a = none) : a ≠ st.1 := by
  obtain ⟨xs, h1⟩ := h.lst
  intro e
  subst e
  rw [ha] at h1
  cases h1
theorem St3.fresh2 {st : Addr × Addr} {c : Nat} {H : Hp} {a : Addr} (h : St3 st c H) (ha : H a = none) : a ≠ st.2 := by
  obtain ⟨items, n, sd, h1, h2, _⟩ := h
  intro e
  subst e
  rw [ha] at h2
  cases h2
theorem St3.upd {st : Addr × Addr} {c : Nat} {H : Hp} {a : Addr} {o : HO} (h : St3 st c H) (h1 : a ≠ st.1) (h2 : a ≠ st.2) : St3 st c (L2.upd H a o) := by
  obtain ⟨items, n, sd, g1, g2, g3⟩ := h
  exact ⟨items, n, sd, (upd_ne h1.symm).trans g1, (upd_ne h2.symm).trans g2, g3⟩
theorem RatAt.mono3 {C : Addr} {st : Addr × Addr} {c : Nat} {H H' : Hp} {v : V} {q : Rat} (h : RatAt C H v q) (s : St3 st c H) (e : FrS st H H') : RatAt C H' v q := by
  obtain ⟨a, dx, rfl, ha⟩ := h
  exact ⟨a, dx, rfl, e _ _ (s.ne ha fun xs z => nomatch z) ha⟩
theorem Kept.fr3 {α : Type} {R : α → V → Hp → Prop} {st : Addr × Addr} {c : Nat} {H H' : Hp} {x : α} {v : V} (k : Kept (Bs st) R) (h : R x v H) (s : St3 st c H) (f : FrS st H H') : R x v H' :=
  k x v H H' (fun b hb => by obtain ⟨xs, h1⟩ := s.lst; exact ⟨_, by rw [hb]; exact h1⟩) (fun a o n ha => f a o n ha) h
theorem FrS.updN {st : Addr × Addr} {H H' : Hp} {a : Addr} {o : HO} (e : FrS st H H') (hn : H a = none) : FrS st H (L2.upd H' a o) := fun x u n h => by
  rw [upd_ne (ne_of_none h hn)]
  exact e x u n h
/-- a comprehension whose element takes of the state -/
theorem lc_st3 {st : Addr × Addr} {c n cost j : Nat} {te : TE} {vs : List Nat} {σ : L2.St} {H : Hp} {ta : TA} {S : Addr → Nat → V → Hp → Prop} {Q : VK} (h : EvA ta σ H [.int (n : Int)]) (hn : n ≤ 10000) (s0 : St3 st c H)
    (hw : ∀ x, wipe ((wipe σ vs).set j (some x)) vs = wipe σ vs)
    (he : ∀ (i : Nat) (D : Addr) (H' : Hp) (K : VK), i < n → St3 st (c + cost * i) H' → FrS st H H' → D ≠ st.1 → (∃ ys, H' D = some (.lst ys)) → H D = none → (∀ (v : V) (H2 : Hp), St3 st (c + cost * (i + 1)) H2 → FrS st H' H2 → S D i v H2 → K v H2) → te ((wipe σ vs).set j (some (.int (i : Int)))) H' K)
    (hS : ∀ (D : Addr) (i : Nat) (v : V) (H' H2 : Hp) (c : Nat), St3 st c H' → FrS st H' H2 → S D i v H' → S D i v H2) (hD : ∀ (D : Addr) (i : Nat) (v : V) (H' : Hp) (ys zs : List V), H' D = some (.lst ys) → S D i v H' → S D i v (upd H' D (.lst zs)))
    (k : ∀ (D : Addr) (ys : List V) (H' : Hp), D ≠ st.1 → H D = none → St3 st (c + cost * n) H' → FrS st H H' → H' D = some (.lst ys) → ys.length = n → (∀ (i : Nat) y, ys[i]? = some y → S D i y H') → Q (.ref D) H') :
    tLc (iRng1 ta) (gName j) tYes te vs σ H Q := by
  refine h H (Ex.refl _) _ fun H1 e1 => ⟨n, rfl, by omega, by omega, fun D hD0 => ?_⟩
  have hDH : H D = none := fresh_back e1 hD0
  have nD : D ≠ st.1 := s0.fresh hDH
  have eN : Ex H1 (upd H1 D (.lst [])) := Ex.new hD0
  have w := walk_range (lo := 0) (n := n)
  refine lc_it (w := by rw [Int.toNat_natCast]; exact w) (fun i H' => St3 st (c + cost * i) H' ∧ FrS st H H' ∧ ∃ ys, H' D = some (.lst ys) ∧ ys.length = i ∧ ∀ (m : Nat) y, ys[m]? = some y → S D m y H')
    ⟨s0.ex (e1.trans eN), .of (e1.trans eN), [], upd_same, rfl, fun m y z => by simp at z⟩ (fun _ _ _ _ => True.intro) ?_ ?_
  · rintro i x H' H2 hi ⟨p1, p2, ys, p3, p4, p5⟩ ⟨y1, y2⟩
    dsimp only at y2
    rw [Int.zero_add] at y2
    subst y1 y2
    refine ⟨hw _, ?_⟩
    show te _ H2 _
    refine he i D H2 _ hi p1 p2 nD ⟨ys, p3⟩ hDH fun v H3 q1 q2 q3 => ?_
    have d3 := q2 _ _ nD p3
    refine ⟨ys, d3, sz_lt (by omega), q1.upd nD (s0.fresh2 hDH), ?_, ys ++ [v], upd_same, by rw [List.length_append, p4]; rfl, fun m z hz => ?_⟩
    · exact (p2.trans q2).updN hDH
    · by_cases hm : m < ys.length
      · rw [List.getElem?_append_left hm] at hz
        exact hD D m z H3 ys _ d3 (hS D m z H2 H3 _ p1 q2 (p5 m z hz))
      · have hm2 : m = i := by
          have := (List.getElem?_eq_some_iff.mp hz).1
          rw [List.length_append, List.length_singleton] at this
          omega
        subst hm2
        rw [List.getElem?_append_right (by omega), p4, Nat.sub_self] at hz
        simp at hz
        subst hz
        exact hD D _ _ H3 ys _ d3 q3
  · rintro H' ⟨p1, p2, ys, p3, p4, p5⟩
    exact k D ys H' nD hDH p1 p2 p3 p4 p5
theorem TapeI.ex {p : Addr} {H0 H H' : Hp} {items : List Int} (h : TapeI p H0 H items) (e : Ex H H') : TapeI p H0 H' items := ⟨h.1, h.2.1.trans e, e _ _ h.2.2.1, h.2.2.2⟩
def spState3 (K : PySem.W.Frag) : Sp := fun vs H Q _ => ∃ (a : Addr) (ns : List Int), vs = [.ref a] ∧ SqL K H a (ns.map V.int) ∧ ns.length ≤ 63 ∧ ∀ st H', Ex H H' → St3 st 0 H' → Q (.ref st.1) H'
def spDraw3 : Sp := fun vs H Q _ => ∃ (st : Addr × Addr) (c : Nat) (many : Int), vs = [.ref st.1, .int many] ∧ St3 st c H ∧ c < cMax ∧ 0 < many ∧ ∀ d H', 0 ≤ d → d < many → St3 st (c + 1) H' → FrS st H H' → Q (.int d) H'
def spWhole3 : Sp := fun vs H Q _ => ∃ (st : Addr × Addr) (c : Nat), vs = [.ref st.1] ∧ St3 st c H ∧ c + 4 < cMax ∧ ∀ t H', Int.natAbs t < 2 ^ 20 → St3 st (c + 4) H' → FrS st H H' → Q (.int t) H'
def spRatio3 (C : Addr) : Sp := fun vs H Q _ => ∃ (st : Addr × Addr) (c : Nat), vs = [.ref st.1] ∧ St3 st c H ∧ c + 6 < cMax ∧ ∀ q v H', SmB 20 q → RatAt C H' v q → St3 st (c + 6) H' → FrS st H H' → Q v H'
/-- the size of the numbers in a drawn row -/
def bnd (k : Nat) : Nat := if k < 2 then 20 * (k + 1) else 20 * (k + 1) + 3
theorem bnd_le (k : Nat) : bnd k ≤ 20 * (k + 1) + 3 := by unfold bnd; split <;> omega
def RowsB (M : List (List Rat)) : Prop := ∀ (i : Nat) r, M[i]? = some r → AllS (bnd i) r
def spMat3 (C : Addr) : Sp := fun vs H Q _ => ∃ (st : Addr × Addr) (c h w : Nat), vs = [.ref st.1, .int (h : Int), .int (w : Int)] ∧ St3 st c H ∧ h ≤ 100 ∧ w ≤ 100 ∧ c + (6 * w + 12) * h + 5 < cMax ∧
  ∀ M v H', M.length = h → Wide w M → RowsB M → MatAt C M v H' → St3 st (c + (6 * w + 12) * h) H' → FrS st H H' → Q v H'
theorem rowsB_snoc {M : List (List Rat)} {r : List Rat} (h : RowsB M) (hr : AllS (bnd M.length) r) : RowsB (M ++ [r]) := fun i x hx => by
  by_cases hi : i < M.length
  · rw [List.getElem?_append_left hi] at hx
    exact h i x hx
  · have hl := (List.getElem?_eq_some_iff.mp hx).1
    rw [List.length_append, List.length_singleton] at hl
    have e : i = M.length := by omega
    subst e
    rw [List.getElem?_append_right (Nat.le_refl _), Nat.sub_self] at hx
    cases hx
    exact hr
theorem wide_snoc {M : List (List Rat)} {r : List Rat} {w : Nat} (h : Wide w M) (hr : r.length = w) : Wide w (M ++ [r]) := fun x hx => by
  rcases List.mem_append.mp hx with h1 | h1
  · exact h x h1
  · rw [List.mem_singleton.mp h1]
    exact hr
theorem allR_snoc {α : Type} {R : α → V → Hp → Prop} {xs : List α} {vs : List V} {x : α} {v : V} {H : Hp} (h : AllR R xs vs H) (hv : R x v H) : AllR R (xs ++ [x]) (vs ++ [v]) H := by
  refine ⟨by rw [List.length_append, List.length_append, h.1]; rfl, fun i a b ha hb => ?_⟩
  by_cases hi : i < xs.length
  · rw [List.getElem?_append_left hi] at ha
    rw [List.getElem?_append_left (by rw [h.1]; exact hi)] at hb
    exact h.2 i a b ha hb
  · have hl := (List.getElem?_eq_some_iff.mp ha).1
    rw [List.length_append, List.length_singleton] at hl
    have e : i = xs.length := by omega
    subst e
    rw [List.getElem?_append_right (Nat.le_refl _), Nat.sub_self] at ha
    rw [← h.1, List.getElem?_append_right (Nat.le_refl _), Nat.sub_self] at hb
    cases ha
    cases hb
    exact hv
/-- a list that grows: what stands in it is kept -/
theorem allR_push {C p : Addr} {M : List (List Rat)} {vs ws : List V} {H : Hp} (hp : H p = some (.lst ws)) (h : AllR (RV C) M vs H) (zs : List V) : AllR (RV C) M vs (upd H p (.lst zs)) :=
  h.kept (B := fun x => x = p) (kept_tup kept_rq) (fun b hb => ⟨ws, by rw [hb]; exact hp⟩) (fun a o n ha => (upd_ne n).trans ha)
theorem bnd_mul (k : Nat) : 20 + bnd k ≤ bnd (k + 1) := by unfold bnd; split <;> split <;> omega
theorem bnd_two {k : Nat} (h : 1 < k) : bnd 0 + (2 + bnd 1) + 1 ≤ bnd k := by unfold bnd; rw [if_neg (by omega : ¬ k < 2)]; simp; omega
theorem bnd_20 (k : Nat) : 20 ≤ bnd k := by unfold bnd; split <;> omega
theorem rowsB_all {M : List (List Rat)} (h : RowsB M) {n : Nat} (hn : M.length ≤ n) : AllM (20 * n + 3) M := fun r hr => by
  obtain ⟨i, hi, e⟩ := List.mem_iff_getElem.mp hr
  have z := h i r (by rw [List.getElem?_eq_getElem hi, e])
  exact fun q hq => (z q hq).mono (by have := bnd_le i; omega)
section
variable {C : Addr} {ta tb : TE} {σ : L2.St} {H : Hp} {E : XK}
theorem fq_iv {n : Int} (ha : Ev ta σ H (.int n)) : EvQ C (tMake C (spInit C) [.int 1] E (tCons ta tNil)) σ H (n : Rat) := fun H1 e Q k => ha H1 e _ fun H2 e2 => by
  intro x dx nx ndx nex
  refine ⟨x, dx, n, 1, rfl, upd_same, by decide, Nat.one_lt_two_pow (by decide), fun H' e => ⟨rfl, ?_⟩⟩
  rw [divInt_one] at e
  subst e
  exact k _ _ (e2.trans (made nx ndx).1) (made nx ndx).2
theorem fq_mk {t b : Int} (ha : Ev ta σ H (.int t)) (hb : Ev tb σ H (.int b)) (h0 : b ≠ 0) (hl : b.natAbs < 2 ^ 900000) : EvQ C (tMake C (spInit C) [] E (tCons ta (tCons tb tNil))) σ H (Rat.divInt t b) := fun H1 e Q k => ha H1 e _ fun H2 e2 => hb H2 (e.trans e2) _ fun H3 e3 => by
  intro x dx nx ndx nex
  refine ⟨x, dx, t, b, rfl, upd_same, h0, hl, fun H' e => ⟨rfl, ?_⟩⟩
  subst e
  exact k _ _ ((e2.trans e3).trans (made nx ndx).1) (made nx ndx).2
end
theorem arg_cb1 {r : List V → Hp → VK → Prop} {ta : TE} {σ : L2.St} {H : Hp} {F : List V → Hp → Prop} (h : ta σ H fun v H1 => r [v] H1 fun u H2 => F [u] H2) : tCons (tCB r (tCons ta tNil)) tNil σ H F := h
theorem smB_divN {t b : Int} {n : Nat} (hb : 0 < b) (h1 : t.natAbs < 2 ^ n) (h2 : b.natAbs < 2 ^ n) : SmB n (Rat.divInt t b) :=
  ⟨Nat.lt_of_le_of_lt (num_le _ _) h1, Nat.lt_of_le_of_lt (den_le _ _ (Int.ne_of_gt hb)) h2⟩
end Pn

namespace Pn
def sumQ : Nat → (Nat → Rat) → Rat
  | 0, _ => 0
  | n + 1, f => sumQ n f + f n
theorem sum_congr {f g : Nat → Rat} : ∀ {n : Nat}, (∀ k, k < n → f k = g k) → sumQ n f = sumQ n g
  | 0, _ => rfl
  | n + 1, h => by
    unfold sumQ
    rw [sum_congr fun k hk => h k (by omega), h n (by omega)]
theorem sum_add (f g : Nat → Rat) : ∀ n, sumQ n (fun k => f k + g k) = sumQ n f + sumQ n g
  | 0 => by unfold sumQ; grind
  | n + 1 => by
    unfold sumQ
    rw [sum_add f g n]
    grind
theorem sum_mulL (c : Rat) (f : Nat → Rat) : ∀ n, sumQ n (fun k => c * f k) = c * sumQ n f
  | 0 => by unfold sumQ; grind
  | n + 1 => by
    unfold sumQ
    rw [sum_mulL c f n]
    grind
theorem sum_mulR (c : Rat) (f : Nat → Rat) (n : Nat) : sumQ n (fun k => f k * c) = sumQ n f * c := by
  rw [Rat.mul_comm, ← sum_mulL]
  exact sum_congr fun k _ => Rat.mul_comm _ _
theorem sum_zero : ∀ n, sumQ n (fun _ => 0) = 0
  | 0 => rfl
  | n + 1 => by
    unfold sumQ
    rw [sum_zero n]
    grind
theorem sum_comm (f : Nat → Nat → Rat) (m : Nat) : ∀ n, sumQ n (fun i => sumQ m fun j => f i j) = sumQ m (fun j => sumQ n fun i => f i j)
  | 0 => (sum_zero m).symm
  | n + 1 => by
    have e : (fun j => sumQ (n + 1) fun i => f i j) = fun j => sumQ n (fun i => f i j) + f n j := rfl
    rw [e, sum_add, ← sum_comm f m n]
    rfl
theorem sum_one {i : Nat} (f : Nat → Rat) : ∀ n, i < n → sumQ n (fun k => (if k = i then 1 else 0) * f k) = f i
  | 0, h => by omega
  | n + 1, h => by
    unfold sumQ
    by_cases e : i = n
    · subst e
      have z : sumQ i (fun k => (if k = i then 1 else 0) * f k) = 0 := by
        rw [sum_congr (g := fun _ => 0) fun k hk => by rw [if_neg (by omega)]; grind]
        exact sum_zero i
      rw [z]
      dsimp only
      rw [if_pos rfl]
      grind
    · rw [sum_one f n (by omega)]
      dsimp only
      rw [if_neg (fun (z : n = i) => e z.symm)]
      grind
theorem dot_sum {ps qs : List Rat} {n : Nat} (h1 : ps.length = n) (h2 : qs.length = n) : dotQ ps qs = sumQ n fun k => ps.getD k 0 * qs.getD k 0 := by
  have z : ∀ i, i ≤ n → dotQ (ps.take i) (qs.take i) = sumQ i fun k => ps.getD k 0 * qs.getD k 0 := by
    intro i
    induction i with
    | zero =>
      intro _
      rw [List.take_zero, List.take_zero]
      rfl
    | succ i ih =>
      intro hi
      rw [dotQ_take ps qs i _ _ (getD_get (d := 0) (by omega)) (getD_get (d := 0) (by omega)), ih (by omega)]
      rfl
  have := z n (Nat.le_refl _)
  rw [List.take_of_length_le (by omega), List.take_of_length_le (by omega)] at this
  exact this
theorem vec_ext {a b : List Rat} (hl : a.length = b.length) (h : ∀ i, i < a.length → a.getD i 0 = b.getD i 0) : a = b := by
  refine List.ext_getElem? fun i => ?_
  by_cases hi : i < a.length
  · rw [getD_get (d := 0) hi, getD_get (d := 0) (hl ▸ hi), h i hi]
  · rw [List.getElem?_eq_none (by omega), List.getElem?_eq_none (by omega)]
theorem apply_len (a : List (List Rat)) (v : List Rat) : (applyQ a v).length = a.length := by unfold applyQ; rw [List.length_map]
theorem mul_len (a b : List (List Rat)) (w : Nat) : (mulQ a b w).length = a.length := by unfold mulQ; rw [List.length_map]
theorem mul_wide {a b : List (List Rat)} {w : Nat} : Wide w (mulQ a b w) := fun r hr => by
  unfold mulQ at hr
  obtain ⟨x, _, rfl⟩ := List.mem_map.mp hr
  rw [apply_len, transQ_len]
theorem apply_at {a : List (List Rat)} {v : List Rat} {n i : Nat} (hw : Wide n a) (hv : v.length = n) (hi : i < a.length) : (applyQ a v).getD i 0 = sumQ n fun k => at2 a i k * v.getD k 0 := by
  unfold applyQ
  rw [getD_map' (e := []) hi, dot_sum (getD_wide hw hi) hv]
  rfl
theorem mul_at {a b : List (List Rat)} {w n i j : Nat} (hw : Wide n a) (hb : b.length = n) (hwb : Wide w b) (hi : i < a.length) (hj : j < w) : at2 (mulQ a b w) i j = sumQ n fun k => at2 a i k * at2 b k j := by
  unfold at2 mulQ
  rw [getD_map' (e := []) hi, apply_at (n := n) (by rw [← hb]; exact transQ_wide) (getD_wide hw hi) (by rw [transQ_len]; exact hj)]
  refine sum_congr fun k hk => ?_
  rw [at2_trans hj (by omega), Rat.mul_comm]
  rfl
theorem mul_assocQ {a b c : List (List Rat)} {n1 n2 n3 : Nat} (wa : Wide n1 a) (lb : b.length = n1) (wb : Wide n2 b) (lc : c.length = n2) (wc : Wide n3 c) : mulQ (mulQ a b n2) c n3 = mulQ a (mulQ b c n3) n3 := by
  refine mat_ext (w := n3) (by rw [mul_len, mul_len, mul_len]) mul_wide mul_wide fun i j hi hj => ?_
  rw [mul_len, mul_len] at hi
  rw [mul_at (n := n2) mul_wide lc wc (by rw [mul_len]; exact hi) hj, mul_at (n := n1) wa (by rw [mul_len]; exact lb) mul_wide hi hj]
  have e1 : ∀ k, k < n2 → at2 (mulQ a b n2) i k * at2 c k j = sumQ n1 fun l => at2 a i l * at2 b l k * at2 c k j := fun k hk => by
    rw [mul_at (n := n1) wa lb wb hi hk, ← sum_mulR]
  have e2 : ∀ l, l < n1 → at2 a i l * at2 (mulQ b c n3) l j = sumQ n2 fun k => at2 a i l * at2 b l k * at2 c k j := fun l hl => by
    rw [mul_at (n := n2) wb lc wc (by omega) hj, ← sum_mulL]
    exact sum_congr fun k _ => (Rat.mul_assoc _ _ _).symm
  rw [sum_congr e1, sum_congr e2, sum_comm]
theorem apply_mulQ {a b : List (List Rat)} {x : List Rat} {n1 n2 : Nat} (wa : Wide n1 a) (lb : b.length = n1) (wb : Wide n2 b) (lx : x.length = n2) : applyQ (mulQ a b n2) x = applyQ a (applyQ b x) := by
  refine vec_ext (by rw [apply_len, apply_len, mul_len]) fun i hi => ?_
  rw [apply_len, mul_len] at hi
  rw [apply_at (n := n2) mul_wide lx (by rw [mul_len]; exact hi), apply_at (n := n1) wa (by rw [apply_len]; exact lb) hi]
  have e1 : ∀ k, k < n2 → at2 (mulQ a b n2) i k * x.getD k 0 = sumQ n1 fun l => at2 a i l * at2 b l k * x.getD k 0 := fun k hk => by
    rw [mul_at (n := n1) wa lb wb hi hk, ← sum_mulR]
  have e2 : ∀ l, l < n1 → at2 a i l * (applyQ b x).getD l 0 = sumQ n2 fun k => at2 a i l * at2 b l k * x.getD k 0 := fun l hl => by
    rw [apply_at (n := n2) wb lx (by omega), ← sum_mulL]
    exact sum_congr fun k _ => (Rat.mul_assoc _ _ _).symm
  rw [sum_congr e1, sum_congr e2, sum_comm]
theorem trans_wide {a : List (List Rat)} {n w : Nat} (h : a.length = n) : Wide n (transQ a w) := by rw [← h]; exact transQ_wide
theorem trans_mulQ {a b : List (List Rat)} {n0 n1 n2 : Nat} (la : a.length = n0) (wa : Wide n1 a) (lb : b.length = n1) (wb : Wide n2 b) : transQ (mulQ a b n2) n2 = mulQ (transQ b n2) (transQ a n1) n0 := by
  refine mat_ext (w := n0) (by rw [transQ_len, mul_len, transQ_len]) (trans_wide (by rw [mul_len]; exact la)) mul_wide fun i j hi hj => ?_
  rw [transQ_len] at hi
  rw [at2_trans hi (by rw [mul_len]; omega), mul_at (n := n1) wa lb wb (by omega) hi, mul_at (n := n1) (trans_wide lb) (transQ_len _ _) (trans_wide la) (by rw [transQ_len]; exact hi) hj]
  refine sum_congr fun k hk => ?_
  rw [at2_trans hi (by omega), at2_trans hk (by omega), Rat.mul_comm]
theorem trans_trans {a : List (List Rat)} {n0 n1 : Nat} (la : a.length = n0) (wa : Wide n1 a) : transQ (transQ a n1) n0 = a := by
  refine mat_ext (w := n1) (by rw [transQ_len]; exact la.symm) (trans_wide (transQ_len _ _)) wa fun i j hi hj => ?_
  rw [transQ_len] at hi
  rw [at2_trans hi (by rw [transQ_len]; exact hj), at2_trans hj (by omega)]
theorem id_len (n : Nat) : (idQ n).length = n := by unfold idQ; rw [List.length_map, List.length_range]
theorem id_wide (n : Nat) : Wide n (idQ n) := fun r hr => by
  unfold idQ unitQ at hr
  obtain ⟨i, _, rfl⟩ := List.mem_map.mp hr
  rw [List.length_map, List.length_range]
theorem id_at {n i j : Nat} (hi : i < n) (hj : j < n) : at2 (idQ n) i j = if j = i then 1 else 0 := at2_fun (f := fun i k => if k = i then (1 : Rat) else 0) hi hj
theorem mul_id {a : List (List Rat)} {n1 : Nat} (wa : Wide n1 a) : mulQ a (idQ n1) n1 = a := by
  refine mat_ext (w := n1) (mul_len _ _ _) mul_wide wa fun i j hi hj => ?_
  rw [mul_len] at hi
  rw [mul_at (n := n1) wa (id_len _) (id_wide _) hi hj, ← sum_one (i := j) (fun k => at2 a i k) n1 hj]
  refine sum_congr fun k hk => ?_
  rw [id_at hk hj, Rat.mul_comm]
  by_cases e : k = j
  · rw [if_pos e, if_pos e.symm]
  · rw [if_neg e, if_neg (fun z => e z.symm)]
theorem id_mul {a : List (List Rat)} {n0 n1 : Nat} (la : a.length = n0) (wa : Wide n1 a) : mulQ (idQ n0) a n1 = a := by
  refine mat_ext (w := n1) (by rw [mul_len, id_len]; exact la.symm) mul_wide wa fun i j hi hj => ?_
  rw [mul_len, id_len] at hi
  rw [mul_at (n := n0) (id_wide _) la wa (by rw [id_len]; exact hi) hj]
  rw [sum_congr (g := fun k => (if k = i then 1 else 0) * at2 a k j) fun k hk => by rw [id_at hi hk]]
  exact sum_one (fun k => at2 a k j) n0 hi
theorem outer_apply (y z : List Rat) : applyQ (outerQ y z) z = scaleQ (dotQ z z) y := by
  unfold applyQ outerQ scaleQ
  rw [List.map_map]
  refine List.map_congr_left fun p _ => ?_
  show dotQ (z.map (p * ·)) z = dotQ z z * p
  rw [dot_sum (n := z.length) (by rw [List.length_map]) rfl, dot_sum (n := z.length) rfl rfl, Rat.mul_comm, ← sum_mulL]
  refine sum_congr fun k hk => ?_
  rw [getD_map' (e := 0) hk, Rat.mul_assoc]
theorem dot_move {a : List (List Rat)} {z y : List Rat} {n0 n1 : Nat} (la : a.length = n0) (wa : Wide n1 a) (lz : z.length = n1) (ly : y.length = n0) : dotQ (applyQ a z) y = dotQ z (applyQ (transQ a n1) y) := by
  rw [dot_sum (n := n0) (by rw [apply_len]; exact la) ly, dot_sum (n := n1) lz (by rw [apply_len, transQ_len])]
  have e1 : ∀ i, i < n0 → (applyQ a z).getD i 0 * y.getD i 0 = sumQ n1 fun k => at2 a i k * z.getD k 0 * y.getD i 0 := fun i hi => by
    rw [apply_at (n := n1) wa lz (by omega), ← sum_mulR]
  have e2 : ∀ k, k < n1 → z.getD k 0 * (applyQ (transQ a n1) y).getD k 0 = sumQ n0 fun i => at2 a i k * z.getD k 0 * y.getD i 0 := fun k hk => by
    rw [apply_at (n := n0) (trans_wide la) ly (by rw [transQ_len]; exact hk), ← sum_mulL]
    refine sum_congr fun i hi => ?_
    rw [at2_trans hk (by omega)]
    grind
  rw [sum_congr e1, sum_congr e2, sum_comm]
theorem gram_sym {a : List (List Rat)} {n0 n1 : Nat} (la : a.length = n0) (wa : Wide n1 a) : mulQ a (transQ a n1) n0 = transQ (mulQ a (transQ a n1) n0) n0 := by
  have h := trans_mulQ (a := a) (b := transQ a n1) (n0 := n0) (n1 := n1) (n2 := n0) la wa (transQ_len _ _) (trans_wide la)
  rw [h, trans_trans la wa]
theorem dot_smW {n m k : Nat} {ps qs : List Rat} (h1 : AllS n ps) (h2 : AllS m qs) (hk : ps.length ≤ k) : SmB ((n + m + 1) * k + 1) (dotQ ps qs) := by
  have h := dotQ_sm h1 h2
  exact h.mono (Nat.add_le_add_right (Nat.mul_le_mul_left _ hk) _)
theorem apply_sm {a : List (List Rat)} {v : List Rat} {n m k : Nat} (h1 : AllM n a) (h2 : AllS m v) (hw : Wide v.length a) (hk : v.length ≤ k) : AllS ((n + m + 1) * k + 1) (applyQ a v) := fun q hq => by
  unfold applyQ at hq
  obtain ⟨r, hr, rfl⟩ := List.mem_map.mp hq
  exact dot_smW (h1 r hr) h2 (by rw [hw r hr]; exact hk)
theorem mul_sm {a b : List (List Rat)} {n m w k : Nat} (h1 : AllM n a) (h2 : AllM m b) (hw : Wide b.length a) (hb : Wide w b) (hk : b.length ≤ k) : AllM ((m + n + 1) * k + 1) (mulQ a b w) := fun r hr => by
  unfold mulQ at hr
  obtain ⟨x, hx, rfl⟩ := List.mem_map.mp hr
  exact apply_sm (transQ_sm h2 hb) (h1 x hx) (by rw [hw x hx]; exact transQ_wide) (by rw [hw x hx]; exact hk)
theorem id_sm {n : Nat} : AllM 40 (idQ n) := fun r hr q hq => by
  unfold idQ unitQ at hr
  obtain ⟨i, _, rfl⟩ := List.mem_map.mp hr
  obtain ⟨k, _, rfl⟩ := List.mem_map.mp hq
  split
  · exact smB_one (by decide)
  · exact smB_zero (by decide)
end Pn
namespace Pn
open PySem L2 Evl
def spLMat (C : Addr) : Sp := fun vs H Q _ => ∃ (st : Addr × Addr) (c h w : Nat), vs = [.ref st.1, .int (h : Int), .int (w : Int)] ∧ StAt st c H ∧ h ≤ 100 ∧ w ≤ 100 ∧ c + (4 * w + 1) * h + 5 < cMax ∧
  ∀ M v H', M.length = h → Wide w M → AllM 40 M → MatAt C M v H' → StAt st (c + (4 * w + 1) * h) H' → FrS st H H' → Q v H'
def RI : Nat → V → Hp → Prop := fun n v _ => v = .int (n : Int)
theorem mono_ri : MonoR RI := fun _ _ _ _ _ h => h
theorem kept_ri {B : Addr → Prop} : Kept B RI := fun _ _ _ _ _ _ h => h
end Pn
namespace Pn
open PySem L2 Evl
theorem ret_cb1 {r : List V → Hp → VK → Prop} {ta : TE} {D : Ends} {σ : L2.St} {H : Hp} (h : ta σ H fun v H1 => r [v] H1 D.rt) : tRet (tCB r (tCons ta tNil)) D σ H := h
/-- [1 + _law_take(state, 4) for k in range(4)] -/
theorem lc_sizes {st : Addr × Addr} {c n j a : Nat} {vs : List Nat} {σ : L2.St} {H : Hp} {ta : TA} {E : XK} {Q : VK} (hA : EvA ta σ H [.int (n : Int)]) (hh : n ≤ 1000) (s0 : StAt st c H) (hc : c + n + 5 < cMax)
    (hw : ∀ x, wipe ((wipe σ vs).set j (some x)) vs = wipe σ vs) (hS : ∀ x : V, ((wipe σ vs).set j (some x))[a]? = some (some (.ref st.1)))
    (k : ∀ (S : List Nat) v H', S.length = n → (∀ m ∈ S, 1 ≤ m ∧ m ≤ 4) → RowAt (Bs st) RI S v H' → StAt st (c + n) H' → FrS st H H' → Q v H') :
    tLc (iRng1 ta) (gName j) tYes (tOp (rI0 fun i j => V.int (i + j)) (tC (.int 1)) (tCall spTake [] E (tCons (tVar a) (tCons (tC (.int 4)) tNil)))) vs σ H Q := by
  refine lc_state (st := st) (c := c) (n := n) (cost := 1) (S := fun D i v H => ∃ m : Nat, (1 ≤ m ∧ m ≤ 4) ∧ RI m v H) hA (by omega) s0 hw ?_ ?_ ?_ ?_
  · intro i D H' kk hi s f nD hD hD0 kz
    refine ⟨_, hS _, st, c + 1 * i, 4, rfl, s, (by omega), by decide, fun d H2 d0 d1 s2 f2 => ?_⟩
    refine ⟨_, _, rfl, rfl, ?_⟩
    refine kz _ H2 (s2.mono (by omega)) f2 ⟨(1 + d).toNat, by omega, ?_⟩
    show V.int (1 + d) = V.int _
    rw [Int.toNat_of_nonneg (by omega)]
  · rintro D i v H' H2 c' s f ⟨m, hm, r⟩
    exact ⟨m, hm, r⟩
  · rintro D i v H' ys zs hD ⟨m, hm, r⟩
    exact ⟨m, hm, r⟩
  intro D ys H' nD hD0 s f hD hl hy
  obtain ⟨S, m1, m2⟩ := pick hy
  refine k S _ H' (by omega) (fun m hm => ?_) ⟨D, ys, rfl, nD, hD, m1.symm, fun i x v h1 h2 => (m2 i v x h2 h1).2⟩ (by rw [Nat.one_mul] at s; exact s) f
  obtain ⟨i, hi, e⟩ := List.mem_iff_getElem.mp hm
  exact (m2 i _ m (List.getElem?_eq_getElem (by omega)) (by rw [List.getElem?_eq_getElem hi, e])).1
end Pn
namespace Pn
open PySem L2 Evl
theorem wide_pair {a b : List (List Rat)} {w : Nat} (h1 : Wide w a) (h2 : Wide w b) : ∀ (i : Nat) p q, a[i]? = some p → b[i]? = some q → p.length = q.length := fun i p q h3 h4 => by
  rw [h1 p (List.mem_of_getElem? h3), h2 q (List.mem_of_getElem? h4)]
theorem neq_false {α : Type} [DecidableEq α] {a b : α} (h : a = b) : (fun b : Bool => !b) (decide (a = b)) = false := by rw [decide_eq_true h]; rfl
theorem outer_sm {a b : List Rat} (h1 : AllS 40 a) (h2 : AllS 40 b) : AllM 80 (outerQ a b) := fun r hr q hq => by
  unfold outerQ scaleQ at hr
  obtain ⟨x, hx, rfl⟩ := List.mem_map.mp hr
  obtain ⟨y, hy, rfl⟩ := List.mem_map.mp hq
  exact smB_mul (h1 x hx) (h2 y hy)
theorem outer_wide {a b : List Rat} : Wide b.length (outerQ a b) := fun r hr => by
  unfold outerQ scaleQ at hr
  obtain ⟨x, hx, rfl⟩ := List.mem_map.mp hr
  rw [List.length_map]
theorem outer_len (a b : List Rat) : (outerQ a b).length = a.length := by unfold outerQ; rw [List.length_map]
section
variable {C : Addr} {K : PySem.W.Frag} {ta tx ty : TE} {σ : L2.St} {H : Hp} {E E' : XK} {tz : TS} {D : Ends} {st : Addr × Addr} {c i a : Nat}
theorem ev_ixI {S : List Nat} {i m : Nat} (ha : EvP ta σ H (LstAt RI S)) (hx : S[i]? = some m) : Ev (tOp (rIxL K) ta (tC (.int (i : Int)))) σ H (.int (m : Int)) := ev_of (EvP.imp (evp_ixL mono_ri ha ev_c hx) fun _ _ _ r => r)
theorem q_lmat {h w : Nat} (h0 : σ[a]? = some (some (.ref st.1))) (e0 : Ev tx σ H (.int (h : Int))) (e1 : Ev ty σ H (.int (w : Int))) (s : StAt st c H) (hh : h ≤ 100) (hw : w ≤ 100) (hc : c + (4 * w + 1) * h + 5 < cMax)
    (k : ∀ M v H', M.length = h → Wide w M → AllM 40 M → MatAt C M v H' → StAt st (c + (4 * w + 1) * h) H' → FrS st H H' → tz D (σ.set i (some v)) H') :
    tSeq (tAsg (tCall (spLMat C) [] E (tCons (tVar a) (tCons tx (tCons ty tNil)))) (gName i)) tz D σ H :=
  ⟨_, h0, e0 H (Ex.refl _) _ fun H1 x1 => e1 H1 x1 _ fun H2 x2 => ⟨st, c, h, w, rfl, s.ex (x1.trans x2), hh, hw, hc, fun M v H' l1 l2 l3 r s' f => k M v H' l1 l2 l3 r s' ((FrS.of (x1.trans x2)).trans f)⟩⟩
theorem q_lvec {w : Nat} (h0 : σ[a]? = some (some (.ref st.1))) (e0 : Ev tx σ H (.int (w : Int))) (s : StAt st c H) (hw : w ≤ 100) (hc : c + 4 * w + 5 < cMax)
    (k : ∀ qs v H', qs.length = w → AllS 40 qs → VecAt C qs v H' → StAt st (c + 4 * w + 1) H' → FrS st H H' → tz D (σ.set i (some v)) H') :
    tSeq (tAsg (tCall (spVector C) [] E (tCons (tCall spRow [] E' (tCons (tVar a) (tCons tx tNil))) tNil)) (gName i)) tz D σ H :=
  ⟨_, h0, e0 H (Ex.refl _) _ fun H1 x1 => ⟨st, c, w, rfl, s.ex x1, by omega, hc, fun qs v H2 l sm rA fr s2 f2 => ⟨v, qs, rfl, rA.lst, by omega, fun q hq => lt9000 (sm q hq).2, fun vx H3 e3 rv => k qs vx H3 l sm rv (s2.ex e3) (((FrS.of x1).trans f2).trans (.of e3))⟩⟩⟩
end
end Pn

namespace Pn
open PySem L2 Evl
section
variable {X : Cx} {K : PySem.W.Frag}
theorem sl_listK (hK : X.K = K) : SlR X (rSlL K) := by
  subst hK
  exact sl_list
end
/-- a term: a weight and a row -/
def RT (C : Addr) : Rat × List Rat → V → Hp → Prop := fun t v H => ∃ a x y, v = .ref a ∧ H a = some (.tup [x, y]) ∧ RatAt C H x t.1 ∧ VecAt C t.2 y H
theorem mono_rt {C : Addr} : MonoR (RT C) := fun t v H H' e ⟨a, x, y, e1, h1, h2, h3⟩ => ⟨a, x, y, e1, e _ _ h1, h2.mono e, mono_vec _ _ _ e h3⟩
theorem kept_rt {B : Addr → Prop} {C : Addr} : Kept B (RT C) := fun t v H H' hB f ⟨a, x, y, e, h, h1, h2⟩ => ⟨a, x, y, e, f _ _ (fun b => by obtain ⟨xs, z⟩ := hB a b; rw [h] at z; cases z) h, kept_rq _ _ _ _ hB f h1, kept_tup kept_rq _ _ _ _ hB f h2⟩
theorem mono_lrt {C : Addr} {ts : List (Rat × List Rat)} : Mono (LstAt (RT C) ts) := fun v H H' e h => mono_lst mono_rt ts v H H' e h
def termQ (i j : Nat) (t : Rat × List Rat) : Rat := t.1 * t.2.getD i 0 * t.2.getD j 0
def entryQ (ts : List (Rat × List Rat)) (i j : Nat) : Rat := ts.foldl (fun s t => s + termQ i j t) 0
def normQ (ts : List (Rat × List Rat)) (w : Nat) : List (List Rat) := (List.range w).map fun i => (List.range w).map fun j => entryQ ts i j
theorem entry_snoc (ts : List (Rat × List Rat)) (t : Rat × List Rat) (i j : Nat) : entryQ (ts ++ [t]) i j = entryQ ts i j + termQ i j t := by
  unfold entryQ
  rw [List.foldl_append]
  rfl
theorem entry_take {ts : List (Rat × List Rat)} {n : Nat} {t : Rat × List Rat} (i j : Nat) (h : ts[n]? = some t) : entryQ (ts.take (n + 1)) i j = entryQ (ts.take n) i j + termQ i j t := by
  rw [List.take_add_one, h]
  exact entry_snoc _ _ _ _
def TermsOk (a b w : Nat) (ts : List (Rat × List Rat)) : Prop := ∀ t ∈ ts, SmB a t.1 ∧ AllS b t.2 ∧ t.2.length = w
theorem fold_sm {c i j : Nat} : ∀ {ts : List (Rat × List Rat)} {s : Rat} {m : Nat}, SmB m s → (∀ t ∈ ts, SmB c (termQ i j t)) → SmB (m + (c + 1) * ts.length) (ts.foldl (fun s t => s + termQ i j t) s)
  | [], s, m, h, _ => h
  | t :: ts, s, m, h, ht => by
    have z := fold_sm (ts := ts) (smB_add h (ht t List.mem_cons_self)) (fun x hx => ht x (List.mem_cons_of_mem _ hx))
    refine z.mono ?_
    rw [List.length_cons, Nat.mul_add]
    omega
theorem term_sm {a b w i j : Nat} {ts : List (Rat × List Rat)} (h : TermsOk a b w ts) (hi : i < w) (hj : j < w) : ∀ t ∈ ts, SmB (a + b + b) (termQ i j t) := fun t ht => by
  obtain ⟨h1, h2, h3⟩ := h t ht
  exact smB_mul (smB_mul h1 (h2 _ (List.mem_of_getElem? (getD_get (by omega))))) (h2 _ (List.mem_of_getElem? (getD_get (by omega))))
theorem entry_sm {a b w i j : Nat} {ts : List (Rat × List Rat)} (h : TermsOk a b w ts) (hi : i < w) (hj : j < w) : SmB (1 + (a + b + b + 1) * ts.length) (entryQ ts i j) := fold_sm (smB_zero (by decide)) (term_sm h hi hj)
theorem TermsOk.take {a b w : Nat} {ts : List (Rat × List Rat)} (h : TermsOk a b w ts) (n : Nat) : TermsOk a b w (ts.take n) := fun t ht => h t (List.mem_of_mem_take ht)
theorem TermsOk.get {a b w n : Nat} {ts : List (Rat × List Rat)} {t : Rat × List Rat} (h : TermsOk a b w ts) (e : ts[n]? = some t) : SmB a t.1 ∧ AllS b t.2 ∧ t.2.length = w := h t (List.mem_of_getElem? e)
theorem norm_len (ts : List (Rat × List Rat)) (w : Nat) : (normQ ts w).length = w := by unfold normQ; rw [List.length_map, List.length_range]
theorem norm_wide (ts : List (Rat × List Rat)) (w : Nat) : Wide w (normQ ts w) := fun r hr => by
  unfold normQ at hr
  obtain ⟨i, _, rfl⟩ := List.mem_map.mp hr
  rw [List.length_map, List.length_range]
theorem norm_at {ts : List (Rat × List Rat)} {w i j : Nat} (hi : i < w) (hj : j < w) : at2 (normQ ts w) i j = entryQ ts i j := at2_fun (f := fun i j => entryQ ts i j) hi hj
theorem norm_sm {a b w : Nat} {ts : List (Rat × List Rat)} (h : TermsOk a b w ts) : AllM (1 + (a + b + b + 1) * ts.length) (normQ ts w) := fun r hr q hq => by
  unfold normQ at hr
  obtain ⟨i, hi, rfl⟩ := List.mem_map.mp hr
  obtain ⟨j, hj, rfl⟩ := List.mem_map.mp hq
  exact entry_sm h (List.mem_range.mp hi) (List.mem_range.mp hj)
/-- a normal matrix and a term more -/
def addTermQ (A : List (List Rat)) (row : List Rat) (w : Rat) : List (List Rat) := addM A (scaleM w (outerQ row row))
theorem scaleM_wide {f : Rat} {a : List (List Rat)} {w : Nat} (h : Wide w a) : Wide w (scaleM f a) := fun r hr => by
  unfold scaleM at hr
  obtain ⟨x, hx, rfl⟩ := List.mem_map.mp hr
  unfold scaleQ
  rw [List.length_map]
  exact h x hx
theorem scaleM_len (f : Rat) (a : List (List Rat)) : (scaleM f a).length = a.length := by unfold scaleM; rw [List.length_map]
theorem addM_wide {a b : List (List Rat)} {w : Nat} (h1 : Wide w a) (h2 : Wide w b) : Wide w (addM a b) := fun r hr => by
  unfold addM at hr
  obtain ⟨i, hi⟩ := mem_get hr
  rw [List.getElem?_zipWith] at hi
  cases h3 : a[i]? with
  | none => rw [h3] at hi; simp at hi
  | some p =>
    cases h4 : b[i]? with
    | none => rw [h3, h4] at hi; simp at hi
    | some q =>
      rw [h3, h4] at hi
      cases hi
      rw [List.length_zipWith, h1 p (List.mem_of_getElem? h3), h2 q (List.mem_of_getElem? h4), Nat.min_self]
theorem addM_len {a b : List (List Rat)} (h : a.length = b.length) : (addM a b).length = a.length := by unfold addM; rw [List.length_zipWith, h, Nat.min_self]
theorem getD_zip {α : Type} {f : α → α → α} {a b : List α} {i : Nat} {d : α} (h1 : i < a.length) (h2 : i < b.length) : (List.zipWith f a b).getD i d = f (a.getD i d) (b.getD i d) := by
  rw [List.getD_eq_getElem?_getD, List.getElem?_zipWith, getD_get (d := d) h1, getD_get (d := d) h2]
  rfl
theorem addM_at {a b : List (List Rat)} {w i j : Nat} (h1 : Wide w a) (h2 : Wide w b) (i1 : i < a.length) (i2 : i < b.length) (hj : j < w) : at2 (addM a b) i j = at2 a i j + at2 b i j := by
  unfold at2 addM
  rw [getD_zip i1 i2, getD_zip (by rw [getD_wide h1 i1]; exact hj) (by rw [getD_wide h2 i2]; exact hj)]
theorem scaleM_at {f : Rat} {a : List (List Rat)} {w i j : Nat} (h : Wide w a) (hi : i < a.length) (hj : j < w) : at2 (scaleM f a) i j = f * at2 a i j := by
  unfold at2 scaleM scaleQ
  rw [getD_map' (e := []) hi, getD_map' (e := 0) (by rw [getD_wide h hi]; exact hj)]
theorem outer_at {a b : List Rat} {i j : Nat} (hi : i < a.length) (hj : j < b.length) : at2 (outerQ a b) i j = a.getD i 0 * b.getD j 0 := by
  unfold at2 outerQ scaleQ
  rw [getD_map' (e := 0) hi, getD_map' (e := 0) hj]
theorem addT_len {A : List (List Rat)} {row : List Rat} {w : Rat} (h : A.length = row.length) : (addTermQ A row w).length = row.length := by
  unfold addTermQ
  rw [addM_len (by rw [scaleM_len, outer_len]; exact h)]
  exact h
theorem addT_wide {A : List (List Rat)} {row : List Rat} {w : Rat} (h : Wide row.length A) : Wide row.length (addTermQ A row w) := addM_wide h (scaleM_wide outer_wide)
theorem addT_at {A : List (List Rat)} {row : List Rat} {w : Rat} {i j : Nat} (h : A.length = row.length) (hw : Wide row.length A) (hi : i < row.length) (hj : j < row.length) : at2 (addTermQ A row w) i j = at2 A i j + w * (row.getD i 0 * row.getD j 0) := by
  unfold addTermQ
  rw [addM_at hw (scaleM_wide outer_wide) (by omega) (by rw [scaleM_len, outer_len]; exact hi) hj, scaleM_at outer_wide (by rw [outer_len]; exact hi) hj, outer_at hi hj]
theorem addT_norm (ts : List (Rat × List Rat)) (w : Rat) (row : List Rat) : addTermQ (normQ ts row.length) row w = normQ (ts ++ [(w, row)]) row.length := by
  refine mat_ext (w := row.length) (by rw [addT_len (norm_len _ _), norm_len]) (addT_wide (norm_wide _ _)) (norm_wide _ _) fun i j hi hj => ?_
  rw [addT_len (norm_len _ _)] at hi
  rw [addT_at (norm_len _ _) (norm_wide _ _) hi hj, norm_at hi hj, norm_at hi hj, entry_snoc]
  unfold termQ
  rw [Rat.mul_assoc]
theorem addT_back {A : List (List Rat)} {row : List Rat} {w : Rat} (h : A.length = row.length) (hw : Wide row.length A) : addTermQ (addTermQ A row w) row (-w) = A := by
  refine mat_ext (w := row.length) (by rw [addT_len (addT_len h)]; exact h.symm) (addT_wide (addT_wide hw)) hw fun i j hi hj => ?_
  rw [addT_len (addT_len h)] at hi
  rw [addT_at (addT_len h) (addT_wide hw) hi hj, addT_at h hw hi hj]
  grind
/-! ### promises -/
def spSame (C : Addr) : Sp := fun vs H Q _ => ∃ (x y : V) (p q : Rat), vs = [x, y] ∧ RatAt C H x p ∧ RatAt C H y q ∧ ∀ H', Ex H H' → Q (.bl (decide (p = q))) H'
def spSameV (C : Addr) : Sp := fun vs H Q _ => ∃ (x y : V) (ps qs : List Rat), vs = [x, y] ∧ VecAt C ps x H ∧ VecAt C qs y H ∧ qs.length ≤ 10000 ∧ ∀ H', Ex H H' → Q (.bl (decide (ps = qs))) H'
def spSameM (C : Addr) : Sp := fun vs H Q _ => ∃ (x y : V) (ps qs : List (List Rat)), vs = [x, y] ∧ MatAt C ps x H ∧ MatAt C qs y H ∧ (qs.length ≤ 10000 ∧ ∀ r ∈ qs, r.length ≤ 10000) ∧ ∀ H', Ex H H' → Q (.bl (decide (ps = qs))) H'
def spWeight3 (C : Addr) : Sp := fun vs H Q _ => ∃ (st : Addr × Addr) (c : Nat), vs = [.ref st.1] ∧ St3 st c H ∧ c + 4 < cMax ∧ ∀ q v H', SmB 9 q → 0 < q → RatAt C H' v q → St3 st (c + 2) H' → FrS st H H' → Q v H'
def spTermList (C : Addr) : Sp := fun vs H Q _ => ∃ (st : Addr × Addr) (c w : Nat) (many : Int), vs = [.ref st.1, .int (w : Int), .int many] ∧ St3 st c H ∧ c + 10000 < cMax ∧ w ≤ 100 ∧ 0 < many ∧ many ≤ 7 ∧
  ∀ ts p vs H', ts.length < many.toNat → TermsOk 9 123 w ts → H p = none → H' p = some (.lst vs) → AllR (RT C) ts vs H' → St3 st (c + 9000) H' → FrS st H H' → Q (.ref p) H'
def spEntry (C : Addr) : Sp := fun vs H Q _ => ∃ (x : V) (i j w a b : Nat) (ts : List (Rat × List Rat)), vs = [x, .int (i : Int), .int (j : Int)] ∧ LstAt (RT C) ts x H ∧ (i < w ∧ j < w) ∧ TermsOk a b w ts ∧ (0 < a ∧ 0 < b ∧ (a + b + b + 1) * (ts.length + 1) + 2 ≤ 900000) ∧ NewV (fun v H => RatAt C H v (entryQ ts i j)) H Q
def spNormal (C : Addr) : Sp := fun vs H Q _ => ∃ (x : V) (w a b : Nat) (ts : List (Rat × List Rat)), vs = [x, .int (w : Int)] ∧ LstAt (RT C) ts x H ∧ w ≤ 10000 ∧ TermsOk a b w ts ∧ (0 < a ∧ 0 < b ∧ (a + b + b + 1) * (ts.length + 1) + 2 ≤ 900000) ∧ NewV (MatAt C (normQ ts w)) H Q
def spAddTerm (C : Addr) : Sp := fun vs H Q _ => ∃ (x y z : V) (A : List (List Rat)) (row : List Rat) (w : Rat) (n m k : Nat), vs = [x, y, z] ∧ MatAt C A x H ∧ VecAt C row y H ∧ RatAt C H z w ∧ (A.length = row.length ∧ Wide row.length A ∧ row.length ≤ 10000) ∧ (AllM n A ∧ AllS m row ∧ SmB k w) ∧ (0 < n ∧ 0 < m ∧ 0 < k ∧ n + (k + (m + m)) ≤ 900000) ∧ NewV (MatAt C (addTermQ A row w)) H Q
section
variable {C : Addr} {K : PySem.W.Frag} {ta tb tc te : TE} {σ : L2.St} {H : Hp} {E : XK}
theorem ev_same {p q : Rat} (ha : EvP ta σ H (fun v H => RatAt C H v p)) (hb : EvP tb σ H (fun v H => RatAt C H v q)) : Ev (tCall (spSame C) [] E (tCons ta (tCons tb tNil))) σ H (.bl (decide (p = q))) :=
  ev_of (evp_call2 mono_rat ha hb fun v w H1 _ r1 r2 Q2 E2 k2 => ⟨v, w, p, q, rfl, r1, r2, fun H4 e4 => k2 _ _ e4 rfl⟩)
theorem ev_sameV {p q : List Rat} (ha : EvP ta σ H (VecAt C p)) (hb : EvP tb σ H (VecAt C q)) (hz : q.length ≤ 10000) : Ev (tCall (spSameV C) [] E (tCons ta (tCons tb tNil))) σ H (.bl (decide (p = q))) :=
  ev_of (evp_call2 mono_vec ha hb fun v w H1 _ r1 r2 Q2 E2 k2 => ⟨v, w, p, q, rfl, r1, r2, hz, fun H4 e4 => k2 _ _ e4 rfl⟩)
theorem ev_sameM {p q : List (List Rat)} (ha : EvP ta σ H (MatAt C p)) (hb : EvP tb σ H (MatAt C q)) (hz : q.length ≤ 10000) (hw : ∀ r ∈ q, r.length ≤ 10000) : Ev (tCall (spSameM C) [] E (tCons ta (tCons tb tNil))) σ H (.bl (decide (p = q))) :=
  ev_of (evp_call2 mono_mat ha hb fun v w H1 _ r1 r2 Q2 E2 k2 => ⟨v, w, p, q, rfl, r1, r2, ⟨hz, hw⟩, fun H4 e4 => k2 _ _ e4 rfl⟩)
theorem evp_entry {i j w a b : Nat} {ts : List (Rat × List Rat)} (hx : EvP ta σ H (LstAt (RT C) ts)) (hi : Ev tb σ H (.int (i : Int))) (hj : Ev tc σ H (.int (j : Int))) (h1 : i < w) (h2 : j < w) (ok : TermsOk a b w ts) (hs : 0 < a ∧ 0 < b ∧ (a + b + b + 1) * (ts.length + 1) + 2 ≤ 900000) :
    EvP (tCall (spEntry C) [] E (tCons ta (tCons tb (tCons tc tNil)))) σ H (fun v H => RatAt C H v (entryQ ts i j)) :=
  evp_callT mono_lrt (fun _ _ _ _ h => h) hx (evp_of hi) hj fun v u H1 _ r1 eu Q2 E2 k2 => by subst eu; exact ⟨v, i, j, w, a, b, ts, rfl, r1, ⟨h1, h2⟩, ok, hs, k2⟩
theorem evp_normal {w a b : Nat} {ts : List (Rat × List Rat)} (hx : EvP ta σ H (LstAt (RT C) ts)) (hi : Ev tb σ H (.int (w : Int))) (hw : w ≤ 10000) (ok : TermsOk a b w ts) (hs : 0 < a ∧ 0 < b ∧ (a + b + b + 1) * (ts.length + 1) + 2 ≤ 900000) :
    EvP (tCall (spNormal C) [] E (tCons ta (tCons tb tNil))) σ H (MatAt C (normQ ts w)) :=
  evp_call2 mono_lrt hx (evp_of hi) fun v u H1 _ r1 eu Q2 E2 k2 => by subst eu; exact ⟨v, w, a, b, ts, rfl, r1, hw, ok, hs, k2⟩
theorem evp_call3 {sp : Sp} {S1 S2 S3 S' : V → Hp → Prop} (m1 : Mono S1) (m2 : Mono S2) (ha : EvP ta σ H S1) (hb : EvP tb σ H S2) (hc : EvP tc σ H S3) (hs : ∀ v u z H1, Ex H H1 → S1 v H1 → S2 u H1 → S3 z H1 → ∀ (Q : VK) (E : XK), (∀ r H2, Ex H1 H2 → S' r H2 → Q r H2) → sp [v, u, z] H1 Q E) :
    EvP (tCall sp [] E (tCons ta (tCons tb (tCons tc tNil)))) σ H S' := fun H1 e Q k =>
  ha H1 e _ fun v H2 e2 hv => hb H2 (e.trans e2) _ fun u H3 e3 hu => hc H3 ((e.trans e2).trans e3) _ fun z H4 e4 hz => hs v u z H4 (((e.trans e2).trans e3).trans e4) (m1 _ _ _ (e3.trans e4) hv) (m2 _ _ _ e4 hu) hz Q E fun r H5 e5 hr => k r H5 (((e2.trans e3).trans e4).trans e5) hr
theorem evp_addTerm {A : List (List Rat)} {row : List Rat} {w : Rat} {n m k : Nat} (ha : EvP ta σ H (MatAt C A)) (hb : EvP tb σ H (VecAt C row)) (hc : EvP tc σ H (fun v H => RatAt C H v w)) (h1 : A.length = row.length) (h2 : Wide row.length A) (h3 : row.length ≤ 10000) (s1 : AllM n A) (s2 : AllS m row) (s3 : SmB k w) (hs : 0 < n ∧ 0 < m ∧ 0 < k ∧ n + (k + (m + m)) ≤ 900000) :
    EvP (tCall (spAddTerm C) [] E (tCons ta (tCons tb (tCons tc tNil)))) σ H (MatAt C (addTermQ A row w)) :=
  evp_call3 mono_mat mono_vec ha hb hc fun x y z H1 _ r1 r2 r3 Q2 E2 k2 => ⟨x, y, z, A, row, w, n, m, k, rfl, r1, r2, r3, ⟨h1, h2, h3⟩, ⟨s1, s2, s3⟩, hs, k2⟩
theorem cut_last {vs : List V} : cutV vs none (some (-1)) = vs.take (vs.length - 1) := by
  unfold cutV
  rw [HT.sIx_none, Nat.sub_zero, List.drop_zero]
  congr 1
  show (if (-1 : Int) < 0 then ((-1 : Int) + (vs.length : Int)).toNat else min (-1 : Int).toNat vs.length) = _
  rw [if_pos (by decide)]
  omega
/-- xs[:-1] -/
theorem evp_cut1 {α : Type} {R : α → V → Hp → Prop} {xs : List α} {x : α} (m : MonoR R) (h : EvP te σ H (LstAt R (xs ++ [x]))) (hh : Ev tb σ H (.int (-1))) : EvP (tSl (rSlL K) te tNoPart (tPart tb)) σ H (LstAt R xs) := fun H1 e Q k =>
  h H1 e _ fun v H2 e2 ⟨a, vs, ev, ha, hA⟩ => by
    subst ev
    refine hh H2 (e.trans e2) _ fun H3 e3 => ⟨-1, rfl, a, vs, rfl, SqL.of (e3 _ _ ha), fun p hp => k _ _ ((e2.trans e3).trans (Ex.new hp)) ⟨p, _, rfl, upd_same, ?_⟩⟩
    have A := hA.mono m (e3.trans (Ex.new (o := .lst (cutV vs none (some (-1)))) hp))
    have l := A.1
    rw [List.length_append, List.length_singleton] at l
    rw [cut_last] at A ⊢
    refine ⟨by rw [List.length_take]; omega, fun i y w h1 h2 => ?_⟩
    have hi : i < xs.length := (List.getElem?_eq_some_iff.mp h1).1
    rw [List.getElem?_take, if_pos (by omega)] at h2
    exact A.2 i y w (by rw [List.getElem?_append_left hi]; exact h1) h2
/-- xs[-1] -/
theorem evp_last {α : Type} {R : α → V → Hp → Prop} {xs : List α} {x : α} (m : MonoR R) (h : EvP te σ H (LstAt R (xs ++ [x]))) (hh : Ev tb σ H (.int (-1))) : EvP (tOp (rIxL K) te tb) σ H (R x) := fun H1 e Q k =>
  h H1 e _ fun v H2 e2 ⟨a, vs, ev, ha, hA⟩ => by
    subst ev
    refine hh H2 (e.trans e2) _ fun H3 e3 => ?_
    have A := hA.mono m e3
    have l := A.1
    rw [List.length_append, List.length_singleton] at l
    obtain ⟨w, hw, hr⟩ := A.get (i := xs.length) (x := x) (by rw [List.getElem?_append_right (Nat.le_refl _), Nat.sub_self]; rfl)
    refine ⟨a, vs, -1, w, rfl, rfl, SqL.of (e3 _ _ ha), ?_, k w H3 (e2.trans e3) hr⟩
    unfold atI ixN
    rw [if_neg (by decide), l]
    have e1 : (-1 + ((xs.length + 1 : Nat) : Int)).toNat = xs.length := by omega
    split
    · show vs[_]? = _
      rw [e1]
      exact hw
    · omega
theorem evp_t0 {t : Rat × List Rat} (h : EvP te σ H (RT C t)) : EvP (tOp (rIxT K) te (tC (.int 0))) σ H (fun v H => RatAt C H v t.1) := fun H1 e Q k =>
  h H1 e _ fun v H2 e2 ⟨a, x, y, ev, h1, h2, h3⟩ => by
    subst ev
    exact ⟨a, _, _, _, rfl, rfl, SqT.of h1, atI_nat (j := 0) rfl, k _ _ e2 h2⟩
theorem evp_t1 {t : Rat × List Rat} (h : EvP te σ H (RT C t)) : EvP (tOp (rIxT K) te (tC (.int 1))) σ H (VecAt C t.2) := fun H1 e Q k =>
  h H1 e _ fun v H2 e2 ⟨a, x, y, ev, h1, h2, h3⟩ => by
    subst ev
    exact ⟨a, _, _, _, rfl, rfl, SqT.of h1, atI_nat (j := 1) rfl, k _ _ e2 h3⟩
end
/-- a comprehension over a tuple whose element takes of the state -/
theorem lc_st3T {α : Type} {R : α → V → Hp → Prop} {K : PySem.W.Frag} {st : Addr × Addr} {c cost j : Nat} {tl te : TE} {vs : List Nat} {σ : L2.St} {H : Hp} {xs : List α} {S : Addr → Nat → V → Hp → Prop} {Q : VK} (kR : ∀ B, Kept B R) (mR : MonoR R) (h : EvP tl σ H (TupAt R xs)) (hn : xs.length ≤ 10000) (s0 : St3 st c H)
    (hw : ∀ x, wipe ((wipe σ vs).set j (some x)) vs = wipe σ vs)
    (he : ∀ (i : Nat) (x : α) (y : V) (D : Addr) (H' : Hp) (K : VK), xs[i]? = some x → R x y H' → St3 st (c + cost * i) H' → FrS st H H' → D ≠ st.1 → H D = none → (∀ (v : V) (H2 : Hp), St3 st (c + cost * (i + 1)) H2 → FrS st H' H2 → S D i v H2 → K v H2) → te ((wipe σ vs).set j (some y)) H' K)
    (hS : ∀ (D : Addr) (i : Nat) (v : V) (H' H2 : Hp) (c : Nat), St3 st c H' → FrS st H' H2 → S D i v H' → S D i v H2) (hD : ∀ (D : Addr) (i : Nat) (v : V) (H' : Hp) (ys zs : List V), H' D = some (.lst ys) → S D i v H' → S D i v (upd H' D (.lst zs)))
    (k : ∀ (D : Addr) (ys : List V) (H' : Hp), D ≠ st.1 → H D = none → St3 st (c + cost * xs.length) H' → FrS st H H' → H' D = some (.lst ys) → ys.length = xs.length → (∀ (i : Nat) y, ys[i]? = some y → S D i y H') → Q (.ref D) H') :
    tLc (iTup K tl) (gName j) tYes te vs σ H Q := by
  refine h H (Ex.refl _) _ fun v H1 e1 ⟨a, us, ev, ha, hA⟩ => ?_
  subst ev
  refine ⟨a, rfl, ⟨us, SqT.of ha⟩, fun D hD0 => ?_⟩
  have hDH : H D = none := fresh_back e1 hD0
  have nD : D ≠ st.1 := s0.fresh hDH
  have na : a ≠ st.1 := (s0.ex e1).ne ha fun xs z => nomatch z
  have naD : a ≠ D := ne_of_none ha hD0
  have eN : Ex H1 (upd H1 D (.lst [])) := Ex.new hD0
  have w := walk_tup (K := K) (a := a) (xs := us)
  rw [hA.1] at w
  refine lc_it (w := w) (fun i H' => St3 st (c + cost * i) H' ∧ FrS st H H' ∧ (H' a = some (.tup us) ∧ AllR R xs us H') ∧ ∃ ys, H' D = some (.lst ys) ∧ ys.length = i ∧ ∀ (m : Nat) y, ys[m]? = some y → S D m y H')
    ⟨s0.ex (e1.trans eN), .of (e1.trans eN), ⟨eN _ _ ha, hA.mono mR eN⟩, [], upd_same, rfl, fun m y z => by simp at z⟩ (fun i H' _ p => SqT.of p.2.2.1.1) ?_ ?_
  · rintro i x H' H2 hi ⟨p1, p2, ⟨pa, pA⟩, ys, p3, p4, p5⟩ ⟨y1, y2⟩
    subst y1
    obtain ⟨z0, hz0, rz0⟩ := pA.getV y2
    refine ⟨hw _, ?_⟩
    show te _ H2 _
    refine he i z0 x D H2 _ hz0 rz0 p1 p2 nD hDH fun v H3 q1 q2 q3 => ?_
    have d3 := q2 _ _ nD p3
    refine ⟨ys, d3, sz_lt (by omega), q1.upd nD (s0.fresh2 hDH), (p2.trans q2).updN hDH, ⟨(upd_ne naD).trans (q2 _ _ na pa), ?_⟩, ys ++ [v], upd_same, by rw [List.length_append, p4]; rfl, fun m z hz => ?_⟩
    · refine (pA.kept (H' := H3) (kR (Bs st)) (fun b hb => by obtain ⟨xs, h1⟩ := p1.lst; exact ⟨_, by rw [hb]; exact h1⟩) (fun a o n ha => q2 a o n ha)).kept (kR (fun b => b = D)) (fun b hb => ⟨ys, by rw [hb]; exact d3⟩) (fun a o n ha => (upd_ne n).trans ha)
    · by_cases hm : m < ys.length
      · rw [List.getElem?_append_left hm] at hz
        exact hD D m z H3 ys _ d3 (hS D m z H2 H3 _ p1 q2 (p5 m z hz))
      · have hm2 : m = i := by
          have := (List.getElem?_eq_some_iff.mp hz).1
          rw [List.length_append, List.length_singleton] at this
          omega
        subst hm2
        rw [List.getElem?_append_right (by omega), p4, Nat.sub_self] at hz
        simp at hz
        subst hz
        exact hD D _ _ H3 ys _ d3 q3
  · rintro H' ⟨p1, p2, _, ys, p3, p4, p5⟩
    exact k D ys H' nD hDH p1 p2 p3 p4 p5
theorem getD_ext {α : Type} {a b : List α} {d : α} (hl : a.length = b.length) (h : ∀ i, i < a.length → a.getD i d = b.getD i d) : a = b := by
  refine List.ext_getElem? fun i => ?_
  by_cases hi : i < a.length
  · rw [getD_get (d := d) hi, getD_get (d := d) (hl ▸ hi), h i hi]
  · rw [List.getElem?_eq_none (by omega), List.getElem?_eq_none (by omega)]
end Pn
namespace Pn
theorem divInt_pos {a b : Int} (ha : 0 < a) (hb : 0 < b) : 0 < Rat.divInt a b := by
  have h : Rat.divInt a b = (a : Rat) / (b : Rat) := Rat.divInt_eq_div a b
  rw [h, Rat.div_def]
  exact Rat.mul_pos (by exact_mod_cast ha) (Rat.inv_pos.mpr (by exact_mod_cast hb))
end Pn
namespace Pn
open PySem L2 Evl
theorem pickI {α : Type} {P : Nat → V → α → Prop} : ∀ {ys : List V}, (∀ (i : Nat) y, ys[i]? = some y → ∃ q, P i y q) → ∃ qs : List α, qs.length = ys.length ∧ ∀ (i : Nat) y q, ys[i]? = some y → qs[i]? = some q → P i y q := by
  intro ys h
  have h' : ∀ (i : Nat) y, ys[i]? = some y → ∃ q : Nat × α, q.1 = i ∧ P i y q.2 := fun i y hy => by
    obtain ⟨q, hq⟩ := h i y hy
    exact ⟨(i, q), rfl, hq⟩
  refine ⟨(List.range ys.length).pmap (fun i hi => (h i _ (List.getElem?_eq_getElem hi)).choose) (fun i hi => List.mem_range.mp hi), by rw [List.length_pmap, List.length_range], fun i y q hy hq => ?_⟩
  have hi := (List.getElem?_eq_some_iff.mp hy).1
  rw [List.getElem?_eq_getElem (by rw [List.length_pmap, List.length_range]; exact hi), List.getElem_pmap] at hq
  have e : ys[i] = y := by
    rw [List.getElem?_eq_getElem hi] at hy
    exact Option.some.inj hy
  have z := (h i _ (List.getElem?_eq_getElem hi)).choose_spec
  simp only [List.getElem_range] at hq
  cases hq
  rw [← e]
  exact z
end Pn

namespace Pn
open PySem L2 Evl
section
variable {X : Cx} {K : PySem.W.Frag}
theorem call_listK (hK : X.K = K) : CallR X (.type "list") (rListS K) := by
  subst hK
  exact call_list_of
end
abbrev RL (C : Addr) : List Rat → V → Hp → Prop := LstAt (RQ C)
theorem mono_rl {C : Addr} : MonoR (RL C) := mono_lst mono_rq
theorem mono_rlq {C : Addr} {qs : List Rat} : Mono (RL C qs) := fun v H H' e h => mono_rl qs v H H' e h
theorem stabN_rl {C : Addr} (row : List Rat) : StabN (RL C row) := stabN_lst fun _ => stab_rat
/-! ### what is reckoned -/
def simpQ (a b : List Rat) : List (List Rat) := b.map fun q => a.map fun p => if dotQ a a * dotQ b b = 0 then 0 else (p * q) / (dotQ a a * dotQ b b)
def penB (A P : List (List Rat)) (h w : Nat) : Bool := (decide (mulQ A P h = transQ (mulQ A P h) h) && decide (mulQ P A w = transQ (mulQ P A w) w)) && (decide (mulQ (mulQ A P h) A w = A) && decide (mulQ (mulQ P A w) P h = P))
def CondOk (n m : Nat) : Prop := 0 < n ∧ 0 < m ∧ ((n + m + 1) * 4 + 1 + n + 1) * 4 + 1 ≤ 900000 ∧ ((n + m + 1) * 4 + 1 + m + 1) * 4 + 1 ≤ 900000
structure Shape (A P : List (List Rat)) (h w : Nat) : Prop where
  la : A.length = h
  wa : Wide w A
  lp : P.length = w
  wp : Wide h P
  hh : h ≤ 4
  hw : w ≤ 4
def spCond (C : Addr) : Sp := fun vs H Q _ => ∃ (x y : V) (A P : List (List Rat)) (h w n m : Nat), vs = [x, y, .int (h : Int), .int (w : Int)] ∧ MatAt C A x H ∧ MatAt C P y H ∧ Shape A P h w ∧ (AllM n A ∧ AllM m P ∧ CondOk n m) ∧ ∀ H', Ex H H' → Q (.bl (penB A P h w)) H'
def spPen (C : Addr) : Sp := fun vs H Q _ => ∃ (x y : V) (A P : List (List Rat)) (h w n m : Nat), vs = [x, y] ∧ MatAt C A x H ∧ MatAt C P y H ∧ Shape A P h w ∧ (AllM n A ∧ AllM m P ∧ CondOk n m) ∧ ∀ H', Ex H H' → Q (.bl (penB A P h w)) H'
def spDotR (C : Addr) (S : List Rat → V → Hp → Prop) : Sp := fun vs H Q _ => ∃ (x y : V) (ps qs : List Rat) (n m : Nat), vs = [x, y] ∧ S ps x H ∧ RL C qs y H ∧ ps.length = qs.length ∧ AllS n ps ∧ AllS m qs ∧ DotOk n m ps.length ∧ NewV (fun v H => RatAt C H v (dotQ ps qs)) H Q
def spSimple (C : Addr) : Sp := fun vs H Q _ => ∃ (s x y : V) (a b : List Rat), vs = [s, x, y] ∧ RL C a x H ∧ RL C b y H ∧ (a.length ≤ 4 ∧ b.length ≤ 4 ∧ AllS 20 a ∧ AllS 20 b) ∧ ∀ l vA vP H', Ex H H' → H' l = some (.lst [vA, vP]) → MatAt C (outerQ a b) vA H' → MatAt C (simpQ a b) vP H' → Q (.ref l) H'
section
variable {C : Addr} {K : PySem.W.Frag} {ta tb tc td te : TE} {σ : L2.St} {H : Hp} {E : XK}
theorem arg_evp {S : V → Hp → Prop} {F : List V → Hp → Prop} (h : EvP te σ H S) (k : ∀ v H1, Ex H H1 → S v H1 → F [v] H1) : tCons te tNil σ H F := h H (Ex.refl _) _ fun v H1 e r => k v H1 e r
theorem evp_dotR {S : List Rat → V → Hp → Prop} {ps qs : List Rat} {n m : Nat} (mS : Mono (S ps)) (ha : EvP ta σ H (S ps)) (hb : EvP tb σ H (RL C qs)) (hl : ps.length = qs.length) (s1 : AllS n ps) (s2 : AllS m qs) (hd : DotOk n m ps.length) : EvP (tCall (spDotR C S) [] E (tCons ta (tCons tb tNil))) σ H (fun v H => RatAt C H v (dotQ ps qs)) :=
  evp_call2 mS ha hb fun v w H1 _ r1 r2 Q2 E2 k2 => ⟨v, w, ps, qs, n, m, rfl, r1, r2, hl, s1, s2, hd, k2⟩
theorem ev_pen {A P : List (List Rat)} {h w n m : Nat} (ha : EvP ta σ H (MatAt C A)) (hb : EvP tb σ H (MatAt C P)) (hs : Shape A P h w) (hz : AllM n A ∧ AllM m P ∧ CondOk n m) : Ev (tCall (spPen C) [] E (tCons ta (tCons tb tNil))) σ H (.bl (penB A P h w)) :=
  ev_of (evp_call2 mono_mat ha hb fun v u H1 _ r1 r2 Q2 E2 k2 => ⟨v, u, A, P, h, w, n, m, rfl, r1, r2, hs, hz, fun H4 e4 => k2 _ _ e4 rfl⟩)
theorem ev_cond {A P : List (List Rat)} {h w n m : Nat} (ha : EvP ta σ H (MatAt C A)) (hb : EvP tb σ H (MatAt C P)) (hc : ∀ H1, Ex H H1 → Ev tc σ H1 (.int (h : Int))) (hd : ∀ H1, Ex H H1 → Ev td σ H1 (.int (w : Int))) (hs : Shape A P h w) (hz : AllM n A ∧ AllM m P ∧ CondOk n m) : Ev (tCall (spCond C) [] E (tCons ta (tCons tb (tCons tc (tCons td tNil))))) σ H (.bl (penB A P h w)) := fun H1 e Q k =>
  ha H1 e _ fun v H2 e2 hv => hb H2 (e.trans e2) _ fun u H3 e3 hu => hc H3 ((e.trans e2).trans e3) H3 (Ex.refl _) _ fun H4 e4 => hd H4 (((e.trans e2).trans e3).trans e4) H4 (Ex.refl _) _ fun H5 e5 =>
    ⟨v, u, A, P, h, w, n, m, rfl, mono_mat _ _ _ ((e3.trans e4).trans e5) hv, mono_mat _ _ _ (e4.trans e5) hu, hs, hz, fun H6 e6 => k H6 ((((e2.trans e3).trans e4).trans e5).trans e6)⟩
theorem evp_listT {α : Type} {R : α → V → Hp → Prop} {xs : List α} (m : MonoR R) (h : EvP te σ H (TupAt R xs)) : EvP (tCB (rListS K) (tCons te tNil)) σ H (NewIn (LstAt R xs) H) := fun H1 e Q k =>
  h H1 e _ fun v H2 e2 ⟨a, vs, ev, ha, hA⟩ => by
    subst ev
    exact ⟨a, vs, rfl, .inr (SqT.of ha), fun l hl => k _ _ (e2.trans (Ex.new hl)) ⟨⟨l, vs, rfl, upd_same, hA.mono m (Ex.new hl)⟩, l, rfl, fresh_back (e.trans e2) hl, _, upd_same⟩⟩
theorem evp_mapTN {α γ : Type} {R : α → V → Hp → Prop} {S : γ → V → Hp → Prop} {tl : TE} {f : α → γ} {j : Nat} {vs : List Nat} {xs : List α} (mR : MonoR R) (mS : MonoR S) (sS : ∀ y, StabN (S y)) (h : EvP tl σ H (TupAt R xs)) (hz : xs.length ≤ 10000) (hw : ∀ v, wipe ((wipe σ vs).set j (some v)) vs = wipe σ vs)
    (he : ∀ v x H1, Ex H H1 → x ∈ xs → R x v H1 → EvP te ((wipe σ vs).set j (some v)) H1 (NewIn (S (f x)) H1)) : EvP (tLc (iTup K tl) (gName j) tYes te vs) σ H (NewLN H xs.length (fun i v H => ∃ y, (xs.map f)[i]? = some y ∧ S y v H)) :=
  (evp_lcN (P := fun i σi H1 => ∃ v x, σi = (wipe σ vs).set j (some v) ∧ xs[i]? = some x ∧ R x v H1) (S := fun i v H => ∃ y, (xs.map f)[i]? = some y ∧ S y v H) hz (src_tup mR h)
    (fun i v H1 H2 e ⟨y, h1, h2⟩ => ⟨y, h1, mS _ _ _ _ e h2⟩) (fun i v H1 H2 D zs fr hD n ⟨y, h1, h2⟩ => ⟨y, h1, sS y v H1 H2 D zs fr hD n h2⟩)
    (fun i H1 v H2 kk hi e ⟨e2, x, hx, hr⟩ kz => by subst e2; exact kz _ _ (Ex.refl _) (hw v) ⟨v, x, rfl, hx, hr⟩)
    (fun i σi H1 hi e ⟨v, x, e1, hx, hr⟩ => by
      subst e1
      exact EvP.imp (he v x H1 e (List.mem_of_getElem? hx) hr) fun w H2 _ r => ⟨⟨f x, by rw [List.getElem?_map, hx]; rfl, r.1⟩, r.2⟩))
/-- [_law_ratio(state) for j in range(n)] -/
theorem lc_rats {st : Addr × Addr} {c n j a : Nat} {vs : List Nat} {ta : TA} {Q : VK} (hA : EvA ta σ H [.int (n : Int)]) (hn : n ≤ 1000) (s0 : St3 st c H) (hc : c + 6 * n + 6 < cMax)
    (hw : ∀ x, wipe ((wipe σ vs).set j (some x)) vs = wipe σ vs) (hS : ∀ x : V, ((wipe σ vs).set j (some x))[a]? = some (some (.ref st.1)))
    (k : ∀ qs v H', qs.length = n → AllS 20 qs → RowAt (Bs st) (RQ C) qs v H' → St3 st (c + 6 * n) H' → FrS st H H' → Q v H') :
    tLc (iRng1 ta) (gName j) tYes (tCall (spRatio3 C) [] E (tCons (tVar a) tNil)) vs σ H Q := by
  refine lc_st3 (st := st) (c := c) (n := n) (cost := 6) (S := fun D i v H => ∃ q, SmB 20 q ∧ RatAt C H v q) hA (by omega) s0 hw ?_ ?_ ?_ ?_
  · intro j D H' kk hj s f nD hD hD0 kz
    have h6 : 6 * j + 6 ≤ 6 * n := by omega
    refine ⟨_, hS _, st, c + 6 * j, rfl, s, (by omega), fun q v H2 sm pr s2 f2 => ?_⟩
    exact kz v H2 (by rw [Nat.mul_add 6 j 1]; exact s2) f2 ⟨q, sm, pr⟩
  · rintro D j v H' H2 c' s f ⟨q, sm, pr⟩
    exact ⟨q, sm, pr.mono3 s f⟩
  · rintro D j v H' ys zs hD ⟨q, sm, pr⟩
    exact ⟨q, sm, stab_rat v H' _ D ys (fun a o ne ha => (upd_ne ne).trans ha) hD pr⟩
  intro D ys H5 nD hD0 s5 f5 hD hl hy
  obtain ⟨qs, q1, q2⟩ := pick hy
  refine k qs _ _ (by omega) (fun q hq => ?_) ⟨D, ys, rfl, nD, hD, q1.symm, fun j x v h1 h2 => (q2 j v x h2 h1).2⟩ s5 f5
  obtain ⟨j, hj, e⟩ := List.mem_iff_getElem.mp hq
  exact (q2 j _ q (List.getElem?_eq_getElem (by omega)) (by rw [List.getElem?_eq_getElem hj, e])).1
end
/-! ### a list of lists that is written into -/
def SqQ (C : Addr) (st : Addr × Addr) (p : Addr) (zs : List V) (M : List (List Rat)) (H : Hp) : Prop := H p = some (.lst zs) ∧ zs.length = M.length ∧ p ≠ st.1 ∧
  (∀ (i : Nat) y, zs[i]? = some y → ∃ r q vs, M[i]? = some r ∧ y = .ref q ∧ q ≠ st.1 ∧ q ≠ p ∧ H q = some (.lst vs) ∧ AllR (RQ C) r vs H) ∧ ∀ (i j : Nat) y, zs[i]? = some y → zs[j]? = some y → i = j
theorem SqQ.fr3 {C : Addr} {st : Addr × Addr} {p : Addr} {zs : List V} {M : List (List Rat)} {c : Nat} {H H' : Hp} (h : SqQ C st p zs M H) (s : St3 st c H) (f : FrS st H H') : SqQ C st p zs M H' := by
  obtain ⟨h1, h2, h3, h4, h5⟩ := h
  refine ⟨f _ _ h3 h1, h2, h3, fun i y hy => ?_, h5⟩
  obtain ⟨r, q, vs, g1, g2, g3, g4, g5, g6⟩ := h4 i y hy
  exact ⟨r, q, vs, g1, g2, g3, g4, f _ _ g3 g5, g6.kept (B := Bs st) kept_rq (fun b hb => by obtain ⟨xs, h1⟩ := s.lst; exact ⟨_, by rw [hb]; exact h1⟩) (fun a o n ha => f a o n ha)⟩
theorem SqQ.lst {C : Addr} {st : Addr × Addr} {p : Addr} {zs : List V} {M : List (List Rat)} {H : Hp} (h : SqQ C st p zs M H) : LstAt (RL C) M (.ref p) H := by
  obtain ⟨h1, h2, h3, h4, h5⟩ := h
  refine ⟨p, zs, rfl, h1, h2, fun i x v hx hv => ?_⟩
  obtain ⟨r, q, vs, g1, g2, g3, g4, g5, g6⟩ := h4 i v hv
  rw [hx] at g1
  cases g1
  exact ⟨q, vs, g2, g5, g6⟩
theorem allR_setQ {C : Addr} {r : List Rat} {vs : List V} {H : Hp} {k : Nat} {x : Rat} {v : V} (h : AllR (RQ C) r vs H) (hv : RatAt C H v x) : AllR (RQ C) (r.set k x) (vs.set k v) H := by
  refine ⟨by rw [List.length_set, List.length_set]; exact h.1, fun i a b ha hb => ?_⟩
  rw [List.getElem?_set] at ha hb
  by_cases e : k = i
  · subst e
    rw [if_pos rfl] at ha hb
    split at ha
    · split at hb
      · cases ha
        cases hb
        exact hv
      · cases hb
    · cases ha
  · rw [if_neg e] at ha hb
    exact h.2 i a b ha hb
theorem SqQ.set {C : Addr} {st : Addr × Addr} {p q : Addr} {zs vs : List V} {M : List (List Rat)} {H : Hp} {j k : Nat} {v : V} {x : Rat} (h : SqQ C st p zs M H) (hj : zs[j]? = some (.ref q)) (hq : H q = some (.lst vs)) (hv : RatAt C H v x) : SqQ C st p zs (set2 M j k x) (upd H q (.lst (vs.set k v))) := by
  obtain ⟨h1, h2, h3, h4, h5⟩ := h
  obtain ⟨r, q', vs', g1, g2, g3, g4, g5, g6⟩ := h4 j _ hj
  cases g2
  rw [hq] at g5
  injection g5 with g5
  injection g5 with g5
  subst g5
  have hjl : j < M.length := (List.getElem?_eq_some_iff.mp g1).1
  have gr : M.getD j [] = r := by
    rw [getD_get (d := []) hjl] at g1
    exact Option.some.inj g1
  have kp : ∀ r vs1, AllR (RQ C) r vs1 H → AllR (RQ C) r vs1 (upd H q (.lst (vs.set k v))) := fun r vs1 a => a.kept (B := fun x => x = q) kept_rq (fun b hb => ⟨vs, by rw [hb]; exact hq⟩) (fun a o n ha => (upd_ne n).trans ha)
  refine ⟨(upd_ne (fun e => g4 e.symm)).trans h1, by rw [set2_len]; exact h2, h3, fun i y hy => ?_, h5⟩
  by_cases e : i = j
  · subst e
    rw [hj] at hy
    cases hy
    refine ⟨r.set k x, q, vs.set k v, ?_, rfl, g3, g4, upd_same, kp _ _ (allR_setQ g6 hv)⟩
    unfold set2
    rw [List.getElem?_set_self hjl, gr]
  · obtain ⟨r2, q2, vs2, a1, a2, a3, a4, a5, a6⟩ := h4 i y hy
    have nq : q2 ≠ q := fun z => e (h5 i j (.ref q) (by rw [hy, a2, z]) hj)
    refine ⟨r2, q2, vs2, ?_, a2, a3, a4, (upd_ne nq).trans a5, kp _ _ a6⟩
    unfold set2
    rw [List.getElem?_set_ne (fun z => e z.symm)]
    exact a1
theorem sqQ_new {C : Addr} {st : Addr × Addr} {c : Nat} {M : List (List Rat)} {H H' : Hp} {v : V} (s : St3 st c H) (h : NewLN H M.length (fun i v H => ∃ y, (M.map fun r => r)[i]? = some y ∧ RL C y v H) v H') : ∃ p zs, v = .ref p ∧ SqQ C st p zs M H' := by
  obtain ⟨p, zs, rfl, hp0, hp, hzl, hz, hinj⟩ := h
  refine ⟨p, zs, rfl, hp, hzl, s.fresh hp0, fun i y h => ?_, hinj⟩
  obtain ⟨⟨r, g1, g2⟩, nD, q, eq, hq0, _⟩ := hz i y h
  obtain ⟨q', vs, e', k1, k2⟩ := g2
  rw [eq] at e'
  cases e'
  rw [List.map_id'' (fun _ => rfl)] at g1
  exact ⟨r, q, vs, g1, eq, s.fresh hq0, fun z => nD (by rw [eq, z]), k1, k2⟩
end Pn
namespace Pn
theorem sq_zero {f : Nat → Rat} : ∀ {n : Nat}, sumQ n (fun k => f k * f k) = 0 → ∀ k, k < n → f k = 0 := by
  have nn : ∀ x : Rat, 0 ≤ x * x := fun x => by
    rcases (Rat.le_total : (0 : Rat) ≤ x ∨ x ≤ 0) with h | h
    · exact Rat.mul_nonneg h h
    · have h' : 0 ≤ -x := by grind
      have := Rat.mul_nonneg h' h'
      grind
  have sn : ∀ n, 0 ≤ sumQ n (fun k => f k * f k) := fun n => by
    induction n with
    | zero => exact Rat.le_refl
    | succ n ih =>
      show 0 ≤ sumQ n (fun k => f k * f k) + f n * f n
      exact Rat.add_nonneg ih (nn _)
  intro n
  induction n with
  | zero => intro _ k hk; omega
  | succ n ih =>
    intro h k hk
    have h' : sumQ n (fun k => f k * f k) + f n * f n = 0 := h
    have a := sn n
    have b := nn (f n)
    have z1 : sumQ n (fun k => f k * f k) = 0 := by grind
    have z2 : f n * f n = 0 := by grind
    by_cases e : k = n
    · subst e
      rcases Rat.mul_eq_zero.mp z2 with z | z <;> exact z
    · exact ih z1 k (by omega)
theorem simp_len (a b : List Rat) : (simpQ a b).length = b.length := by unfold simpQ; rw [List.length_map]
theorem simp_wide (a b : List Rat) : Wide a.length (simpQ a b) := fun r hr => by
  unfold simpQ at hr
  obtain ⟨q, _, rfl⟩ := List.mem_map.mp hr
  rw [List.length_map]
theorem simp_at {a b : List Rat} {j i : Nat} (hj : j < b.length) (hi : i < a.length) : at2 (simpQ a b) j i = if dotQ a a * dotQ b b = 0 then 0 else (a.getD i 0 * b.getD j 0) / (dotQ a a * dotQ b b) := by
  unfold at2 simpQ
  rw [getD_map' (e := 0) hj, getD_map' (e := 0) hi]
theorem smB_mono' {n m : Nat} {q : Rat} (h : SmB n q) (k : n ≤ m) : SmB m q := h.mono k
theorem simp_sm {a b : List Rat} (la : a.length ≤ 4) (lb : b.length ≤ 4) (ha : AllS 20 a) (hb : AllS 20 b) : AllM 370 (simpQ a b) := fun r hr x hx => by
  unfold simpQ at hr
  obtain ⟨q, hq, rfl⟩ := List.mem_map.mp hr
  obtain ⟨p, hp, rfl⟩ := List.mem_map.mp hx
  have d1 : SmB 165 (dotQ a a) := dot_smW (n := 20) (m := 20) (k := 4) ha ha la
  have d2 : SmB 165 (dotQ b b) := dot_smW (n := 20) (m := 20) (k := 4) hb hb lb
  split
  · exact smB_zero (by decide)
  · exact (smB_div (smB_mul (ha p hp) (hb q hq)) (smB_mul d1 d2) ‹_›).mono (by decide)
/-- a matrix of rank one and its pseudo-inverse -/
theorem cond_simple {a b : List Rat} {h w : Nat} (la : a.length = h) (lb : b.length = w) : penB (outerQ a b) (simpQ a b) h w = true := by
  have lA : (outerQ a b).length = h := by rw [outer_len]; exact la
  have wA : Wide w (outerQ a b) := by rw [← lb]; exact outer_wide
  have lP : (simpQ a b).length = w := by rw [simp_len]; exact lb
  have wP : Wide h (simpQ a b) := by rw [← la]; exact simp_wide a b
  have A0 : ∀ i j, i < h → j < w → at2 (outerQ a b) i j = a.getD i 0 * b.getD j 0 := fun i j hi hj => outer_at (by omega) (by omega)
  have P0 : ∀ j i, j < w → i < h → at2 (simpQ a b) j i = if dotQ a a * dotQ b b = 0 then 0 else (a.getD i 0 * b.getD j 0) / (dotQ a a * dotQ b b) := fun j i hj hi => simp_at (by omega) (by omega)
  have dA : dotQ a a = sumQ h fun k => a.getD k 0 * a.getD k 0 := dot_sum la la
  have dB : dotQ b b = sumQ w fun k => b.getD k 0 * b.getD k 0 := dot_sum lb lb
  generalize hα : dotQ a a = α at *
  generalize hβ : dotQ b b = β at *
  have lL : (mulQ (outerQ a b) (simpQ a b) h).length = h := by rw [mul_len]; exact lA
  have lR : (mulQ (simpQ a b) (outerQ a b) w).length = w := by rw [mul_len]; exact lP
  by_cases hz : α * β = 0
  · have P1 : ∀ j i, j < w → i < h → at2 (simpQ a b) j i = 0 := fun j i hj hi => by rw [P0 j i hj hi, if_pos hz]
    have A1 : ∀ i j, i < h → j < w → at2 (outerQ a b) i j = 0 := fun i j hi hj => by
      rw [A0 i j hi hj]
      rcases Rat.mul_eq_zero.mp hz with z | z
      · rw [sq_zero (f := fun k => a.getD k 0) (by rw [← dA]; exact z) i hi]; grind
      · rw [sq_zero (f := fun k => b.getD k 0) (by rw [← dB]; exact z) j hj]; grind
    have L1 : ∀ i k, i < h → k < h → at2 (mulQ (outerQ a b) (simpQ a b) h) i k = 0 := fun i k hi hk => by
      rw [mul_at (n := w) wA lP wP (by omega) hk, sum_congr (g := fun _ => 0) fun j hj => by rw [A1 i j hi hj]; grind]
      exact sum_zero w
    have R1 : ∀ i k, i < w → k < w → at2 (mulQ (simpQ a b) (outerQ a b) w) i k = 0 := fun i k hi hk => by
      rw [mul_at (n := h) wP lA wA (by omega) hk, sum_congr (g := fun _ => 0) fun j hj => by rw [P1 i j hi hj]; grind]
      exact sum_zero h
    unfold penB
    rw [decide_eq_true ((sym_iff lL mul_wide).mpr fun i j hi hj => by rw [L1 i j hi hj, L1 j i hj hi]), decide_eq_true ((sym_iff lR mul_wide).mpr fun i j hi hj => by rw [R1 i j hi hj, R1 j i hj hi])]
    rw [decide_eq_true (mat_ext (w := w) (by rw [mul_len, lL]; exact lA.symm) mul_wide wA fun i j hi hj => ?_), decide_eq_true (mat_ext (w := h) (by rw [mul_len, lR]; exact lP.symm) mul_wide wP fun i j hi hj => ?_)]
    · rfl
    · rw [mul_len, lR] at hi
      rw [mul_at (n := w) mul_wide lP wP (by omega) hj, P1 i j hi hj, sum_congr (g := fun _ => 0) fun k hk => by rw [R1 i k hi hk]; grind]
      exact sum_zero w
    · rw [mul_len, lL] at hi
      rw [mul_at (n := h) mul_wide lA wA (by omega) hj, A1 i j hi hj, sum_congr (g := fun _ => 0) fun k hk => by rw [L1 i k hi hk]; grind]
      exact sum_zero h
  · have P1 : ∀ j i, j < w → i < h → at2 (simpQ a b) j i = (a.getD i 0 * b.getD j 0) / (α * β) := fun j i hj hi => by rw [P0 j i hj hi, if_neg hz]
    have hα0 : α ≠ 0 := fun z => hz (by rw [z]; grind)
    have hβ0 : β ≠ 0 := fun z => hz (by rw [z]; grind)
    have L1 : ∀ i k, i < h → k < h → at2 (mulQ (outerQ a b) (simpQ a b) h) i k = a.getD i 0 * a.getD k 0 / α := fun i k hi hk => by
      rw [mul_at (n := w) wA lP wP (by omega) hk, sum_congr (g := fun j => (a.getD i 0 * a.getD k 0 / (α * β)) * (b.getD j 0 * b.getD j 0)) fun j hj => by rw [A0 i j hi hj, P1 j k hj hk]; grind]
      rw [sum_mulL, ← dB]
      grind
    have R1 : ∀ i k, i < w → k < w → at2 (mulQ (simpQ a b) (outerQ a b) w) i k = b.getD i 0 * b.getD k 0 / β := fun i k hi hk => by
      rw [mul_at (n := h) wP lA wA (by omega) hk, sum_congr (g := fun j => (b.getD i 0 * b.getD k 0 / (α * β)) * (a.getD j 0 * a.getD j 0)) fun j hj => by rw [P1 i j hi hj, A0 j k hj hk]; grind]
      rw [sum_mulL, ← dA]
      grind
    unfold penB
    rw [decide_eq_true ((sym_iff lL mul_wide).mpr fun i j hi hj => by rw [L1 i j hi hj, L1 j i hj hi, Rat.mul_comm (a.getD i 0)]), decide_eq_true ((sym_iff lR mul_wide).mpr fun i j hi hj => by rw [R1 i j hi hj, R1 j i hj hi, Rat.mul_comm (b.getD i 0)])]
    rw [decide_eq_true (mat_ext (w := w) (by rw [mul_len, lL]; exact lA.symm) mul_wide wA fun i j hi hj => ?_), decide_eq_true (mat_ext (w := h) (by rw [mul_len, lR]; exact lP.symm) mul_wide wP fun i j hi hj => ?_)]
    · rfl
    · rw [mul_len, lR] at hi
      rw [mul_at (n := w) mul_wide lP wP (by omega) hj, P1 i j hi hj, sum_congr (g := fun k => (b.getD i 0 * a.getD j 0 / (α * β * β)) * (b.getD k 0 * b.getD k 0)) fun k hk => by rw [R1 i k hi hk, P1 k j hk hj]; grind]
      rw [sum_mulL, ← dB]
      grind
    · rw [mul_len, lL] at hi
      rw [mul_at (n := h) mul_wide lA wA (by omega) hj, A0 i j hi hj, sum_congr (g := fun k => (a.getD i 0 * b.getD j 0 / α) * (a.getD k 0 * a.getD k 0)) fun k hk => by rw [L1 i k hi hk, A0 k j hk hj]; grind]
      rw [sum_mulL, ← dA]
      grind
end Pn

namespace Pn
open PySem L2 Evl
section
variable {X : Cx} {K : PySem.W.Frag}
theorem op_catAK (hK : X.K = K) : OpR X (binaryOp .Add) (rCatA K) := by
  subst hK
  exact op_catA
theorem op_neDK (hK : X.K = K) (hu : X.A.units + 64 < cLine) : OpR X (compareOp .NotEq) (rNeD K) := by
  subst hK
  exact op_neD hu
theorem op_inK (hK : X.K = K) : OpR X (compareOp .In) (rIn K false) := by
  subst hK
  exact op_in_seq
theorem op_notInK (hK : X.K = K) : OpR X (compareOp .NotIn) (rIn K true) := by
  subst hK
  exact op_notIn_seq
theorem pi_enumK {e : Expr} {ta : TA} {p pos tpos : Pos} {elts : List Expr} {kk : Nat} (hK : X.K = K) (hg : Gl X "enumerate") (hm : X.mg "enumerate" = none) (ha : PA X [e] ta) (hs : starEach [e] X.env = [(false, eval e X.env)] := by rfl) :
    PI X (.Tuple elts kk tpos) (.Call (.Name "enumerate" p) [e] [] pos) (iEnum K ta) := by
  subst hK
  exact pi_enum hg hm ha hs
end
section
variable {K : PySem.W.Frag} {C : Addr} {te ta tb tc tl : TE} {σ : L2.St} {H : Hp} {q : Rat} {E : XK}
theorem ev_top (hc : Cls K C) (ht : NoAttr K C "top") (h : EvP te σ H (fun v H => RatAt C H v q)) : Ev (tFld K te "top") σ H (.int q.num) := fun H1 e Q k =>
  h H1 e _ fun v H2 e2 ⟨a, dx, ev, ha⟩ => by
    subst ev
    exact ⟨a, C, dx, _, _, rfl, ha, hc, ht, ratO_top _, k H2 e2⟩
theorem et_top (hc : Cls K C) (ht : NoAttr K C "top") (h : EvP te σ H (fun v H => RatAt C H v q)) : EvT (tTest (tOp rNe (tFld K te "top") (tC (.int 0)))) σ H (!decide (q = 0)) :=
  et_is (et_test (ev_op (ev_top hc ht h) ev_c (rv_ne rfl))) (by rw [num_dec])
theorem et_topE (hc : Cls K C) (ht : NoAttr K C "top") (h : EvP te σ H (fun v H => RatAt C H v q)) : EvT (tTest (tOp rEq (tFld K te "top") (tC (.int 0)))) σ H (decide (q = 0)) :=
  et_is (et_test (ev_op (ev_top hc ht h) ev_c (rv_eq rfl))) (by rw [num_dec])
end
/-! ### promises -/
def optI : Option Nat → V
  | none => .non
  | some a => .int (a : Int)
def spFirst (C : Addr) : Sp := fun vs H Q _ => ∃ (x : V) (R : List (List Rat)) (s c w : Nat), vs = [x, .int (s : Int), .int (c : Int)] ∧ LstAt (RV C) R x H ∧ Wide w R ∧ (c < w ∧ R.length ≤ 100 ∧ s ≤ 100) ∧ ∀ H', Ex H H' → Q (optI (firstQ R s c)) H'
def spCleared (C : Addr) : Sp := fun vs H Q _ => ∃ (x : V) (S : List (List Rat)) (l j w n : Nat), vs = [x, .int (l : Int), .int (j : Int)] ∧ LstAt (RV C) S x H ∧ Wide w S ∧ (l < S.length ∧ j < w ∧ S.length ≤ 100 ∧ w ≤ 100) ∧ (0 < n ∧ 3 * n ≤ 899999 ∧ ∀ i k, SmB n (at2 S i k)) ∧
  ∀ p ys H', Ex H H' → H p = none → H' p = some (.lst ys) → AllR (RV C) (clearQ S l j) ys H' → Q (.ref p) H'
/-- sizes of all states of an elimination -/
structure GOk (n w : Nat) (M : List (List Rat)) : Prop where
  n0 : 2 ≤ n
  n3 : 3 * n ≤ 899990
  hh : M.length ≤ 100
  hw : w ≤ 100
  sm : ∀ t, t ≤ w → ∀ i k, SmB n (at2 (gaussQ M t).1 i k)
  len : ∀ t, t ≤ w → (gaussQ M t).1.length = M.length
  wide : ∀ t, t ≤ w → Wide w (gaussQ M t).1
  ch : ∀ t, t ≤ w → (gaussQ M t).2.length ≤ M.length
  lt : ∀ t, t ≤ w → ∀ k ∈ (gaussQ M t).2, k < t
def redR (M : List (List Rat)) (w : Nat) : List (List Rat) := (gaussQ M w).1.take (gaussQ M w).2.length
def redP (M : List (List Rat)) (w : Nat) : List Nat := (gaussQ M w).2
def spRed (C : Addr) : Sp := fun vs H Q _ => ∃ (x : V) (M : List (List Rat)) (w n : Nat), vs = [x, .int (w : Int)] ∧ MatAt C M x H ∧ Wide w M ∧ GOk n w M ∧
  ∀ T vr vp H', Ex H H' → H' T = some (.tup [vr, vp]) → MatAt C (redR M w) vr H' → TupAt RI (redP M w) vp H' → Q (.ref T) H'
def spRank (C : Addr) : Sp := fun vs H Q _ => ∃ (x : V) (M : List (List Rat)) (w n : Nat), vs = [x, .int (w : Int)] ∧ MatAt C M x H ∧ Wide w M ∧ GOk n w M ∧
  ∀ H', Ex H H' → Q (.int ((redP M w).length : Int)) H'
def spLRed (C : Addr) : Sp := fun vs H Q _ => ∃ (x : V) (M : List (List Rat)) (w n : Nat), vs = [x, .int (w : Int)] ∧ MatAt C M x H ∧ Wide w M ∧ GOk n w M ∧
  ∀ l vr vp H', Ex H H' → H' l = some (.lst [vr, vp]) → MatAt C (redR M w) vr H' → TupAt RI (redP M w) vp H' → Q (.ref l) H'
section
variable {K : PySem.W.Frag} {C : Addr} {te ta tb tc tl : TE} {σ : L2.St} {H : Hp} {E : XK}
theorem wide_ix {R : List (List Rat)} {w i j : Nat} (h : Wide w R) (hi : i < R.length) (hj : j < w) : R[i]? = some (R.getD i []) ∧ (R.getD i [])[j]? = some (at2 R i j) :=
  ⟨getD_get hi, getD_get (by rw [wide_get h hi]; exact hj)⟩
theorem evp_at2L {R : List (List Rat)} {w i j : Nat} (h : Wide w R) (hi : i < R.length) (hj : j < w) (ha : EvP ta σ H (LstAt (RV C) R)) (hb : Ev tb σ H (.int (i : Int))) (hc : Ev tc σ H (.int (j : Int))) : EvP (tOp (rIxT K) (tOp (rIxL K) ta tb) tc) σ H (fun v H => RatAt C H v (at2 R i j)) :=
  evp_ixT mono_rq (evp_ixL mono_rv ha hb (wide_ix h hi hj).1) hc (wide_ix h hi hj).2
end
section
variable {K : PySem.W.Frag} {C : Addr} {te ta tb tc tl : TE} {σ : L2.St} {H : Hp} {E : XK} {D : Ends} {tz tbd : TS} {g : TG}
theorem q_for2 {lo hi : Int} (ha : Ev ta σ H (.int lo)) (hb : Ev tb σ H (.int hi)) (h1 : -(2 ^ 62) ≤ lo ∧ lo < 2 ^ 62 ∧ -(2 ^ 62) ≤ hi ∧ hi < 2 ^ 62) (Pv : Nat → L2.St → Hp → Prop) (h0 : ∀ H1, Ex H H1 → Pv 0 σ H1)
    (hs : ∀ (i : Nat) σ' H', i < (hi - lo).toNat → Pv i σ' H' → g (.int (lo + i)) σ' H' fun σ2 H2 => tbd { D with nx := Pv (i + 1), ct := Pv (i + 1), bk := tz D } σ2 H2) (hd : ∀ σ' H', Pv (hi - lo).toNat σ' H' → tz D σ' H') :
    tSeq (tFor (iRng2 (tCons ta (tCons tb tNil))) g tbd) tz D σ H := by
  unfold tSeq tFor iRng2
  refine (ea_cons ha (ea_cons hb ea_nil)) H (Ex.refl _) _ fun H1 e1 => ⟨lo, hi, rfl, h1, ?_⟩
  exact for_range (lo := lo) (n := (hi - lo).toNat) (D := { D with nx := tz D }) Pv (h0 H1 e1) hs hd
/-- the same, the last statement -/
theorem s_for1 {n : Nat} (ha : Ev ta σ H (.int (n : Int))) (hn : n ≤ 100000) (Pv : Nat → L2.St → Hp → Prop) (h0 : ∀ H1, Ex H H1 → Pv 0 σ H1)
    (hs : ∀ (i : Nat) σ' H', i < n → Pv i σ' H' → g (.int (i : Int)) σ' H' fun σ2 H2 => tbd { D with nx := Pv (i + 1), ct := Pv (i + 1), bk := D.nx } σ2 H2) (hd : ∀ σ' H', Pv n σ' H' → D.nx σ' H') :
    tFor (iRng1 (tCons ta tNil)) g tbd D σ H := by
  unfold tFor iRng1
  refine (ea_cons ha ea_nil) H (Ex.refl _) _ fun H1 e1 => ⟨n, rfl, by omega, by omega, ?_⟩
  have z := for_range (lo := 0) (n := n) (g := g) (tb := tbd) (D := D) (σ := σ) (H := H1) Pv (h0 H1 e1) (fun i σ' H' hi p => by rw [Int.zero_add]; exact hs i σ' H' hi p) hd
  rw [Int.toNat_natCast]
  exact z
theorem q_for1 {n : Nat} (ha : Ev ta σ H (.int (n : Int))) (hn : n ≤ 100000) (Pv : Nat → L2.St → Hp → Prop) (h0 : ∀ H1, Ex H H1 → Pv 0 σ H1)
    (hs : ∀ (i : Nat) σ' H', i < n → Pv i σ' H' → g (.int (i : Int)) σ' H' fun σ2 H2 => tbd { D with nx := Pv (i + 1), ct := Pv (i + 1), bk := tz D } σ2 H2) (hd : ∀ σ' H', Pv n σ' H' → tz D σ' H') :
    tSeq (tFor (iRng1 (tCons ta tNil)) g tbd) tz D σ H := s_for1 (D := { D with nx := tz D }) ha hn Pv h0 hs hd
/-- over enumerate of a list that stays -/
theorem s_forE {α : Type} {R : α → V → Hp → Prop} {xs : List α} {a : Addr} {vs : List V} {i1 i2 : Nat} (mR : MonoR R) (hv : Ev ta σ H (.ref a)) (Pv : Nat → L2.St → Hp → Prop) (hG : ∀ i σ' H', Pv i σ' H' → H' a = some (.lst vs) ∧ AllR R xs vs H') (h0 : ∀ H1, Ex H H1 → Pv 0 σ H1)
    (hs : ∀ (i : Nat) (x : α) (v : V) σ' H' H'', xs[i]? = some x → Pv i σ' H' → Ex H' H'' → R x v H'' → tbd { D with nx := Pv (i + 1), ct := Pv (i + 1), bk := D.nx } ((σ'.set i1 (some (.int (i : Int)))).set i2 (some v)) H'') (hd : ∀ σ' H', Pv xs.length σ' H' → D.nx σ' H') :
    tFor (iEnum K (tCons ta tNil)) (gTup K 2 (gCons (gName i1) (gCons (gName i2) gNil))) tbd D σ H := by
  unfold tFor iEnum
  refine (ea_cons hv ea_nil) H (Ex.refl _) _ fun H1 e1 => ⟨a, vs, rfl, SqL.of (hG _ _ _ (h0 H1 e1)).1, ?_⟩
  have hA := (hG _ _ _ (h0 H1 e1)).2
  have z := for_it (walk_enum (K := K) (a := a) (xs := vs)) (g := gTup K 2 (gCons (gName i1) (gCons (gName i2) gNil))) (tb := tbd) (D := D) (σ := σ) (H := H1) Pv (h0 H1 e1) (fun i σ' H' _ p => SqL.of (hG i σ' H' p).1) (fun i v σ' H' H'' hi p y => by
    obtain ⟨T, x, y', ev, hT, eH, ex, ey⟩ := y
    cases ex
    subst ev eH
    obtain ⟨z, hz, rz⟩ := (hG i σ' H' p).2.getV ey
    refine ⟨T, _, rfl, SqT.of upd_same, rfl, _, _, rfl, _, _, rfl, rfl, ?_⟩
    exact hs i z y' σ' H' _ hz p (Ex.new hT) (mR _ _ _ _ (Ex.new hT) rz)) (fun σ' H' p => hd σ' H' (by rw [hA.1] at p; exact p))
  exact z
theorem q_forE {α : Type} {R : α → V → Hp → Prop} {xs : List α} {a : Addr} {vs : List V} {i1 i2 : Nat} (mR : MonoR R) (hv : Ev ta σ H (.ref a)) (Pv : Nat → L2.St → Hp → Prop) (hG : ∀ i σ' H', Pv i σ' H' → H' a = some (.lst vs) ∧ AllR R xs vs H') (h0 : ∀ H1, Ex H H1 → Pv 0 σ H1)
    (hs : ∀ (i : Nat) (x : α) (v : V) σ' H' H'', xs[i]? = some x → Pv i σ' H' → Ex H' H'' → R x v H'' → tbd { D with nx := Pv (i + 1), ct := Pv (i + 1), bk := tz D } ((σ'.set i1 (some (.int (i : Int)))).set i2 (some v)) H'') (hd : ∀ σ' H', Pv xs.length σ' H' → tz D σ' H') :
    tSeq (tFor (iEnum K (tCons ta tNil)) (gTup K 2 (gCons (gName i1) (gCons (gName i2) gNil))) tbd) tz D σ H := s_forE (D := { D with nx := tz D }) mR hv Pv hG h0 hs hd
/-- [] to a name -/
theorem q_nil {i : Nat} (k : ∀ p, H p = none → tz D (σ.set i (some (.ref p))) (upd H p (.lst []))) : tSeq (tAsg (tLst tNil) (gName i)) tz D σ H := ⟨Nat.zero_le _, fun p hp => k p hp⟩
/-- a list that grows by an item -/
theorem s_appP {S : V → Hp → Prop} {l : Addr} {xs : List V} {tv : TE} (hl : H l = some (.lst xs)) (hv : Ev ta σ H (.ref l)) (h : EvP tv σ H S) (hz : xs.length < 100000) (k : ∀ v H1, Ex H H1 → S v H1 → D.nx σ (upd H1 l (.lst (xs ++ [v])))) :
    tDrop (tBM K "list" rAppend ta (tCons tv tNil)) D σ H := by
  unfold tDrop tBM
  exact hv H (Ex.refl _) _ fun H1 e1 => ⟨.inl ⟨rfl, _, SqL.of (e1 _ _ hl)⟩, h H1 e1 _ fun v H2 e2 r => ⟨l, xs, v, rfl, rfl, (e1.trans e2) _ _ hl, sz_lt hz, k v H2 (e1.trans e2) r⟩⟩
theorem q_appP {S : V → Hp → Prop} {l : Addr} {xs : List V} {tv : TE} (hl : H l = some (.lst xs)) (hv : Ev ta σ H (.ref l)) (h : EvP tv σ H S) (hz : xs.length < 100000) (k : ∀ v H1, Ex H H1 → S v H1 → tz D σ (upd H1 l (.lst (xs ++ [v])))) :
    tSeq (tDrop (tBM K "list" rAppend ta (tCons tv tNil))) tz D σ H := s_appP (D := { D with nx := tz D }) hl hv h hz k
/-- l[j] = value -/
theorem ix_ok {n j : Nat} (h : j < n) : ixN n (j : Int) = some j := by
  unfold ixN
  rw [if_pos (by omega)]
  simp [h]
theorem s_setP {S : V → Hp → Prop} {l : Addr} {xs : List V} {tv : TE} {j : Nat} (hl : H l = some (.lst xs)) (h : EvP tv σ H S) (hv : ∀ H1, Ex H H1 → Ev ta σ H1 (.ref l)) (hi : ∀ H1, Ex H H1 → Ev tb σ H1 (.int (j : Int))) (hj : j < xs.length) (mS : Mono S) (k : ∀ v H1, Ex H H1 → S v H1 → D.nx σ (upd H1 l (.lst (xs.set j v)))) :
    tAsg tv (gSub ta tb rSetL) D σ H :=
  h H (Ex.refl _) _ fun v H1 e1 r => hv H1 e1 H1 (Ex.refl _) _ fun H2 e2 => hi H2 (e1.trans e2) H2 (Ex.refl _) _ fun H3 e3 =>
    ⟨l, xs, (j : Int), j, rfl, rfl, ((e1.trans e2).trans e3) _ _ hl, ix_ok hj, k v H3 ((e1.trans e2).trans e3) (mS _ _ _ (e2.trans e3) r)⟩
theorem q_setP {S : V → Hp → Prop} {l : Addr} {xs : List V} {tv : TE} {j : Nat} (hl : H l = some (.lst xs)) (h : EvP tv σ H S) (hv : ∀ H1, Ex H H1 → Ev ta σ H1 (.ref l)) (hi : ∀ H1, Ex H H1 → Ev tb σ H1 (.int (j : Int))) (hj : j < xs.length) (mS : Mono S) (k : ∀ v H1, Ex H H1 → S v H1 → tz D σ (upd H1 l (.lst (xs.set j v)))) :
    tSeq (tAsg tv (gSub ta tb rSetL)) tz D σ H := s_setP (D := { D with nx := tz D }) hl h hv hi hj mS k
end
section
variable {K : PySem.W.Frag} {C : Addr} {te ta tb tc tl : TE} {σ : L2.St} {H : Hp} {E : XK} {D : Ends} {tz tbd : TS} {g : TG}
/-- all but what stands at p is as it was -/
def FrP (p : Addr) (H H1 : Hp) : Prop := ∀ b o, b ≠ p → H b = some o → H1 b = some o
theorem ex_frp {p : Addr} {H0 H H1 : Hp} (e : Ex H0 H) (hp : H0 p = none) (f : FrP p H H1) : Ex H0 H1 := fun b o h => f b o (ne_of_none h hp) (e b o h)
theorem frp_upd {p : Addr} {H H1 : Hp} {o : HO} (e : Ex H H1) : FrP p H (upd H1 p o) := fun b u n h => by rw [upd_ne n]; exact e b u h
theorem FrP.trans {p : Addr} {H H1 H2 : Hp} (a : FrP p H H1) (b : FrP p H1 H2) : FrP p H H2 := fun x o n h => b x o n (a x o n h)
theorem FrP.of {p : Addr} {H H1 : Hp} (e : Ex H H1) : FrP p H H1 := fun x o _ h => e x o h
theorem allR_setG {α : Type} {R : α → V → Hp → Prop} {xs : List α} {vs : List V} {H : Hp} {k : Nat} {x : α} {v : V} (h : AllR R xs vs H) (hv : R x v H) : AllR R (xs.set k x) (vs.set k v) H := by
  refine ⟨by rw [List.length_set, List.length_set]; exact h.1, fun i a b ha hb => ?_⟩
  rw [List.getElem?_set] at ha hb
  by_cases e : k = i
  · subst e
    rw [if_pos rfl] at ha hb
    split at ha
    · split at hb
      · cases ha
        cases hb
        exact hv
      · cases hb
    · cases ha
  · rw [if_neg e] at ha hb
    exact h.2 i a b ha hb
theorem allR_keep {R : List Rat → V → Hp → Prop} {p : Addr} {M : List (List Rat)} {vs ws : List V} {H H1 : Hp} (kR : ∀ B, Kept B R) (hp : H p = some (.lst ws)) (h : AllR R M vs H) (f : FrP p H H1) : AllR R M vs H1 :=
  h.kept (kR (fun x => x = p)) (fun b hb => ⟨ws, by rw [hb]; exact hp⟩) (fun a o n ha => f a o n ha)
/-- rows[l], rows[a] = rows[a], rows[l] -/
theorem q_swap {R : List (List Rat)} {vs : List V} {p : Addr} {ip il ia l a : Nat} (hp : H p = some (.lst vs)) (hA : AllR (RV C) R vs H) (h1 : σ[ip]? = some (some (.ref p))) (h2 : σ[il]? = some (some (.int (l : Int)))) (h3 : σ[ia]? = some (some (.int (a : Int)))) (hl : l < R.length) (ha : a < R.length)
    (k : ∀ us H1, FrP p H H1 → H1 p = some (.lst us) → AllR (RV C) (swapQ R l a) us H1 → tz D σ H1) :
    tSeq (tAsg (tTup (tCons (tOp (rIxL K) (tVar ip) (tVar ia)) (tCons (tOp (rIxL K) (tVar ip) (tVar il)) tNil))) (gTup K 2 (gCons (gSub (tVar ip) (tVar il) rSetL) (gCons (gSub (tVar ip) (tVar ia) rSetL) gNil)))) tz D σ H := by
  obtain ⟨v1, g1, r1⟩ := hA.get (getD_get (d := []) ha)
  obtain ⟨v2, g2, r2⟩ := hA.get (getD_get (d := []) hl)
  have hlv := hA.1
  refine ⟨_, h1, _, h3, p, vs, (a : Int), v1, rfl, rfl, SqL.of hp, atI_nat g1, ?_⟩
  refine ⟨_, h1, _, h2, p, vs, (l : Int), v2, rfl, rfl, SqL.of hp, atI_nat g2, ?_⟩
  refine ⟨by show 2 ≤ sizeLine; decide, fun T hT => ?_⟩
  have eT : Ex H (upd H T (.tup [v1, v2])) := Ex.new hT
  have hp2 := eT _ _ hp
  refine ⟨T, _, rfl, SqT.of upd_same, rfl, _, _, rfl, ?_⟩
  refine ⟨_, h1, _, h2, p, vs, (l : Int), l, rfl, rfl, hp2, ix_ok (by omega), ?_⟩
  refine ⟨_, _, rfl, ?_⟩
  refine ⟨_, h1, _, h3, p, _, (a : Int), a, rfl, rfl, upd_same, ix_ok (by rw [List.length_set]; omega), ?_⟩
  refine ⟨rfl, ?_⟩
  have f : FrP p H (upd (upd (upd H T (.tup [v1, v2])) p (.lst (vs.set l v1))) p (.lst ((vs.set l v1).set a v2))) := (frp_upd eT).trans (frp_upd (Ex.refl _))
  refine k ((vs.set l v1).set a v2) _ f upd_same ?_
  have A := allR_keep (kR := fun B => kept_tup kept_rq) hp hA f
  exact allR_setG (allR_setG A (kept_tup kept_rq (B := fun x => x = p) _ _ _ _ (fun b hb => ⟨vs, by rw [hb]; exact hp⟩) (fun a o n ha => f a o n ha) r1)) (kept_tup kept_rq (B := fun x => x = p) _ _ _ _ (fun b hb => ⟨vs, by rw [hb]; exact hp⟩) (fun a o n ha => f a o n ha) r2)
theorem ev_first {R : List (List Rat)} {s c w : Nat} (ha : EvP ta σ H (LstAt (RV C) R)) (hb : ∀ H1, Ex H H1 → Ev tb σ H1 (.int (s : Int))) (hc : ∀ H1, Ex H H1 → Ev tc σ H1 (.int (c : Int))) (hw : Wide w R) (h : c < w ∧ R.length ≤ 100 ∧ s ≤ 100) :
    Ev (tCall (spFirst C) [] E (tCons ta (tCons tb (tCons tc tNil)))) σ H (optI (firstQ R s c)) := fun H1 e Q k =>
  ha H1 e _ fun v H2 e2 r => hb H2 (e.trans e2) H2 (Ex.refl _) _ fun H3 e3 => hc H3 ((e.trans e2).trans e3) H3 (Ex.refl _) _ fun H4 e4 =>
    ⟨v, R, s, c, w, rfl, mono_lst mono_rv _ _ _ _ (e3.trans e4) r, hw, h, fun H5 e5 => k H5 (((e2.trans e3).trans e4).trans e5)⟩
def pivV (c : List Nat) : List V := c.map fun (k : Nat) => V.int (k : Int)
theorem piv_all {c : List Nat} {H : Hp} : AllR RI c (pivV c) H := ⟨by unfold pivV; rw [List.length_map], fun i x v h1 h2 => by
  unfold pivV at h2
  rw [List.getElem?_map, h1] at h2
  exact (Option.some.inj h2).symm⟩
theorem piv_of {c : List Nat} {vs : List V} {H : Hp} (h : AllR RI c vs H) : vs = pivV c := by
  refine List.ext_getElem? fun i => ?_
  unfold pivV
  rw [List.getElem?_map]
  cases e : vs[i]? with
  | none =>
    have : c.length ≤ i := by rw [← h.1]; exact List.getElem?_eq_none_iff.mp e
    rw [List.getElem?_eq_none this]
    rfl
  | some v =>
    obtain ⟨x, hx, r⟩ := h.getV e
    rw [hx]
    exact congrArg some r
theorem piv_lst {c : List Nat} {q : Addr} {H : Hp} (h : H q = some (.lst (pivV c))) : LstAt RI c (.ref q) H := ⟨q, _, rfl, h, piv_all⟩
theorem piv_len (c : List Nat) : (pivV c).length = c.length := by unfold pivV; rw [List.length_map]
theorem piv_snoc (c : List Nat) (j : Nat) : pivV c ++ [.int (j : Int)] = pivV (c ++ [j]) := by unfold pivV; rw [List.map_append]; rfl
theorem cut_to {vs : List V} {n : Nat} : cutV vs none (some (n : Int)) = vs.take n := by
  unfold cutV
  rw [HT.sIx_none, Nat.sub_zero, List.drop_zero]
  show vs.take (if (n : Int) < 0 then ((n : Int) + (vs.length : Int)).toNat else min (n : Int).toNat vs.length) = _
  rw [if_neg (by omega), Int.toNat_natCast]
  by_cases h : n ≤ vs.length
  · rw [Nat.min_eq_left h]
  · rw [Nat.min_eq_right (by omega), List.take_of_length_le (Nat.le_refl _), List.take_of_length_le (by omega)]
/-- xs[:n] -/
theorem evp_cutN {α : Type} {R : α → V → Hp → Prop} {xs : List α} {n : Nat} (m : MonoR R) (h : EvP te σ H (LstAt R xs)) (hh : ∀ H1, Ex H H1 → Ev tb σ H1 (.int (n : Int))) : EvP (tSl (rSlL K) te tNoPart (tPart tb)) σ H (LstAt R (xs.take n)) := fun H1 e Q k =>
  h H1 e _ fun v H2 e2 ⟨a, vs, ev, ha, hA⟩ => by
    subst ev
    refine hh H2 (e.trans e2) H2 (Ex.refl _) _ fun H3 e3 => ⟨(n : Int), rfl, a, vs, rfl, SqL.of (e3 _ _ ha), fun p hp => k _ _ ((e2.trans e3).trans (Ex.new hp)) ⟨p, _, rfl, upd_same, ?_⟩⟩
    have A := hA.mono m (e3.trans (Ex.new (o := .lst (cutV vs none (some (n : Int)))) hp))
    rw [cut_to] at A ⊢
    refine ⟨by rw [List.length_take, List.length_take, A.1], fun i y w h1 h2 => ?_⟩
    rw [List.getElem?_take] at h1 h2
    split at h1
    · rename_i hi
      rw [if_pos hi] at h2
      exact A.2 i y w h1 h2
    · cases h1
end
theorem et_notN {σ : L2.St} {H : Hp} {v : V} (h : σ[6]? = some (some v)) : Ev (tOp (fun x y H Q => y = .non ∧ Q (.bl (!decide (x = .non))) H) (tVar 6) (tC .non)) σ H (.bl (!decide (v = .non))) := ev_op (ev_var h) ev_c fun H1 _ Q q => ⟨rfl, q H1 (Ex.refl H1)⟩
section
variable {K : PySem.W.Frag} {C : Addr} {te ta tb tc tl : TE} {σ : L2.St} {H : Hp} {E : XK} {D : Ends} {tz tbd : TS} {g : TG}
/-- those of lo, lo + 1, .. (n of them) for which f holds -/
def selN (lo n : Nat) (f : Nat → Bool) : List Nat := ((List.range n).map fun k => lo + k).filter f
theorem selN_succ (lo n : Nat) (f : Nat → Bool) : selN lo (n + 1) f = if f (lo + n) = true then selN lo n f ++ [lo + n] else selN lo n f := by
  unfold selN
  rw [List.range_succ, List.map_append, List.filter_append]
  show _ ++ List.filter f [lo + n] = _
  by_cases h : f (lo + n) = true
  · rw [if_pos h, List.filter_cons_of_pos h]; rfl
  · rw [if_neg h, List.filter_cons_of_neg h]; simp
theorem selN_le (lo n : Nat) (f : Nat → Bool) : (selN lo n f).length ≤ n := by
  unfold selN
  refine Nat.le_trans (List.length_filter_le _ _) ?_
  rw [List.length_map, List.length_range]
  exact Nat.le_refl _
/-- [k for k in range(lo, hi) if ..] -/
theorem evp_lcF {lo hi j : Nat} {vs : List Nat} {f : Nat → Bool} {tt : TT} (ha : Ev ta σ H (.int (lo : Int))) (hb : Ev tb σ H (.int (hi : Int))) (hl : lo ≤ 10000) (hh : hi ≤ 10000) (hw : ∀ v, wipe ((wipe σ vs).set j (some v)) vs = wipe σ vs) (hj : ∀ v, ((wipe σ vs).set j (some v))[j]? = some (some v))
    (ht : ∀ (i : Nat) H1, Ex H H1 → lo ≤ i → i < hi → EvT tt ((wipe σ vs).set j (some (.int (i : Int)))) H1 (f i)) : EvP (tLc (iRng2 (tCons ta (tCons tb tNil))) (gName j) tt (tVar j) vs) σ H (NewIn (LstAt RI (selN lo (hi - lo) f)) H) := by
  intro H0 e0 Q k
  unfold tLc iRng2
  refine (ea_cons ha (ea_cons hb ea_nil)) H0 e0 _ fun H1 e1 => ⟨(lo : Int), (hi : Int), rfl, ⟨by omega, by omega, by omega, by omega⟩, fun D hD => ?_⟩
  have w := walk_range (lo := (lo : Int)) (n := ((hi : Int) - (lo : Int)).toNat)
  have en : ((hi : Int) - (lo : Int)).toNat = hi - lo := by omega
  rw [en] at w ⊢
  have hD0 : H D = none := fresh_back (e0.trans e1) hD
  refine lc_it w (fun i H' => Ex H1 H' ∧ H' D = some (.lst (pivV (selN lo i f)))) ⟨Ex.new hD, upd_same⟩ (fun _ _ _ _ => True.intro) ?_ ?_
  · rintro i v H' H'' hi' ⟨p1, p2⟩ ⟨y1, y2⟩
    subst y1
    dsimp only at y2
    subst y2
    have e4 : ((lo : Int) + (i : Int)) = ((lo + i : Nat) : Int) := by omega
    rw [e4]
    refine ⟨hw _, ?_⟩
    refine ht (lo + i) H'' ((e0.trans e1).trans p1) (by omega) (by omega) H'' (Ex.refl _) _ fun H4 e4 => ?_
    rw [selN_succ]
    have hle := selN_le lo i f
    cases hf : f (lo + i) with
    | true =>
      refine ifT rfl ⟨_, hj _, _, e4 _ _ p2, sz_lt (by rw [piv_len]; omega), Ex.mut (p1.trans e4) hD, ?_⟩
      rw [upd_same, if_pos rfl, piv_snoc]
    | false =>
      refine ifF rfl ⟨p1.trans e4, ?_⟩
      rw [if_neg Bool.false_ne_true]
      exact e4 _ _ p2
  · rintro H' ⟨p1, p2⟩
    exact k _ _ (e1.trans p1) ⟨piv_lst p2, D, rfl, hD0, _, p2⟩
theorem sel_none {R : List (List Rat)} {s c : Nat} (h : selN s (R.length - s) (fun k => !decide (at2 R k c = 0)) = []) : firstQ R s c = none := by
  refine firstQ_no fun k k1 k2 => ?_
  unfold selN at h
  rw [List.filter_eq_nil_iff] at h
  have z := h k (List.mem_map.mpr ⟨k - s, List.mem_range.mpr (by omega), by omega⟩)
  simpa using z
theorem sel_some {R : List (List Rat)} {s c a : Nat} {t : List Nat} (h : selN s (R.length - s) (fun k => !decide (at2 R k c = 0)) = a :: t) : firstQ R s c = some a := by
  unfold selN at h
  have hd : (((List.range (R.length - s)).map fun k => s + k).filter fun k => !decide (at2 R k c = 0)).head? = some a := by rw [h]; rfl
  rw [List.head?_filter] at hd
  obtain ⟨h1, as, bs, h2, h3⟩ := List.find?_eq_some_iff_append.mp hd
  have ga : ((List.range (R.length - s)).map fun k => s + k)[as.length]? = some a := by rw [h2]; simp
  obtain ⟨i, gi, ea⟩ := map_get ga
  obtain ⟨ei, hi⟩ := range_get gi
  subst ei
  refine firstQ_is (by omega) (by omega) (by simpa using h1) fun k k1 k2 => ?_
  have hk : k ∈ as := by
    have g : ((List.range (R.length - s)).map fun k => s + k)[k - s]? = some k := by
      rw [List.getElem?_map, List.getElem?_range (by omega)]
      show some (s + (k - s)) = some k
      congr 1
      omega
    rw [h2, List.getElem?_append_left (by omega)] at g
    exact List.mem_of_getElem? g
  have z := h3 k hk
  simpa using z
/-! the law's own step -/
def lRow (R : List (List Rat)) (l j w i : Nat) : List Rat := if i = l then R.getD l [] else (List.range w).map fun c => at2 R i c - at2 R i j * at2 R l c
theorem rows_lst {B : Addr → Prop} {R : List (List Rat)} {vs : List V} {H : Hp} (h : AllR (RowAt B (RQ C)) R vs H) : AllR (RL C) R vs H := ⟨h.1, fun i x v h1 h2 => (h.2 i x v h1 h2).lst⟩
theorem evp_at2LL {R : List (List Rat)} {w i j : Nat} (h : Wide w R) (hi : i < R.length) (hj : j < w) (ha : EvP ta σ H (LstAt (RL C) R)) (hb : Ev tb σ H (.int (i : Int))) (hc : Ev tc σ H (.int (j : Int))) : EvP (tOp (rIxL K) (tOp (rIxL K) ta tb) tc) σ H (fun v H => RatAt C H v (at2 R i j)) :=
  evp_ixL mono_rq (evp_ixL mono_rl ha hb (wide_ix h hi hj).1) hc (wide_ix h hi hj).2
def lR1 (R : List (List Rat)) (l a j : Nat) : List (List Rat) := (R.set a (R.getD l [])).set l ((R.getD a []).map fun q => q / at2 R a j)
theorem lR1_len {R : List (List Rat)} {l a j : Nat} : (lR1 R l a j).length = R.length := by unfold lR1; rw [List.length_set, List.length_set]
theorem lR1_get {R : List (List Rat)} {l a j i : Nat} (h1 : l < R.length) (h2 : a < R.length) : (lR1 R l a j).getD i [] = if i = l then (R.getD a []).map (fun q => q / at2 R a j) else R.getD (sw l a i) [] := by
  unfold lR1
  rw [List.getD_eq_getElem?_getD, List.getElem?_set, List.length_set]
  by_cases e : l = i
  · subst e
    rw [if_pos rfl, if_pos h1, if_pos rfl]
    rfl
  · have e' : ¬ i = l := fun z => e z.symm
    rw [if_neg e, if_neg e', List.getElem?_set]
    unfold sw
    by_cases e2 : a = i
    · subst e2
      rw [if_pos rfl, if_pos h2, if_neg e', if_pos rfl]
      rfl
    · have e2' : ¬ i = a := fun z => e2 z.symm
      rw [if_neg e2, if_neg e', if_neg e2']
      rfl
theorem lR1_at {R : List (List Rat)} {l a j w i k : Nat} (h : Wide w R) (h1 : l < R.length) (h2 : a < R.length) (hk : k < w) : at2 (lR1 R l a j) i k = if i = l then at2 R a k / at2 R a j else at2 R (sw l a i) k := by
  show ((lR1 R l a j).getD i []).getD k 0 = _
  rw [lR1_get h1 h2]
  split
  · rw [getD_map' (e := 0) (by rw [wide_get h h2]; exact hk)]
    rfl
  · rfl
theorem lR1_wide {R : List (List Rat)} {l a j w : Nat} (h : Wide w R) (h1 : l < R.length) (h2 : a < R.length) : Wide w (lR1 R l a j) := wide_of fun i hi => by
  rw [lR1_len] at hi
  rw [lR1_get h1 h2]
  split
  · rw [List.length_map]; exact wide_get h h2
  · exact wide_get h (sw_in h1 h2 hi)
/-- what the law's step makes is what the other one makes -/
theorem lstep_eq {R Z : List (List Rat)} {l a j w : Nat} (h : Wide w R) (h1 : l < R.length) (h2 : a < R.length) (hz : Z.length = R.length) (hx : ∀ i, i < R.length → Z.getD i [] = lRow (lR1 R l a j) l j w i) : Z = stepAt R l a j := by
  have hR1 : ∀ i, i < R.length → (lR1 R l a j).getD i [] = if i = l then (R.getD a []).map (fun q => q / at2 R a j) else R.getD (sw l a i) [] := fun i hi => lR1_get h1 h2
  have hA1 : ∀ i k, i < R.length → k < w → at2 (lR1 R l a j) i k = if i = l then at2 R a k / at2 R a j else at2 R (sw l a i) k := fun i k hi hk => lR1_at h h1 h2 hk
  have zg : ∀ i k, i < R.length → k < w → at2 Z i k = stepF (at2 R) l a j i k := fun i k hi hk => by
    show (Z.getD i []).getD k 0 = _
    rw [hx i hi]
    unfold lRow
    by_cases e : i = l
    · subst e
      rw [if_pos rfl, step_l]
      have z := hA1 i k hi hk
      rw [if_pos rfl] at z
      exact z
    · rw [if_neg e, getD_map_range hk, step_o e]
      have q1 := hA1 i k hi hk
      rw [if_neg e] at q1
      have q3 := hA1 l k h1 hk
      rw [if_pos rfl] at q3
      rw [q1, q3]
      by_cases hj : j < w
      · have q2 := hA1 i j hi hj
        rw [if_neg e] at q2
        rw [q2]
      · have q5 : at2 R a j = 0 := at2_wide h (Nat.not_lt.mp hj)
        rw [q5]
        have q6 : ∀ x : Rat, x / 0 = 0 := fun x => by rw [Rat.div_def, Rat.inv_zero, Rat.mul_zero]
        rw [q6]
        grind
  refine mat_ext (w := w) (by rw [stepAt_len, hz]) (wide_of fun i hi => ?_) (stepAt_wide h h1 h2) fun i k hi hk => ?_
  · rw [hz] at hi
    rw [hx i hi]
    unfold lRow
    split
    · rw [hR1 l h1, if_pos rfl, List.length_map]
      exact wide_get h h2
    · rw [List.length_map, List.length_range]
  · rw [hz] at hi
    rw [zg i k hi hk, stepAt_at h h1 h2]
end
/-! ### drawn matrices, with what divides -/
def dd : Nat := 27720
theorem den_divInt_dvd (t : Int) {b : Int} (hb : b ≠ 0) : (Rat.divInt t b).den ∣ b.natAbs := by
  rw [Rat.den_divInt, if_neg hb]
  refine ⟨b.gcd t, ?_⟩
  exact (Nat.div_mul_cancel (Int.gcd_dvd_natAbs_left b t)).symm
theorem den_mul_dvd (p q : Rat) : (p * q).den ∣ p.den * q.den := by
  have h := den_divInt_dvd (p.num * q.num) (b := (p.den : Int) * (q.den : Int)) (Int.mul_ne_zero (den_ne p) (den_ne q))
  rw [divInt_mul, Int.natAbs_mul, Int.natAbs_natCast, Int.natAbs_natCast] at h
  exact h
theorem den_add_dvd (p q : Rat) : (p + q).den ∣ p.den * q.den := by
  have h := den_divInt_dvd (p.num * q.den + q.num * p.den) (b := (p.den : Int) * (q.den : Int)) (Int.mul_ne_zero (den_ne p) (den_ne q))
  rw [divInt_add, Int.natAbs_mul, Int.natAbs_natCast, Int.natAbs_natCast] at h
  exact h
theorem dd_small {e : Int} (h0 : 0 ≤ e) (h1 : e < 12) : (1 + e).natAbs ∣ dd := by
  have h : e = 0 ∨ e = 1 ∨ e = 2 ∨ e = 3 ∨ e = 4 ∨ e = 5 ∨ e = 6 ∨ e = 7 ∨ e = 8 ∨ e = 9 ∨ e = 10 ∨ e = 11 := by omega
  rcases h with h | h | h | h | h | h | h | h | h | h | h | h <;> subst h <;> decide
def EB (i : Nat) (q : Rat) : Prop := SmB (bnd i) q ∧ q.den ∣ dd ^ (i + 1)
def RowsE (M : List (List Rat)) : Prop := ∀ (i : Nat) r, M[i]? = some r → ∀ q ∈ r, EB i q
theorem rowsE_snoc {M : List (List Rat)} {r : List Rat} (h : RowsE M) (hr : ∀ q ∈ r, EB M.length q) : RowsE (M ++ [r]) := fun i x hx => by
  by_cases hi : i < M.length
  · rw [List.getElem?_append_left hi] at hx
    exact h i x hx
  · have hl := (List.getElem?_eq_some_iff.mp hx).1
    rw [List.length_append, List.length_singleton] at hl
    have e : i = M.length := by omega
    subst e
    rw [List.getElem?_append_right (Nat.le_refl _), Nat.sub_self] at hx
    cases hx
    exact hr
theorem dd_two {a b c : Rat} {k : Nat} (hk : 1 < k) (ha : a.den ∣ dd ^ 1) (hb : b.den = 1) (hc : c.den ∣ dd ^ 2) : (a + b * c).den ∣ dd ^ (k + 1) := by
  have h1 := den_mul_dvd b c
  rw [hb, Nat.one_mul] at h1
  have h2 := Nat.dvd_trans (den_add_dvd a (b * c)) (Nat.mul_dvd_mul ha (Nat.dvd_trans h1 hc))
  rw [← Nat.pow_add] at h2
  exact Nat.dvd_trans h2 (Nat.pow_dvd_pow dd (by omega))
theorem dd_mul {a b : Rat} {j : Nat} (ha : a.den ∣ dd) (hb : b.den ∣ dd ^ (j + 1)) : (a * b).den ∣ dd ^ (j + 1 + 1) := by
  have h := Nat.dvd_trans (den_mul_dvd a b) (Nat.mul_dvd_mul ha hb)
  rw [Nat.pow_succ dd (j + 1), Nat.mul_comm]
  exact h
theorem dd_le {a : Rat} (i : Nat) (ha : a.den ∣ dd) : a.den ∣ dd ^ (i + 1) := by
  have h := Nat.pow_dvd_pow dd (m := 1) (n := i + 1) (by omega)
  rw [Nat.pow_one] at h
  exact Nat.dvd_trans ha h
def spRatio4 (C : Addr) : Sp := fun vs H Q _ => ∃ (st : Addr × Addr) (c : Nat), vs = [.ref st.1] ∧ St3 st c H ∧ c + 6 < cMax ∧ ∀ q v H', SmB 20 q → q.den ∣ dd → RatAt C H' v q → St3 st (c + 6) H' → FrS st H H' → Q v H'
def spMat4 (C : Addr) : Sp := fun vs H Q _ => ∃ (st : Addr × Addr) (c h w : Nat), vs = [.ref st.1, .int (h : Int), .int (w : Int)] ∧ St3 st c H ∧ h ≤ 100 ∧ w ≤ 100 ∧ c + (6 * w + 12) * h + 5 < cMax ∧
  ∀ M v H', M.length = h → Wide w M → RowsE M → MatAt C M v H' → St3 st (c + (6 * w + 12) * h) H' → FrS st H H' → Q v H'
/-- the sizes of a drawn matrix of at most five rows -/
theorem int_of {q : Rat} {b d n : Nat} (h1 : q.num.natAbs < 2 ^ n) (h2 : q.den ∣ d) (hd : d ≤ 2 ^ b) (h0 : 0 < d) : IntB (n + b) ((d : Rat) * q) := by
  obtain ⟨k, hk⟩ := h2
  refine ⟨(k : Int) * q.num, ?_, ?_⟩
  · have e : ((q.den : Nat) : Rat) * q = (q.num : Rat) := by
      have h := Rat.num_divInt_den q
      rw [Rat.divInt_eq_div] at h
      have dz : ((q.den : Nat) : Rat) ≠ 0 := by exact_mod_cast q.den_nz
      have h2 : ((q.den : Nat) : Rat) * ((q.num : Rat) / (((q.den : Nat) : Int) : Rat)) = (q.num : Rat) := by
        have e3 : (((q.den : Nat) : Int) : Rat) = ((q.den : Nat) : Rat) := rfl
        rw [e3, Rat.div_def, Rat.mul_comm (q.num : Rat), ← Rat.mul_assoc, Rat.mul_inv_cancel _ dz, Rat.one_mul]
      rw [h] at h2
      exact h2
    rw [Rat.intCast_mul, hk]
    have e2 : (((q.den * k : Nat)) : Rat) = ((q.den : Nat) : Rat) * ((k : Nat) : Rat) := by exact_mod_cast (Rat.natCast_mul q.den k)
    rw [e2]
    have e3 : (((k : Nat) : Int) : Rat) = ((k : Nat) : Rat) := rfl
    rw [e3, ← e]
    grind
  · rw [Int.natAbs_mul, Int.natAbs_natCast, Nat.pow_add, Nat.mul_comm]
    have kd : k ≤ d := by
      rw [hk]
      exact Nat.le_mul_of_pos_left _ (Nat.pos_of_ne_zero q.den_nz)
    exact Nat.mul_le_mul (Nat.le_of_lt h1) (Nat.le_trans kd hd)
/-! ### tuples of pivots compared -/
def pivD (c : List Nat) : List PyData := c.map fun (k : Nat) => PyData.int (k : Int)
theorem pivD_eqv : ∀ (a b : List Nat), PyData.eqvAll (pivD a) (pivD b) = decide (a = b)
  | [], [] => by rw [decide_eq_true rfl]; rfl
  | [], _ :: _ => by rw [decide_eq_false (fun h => nomatch h)]; rfl
  | _ :: _, [] => by rw [decide_eq_false (fun h => nomatch h)]; rfl
  | x :: a, y :: b => by
    show (PyData.eqv (.int (x : Int)) (.int (y : Int)) && PyData.eqvAll (pivD a) (pivD b)) = _
    rw [pivD_eqv a b]
    show (((x : Int) == (y : Int)) && _) = _
    by_cases h1 : x = y
    · subst h1
      by_cases h2 : a = b
      · subst h2; simp
      · simp [h2]
    · have : ((x : Int) == (y : Int)) = false := by simp; omega
      rw [this, decide_eq_false (fun h => h1 (List.cons.inj h).1)]
      rfl
theorem pivD_lay : ∀ (c : List Nat), PyData.canLayAll0 (pivD c) = true
  | [] => rfl
  | _ :: c => by
    show (true && PyData.canLayAll0 (pivD c)) = true
    rw [pivD_lay c]
    rfl
theorem pivD_depth : ∀ (c : List Nat), PyData.depthAll (pivD c) ≤ 1
  | [] => Nat.zero_le _
  | x :: c => by
    show max (PyData.depth (.int (x : Int))) (PyData.depthAll (pivD c)) ≤ 1
    have h : PyData.depth (.int (x : Int)) ≤ 1 := by simp only [PyData.depth]; omega
    exact Nat.max_le.mpr ⟨h, pivD_depth c⟩
theorem pivD_shaped (c : List Nat) : SeqAt.shaped (.tuple (pivD c)) = true := by
  unfold SeqAt.shaped
  have h := pivD_depth c
  have h2 : (PyData.tuple (pivD c)).depth ≤ 64 := by
    simp only [PyData.depth]
    omega
  have h3 : (PyData.tuple (pivD c)).canLay0 = true := pivD_lay c
  rw [h3, decide_eq_true h2]
  rfl
theorem piv_dpAll {K : PySem.W.Frag} {H : Hp} : ∀ (c : List Nat), DpAll K H (pivV c) (pivD c)
  | [] => .nil
  | x :: c => .cons (.int _) (piv_dpAll c)
theorem piv_dp {K : PySem.W.Frag} {H : Hp} {c : List Nat} {v : V} (h : TupAt RI c v H) : Dp K H v (.tuple (pivD c)) := by
  obtain ⟨a, vs, rfl, h1, h2⟩ := h
  rw [piv_of h2] at h1
  exact .tup (SqT.of h1) (piv_dpAll c)
section
variable {K : PySem.W.Frag} {C : Addr} {te ta tb tc tl : TE} {σ : L2.St} {H : Hp} {E : XK}
theorem ev_pivNe {a b : List Nat} (ha : EvP ta σ H (TupAt RI a)) (hb : EvP tb σ H (TupAt RI b)) : Ev (tOp (rNeD K) ta tb) σ H (.bl (!decide (a = b))) := fun H1 e Q k =>
  ha H1 e _ fun v H2 e2 r => hb H2 (e.trans e2) _ fun w H3 e3 r2 => ⟨_, _, piv_dp (mono_tup mono_ri _ _ _ _ e3 r), piv_dp r2, pivD_shaped a, pivD_shaped b, by
    show Q (.bl (!PyData.eqvAll (pivD a) (pivD b))) H3
    rw [pivD_eqv]
    exact k H3 (e2.trans e3)⟩
/-- xs + ys, tuples -/
theorem evp_catT {α : Type} {R : α → V → Hp → Prop} {xs ys : List α} (m : MonoR R) (ha : EvP ta σ H (TupAt R xs)) (hb : EvP tb σ H (TupAt R ys)) (hz : xs.length + ys.length ≤ 10000) : EvP (tOp (rCatA K) ta tb) σ H (TupAt R (xs ++ ys)) := fun H1 e Q k =>
  ha H1 e _ fun v H2 e2 ⟨a, vs, ev, h1, A1⟩ => hb H2 (e.trans e2) _ fun w H3 e3 ⟨b, ws, ew, h2, A2⟩ => by
    subst ev ew
    have A1 := A1.mono m e3
    have l1 := A1.1
    have l2 := A2.1
    have app : ∀ H4, Ex H3 H4 → AllR R (xs ++ ys) (vs ++ ws) H4 := fun H4 e4 => ⟨by rw [List.length_append, List.length_append, l1, l2], fun i x v hx hv => by
      by_cases hi : i < xs.length
      · rw [List.getElem?_append_left hi] at hx
        rw [List.getElem?_append_left (by omega)] at hv
        exact (A1.mono m e4).2 i x v hx hv
      · rw [List.getElem?_append_right (by omega)] at hx
        rw [List.getElem?_append_right (by omega), l1] at hv
        exact (A2.mono m e4).2 _ x v hx hv⟩
    refine ⟨a, b, vs, ws, rfl, rfl, SqT.of (e3 _ _ h1), SqT.of h2, sz_of (by omega), fun h => ?_, fun h h' => ?_, fun h h' p hp => ?_⟩
    · subst h
      exact k _ _ (e2.trans e3) ⟨b, ws, rfl, h2, app H3 (Ex.refl _)⟩
    · subst h'
      have z := app H3 (Ex.refl _)
      rw [List.append_nil] at z
      exact k _ _ (e2.trans e3) ⟨a, vs, rfl, e3 _ _ h1, z⟩
    · exact k _ _ ((e2.trans e3).trans (Ex.new hp)) ⟨p, _, rfl, upd_same, app _ (Ex.new hp)⟩
end
/-! ### sizes -/
theorem gokm_of {M : List (List Rat)} {w b ρ s n m : Nat} (hw : Wide w M) (hl : M.length ≤ 100) (hw2 : w ≤ 100) (h5 : M.length ≤ m ∨ w ≤ m) (m7 : m ≤ 31) (hM : ∀ i k, IntB b ((ρ : Rat) * at2 M i k)) (h0 : 0 < ρ) (hs : ρ < 2 ^ s) (hn : (b + 5) * (m + 1) + s + 1 ≤ n) (h3 : 3 * n ≤ 899990) : GOk n w M := by
  have g := fun t => gs_all h0 hw hM t
  have hm : ∀ t, t ≤ w → (gaussQ M t).2.length ≤ m := fun t ht => by
    have h1 := (g t).ch
    have h2 := (g t).ct
    omega
  exact ⟨by have : 5 * (m + 1) ≤ (b + 5) * (m + 1) := Nat.mul_le_mul_right _ (by omega)
            omega, h3, hl, hw2, fun t ht i k => (((g t).sm h0 hs (hm t ht) m7).1 i k).mono (by omega), fun t _ => (g t).len, fun t _ => (g t).wide, fun t _ => (g t).ch, fun t _ => (g t).lt⟩
theorem gok_of {M : List (List Rat)} {w b ρ s n : Nat} (hw : Wide w M) (hl : M.length ≤ 100) (hw2 : w ≤ 100) (h5 : M.length ≤ 5 ∨ w ≤ 5) (hM : ∀ i k, IntB b ((ρ : Rat) * at2 M i k)) (h0 : 0 < ρ) (hs : ρ < 2 ^ s) (hn : (b + 5) * 6 + s + 1 ≤ n) (h3 : 3 * n ≤ 899990) : GOk n w M :=
  gokm_of hw hl hw2 h5 (by decide) hM h0 hs hn h3
def rho5 : Nat := dd ^ 5
theorem rho5_pos : 0 < rho5 := by unfold rho5 dd; decide
theorem rho5_lt : rho5 < 2 ^ 75 := by unfold rho5 dd; decide
theorem intB_z (n : Nat) : IntB n 0 := ⟨0, rfl, by simp⟩
theorem rowsE_int {M : List (List Rat)} (h : RowsE M) (hl : M.length ≤ 5) : ∀ i k, IntB 178 ((rho5 : Rat) * at2 M i k) := fun i k => by
  by_cases hi : i < M.length
  · by_cases hk : k < (M.getD i []).length
    · have z := h i _ (getD_get (d := []) hi) _ (List.mem_of_getElem? (getD_get (d := 0) hk))
      have zs : (at2 M i k).num.natAbs < 2 ^ 103 := Nat.lt_of_lt_of_le z.1.1 (Nat.pow_le_pow_right (by decide) (by have := bnd_le i; omega))
      exact int_of (b := 75) (n := 103) zs (Nat.dvd_trans z.2 (Nat.pow_dvd_pow dd (by omega))) (Nat.le_of_lt rho5_lt) rho5_pos
    · have e : at2 M i k = 0 := by
        unfold at2
        rw [List.getD_eq_getElem?_getD (l := M.getD i []), List.getElem?_eq_none (Nat.not_lt.mp hk)]
        rfl
      rw [e, Rat.mul_zero]
      exact intB_z _
  · rw [at2_ge (Nat.not_lt.mp hi), Rat.mul_zero]
    exact intB_z _
/-- zeros ahead -/
def gapQ (g : Nat) (M : List (List Rat)) : List (List Rat) := M.map fun row => ((List.range g).map fun _ => (0 : Rat)) ++ row
theorem gap_at {M : List (List Rat)} {g i k : Nat} : at2 (gapQ g M) i k = if k < g then 0 else at2 M i (k - g) := by
  by_cases hi : i < M.length
  · show ((gapQ g M).getD i []).getD k 0 = _
    unfold gapQ
    rw [getD_map' (e := []) hi, List.getD_eq_getElem?_getD]
    by_cases hk : k < g
    · rw [if_pos hk, List.getElem?_append_left (by rw [List.length_map, List.length_range]; exact hk), List.getElem?_map, List.getElem?_range hk]
      rfl
    · rw [if_neg hk, List.getElem?_append_right (by rw [List.length_map, List.length_range]; omega), List.length_map, List.length_range]
      rfl
  · rw [at2_ge (by unfold gapQ; rw [List.length_map]; exact Nat.not_lt.mp hi)]
    split
    · rfl
    · rw [at2_ge (Nat.not_lt.mp hi)]
theorem gap_wide {M : List (List Rat)} {g w : Nat} (h : Wide w M) : Wide (w + g) (gapQ g M) := fun r hr => by
  unfold gapQ at hr
  obtain ⟨x, hx, rfl⟩ := List.mem_map.mp hr
  rw [List.length_append, List.length_map, List.length_range, h x hx]
  omega
theorem gap_len {M : List (List Rat)} {g : Nat} : (gapQ g M).length = M.length := by unfold gapQ; rw [List.length_map]
theorem gap_gok {M : List (List Rat)} {g w : Nat} (h : RowsE M) (hw : Wide w M) (hl : M.length ≤ 5) (hg : w + g ≤ 100) : GOk 1200 (w + g) (gapQ g M) :=
  gok_of (b := 178) (s := 75) (ρ := rho5) (gap_wide hw) (by rw [gap_len]; omega) hg (.inl (by rw [gap_len]; exact hl)) (fun i k => by
    rw [gap_at]
    split
    · rw [Rat.mul_zero]; exact intB_z _
    · exact rowsE_int h hl _ _) rho5_pos rho5_lt (by decide) (by decide)
theorem gok_mat {M : List (List Rat)} {w : Nat} (h : RowsE M) (hw : Wide w M) (hl : M.length ≤ 5) (hg : w ≤ 100) : GOk 1200 w M :=
  gok_of (b := 178) (s := 75) (ρ := rho5) hw (by omega) hg (.inl hl) (rowsE_int h hl) rho5_pos rho5_lt (by decide) (by decide)
section
variable {K : PySem.W.Frag} {C : Addr} {te ta tb tc tl : TE} {σ : L2.St} {H : Hp} {E : XK}
theorem evp_tix {S : V → Hp → Prop} {T : Addr} {vs : List V} {i j : Nat} {v : V} (mS : Mono S) (hT : H T = some (.tup vs)) (hv : vs[j]? = some v) (hS : S v H) (hσ : σ[i]? = some (some (.ref T))) : EvP (tOp (rIxT K) (tVar i) (tC (.int (j : Int)))) σ H S := fun H1 e Q k =>
  ⟨_, hσ, T, vs, (j : Int), v, rfl, rfl, SqT.of (e _ _ hT), atI_nat hv, k v H1 (Ex.refl _) (mS _ _ _ e hS)⟩
theorem evp_lix {S : V → Hp → Prop} {T : Addr} {vs : List V} {i j : Nat} {v : V} (mS : Mono S) (hT : H T = some (.lst vs)) (hv : vs[j]? = some v) (hS : S v H) (hσ : σ[i]? = some (some (.ref T))) : EvP (tOp (rIxL K) (tVar i) (tC (.int (j : Int)))) σ H S := fun H1 e Q k =>
  ⟨_, hσ, T, vs, (j : Int), v, rfl, rfl, SqL.of (e _ _ hT), atI_nat hv, k v H1 (Ex.refl _) (mS _ _ _ e hS)⟩
/-- isinstance(.., tuple) of what is one -/
theorem ev_isT {α : Type} {R : α → V → Hp → Prop} {xs : List α} (h : EvP te σ H (TupAt R xs)) : Ev (tCB (rIsi K) (tCons te (tCons (tC (.ty "tuple")) tNil))) σ H (.bl true) := fun H1 e Q k =>
  h H1 e _ fun v H2 e2 ⟨a, vs, ev, ha, _⟩ => by
    subst ev
    exact ⟨_, _, _, _, true, rfl, .ty _, .base (.tup ha), kit_ty (by decide +kernel), k H2 e2⟩
end
end Pn

namespace Pn
open PySem L2 Evl
section
variable {K : PySem.W.Frag} {C : Addr} {te ta tb tc tl : TE} {σ : L2.St} {H : Hp} {E : XK} {D : Ends} {tz tbd : TS} {g : TG}
theorem inV_piv {k : Nat} : ∀ {c : List Nat}, inV (.int (k : Int)) (pivV c) = decide (k ∈ c)
  | [] => by rw [decide_eq_false (List.not_mem_nil)]; rfl
  | x :: c => by
    have h := inV_piv (k := k) (c := c)
    show ((x : Int) == (k : Int) || inV (.int (k : Int)) (pivV c)) = _
    rw [h]
    by_cases e : x = k
    · subst e
      rw [decide_eq_true (List.mem_cons_self)]
      simp
    · have e1 : ((x : Int) == (k : Int)) = false := by simp; omega
      rw [e1, Bool.false_or]
      exact decide_eq_decide.mpr ⟨fun h => List.mem_cons_of_mem _ h, fun h => (List.mem_cons.mp h).elim (fun z => absurd z.symm e) id⟩
theorem piv_flat (c : List Nat) : (pivV c).all flatV = true := by
  unfold pivV
  rw [List.all_map, List.all_eq_true]
  intro x _
  rfl
theorem ev_notIn {k : Nat} {c : List Nat} (ha : Ev ta σ H (.int (k : Int))) (hb : EvP tb σ H (TupAt RI c)) : Ev (tOp (rIn K true) ta tb) σ H (.bl (!decide (k ∈ c))) := fun H1 e Q q =>
  ha H1 e _ fun H2 e2 => hb H2 (e.trans e2) _ fun v H3 e3 ⟨a, vs, ev, h, A⟩ => by
    subst ev
    rw [piv_of A] at h
    refine ⟨a, _, rfl, .inr (SqT.of h), rfl, piv_flat c, ?_⟩
    rw [if_pos rfl, inV_piv]
    exact q H3 (e2.trans e3)
theorem ev_in {k : Nat} {c : List Nat} (ha : Ev ta σ H (.int (k : Int))) (hb : EvP tb σ H (TupAt RI c)) : Ev (tOp (rIn K false) ta tb) σ H (.bl (decide (k ∈ c))) := fun H1 e Q q =>
  ha H1 e _ fun H2 e2 => hb H2 (e.trans e2) _ fun v H3 e3 ⟨a, vs, ev, h, A⟩ => by
    subst ev
    rw [piv_of A] at h
    refine ⟨a, _, rfl, .inr (SqT.of h), rfl, piv_flat c, ?_⟩
    rw [if_neg Bool.false_ne_true, inV_piv]
    exact q H3 (e2.trans e3)
/-- [.. for k in range(n) if ..] -/
theorem evp_lcG {α : Type} {S : α → V → Hp → Prop} {n j : Nat} {vs : List Nat} {f : Nat → Bool} {gg : Nat → α} {tt : TT} (mS : MonoR S) (sS : ∀ y, Stab (S y)) (ha : Ev ta σ H (.int (n : Int))) (hn : n ≤ 10000) (hw : ∀ v, wipe ((wipe σ vs).set j (some v)) vs = wipe σ vs)
    (ht : ∀ (i : Nat) H1, Ex H H1 → i < n → EvT tt ((wipe σ vs).set j (some (.int (i : Int)))) H1 (f i))
    (he : ∀ (i : Nat) H1, Ex H H1 → i < n → f i = true → EvP te ((wipe σ vs).set j (some (.int (i : Int)))) H1 (S (gg i))) : EvP (tLc (iRng1 (tCons ta tNil)) (gName j) tt te vs) σ H (NewIn (LstAt S ((selN 0 n f).map gg)) H) := by
  intro H0 e0 Q k
  unfold tLc iRng1
  refine (ea_cons ha ea_nil) H0 e0 _ fun H1 e1 => ⟨(n : Int), rfl, by omega, by omega, fun D hD => ?_⟩
  have w := walk_range (lo := 0) (n := n)
  rw [Int.toNat_natCast]
  have hD0 : H D = none := fresh_back (e0.trans e1) hD
  refine lc_it w (fun i H' => Ex H1 H' ∧ ∃ ys, H' D = some (.lst ys) ∧ AllR S ((selN 0 i f).map gg) ys H') ⟨Ex.new hD, [], upd_same, ⟨rfl, fun i x v z => by simp [selN] at z⟩⟩ (fun _ _ _ _ => True.intro) ?_ ?_
  · rintro i v H' H'' hi' ⟨p1, ys, p2, p3⟩ ⟨y1, y2⟩
    subst y1
    dsimp only at y2
    rw [Int.zero_add] at y2
    subst y2
    refine ⟨hw _, ?_⟩
    refine ht i H'' ((e0.trans e1).trans p1) hi' H'' (Ex.refl _) _ fun H4 e4 => ?_
    have hs := selN_succ 0 i f
    rw [Nat.zero_add] at hs
    rw [hs]
    have hle := selN_le 0 i f
    cases hf : f i with
    | true =>
      refine ifT rfl ?_
      refine he i H4 (((e0.trans e1).trans p1).trans e4) hi' hf H4 (Ex.refl _) _ fun y H5 e5 ry => ?_
      have e45 := e4.trans e5
      refine ⟨_, e45 _ _ p2, sz_lt (by rw [p3.1, List.length_map]; omega), Ex.mut (p1.trans e45) hD, _, upd_same, ?_⟩
      rw [if_pos rfl, List.map_append]
      have st : ∀ z v, S z v H5 → S z v (upd H5 D (.lst (ys ++ [y]))) := fun z v h => sS z v H5 _ D ys (fun a o ne ha => (upd_ne ne).trans ha) (e45 _ _ p2) h
      exact allR_snoc ⟨p3.1, fun a x v h1 h2 => st _ _ (mS _ _ _ _ e45 (p3.2 a x v h1 h2))⟩ (st _ _ ry)
    | false =>
      refine ifF rfl ⟨p1.trans e4, ys, e4 _ _ p2, ?_⟩
      rw [if_neg Bool.false_ne_true]
      exact p3.mono mS e4
  · rintro H' ⟨p1, ys, p2, p3⟩
    exact k _ _ (e1.trans p1) ⟨⟨D, ys, rfl, p2, p3⟩, D, rfl, hD0, _, p2⟩
/-- over zip of two tuples that stay -/
theorem s_forZ {α β : Type} {R : α → V → Hp → Prop} {R2 : β → V → Hp → Prop} {xs : List α} {ys : List β} {a b : Addr} {vs ws : List V} {i1 i2 : Nat} (m1 : MonoR R) (m2 : MonoR R2) (hl : xs.length = ys.length) (ha : Ev ta σ H (.ref a)) (hb : Ev tb σ H (.ref b)) (Pv : Nat → L2.St → Hp → Prop) (hG : ∀ i σ' H', Pv i σ' H' → (H' a = some (.tup vs) ∧ AllR R xs vs H') ∧ (H' b = some (.tup ws) ∧ AllR R2 ys ws H')) (h0 : ∀ H1, Ex H H1 → Pv 0 σ H1)
    (hs : ∀ (i : Nat) (x : α) (y : β) (v w : V) σ' H' H'', xs[i]? = some x → ys[i]? = some y → Pv i σ' H' → Ex H' H'' → R x v H'' → R2 y w H'' → tbd { D with nx := Pv (i + 1), ct := Pv (i + 1), bk := D.nx } ((σ'.set i1 (some v)).set i2 (some w)) H'') (hd : ∀ σ' H', Pv xs.length σ' H' → D.nx σ' H') :
    tFor (RZ.iZipA K (tCons ta (tCons tb tNil))) (gTup K 2 (gCons (gName i1) (gCons (gName i2) gNil))) tbd D σ H := by
  unfold tFor RZ.iZipA
  refine (ea_cons ha (ea_cons hb ea_nil)) H (Ex.refl _) _ fun H1 e1 => ?_
  obtain ⟨⟨g1, A1⟩, g2, A2⟩ := hG _ _ _ (h0 H1 e1)
  refine ⟨a, b, vs, ws, rfl, .inr ⟨SqT.of g1, SqT.of g2, ?_⟩⟩
  exact for_it (walk_zipT (K := K) (a := a) (b := b) (xs := vs) (ys := ws) (n := xs.length) A1.1 (by rw [A2.1]; exact hl.symm)) (g := gTup K 2 (gCons (gName i1) (gCons (gName i2) gNil))) (tb := tbd) (D := D) (σ := σ) (H := H1) Pv (h0 H1 e1) (fun i σ' H' _ p => ⟨SqT.of (hG i σ' H' p).1.1, SqT.of (hG i σ' H' p).2.1⟩) (fun i v σ' H' H'' hi p y => by
    obtain ⟨T, x, y', ev, hT, eH, ex, ey⟩ := y
    subst ev eH
    obtain ⟨z, hz, rz⟩ := (hG i σ' H' p).1.2.getV ex
    obtain ⟨z2, hz2, rz2⟩ := (hG i σ' H' p).2.2.getV ey
    refine ⟨T, _, rfl, SqT.of upd_same, rfl, _, _, rfl, _, _, rfl, rfl, ?_⟩
    exact hs i z z2 x y' σ' H' _ hz hz2 p (Ex.new hT) (m1 _ _ _ _ (Ex.new hT) rz) (m2 _ _ _ _ (Ex.new hT) rz2)) hd
theorem q_forZ {α β : Type} {R : α → V → Hp → Prop} {R2 : β → V → Hp → Prop} {xs : List α} {ys : List β} {a b : Addr} {vs ws : List V} {i1 i2 : Nat} (m1 : MonoR R) (m2 : MonoR R2) (hl : xs.length = ys.length) (ha : Ev ta σ H (.ref a)) (hb : Ev tb σ H (.ref b)) (Pv : Nat → L2.St → Hp → Prop) (hG : ∀ i σ' H', Pv i σ' H' → (H' a = some (.tup vs) ∧ AllR R xs vs H') ∧ (H' b = some (.tup ws) ∧ AllR R2 ys ws H')) (h0 : ∀ H1, Ex H H1 → Pv 0 σ H1)
    (hs : ∀ (i : Nat) (x : α) (y : β) (v w : V) σ' H' H'', xs[i]? = some x → ys[i]? = some y → Pv i σ' H' → Ex H' H'' → R x v H'' → R2 y w H'' → tbd { D with nx := Pv (i + 1), ct := Pv (i + 1), bk := tz D } ((σ'.set i1 (some v)).set i2 (some w)) H'') (hd : ∀ σ' H', Pv xs.length σ' H' → tz D σ' H') :
    tSeq (tFor (RZ.iZipA K (tCons ta (tCons tb tNil))) (gTup K 2 (gCons (gName i1) (gCons (gName i2) gNil))) tbd) tz D σ H := s_forZ (D := { D with nx := tz D }) m1 m2 hl ha hb Pv hG h0 hs hd
end
/-! ### promises -/
def spKV (C : Addr) : Sp := fun vs H Q _ => ∃ (x y : V) (R : List (List Rat)) (c : List Nat) (w f n : Nat), vs = [x, y, .int (w : Int), .int (f : Int)] ∧ MatAt C R x H ∧ TupAt RI c y H ∧ R.length = c.length ∧ Wide w R ∧ (f < w ∧ w ≤ 100 ∧ ∀ k ∈ c, k < w) ∧ (n ≤ 900000 ∧ ∀ i k, SmB n (at2 R i k)) ∧ NewV (VecAt C (kvQ R c w f)) H Q
def kerQ (M : List (List Rat)) (w : Nat) : List (List Rat) := (selN 0 w fun k => !decide (k ∈ redP M w)).map fun f => kvQ (redR M w) (redP M w) w f
def spKer (C : Addr) : Sp := fun vs H Q _ => ∃ (x : V) (M : List (List Rat)) (w n : Nat), vs = [x, .int (w : Int)] ∧ MatAt C M x H ∧ Wide w M ∧ GOk n w M ∧ NewV (LstAt (RV C) (kerQ M w)) H Q
def spDotVV (C : Addr) : Sp := fun vs H Q _ => ∃ (x y : V) (ps qs : List Rat) (n m : Nat), vs = [x, y] ∧ VecAt C ps x H ∧ VecAt C qs y H ∧ ps.length = qs.length ∧ AllS n ps ∧ AllS m qs ∧ DotOk n m ps.length ∧ NewV (fun v H => RatAt C H v (dotQ ps qs)) H Q
theorem redR_at {M : List (List Rat)} {w i k : Nat} (h : i < (redP M w).length) : at2 (redR M w) i k = at2 (gaussQ M w).1 i k := by
  have h : i < (gaussQ M w).2.length := h
  unfold at2 redR
  rw [List.getD_eq_getElem?_getD (l := List.take _ _), List.getElem?_take, if_pos h, ← List.getD_eq_getElem?_getD]
section
variable {K : PySem.W.Frag} {C : Addr} {te ta tb tc td : TE} {σ : L2.St} {H : Hp} {E : XK}
theorem evp_KV {R : List (List Rat)} {c : List Nat} {w f n : Nat} (ha : EvP ta σ H (MatAt C R)) (hb : EvP tb σ H (TupAt RI c)) (hc : ∀ H1, Ex H H1 → Ev tc σ H1 (.int (w : Int))) (hd : ∀ H1, Ex H H1 → Ev td σ H1 (.int (f : Int))) (hl : R.length = c.length) (hw : Wide w R) (h : f < w ∧ w ≤ 100 ∧ ∀ k ∈ c, k < w) (hs : n ≤ 900000 ∧ ∀ i k, SmB n (at2 R i k)) :
    EvP (tCall (spKV C) [] E (tCons ta (tCons tb (tCons tc (tCons td tNil))))) σ H (VecAt C (kvQ R c w f)) := fun H1 e Q k =>
  ha H1 e _ fun v H2 e2 hv => hb H2 (e.trans e2) _ fun u H3 e3 hu => hc H3 ((e.trans e2).trans e3) H3 (Ex.refl _) _ fun H4 e4 => hd H4 (((e.trans e2).trans e3).trans e4) H4 (Ex.refl _) _ fun H5 e5 =>
    ⟨v, u, R, c, w, f, n, rfl, mono_mat _ _ _ ((e3.trans e4).trans e5) hv, mono_tup mono_ri _ _ _ _ (e4.trans e5) hu, hl, hw, h, hs, fun r H6 e6 hr => k r H6 ((((e2.trans e3).trans e4).trans e5).trans e6) hr⟩
theorem evp_dotVV {ps qs : List Rat} {n m : Nat} (ha : EvP ta σ H (VecAt C ps)) (hb : EvP tb σ H (VecAt C qs)) (hl : ps.length = qs.length) (s1 : AllS n ps) (s2 : AllS m qs) (hd : DotOk n m ps.length) : EvP (tCall (spDotVV C) [] E (tCons ta (tCons tb tNil))) σ H (fun v H => RatAt C H v (dotQ ps qs)) :=
  evp_call2 mono_vec ha hb fun v w H1 _ r1 r2 Q2 E2 k2 => ⟨v, w, ps, qs, n, m, rfl, r1, r2, hl, s1, s2, hd, k2⟩
end
section
variable {K : PySem.W.Frag} {C : Addr} {te ta tb tc tl : TE} {σ : L2.St} {H : Hp} {E : XK} {D : Ends} {tz tbd : TS} {g : TG}
/-- over a list that stays; over a tuple -/
theorem s_forL {α : Type} {R : α → V → Hp → Prop} {xs : List α} {a : Addr} {vs : List V} {i1 : Nat} (hv : Ev ta σ H (.ref a)) (Pv : Nat → L2.St → Hp → Prop) (hG : ∀ i σ' H', Pv i σ' H' → H' a = some (.lst vs) ∧ AllR R xs vs H') (h0 : ∀ H1, Ex H H1 → Pv 0 σ H1)
    (hs : ∀ (i : Nat) (x : α) (v : V) σ' H', xs[i]? = some x → Pv i σ' H' → R x v H' → tbd { D with nx := Pv (i + 1), ct := Pv (i + 1), bk := D.nx } (σ'.set i1 (some v)) H') (hd : ∀ σ' H', Pv xs.length σ' H' → D.nx σ' H') :
    tFor (iList K ta) (gName i1) tbd D σ H := by
  unfold tFor iList
  refine hv H (Ex.refl _) _ fun H1 e1 => ⟨a, rfl, ⟨vs, SqL.of (hG _ _ _ (h0 H1 e1)).1⟩, ?_⟩
  have hl := (hG _ _ _ (h0 H1 e1)).2.1
  exact for_list (K := K) (a := a) (xs := vs) (g := gName i1) (tb := tbd) (D := D) (σ := σ) (H := H1) Pv (h0 H1 e1) (fun i σ' H' _ p => SqL.of (hG i σ' H' p).1) (fun i v σ' H' hx p => by
    obtain ⟨z, hz, rz⟩ := (hG i σ' H' p).2.getV hx
    exact hs i z v σ' H' hz p rz) (fun σ' H' p => hd σ' H' (by rw [hl] at p; exact p))
theorem q_forL {α : Type} {R : α → V → Hp → Prop} {xs : List α} {a : Addr} {vs : List V} {i1 : Nat} (hv : Ev ta σ H (.ref a)) (Pv : Nat → L2.St → Hp → Prop) (hG : ∀ i σ' H', Pv i σ' H' → H' a = some (.lst vs) ∧ AllR R xs vs H') (h0 : ∀ H1, Ex H H1 → Pv 0 σ H1)
    (hs : ∀ (i : Nat) (x : α) (v : V) σ' H', xs[i]? = some x → Pv i σ' H' → R x v H' → tbd { D with nx := Pv (i + 1), ct := Pv (i + 1), bk := tz D } (σ'.set i1 (some v)) H') (hd : ∀ σ' H', Pv xs.length σ' H' → tz D σ' H') :
    tSeq (tFor (iList K ta) (gName i1) tbd) tz D σ H := s_forL (D := { D with nx := tz D }) hv Pv hG h0 hs hd
theorem s_forT {α : Type} {R : α → V → Hp → Prop} {xs : List α} {a : Addr} {vs : List V} {i1 : Nat} (hv : Ev ta σ H (.ref a)) (Pv : Nat → L2.St → Hp → Prop) (hG : ∀ i σ' H', Pv i σ' H' → H' a = some (.tup vs) ∧ AllR R xs vs H') (h0 : ∀ H1, Ex H H1 → Pv 0 σ H1)
    (hs : ∀ (i : Nat) (x : α) (v : V) σ' H', xs[i]? = some x → Pv i σ' H' → R x v H' → tbd { D with nx := Pv (i + 1), ct := Pv (i + 1), bk := D.nx } (σ'.set i1 (some v)) H') (hd : ∀ σ' H', Pv xs.length σ' H' → D.nx σ' H') :
    tFor (iTup K ta) (gName i1) tbd D σ H := by
  unfold tFor iTup
  refine hv H (Ex.refl _) _ fun H1 e1 => ⟨a, rfl, ⟨vs, SqT.of (hG _ _ _ (h0 H1 e1)).1⟩, ?_⟩
  have hl := (hG _ _ _ (h0 H1 e1)).2.1
  exact for_it (walk_tup (K := K) (a := a) (xs := vs)) (g := gName i1) (tb := tbd) (D := D) (σ := σ) (H := H1) Pv (h0 H1 e1) (fun i σ' H' _ p => SqT.of (hG i σ' H' p).1) (fun i v σ' H' H'' hi p y => by
    obtain ⟨y1, y2⟩ := y
    subst y1
    obtain ⟨z, hz, rz⟩ := (hG i σ' _ p).2.getV y2
    exact hs i z v σ' _ hz p rz) (fun σ' H' p => hd σ' H' (by rw [hl] at p; exact p))
theorem q_forT {α : Type} {R : α → V → Hp → Prop} {xs : List α} {a : Addr} {vs : List V} {i1 : Nat} (hv : Ev ta σ H (.ref a)) (Pv : Nat → L2.St → Hp → Prop) (hG : ∀ i σ' H', Pv i σ' H' → H' a = some (.tup vs) ∧ AllR R xs vs H') (h0 : ∀ H1, Ex H H1 → Pv 0 σ H1)
    (hs : ∀ (i : Nat) (x : α) (v : V) σ' H', xs[i]? = some x → Pv i σ' H' → R x v H' → tbd { D with nx := Pv (i + 1), ct := Pv (i + 1), bk := tz D } (σ'.set i1 (some v)) H') (hd : ∀ σ' H', Pv xs.length σ' H' → tz D σ' H') :
    tSeq (tFor (iTup K ta) (gName i1) tbd) tz D σ H := s_forT (D := { D with nx := tz D }) hv Pv hG h0 hs hd
theorem ev_isL {α : Type} {R : α → V → Hp → Prop} {xs : List α} (h : EvP te σ H (LstAt R xs)) : Ev (tCB (rIsi K) (tCons te (tCons (tC (.ty "list")) tNil))) σ H (.bl true) := fun H1 e Q k =>
  h H1 e _ fun v H2 e2 ⟨a, vs, ev, ha, _⟩ => by
    subst ev
    exact ⟨_, _, _, _, true, rfl, .ty _, .base (.lst ha), kit_ty (by decide +kernel), k H2 e2⟩
end
theorem selN_mem {lo n k : Nat} {f : Nat → Bool} (h : k ∈ selN lo n f) : lo ≤ k ∧ k < lo + n ∧ f k = true := by
  unfold selN at h
  obtain ⟨h1, h2⟩ := List.mem_filter.mp h
  obtain ⟨i, hi, rfl⟩ := List.mem_map.mp h1
  have := List.mem_range.mp hi
  exact ⟨by omega, by omega, h2⟩
theorem setN_congr {f g : Nat → Rat} {c : List Nat} {v0 : List Rat} : ∀ n, (∀ a, a < n → f a = g a) → setN f c v0 n = setN g c v0 n
  | 0, _ => rfl
  | n + 1, h => by rw [setN_succ, setN_succ, setN_congr n fun a ha => h a (Nat.lt_succ_of_lt ha), h n (Nat.lt_succ_self n)]
theorem kvQ_red {M : List (List Rat)} {w f : Nat} : kvQ (redR M w) (redP M w) w f = kvQ (gaussQ M w).1 (gaussQ M w).2 w f := by
  unfold kvQ
  exact setN_congr _ fun a ha => by rw [redR_at ha]
theorem rowsE_sm {M : List (List Rat)} (h : RowsE M) (hl : M.length ≤ 5) : AllM 103 M := fun r hr => by
  obtain ⟨i, hi, e⟩ := List.mem_iff_getElem.mp hr
  have z := h i r (by rw [List.getElem?_eq_getElem hi, e])
  exact fun q hq => (z q hq).1.mono (by have := bnd_le i; omega)
/-- what a drawn matrix's kernel is -/
theorem ker_facts {M : List (List Rat)} {w f : Nat} (h : RowsE M) (hw : Wide w M) (hl : M.length ≤ 5) (hf : f < w) (nf : f ∉ redP M w) : (∀ row ∈ M, dotQ row (kvQ (redR M w) (redP M w) w f) = 0) ∧ AllS 1200 (kvQ (redR M w) (redP M w) w f) ∧ ∀ j, j < w → j ∉ redP M w → (kvQ (redR M w) (redP M w) w f)[j]? = some (if j = f then 1 else 0) := by
  have g := gs_all rho5_pos hw (rowsE_int h hl) w
  rw [kvQ_red]
  refine ⟨fun row hr => kvQ_dot rho5_pos hw (rowsE_int h hl) hf nf hr, ?_, fun j hj hn => ?_⟩
  · have sz := (g.sm rho5_pos rho5_lt (m := 5) (by have := g.ch; omega) (by decide)).2
    exact kvQ_sm g.lt g.asc (by decide) fun i k hi => (sz i k hi).mono (by decide)
  · rw [getD_get (d := 0) (by rw [kvQ_len]; exact hj), kvQ_free g.lt hj hn]
end Pn

namespace Pn
open PySem L2 Evl
theorem pa_starK {X : Cx} {K : PySem.W.Frag} {e : Expr} {p : Pos} {es : List Expr} {te : TE} {t : TA} (hK : X.K = K) (he : PE X e te) (hr : PA X es t) (hs : starEach (.Starred e p :: es) X.env = (true, eval e X.env) :: starEach es X.env := by rfl) : PA X (.Starred e p :: es) (StX.tStar K te t) := by
  subst hK
  exact StX.pa_star he hr hs
section
variable {K : PySem.W.Frag} {C : Addr} {te ta tb tc td tl : TE} {σ : L2.St} {H : Hp} {E : XK} {D : Ends} {tz tbd : TS} {g : TG}
theorem allR_app {α : Type} {R : α → V → Hp → Prop} {xs ys : List α} {vs ws : List V} {H : Hp} (a : AllR R xs vs H) (b : AllR R ys ws H) : AllR R (xs ++ ys) (vs ++ ws) H := by
  obtain ⟨l1, a⟩ := a
  obtain ⟨l2, b⟩ := b
  refine ⟨by rw [List.length_append, List.length_append, l1, l2], fun i x v hx hv => ?_⟩
  by_cases hi : i < xs.length
  · rw [List.getElem?_append_left hi] at hx
    rw [List.getElem?_append_left (by omega)] at hv
    exact a i x v hx hv
  · rw [List.getElem?_append_right (by omega)] at hx
    rw [List.getElem?_append_right (by omega), l1] at hv
    exact b _ x v hx hv
theorem allR_one {α : Type} {R : α → V → Hp → Prop} {x : α} {v : V} {H : Hp} (h : R x v H) : AllR R [x] [v] H := ⟨rfl, fun i a b ha hb => by
  cases i with
  | zero => cases ha; cases hb; exact h
  | succ i => cases ha⟩
/-- (*row, number) -/
theorem evp_star1 {α : Type} {R : α → V → Hp → Prop} {xs : List α} {y : α} (m : MonoR R) (ha : EvP ta σ H (TupAt R xs)) (hb : EvP tb σ H (R y)) (hz : xs.length ≤ 10000) : EvP (tTup (StX.tStar K ta (tCons tb tNil))) σ H (TupAt R (xs ++ [y])) := fun H1 e Q k =>
  ha H1 e _ fun v H2 e2 ⟨a, vs, ev, h, A⟩ => by
    subst ev
    refine ⟨a, vs, rfl, .inl (SqT.of h), ?_⟩
    refine hb H2 (e.trans e2) _ fun u H3 e3 r => ?_
    have l := A.1
    refine ⟨by rw [List.length_append, List.length_singleton]; show _ ≤ sizeLine; exact Nat.le_trans (by omega : vs.length + 1 ≤ 10001) (by decide), fun p hp => ?_⟩
    exact k _ _ ((e2.trans e3).trans (Ex.new hp)) ⟨p, _, rfl, upd_same, (allR_app (A.mono m e3) (allR_one r)).mono m (Ex.new hp)⟩
/-- (*row, *other) -/
theorem evp_star2 {α : Type} {R : α → V → Hp → Prop} {xs ys : List α} (m : MonoR R) (ha : EvP ta σ H (TupAt R xs)) (hb : EvP tb σ H (TupAt R ys)) (hz : xs.length + ys.length ≤ 10000) : EvP (tTup (StX.tStar K ta (StX.tStar K tb tNil))) σ H (TupAt R (xs ++ ys)) := fun H1 e Q k =>
  ha H1 e _ fun v H2 e2 ⟨a, vs, ev, h, A⟩ => by
    subst ev
    refine ⟨a, vs, rfl, .inl (SqT.of h), ?_⟩
    refine hb H2 (e.trans e2) _ fun u H3 e3 ⟨b, ws, eu, h3, B⟩ => ?_
    subst eu
    refine ⟨b, ws, rfl, .inl (SqT.of h3), ?_⟩
    have l := A.1
    have l2 := B.1
    refine ⟨by rw [List.append_nil, List.length_append]; show _ ≤ sizeLine; exact Nat.le_trans (by omega : vs.length + ws.length ≤ 10000) (by decide), fun p hp => ?_⟩
    rw [List.append_nil]
    exact k _ _ ((e2.trans e3).trans (Ex.new hp)) ⟨p, _, rfl, upd_same, (allR_app (A.mono m e3) B).mono m (Ex.new hp)⟩
/-- (x,) -/
theorem evp_tup1 {α : Type} {R : α → V → Hp → Prop} {y : α} (m : MonoR R) (hb : EvP tb σ H (R y)) : EvP (tTup (tCons tb tNil)) σ H (TupAt R [y]) := fun H1 e Q k =>
  hb H1 e _ fun u H3 e3 r => ⟨by show 1 ≤ sizeLine; decide, fun p hp => k _ _ (e3.trans (Ex.new hp)) ⟨p, _, rfl, upd_same, (allR_one r).mono m (Ex.new hp)⟩⟩
/-- a drawn vector: tuple([_law_ratio(state) for ..]) -/
theorem draw_vec {st : Addr × Addr} {c n j i : Nat} {vs : List Nat} {Q : VK} (hn : Ev ta σ H (.int (n : Int))) (hl : n ≤ 1000) (s0 : St3 st c H) (hc : c + 6 * n + 6 < cMax) (hw : ∀ x, wipe ((wipe σ vs).set j (some x)) vs = wipe σ vs)
    (hs : ∀ x, ((wipe σ vs).set j (some x))[i]? = some (some (.ref st.1)))
    (k : ∀ qs v H', qs.length = n → (∀ q ∈ qs, SmB 20 q ∧ q.den ∣ dd) → VecAt C qs v H' → St3 st (c + 6 * n) H' → FrS st H H' → Q v H') :
    tCB (rTupL K) (tCons (tLc (iRng1 (tCons ta tNil)) (gName j) tYes (tCall (spRatio4 C) [] E (tCons (tVar i) tNil)) vs) tNil) σ H Q := by
  show tLc (iRng1 (tCons ta tNil)) (gName j) tYes (tCall (spRatio4 C) [] E (tCons (tVar i) tNil)) vs σ H (fun v H1 => rTupL K [v] H1 Q)
  refine lc_st3 (st := st) (c := c) (n := n) (cost := 6) (S := fun D i v H => ∃ q, (SmB 20 q ∧ q.den ∣ dd) ∧ RatAt C H v q) (ea_cons hn ea_nil) (by omega) s0 hw ?_ ?_ ?_ ?_
  · intro m D H' kk hj s f nD hD hD0 kz
    refine ⟨_, hs _, st, c + 6 * m, rfl, s, (by omega), fun q v H2 sm dq pr s2 f2 => ?_⟩
    exact kz v H2 (by rw [Nat.mul_add 6 m 1]; exact s2) f2 ⟨q, ⟨sm, dq⟩, pr⟩
  · rintro D m v H' H2 c' s f ⟨q, sm, pr⟩
    exact ⟨q, sm, pr.mono3 s f⟩
  · rintro D m v H' ys zs hD ⟨q, sm, pr⟩
    exact ⟨q, sm, stab_rat v H' _ D ys (fun a o ne ha => (upd_ne ne).trans ha) hD pr⟩
  intro D ys H5 nD hD0 s5 f5 hD hl hy
  obtain ⟨qs, q1, q2⟩ := pick hy
  refine ⟨D, ys, rfl, SqL.of hD, fun l hl0 => ?_⟩
  have e6 := Ex.new (o := .tup ys) hl0
  refine k qs _ _ (by omega) (fun q hq => ?_) ⟨l, ys, rfl, upd_same, q1.symm, fun j x v h1 h2 => ((q2 j v x h2 h1).2).mono e6⟩ (s5.ex e6) (f5.trans (.of e6))
  obtain ⟨m, hm, e⟩ := List.mem_iff_getElem.mp hq
  exact (q2 m _ q (List.getElem?_eq_getElem (by omega)) (by rw [List.getElem?_eq_getElem hm, e])).1
/-! ### solutions -/
def spSolve (C : Addr) : Sp := fun vs H Q _ => ∃ (x : V) (M : List (List Rat)) (w : Nat) (y : V) (b : List Rat) (n : Nat), vs = [x, .int (w : Int), y] ∧ MatAt C M x H ∧ Wide w M ∧ (VecAt C b y H ∧ M.length = b.length) ∧ GOk n (w + 1) (joinQ M b) ∧
  (w ∈ redP (joinQ M b) (w + 1) → ∀ H', Ex H H' → Q .non H') ∧ (w ∉ redP (joinQ M b) (w + 1) → NewV (VecAt C (solQ M w b)) H Q)
theorem solV_red {M : List (List Rat)} {u w : Nat} : solV (redR M u) (redP M u) w = solV (gaussQ M u).1 (gaussQ M u).2 w := by
  unfold solV
  exact setN_congr _ fun a ha => by rw [redR_at ha]
end
/-! sizes -/
theorem dot_int {a b : Rat} {m n : Nat} : ∀ {ps qs : List Rat}, (∀ p ∈ ps, IntB m (a * p)) → (∀ q ∈ qs, IntB n (b * q)) → IntB (m + n + ps.length) (a * b * dotQ ps qs)
  | [], qs, _, _ => ⟨0, by rw [dotQ_nil, Rat.mul_zero]; rfl, by simp⟩
  | _ :: _, [], _, _ => ⟨0, by rw [dotQ_nil_right, Rat.mul_zero]; rfl, by simp⟩
  | p :: ps, q :: qs, h1, h2 => by
    obtain ⟨z, ez, hz⟩ := dot_int (ps := ps) (qs := qs) (fun p hp => h1 p (List.mem_cons_of_mem _ hp)) fun q hq => h2 q (List.mem_cons_of_mem _ hq)
    obtain ⟨u, eu, hu⟩ := h1 p List.mem_cons_self
    obtain ⟨v, ev, hv⟩ := h2 q List.mem_cons_self
    refine ⟨u * v + z, ?_, ?_⟩
    · show a * b * (p * q + dotQ ps qs) = _
      rw [Rat.intCast_add, Rat.intCast_mul, ← eu, ← ev, ← ez]
      grind
    · have a1 : (u * v).natAbs ≤ 2 ^ (m + n) := by
        rw [Int.natAbs_mul, Nat.pow_add]
        exact Nat.mul_le_mul hu hv
      have a2 : (u * v + z).natAbs ≤ (u * v).natAbs + z.natAbs := by omega
      have a3 : 2 ^ (m + n) ≤ 2 ^ (m + n + ps.length) := Nat.pow_le_pow_right (by decide) (by omega)
      have a4 : 2 ^ (m + n + (p :: ps).length) = 2 ^ (m + n + ps.length) * 2 := by rw [List.length_cons, ← Nat.add_assoc, Nat.pow_succ]
      omega
theorem IntB.mono {m n : Nat} {q : Rat} (h : IntB m q) (k : m ≤ n) : IntB n q := by
  obtain ⟨z, h1, h2⟩ := h
  exact ⟨z, h1, Nat.le_trans h2 (Nat.pow_le_pow_right (by decide) k)⟩
theorem intB_scale {n b : Nat} {q : Rat} {d : Nat} (h : IntB n q) (hd : d ≤ 2 ^ b) : IntB (n + b) ((d : Rat) * q) := by
  obtain ⟨z, h1, h2⟩ := h
  refine ⟨(d : Int) * z, by rw [h1, Rat.intCast_mul]; rfl, ?_⟩
  rw [Int.natAbs_mul, Int.natAbs_natCast, Nat.mul_comm, Nat.pow_add]
  exact Nat.mul_le_mul h2 hd
def rho6 : Nat := dd ^ 6
theorem rho6_pos : 0 < rho6 := by unfold rho6 dd; decide
theorem rho6_lt : rho6 < 2 ^ 90 := by unfold rho6 dd; decide
theorem rho6_eq : ((rho6 : Nat) : Rat) = ((dd : Nat) : Rat) * ((rho5 : Nat) : Rat) := by
  rw [← Rat.natCast_mul]
  have e : rho6 = dd * rho5 := by unfold rho6 rho5; rw [Nat.pow_succ, Nat.mul_comm]
  rw [e]
theorem dd_le' : dd ≤ 2 ^ 15 := by decide
/-- numbers that may stand beside a drawn matrix -/
def VecB (b : List Rat) : Prop := ∀ q ∈ b, IntB 220 ((rho6 : Rat) * q)
theorem vecB_drawn {b : List Rat} (h : ∀ q ∈ b, SmB 20 q ∧ q.den ∣ dd) : VecB b := fun q hq => by
  have z := int_of (b := 15) (n := 20) (h q hq).1.1 (h q hq).2 dd_le' (by decide)
  rw [rho6_eq, Rat.mul_comm (dd : Rat), Rat.mul_assoc]
  have y := intB_scale (b := 75) z (Nat.le_of_lt rho5_lt)
  exact y.mono (by decide)
theorem rowsE_row {M : List (List Rat)} (h : RowsE M) (hl : M.length ≤ 5) {r : List Rat} (hr : r ∈ M) : ∀ q ∈ r, IntB 178 ((rho5 : Rat) * q) := fun q hq => by
  obtain ⟨i, hi, e⟩ := List.mem_iff_getElem.mp hr
  have z := h i r (by rw [List.getElem?_eq_getElem hi, e]) q hq
  have zs : q.num.natAbs < 2 ^ 103 := Nat.lt_of_lt_of_le z.1.1 (Nat.pow_le_pow_right (by decide) (by have := bnd_le i; omega))
  exact int_of (b := 75) (n := 103) zs (Nat.dvd_trans z.2 (Nat.pow_dvd_pow dd (by omega))) (Nat.le_of_lt rho5_lt) rho5_pos
theorem vecB_dot {M : List (List Rat)} {x : List Rat} {w : Nat} (h : RowsE M) (hl : M.length ≤ 5) (hw : Wide w M) (w5 : w ≤ 5) (hx : ∀ q ∈ x, SmB 20 q ∧ q.den ∣ dd) : VecB (M.map fun row => dotQ row x) := fun q hq => by
  obtain ⟨r, hr, rfl⟩ := List.mem_map.mp hq
  have z := dot_int (a := rho5) (b := dd) (rowsE_row h hl hr) (fun q hq => int_of (b := 15) (n := 20) (hx q hq).1.1 (hx q hq).2 dd_le' (by decide))
  rw [rho6_eq, Rat.mul_comm (dd : Rat)]
  exact z.mono (by rw [hw r hr]; omega)
theorem join_int {M : List (List Rat)} {b : List Rat} {w : Nat} (h : RowsE M) (hl : M.length ≤ 5) (hw : Wide w M) (hb : M.length = b.length) (vb : VecB b) : ∀ i k, IntB 220 ((rho6 : Rat) * at2 (joinQ M b) i k) := fun i k => by
  by_cases hi : i < M.length
  · rw [joinQ_at hw hb hi]
    by_cases hk : k < w
    · rw [if_pos hk, rho6_eq, Rat.mul_assoc]
      exact (intB_scale (b := 15) (rowsE_int h hl i k) dd_le').mono (by decide)
    · rw [if_neg hk]
      by_cases e : k = w
      · rw [if_pos e]
        exact vb _ (List.mem_of_getElem? (getD_get (d := 0) (by omega)))
      · rw [if_neg e, Rat.mul_zero]
        exact intB_z _
  · rw [at2_ge (by rw [joinQ_len hb]; omega), Rat.mul_zero]
    exact intB_z _
theorem join_gok {M : List (List Rat)} {b : List Rat} {w : Nat} (h : RowsE M) (hl : M.length ≤ 5) (hw : Wide w M) (hb : M.length = b.length) (vb : VecB b) (w5 : w ≤ 5) : GOk 1500 (w + 1) (joinQ M b) :=
  gok_of (b := 220) (s := 90) (ρ := rho6) (joinQ_wide hw hb) (by rw [joinQ_len hb]; omega) (by omega) (.inl (by rw [joinQ_len hb]; exact hl)) (join_int h hl hw hb vb) rho6_pos rho6_lt (by decide) (by decide)
theorem solQ_sm {M : List (List Rat)} {b : List Rat} {w : Nat} (h : RowsE M) (hl : M.length ≤ 5) (hw : Wide w M) (hb : M.length = b.length) (vb : VecB b) (hn : w ∉ redP (joinQ M b) (w + 1)) : AllS 1500 (solQ M w b) := by
  have g := gs_all rho6_pos (joinQ_wide hw hb) (join_int h hl hw hb vb) (w + 1)
  have sz := (g.sm rho6_pos rho6_lt (m := 5) (by have := g.ch; rw [joinQ_len hb] at this; omega) (by decide)).2
  exact solV_sm (join_lt hw hb hn) g.asc (by decide) fun i k hi => (sz i k hi).mono (by decide)
theorem vecB_sm {b : List Rat} (vb : VecB b) : AllS 400 b := fun q hq => by
  obtain ⟨z, hz, h1⟩ := vb q hq
  have r0 : ((rho6 : Int) : Rat) ≠ 0 := by exact_mod_cast Nat.ne_of_gt rho6_pos
  refine sm_of_frac (m := 0) (y := z) (z := (rho6 : Int)) ?_ (by have := rho6_pos; omega) (Nat.lt_of_le_of_lt h1 (Nat.pow_lt_pow_right (by decide) (by decide))) (by rw [Int.natAbs_natCast]; exact Nat.lt_of_lt_of_le rho6_lt (Nat.pow_le_pow_right (by decide) (by decide)))
  rw [← hz, Rat.mul_comm]
  rfl
end Pn

namespace Pn
open PySem L2 Evl
theorem sl_tupK {X : Cx} {K : PySem.W.Frag} (hK : X.K = K) : SlR X (rSlA K) := by
  subst hK
  exact sl_tupA
theorem cut_from {vs : List V} {n : Nat} : cutV vs (some (n : Int)) none = vs.drop n := by
  unfold cutV
  have e : HT.sIx vs.length vs.length none = vs.length := rfl
  have e2 : HT.sIx vs.length 0 (some (n : Int)) = min n vs.length := by
    unfold HT.sIx
    simp
    omega
  rw [e, e2]
  by_cases h : n ≤ vs.length
  · rw [Nat.min_eq_left h, List.take_of_length_le (by rw [List.length_drop]; omega)]
  · rw [Nat.min_eq_right (by omega), List.drop_eq_nil_of_le (Nat.le_refl _), List.drop_eq_nil_of_le (by omega), List.take_nil]
section
variable {K : PySem.W.Frag} {C : Addr} {te ta tb tc td tl : TE} {σ : L2.St} {H : Hp} {E : XK} {D : Ends} {tz tbd : TS} {g : TG}
theorem allR_take {α : Type} {R : α → V → Hp → Prop} {xs : List α} {vs : List V} {H : Hp} (n : Nat) (a : AllR R xs vs H) : AllR R (xs.take n) (vs.take n) H := ⟨by rw [List.length_take, List.length_take, a.1], fun i x v hx hv => by
  rw [List.getElem?_take] at hx hv
  by_cases h : i < n
  · rw [if_pos h] at hx hv
    exact a.2 i x v hx hv
  · rw [if_neg h] at hx
    cases hx⟩
theorem allR_drop {α : Type} {R : α → V → Hp → Prop} {xs : List α} {vs : List V} {H : Hp} (n : Nat) (a : AllR R xs vs H) : AllR R (xs.drop n) (vs.drop n) H := ⟨by rw [List.length_drop, List.length_drop, a.1], fun i x v hx hv => by
  rw [List.getElem?_drop] at hx hv
  exact a.2 _ x v hx hv⟩
theorem sIx_to {l n : Nat} : HT.sIx l l (some (n : Int)) = min n l := by
  unfold HT.sIx
  simp
  omega
theorem sIx_from {l n : Nat} : HT.sIx l 0 (some (n : Int)) = min n l := by
  unfold HT.sIx
  simp
  omega
/-- t[:n] of a tuple -/
theorem evp_tcut {α : Type} {R : α → V → Hp → Prop} {xs : List α} {n : Nat} (m : MonoR R) (h : EvP te σ H (TupAt R xs)) (hh : ∀ H1, Ex H H1 → Ev tb σ H1 (.int (n : Int))) : EvP (tSl (rSlA K) te tNoPart (tPart tb)) σ H (TupAt R (xs.take n)) := fun H1 e Q k =>
  h H1 e _ fun v H2 e2 ⟨a, vs, ev, ha, A⟩ => by
    subst ev
    refine hh H2 (e.trans e2) H2 (Ex.refl _) _ fun H3 e3 => ?_
    refine ⟨(n : Int), rfl, a, vs, rfl, SqT.of (e3 _ _ ha), fun w => ?_, fun _ p hp => ?_⟩
    · obtain ⟨_, w⟩ := w
      rw [sIx_to] at w
      have el : xs.take n = xs := List.take_of_length_le (by rw [← A.1]; omega)
      exact k _ _ (e2.trans e3) (by rw [el]; exact ⟨a, vs, rfl, e3 _ _ ha, A.mono m e3⟩)
    · rw [cut_to]
      exact k _ _ ((e2.trans e3).trans (Ex.new hp)) ⟨p, _, rfl, upd_same, allR_take n (A.mono m (e3.trans (Ex.new hp)))⟩
/-- t[n:] of a tuple -/
theorem evp_tfrom {α : Type} {R : α → V → Hp → Prop} {xs : List α} {n : Nat} (m : MonoR R) (h : EvP te σ H (TupAt R xs)) (hh : ∀ H1, Ex H H1 → Ev tb σ H1 (.int (n : Int))) : EvP (tSl (rSlA K) te (tPart tb) tNoPart) σ H (TupAt R (xs.drop n)) := fun H1 e Q k =>
  h H1 e _ fun v H2 e2 ⟨a, vs, ev, ha, A⟩ => by
    subst ev
    refine hh H2 (e.trans e2) H2 (Ex.refl _) _ fun H3 e3 => ?_
    refine ⟨(n : Int), rfl, a, vs, rfl, SqT.of (e3 _ _ ha), fun w => ?_, fun _ p hp => ?_⟩
    · obtain ⟨w, _⟩ := w
      rw [sIx_from] at w
      have l := A.1
      by_cases h0 : n = 0
      · subst h0
        exact k _ _ (e2.trans e3) ⟨a, vs, rfl, e3 _ _ ha, by rw [List.drop_zero]; exact A.mono m e3⟩
      · have v0 : vs.length = 0 := by omega
        have x0 : xs = [] := List.length_eq_zero_iff.mp (by omega)
        refine k _ _ (e2.trans e3) ⟨a, vs, rfl, e3 _ _ ha, ?_⟩
        rw [x0, List.drop_nil, ← x0]
        exact A.mono m e3
    · rw [cut_from]
      exact k _ _ ((e2.trans e3).trans (Ex.new hp)) ⟨p, _, rfl, upd_same, allR_drop n (A.mono m (e3.trans (Ex.new hp)))⟩
/-- a drawn list: [_law_ratio(state) for ..] -/
theorem draw_lst {st : Addr × Addr} {c n j i : Nat} {vs : List Nat} {Q : VK} (hn : Ev ta σ H (.int (n : Int))) (hl : n ≤ 1000) (s0 : St3 st c H) (hc : c + 6 * n + 6 < cMax) (hw : ∀ x, wipe ((wipe σ vs).set j (some x)) vs = wipe σ vs)
    (hs : ∀ x, ((wipe σ vs).set j (some x))[i]? = some (some (.ref st.1)))
    (k : ∀ qs D H', qs.length = n → (∀ q ∈ qs, SmB 20 q ∧ q.den ∣ dd) → RL C qs (.ref D) H' → H D = none → St3 st (c + 6 * n) H' → FrS st H H' → Q (.ref D) H') :
    tLc (iRng1 (tCons ta tNil)) (gName j) tYes (tCall (spRatio4 C) [] E (tCons (tVar i) tNil)) vs σ H Q := by
  refine lc_st3 (st := st) (c := c) (n := n) (cost := 6) (S := fun D i v H => ∃ q, (SmB 20 q ∧ q.den ∣ dd) ∧ RatAt C H v q) (ea_cons hn ea_nil) (by omega) s0 hw ?_ ?_ ?_ ?_
  · intro m D H' kk hj s f nD hD hD0 kz
    refine ⟨_, hs _, st, c + 6 * m, rfl, s, (by omega), fun q v H2 sm dq pr s2 f2 => ?_⟩
    exact kz v H2 (by rw [Nat.mul_add 6 m 1]; exact s2) f2 ⟨q, ⟨sm, dq⟩, pr⟩
  · rintro D m v H' H2 c' s f ⟨q, sm, pr⟩
    exact ⟨q, sm, pr.mono3 s f⟩
  · rintro D m v H' ys zs hD ⟨q, sm, pr⟩
    exact ⟨q, sm, stab_rat v H' _ D ys (fun a o ne ha => (upd_ne ne).trans ha) hD pr⟩
  intro D ys H5 nD hD0 s5 f5 hD hl hy
  obtain ⟨qs, q1, q2⟩ := pick hy
  refine k qs _ _ (by omega) (fun q hq => ?_) ⟨D, ys, rfl, hD, q1.symm, fun j x v h1 h2 => (q2 j v x h2 h1).2⟩ hD0 s5 f5
  obtain ⟨m, hm, e⟩ := List.mem_iff_getElem.mp hq
  exact (q2 m _ q (List.getElem?_eq_getElem (by omega)) (by rw [List.getElem?_eq_getElem hm, e])).1
/-- the answer of solve: a solution or None -/
def SolAt (C : Addr) (M : List (List Rat)) (w : Nat) (b : List Rat) (v : V) (H : Hp) : Prop := (w ∈ redP (joinQ M b) (w + 1) → v = .non) ∧ (w ∉ redP (joinQ M b) (w + 1) → VecAt C (solQ M w b) v H)
theorem mono_sol {M : List (List Rat)} {w : Nat} {b : List Rat} : Mono (SolAt C M w b) := fun v H H' e h => ⟨h.1, fun n => mono_vec _ _ _ e (h.2 n)⟩
theorem evp_solve {M : List (List Rat)} {w n : Nat} {b : List Rat} (ha : EvP ta σ H (MatAt C M)) (hb : ∀ H1, Ex H H1 → Ev tb σ H1 (.int (w : Int))) (hc : EvP tc σ H (VecAt C b)) (hw : Wide w M) (hl : M.length = b.length) (g : GOk n (w + 1) (joinQ M b)) :
    EvP (tCall (spSolve C) [] E (tCons ta (tCons tb (tCons tc tNil)))) σ H (SolAt C M w b) := fun H1 e Q k =>
  ha H1 e _ fun v H2 e2 hv => hb H2 (e.trans e2) H2 (Ex.refl _) _ fun H3 e3 => hc H3 ((e.trans e2).trans e3) _ fun u H4 e4 hu =>
    ⟨v, M, w, u, b, n, rfl, mono_mat _ _ _ (e3.trans e4) hv, hw, ⟨hu, hl⟩, g, fun h H' e' => k _ _ (((e2.trans e3).trans e4).trans e') ⟨fun _ => rfl, fun z => absurd h z⟩, fun h v' H' e' r => k _ _ (((e2.trans e3).trans e4).trans e') ⟨fun z => absurd z h, fun _ => r⟩⟩
def spSpan (C : Addr) : Sp := fun vs H Q _ => ∃ (x : V) (M : List (List Rat)) (w : Nat) (y : V) (b : List Rat) (n : Nat), vs = [x, .int (w : Int), y] ∧ MatAt C M x H ∧ Wide w M ∧ (VecAt C b y H ∧ b.length = w ∧ w ≤ 100 ∧ M.length ≤ 100) ∧ GOk n (M.length + 1) (joinQ (transQ M w) b) ∧
  NewV (SolAt C (transQ M w) M.length b) H Q
theorem evp_span {M : List (List Rat)} {w n : Nat} {b : List Rat} (ha : EvP ta σ H (MatAt C M)) (hb : ∀ H1, Ex H H1 → Ev tb σ H1 (.int (w : Int))) (hc : EvP tc σ H (VecAt C b)) (hw : Wide w M) (hl : b.length = w ∧ w ≤ 100 ∧ M.length ≤ 100) (g : GOk n (M.length + 1) (joinQ (transQ M w) b)) :
    EvP (tCall (spSpan C) [] E (tCons ta (tCons tb (tCons tc tNil)))) σ H (SolAt C (transQ M w) M.length b) := fun H1 e Q k =>
  ha H1 e _ fun v H2 e2 hv => hb H2 (e.trans e2) H2 (Ex.refl _) _ fun H3 e3 => hc H3 ((e.trans e2).trans e3) _ fun u H4 e4 hu =>
    ⟨v, M, w, u, b, n, rfl, mono_mat _ _ _ (e3.trans e4) hv, hw, ⟨hu, hl⟩, g, fun v' H' e' r => k _ _ (((e2.trans e3).trans e4).trans e') r⟩
/-- the law's own elimination: its pivots -/
theorem evp_lredP {M : List (List Rat)} {w n : Nat} (ha : EvP ta σ H (MatAt C M)) (hb : ∀ H1, Ex H H1 → Ev tb σ H1 (.int (w : Int))) (hw : Wide w M) (g : GOk n w M) :
    EvP (tOp (rIxL K) (tCall (spLRed C) [] E (tCons ta (tCons tb tNil))) (tC (.int 1))) σ H (TupAt RI (redP M w)) := fun H1 e Q k =>
  ha H1 e _ fun v H2 e2 hv => hb H2 (e.trans e2) H2 (Ex.refl _) _ fun H3 e3 => ⟨v, M, w, n, rfl, mono_mat _ _ _ e3 hv, hw, g, fun l vr vp H4 e4 hl mr mp => ⟨l, _, _, _, rfl, rfl, SqL.of hl, atI_nat (j := 1) rfl, k _ _ ((e2.trans e3).trans e4) mp⟩⟩
/-- dots of other kinds -/
def spDotRS (C : Addr) (S1 S2 : List Rat → V → Hp → Prop) : Sp := fun vs H Q _ => ∃ (x y : V) (ps qs : List Rat) (n m : Nat), vs = [x, y] ∧ S1 ps x H ∧ S2 qs y H ∧ ps.length = qs.length ∧ AllS n ps ∧ AllS m qs ∧ DotOk n m ps.length ∧ NewV (fun v H => RatAt C H v (dotQ ps qs)) H Q
theorem evp_dotRS {S1 S2 : List Rat → V → Hp → Prop} {ps qs : List Rat} {n m : Nat} (mS : Mono (S1 ps)) (ha : EvP ta σ H (S1 ps)) (hb : EvP tb σ H (S2 qs)) (hl : ps.length = qs.length) (s1 : AllS n ps) (s2 : AllS m qs) (hd : DotOk n m ps.length) : EvP (tCall (spDotRS C S1 S2) [] E (tCons ta (tCons tb tNil))) σ H (fun v H => RatAt C H v (dotQ ps qs)) :=
  evp_call2 mS ha hb fun v w H1 _ r1 r2 Q2 E2 k2 => ⟨v, w, ps, qs, n, m, rfl, r1, r2, hl, s1, s2, hd, k2⟩
end
/-! sizes -/
theorem join_intG {M : List (List Rat)} {b : List Rat} {w : Nat} (h : ∀ i k, IntB 178 ((rho5 : Rat) * at2 M i k)) (hw : Wide w M) (hb : M.length = b.length) (vb : VecB b) : ∀ i k, IntB 220 ((rho6 : Rat) * at2 (joinQ M b) i k) := fun i k => by
  by_cases hi : i < M.length
  · rw [joinQ_at hw hb hi]
    by_cases hk : k < w
    · rw [if_pos hk, rho6_eq, Rat.mul_assoc]
      exact (intB_scale (b := 15) (h i k) dd_le').mono (by decide)
    · rw [if_neg hk]
      by_cases e : k = w
      · rw [if_pos e]
        exact vb _ (List.mem_of_getElem? (getD_get (d := 0) (by omega)))
      · rw [if_neg e, Rat.mul_zero]
        exact intB_z _
  · rw [at2_ge (by rw [joinQ_len hb]; omega), Rat.mul_zero]
    exact intB_z _
theorem trans_int {M : List (List Rat)} {w m : Nat} {d : Rat} (h : ∀ i k, IntB m (d * at2 M i k)) (hw : Wide w M) : ∀ i k, IntB m (d * at2 (transQ M w) i k) := fun i k => by
  by_cases hi : i < w
  · by_cases hk : k < M.length
    · rw [at2_trans hi hk]; exact h k i
    · rw [at2_wide (transQ_wide) (Nat.not_lt.mp hk), Rat.mul_zero]; exact intB_z _
  · rw [at2_ge (by rw [transQ_len]; omega), Rat.mul_zero]; exact intB_z _
theorem rowsE_take {M : List (List Rat)} (h : RowsE M) (k : Nat) : RowsE (M.take k) := fun i r hr => by
  rw [List.getElem?_take] at hr
  by_cases c : i < k
  · rw [if_pos c] at hr; exact h i r hr
  · rw [if_neg c] at hr; cases hr
theorem vecB_cols {M : List (List Rat)} {x : List Rat} {w : Nat} (h : RowsE M) (hl : M.length ≤ 5) (hw : Wide w M) (hx : ∀ q ∈ x, SmB 20 q ∧ q.den ∣ dd) (hxl : x.length = M.length) : VecB ((List.range w).map fun j => dotQ (M.map fun row => row.getD j 0) x) := fun q hq => by
  obtain ⟨j, hj, rfl⟩ := List.mem_map.mp hq
  have hj := List.mem_range.mp hj
  have z := dot_int (a := rho5) (b := dd) (ps := M.map fun row => row.getD j 0) (fun q hq => by
    obtain ⟨r, hr, rfl⟩ := List.mem_map.mp hq
    exact rowsE_row h hl hr _ (List.mem_of_getElem? (getD_get (by rw [hw r hr]; exact hj)))) (fun q hq => int_of (b := 15) (n := 20) (hx q hq).1.1 (hx q hq).2 dd_le' (by decide))
  rw [rho6_eq, Rat.mul_comm (dd : Rat)]
  exact z.mono (by rw [List.length_map]; omega)
theorem span_gok {M : List (List Rat)} {b : List Rat} {w : Nat} (h : RowsE M) (hl : M.length ≤ 5) (hw : Wide w M) (hb : b.length = w) (vb : VecB b) (w5 : w ≤ 5) : GOk 1500 (M.length + 1) (joinQ (transQ M w) b) :=
  gok_of (b := 220) (s := 90) (ρ := rho6) (joinQ_wide transQ_wide (by rw [transQ_len]; exact hb.symm)) (by rw [joinQ_len (by rw [transQ_len]; exact hb.symm), transQ_len]; omega) (by omega) (.inl (by rw [joinQ_len (by rw [transQ_len]; exact hb.symm), transQ_len]; exact w5)) (join_intG (trans_int (rowsE_int h hl) hw) transQ_wide (by rw [transQ_len]; exact hb.symm) vb) rho6_pos rho6_lt (by decide) (by decide)
theorem span_sm {M : List (List Rat)} {b : List Rat} {w : Nat} (h : RowsE M) (hl : M.length ≤ 5) (hw : Wide w M) (hb : b.length = w) (vb : VecB b) (w5 : w ≤ 5) (hn : M.length ∉ redP (joinQ (transQ M w) b) (M.length + 1)) : AllS 1500 (solQ (transQ M w) M.length b) := by
  have tl : (transQ M w).length = b.length := by rw [transQ_len]; exact hb.symm
  have g := gs_all rho6_pos (joinQ_wide transQ_wide tl) (join_intG (trans_int (rowsE_int h hl) hw) transQ_wide tl vb) (M.length + 1)
  have sz := (g.sm rho6_pos rho6_lt (m := 5) (by have := g.ch; rw [joinQ_len tl, transQ_len] at this; omega) (by decide)).2
  exact solV_sm (join_lt transQ_wide tl hn) g.asc (by decide) fun i k hi => (sz i k hi).mono (by decide)
theorem app_int {M N : List (List Rat)} {m : Nat} {d : Rat} (h : ∀ i k, IntB m (d * at2 M i k)) (h2 : ∀ i k, IntB m (d * at2 N i k)) : ∀ i k, IntB m (d * at2 (M ++ N) i k) := fun i k => by
  rw [at2_app]
  split
  · exact h i k
  · exact h2 _ k
theorem one_int {v : List Rat} {m : Nat} {d : Rat} (h : ∀ q ∈ v, IntB m (d * q)) : ∀ i k, IntB m (d * at2 [v] i k) := at2_bd fun r hr q hq => by
  rw [List.mem_singleton.mp hr] at hq
  exact h q hq
theorem int_up {M : List (List Rat)} (h : ∀ i k, IntB 178 ((rho5 : Rat) * at2 M i k)) : ∀ i k, IntB 220 ((rho6 : Rat) * at2 M i k) := fun i k => by
  rw [rho6_eq, Rat.mul_assoc]
  exact (intB_scale (b := 15) (h i k) dd_le').mono (by decide)
theorem app_gok {M : List (List Rat)} {b : List Rat} {w : Nat} (h : RowsE M) (hl : M.length ≤ 5) (hw : Wide w M) (hb : b.length = w) (vb : VecB b) (w5 : w ≤ 5) : GOk 1500 w (M ++ [b]) :=
  gok_of (b := 220) (s := 90) (ρ := rho6) (wide_app hw (one_wide hb)) (by rw [List.length_append]; simp; omega) (by omega) (.inr w5) (app_int (int_up (rowsE_int h hl)) (one_int vb)) rho6_pos rho6_lt (by decide) (by decide)
end Pn

namespace Pn
open PySem L2 Evl
/-! ### one form for a span -/
section
variable {M N : List (List Rat)} {w : Nat}
theorem redR_len (hw : Wide w M) : (redR M w).length = (redP M w).length := by
  obtain ⟨ρ, b, hρ, g⟩ := gs_ex hw w
  unfold redR redP
  rw [List.length_take, g.len, Nat.min_eq_left g.ch]
theorem redR_wide (hw : Wide w M) : Wide w (redR M w) := by
  obtain ⟨ρ, b, hρ, g⟩ := gs_ex hw w
  exact fun r hr => g.wide r (List.mem_of_mem_take hr)
theorem red_eq (hw : Wide w M) (hn : Wide w N) (h : ∀ x, KerV (at2 N) N.length w x → KerV (at2 M) M.length w x) (hp : redP M w = redP N w) : redR M w = redR N w :=
  mat_ext (w := w) (by rw [redR_len hw, redR_len hn, hp]) (redR_wide hw) (redR_wide hn) fun i j hi hj => by
    rw [redR_len hw] at hi
    rw [redR_at hi, redR_at (by rw [← hp]; exact hi)]
    exact red_same hw hn h hp hi hj
theorem ker_eq (hw : Wide w M) (hn : Wide w N) (hp : redP M w = redP N w) (hr : redR M w = redR N w) {x : Nat → Rat} (hx : KerV (at2 M) M.length w x) : KerV (at2 N) N.length w x := by
  refine ker_of_red hn fun a ha => ?_
  have ha' : a < (redP M w).length := by rw [hp]; exact ha
  rw [← ker_row hw hx ha']
  refine sumN_congr fun k _ => ?_
  rw [← redR_at (M := M) (w := w) (k := k) ha', hr, redR_at (by rw [← hp]; exact ha')]
theorem alike_iff (hw : Wide w M) (hn : Wide w N) : ((redP N w).length = (redP M w).length ∧ (redP (M ++ N) w).length = (redP M w).length) ↔ (redP M w = redP N w ∧ redR M w = redR N w) := by
  have ha := wide_app hw hn
  have k1 : ∀ x, KerV (at2 (M ++ N)) (M ++ N).length w x → KerV (at2 M) M.length w x := fun x h => (ker_app.mp h).1
  have k2 : ∀ x, KerV (at2 (M ++ N)) (M ++ N).length w x → KerV (at2 N) N.length w x := fun x h => (ker_app.mp h).2
  constructor
  · rintro ⟨h1, h2⟩
    have p1 : redP M w = redP (M ++ N) w := piv_same hw ha k1 h2.symm
    have p2 : redP N w = redP (M ++ N) w := piv_same hn ha k2 (h1.trans h2.symm)
    exact ⟨p1.trans p2.symm, (red_eq hw ha k1 p1).trans (red_eq hn ha k2 p2).symm⟩
  · rintro ⟨h1, h2⟩
    refine ⟨by rw [h1], ?_⟩
    have l1 : (redP M w).length ≤ (redP (M ++ N) w).length := piv_le hw ha k1
    have l2 : (redP (M ++ N) w).length ≤ (redP M w).length := piv_le ha hw fun x hx => ker_app.mpr ⟨hx, ker_eq hw hn h1 h2 hx⟩
    omega
end
section
variable {K : PySem.W.Frag} {C : Addr} {te ta tb tc td tl : TE} {σ : L2.St} {H : Hp} {E : XK} {D : Ends} {tz tbd : TS} {g : TG}
theorem ev_pivEq {a b : List Nat} (ha : EvP ta σ H (TupAt RI a)) (hb : EvP tb σ H (TupAt RI b)) : Ev (tOp (rEqD K) ta tb) σ H (.bl (decide (a = b))) := fun H1 e Q k =>
  ha H1 e _ fun v H2 e2 r => hb H2 (e.trans e2) _ fun w H3 e3 r2 => ⟨_, _, piv_dp (mono_tup mono_ri _ _ _ _ e3 r), piv_dp r2, pivD_shaped a, pivD_shaped b, by
    show Q (.bl (PyData.eqvAll (pivD a) (pivD b))) H3
    rw [pivD_eqv]
    exact k H3 (e2.trans e3)⟩
theorem atI_last {α : Type} {xs : List α} {v : α} (h : xs[xs.length - 1]? = some v) : atI xs (-1) = some v := by
  have hj : xs.length - 1 < xs.length := (List.getElem?_eq_some_iff.mp h).1
  have e : ixN xs.length (-1) = some (xs.length - 1) := by
    unfold ixN
    rw [if_neg (by omega), if_pos (by omega)]
    congr 1
    omega
  unfold atI
  rw [e]
  exact h
theorem evp_ixLast {α : Type} {R : α → V → Hp → Prop} {xs : List α} {x : α} (m : MonoR R) (ha : EvP ta σ H (LstAt R xs)) (hb : Ev tb σ H (.int (-1))) (hx : xs[xs.length - 1]? = some x) : EvP (tOp (rIxL K) ta tb) σ H (R x) := fun H1 e Q k =>
  ha H1 e _ fun v H2 e2 ⟨a, vs, ev, h, A⟩ => hb H2 (e.trans e2) _ fun H3 e3 => by
    subst ev
    obtain ⟨u, hu, r⟩ := A.get hx
    rw [← A.1] at hu
    exact ⟨a, vs, _, u, rfl, rfl, SqL.of (e3 _ _ h), atI_last hu, k _ _ (e2.trans e3) (m _ _ _ _ e3 r)⟩
/-- rows that are lists of their own -/
abbrev BW (st : Addr × Addr) (D : Addr) : Addr → Prop := fun b => b = st.1 ∨ b = D
abbrev RW (C : Addr) (st : Addr × Addr) (D : Addr) : List Rat → V → Hp → Prop := RowAt (BW st D) (RQ C)
theorem mono_rw {st : Addr × Addr} {D : Addr} : MonoR (RW C st D) := mono_row mono_rq
/-- numbers with a common denominator -/
def NumB (n d : Nat) (q : Rat) : Prop := IntB n ((d : Rat) * q)
def MatB (n d : Nat) (N : List (List Rat)) : Prop := ∀ r ∈ N, ∀ q ∈ r, NumB n d q
theorem numB_sm {n d m : Nat} {q : Rat} (h : NumB n d q) (d0 : 0 < d) (hd : d < 2 ^ m) (hn : n < m) : SmB m q := by
  obtain ⟨z, hz, h1⟩ := h
  refine sm_of_frac (m := 0) (y := z) (z := (d : Int)) ?_ (by omega) (Nat.lt_of_le_of_lt h1 (Nat.pow_lt_pow_right (by decide) hn)) (by rw [Int.natAbs_natCast]; exact hd)
  rw [← hz, Rat.mul_comm]
  rfl
theorem numB_up {n d e b : Nat} {q : Rat} (h : NumB n d q) (he : e ≤ 2 ^ b) : NumB (n + b) (e * d) q := by
  unfold NumB
  rw [Rat.natCast_mul, Rat.mul_assoc]
  exact intB_scale h he
theorem numB_neg {n d : Nat} {q : Rat} (h : NumB n d q) : NumB n d (-q) := by
  obtain ⟨z, hz, h1⟩ := h
  exact ⟨-z, by rw [Rat.intCast_neg, ← hz]; grind, by rw [Int.natAbs_neg]; exact h1⟩
theorem numB_add {n d : Nat} {p q : Rat} (h : NumB n d p) (h2 : NumB n d q) : NumB (n + 1) d (p + q) := by
  obtain ⟨z, hz, h1⟩ := h
  obtain ⟨y, hy, h3⟩ := h2
  refine ⟨z + y, by rw [Rat.intCast_add, ← hz, ← hy]; grind, ?_⟩
  have : (z + y).natAbs ≤ z.natAbs + y.natAbs := by omega
  rw [Nat.pow_succ]
  omega
theorem numB_sub {n d : Nat} {p q : Rat} (h : NumB n d p) (h2 : NumB n d q) : NumB (n + 1) d (p - q) := by
  have e : p - q = p + -q := by grind
  rw [e]
  exact numB_add h (numB_neg h2)
theorem numB_mul {n m d e : Nat} {p q : Rat} (h : NumB n d p) (h2 : NumB m e q) : NumB (n + m) (d * e) (p * q) := by
  obtain ⟨z, hz, h1⟩ := h
  obtain ⟨y, hy, h3⟩ := h2
  refine ⟨z * y, by rw [Rat.intCast_mul, ← hz, ← hy, Rat.natCast_mul]; grind, ?_⟩
  rw [Int.natAbs_mul, Nat.pow_add]
  exact Nat.mul_le_mul h1 h3
theorem NumB.mono {n m d : Nat} {q : Rat} (h : NumB n d q) (k : n ≤ m) : NumB m d q := IntB.mono h k
/-- behind i steps -/
def rhoW (i : Nat) : Nat := 60 ^ i * rho5
theorem rhoW_succ (i : Nat) : rhoW (i + 1) = 60 * rhoW i := by unfold rhoW; rw [Nat.pow_succ]; rw [Nat.mul_comm (60 ^ i) 60, Nat.mul_assoc]
theorem rhoW_pos (i : Nat) : 0 < rhoW i := Nat.mul_pos (Nat.pow_pos (by decide)) rho5_pos
theorem rhoW_lt {i : Nat} (h : i ≤ 8) : rhoW i < 2 ^ 123 := by
  unfold rhoW
  have h1 : 60 ^ i ≤ 60 ^ 8 := Nat.pow_le_pow_right (by decide) h
  have h2 : 60 ^ 8 ≤ 2 ^ 48 := by decide
  have h3 : (2 : Nat) ^ 123 = 2 ^ 48 * 2 ^ 75 := by rw [← Nat.pow_add]
  rw [h3]
  exact Nat.mul_lt_mul_of_le_of_lt (Nat.le_trans h1 h2) rho5_lt (Nat.pow_pos (by decide))
/-- the factor of a step -/
theorem fac_num {d e : Int} (d0 : 0 ≤ d) (d9 : d < 9) (e0 : 0 ≤ e) (e5 : e < 5) : NumB 10 60 (Rat.divInt (1 + d) (1 + e)) := by
  have hd : (Rat.divInt (1 + d) (1 + e)).den ∣ 60 := Nat.dvd_trans (den_divInt_dvd _ (by omega)) (by
    obtain ⟨k, rfl⟩ : ∃ k : Nat, e = (k : Int) := ⟨e.toNat, (Int.toNat_of_nonneg e0).symm⟩
    have hk : k < 5 := by omega
    have : (1 + (k : Int)).natAbs = 1 + k := by omega
    rw [this]
    match k, hk with
    | 0, _ => exact ⟨60, rfl⟩
    | 1, _ => exact ⟨30, rfl⟩
    | 2, _ => exact ⟨20, rfl⟩
    | 3, _ => exact ⟨15, rfl⟩
    | 4, _ => exact ⟨12, rfl⟩)
  exact int_of (b := 6) (n := 4) (Nat.lt_of_le_of_lt (num_le _ _) (by omega)) hd (by decide) (by decide)
theorem fac_sm {d e : Int} (d0 : 0 ≤ d) (d9 : d < 9) (e0 : 0 ≤ e) (e5 : e < 5) : SmB 4 (Rat.divInt (1 + d) (1 + e)) := smB_divN (by omega) (by omega) (by omega)
def spWorked (C : Addr) : Sp := fun vs H Q _ => ∃ (st : Addr × Addr) (c : Nat) (x : V) (M : List (List Rat)) (w : Nat), vs = [.ref st.1, x, .int (w : Int)] ∧ (St3 st c H ∧ c + 100 < cMax) ∧ MatAt C M x H ∧ Wide w M ∧ (RowsE M ∧ 0 < M.length ∧ M.length ≤ 4 ∧ w ≤ 5) ∧
  ∀ N D vs' H', H' D = some (.lst vs') → D ≠ st.1 → AllR (RW C st D) N vs' H' → (0 < N.length ∧ N.length ≤ 5) → Wide w N → MatB 280 (rhoW 8) N → St3 st (c + 50) H' → FrS st H H' → Q (.ref D) H'
theorem matB_mono {n m d : Nat} {N : List (List Rat)} (h : MatB n d N) (k : n ≤ m) : MatB m d N := fun r hr q hq => (h r hr q hq).mono k
theorem matB_step {i : Nat} {N : List (List Rat)} (h : MatB (178 + 12 * i) (rhoW i) N) : MatB (178 + 12 * (i + 1)) (rhoW (i + 1)) N := fun r hr q hq => by
  rw [rhoW_succ]
  exact (numB_up (h r hr q hq) (show 60 ≤ 2 ^ 12 by decide)).mono (by omega)
theorem matB_set {n d j : Nat} {N : List (List Rat)} {r : List Rat} (h : MatB n d N) (hr : ∀ q ∈ r, NumB n d q) : MatB n d (N.set j r) := fun x hx q hq => by
  rcases List.mem_or_eq_of_mem_set hx with e | e
  · exact h x e q hq
  · rw [e] at hq; exact hr q hq
theorem wide_set {w j : Nat} {N : List (List Rat)} {r : List Rat} (h : Wide w N) (hr : r.length = w) : Wide w (N.set j r) := fun x hx => by
  rcases List.mem_or_eq_of_mem_set hx with e | e
  · exact h x e
  · rw [e]; exact hr
/-- the outer list changed -/
theorem rw_upd {st : Addr × Addr} {D : Addr} {N : List (List Rat)} {vs ws zs : List V} {H : Hp} (hD : H D = some (.lst ws)) (s : ∃ xs, H st.1 = some (.lst xs)) (A : AllR (RW C st D) N vs H) : AllR (RW C st D) N vs (upd H D (.lst zs)) :=
  A.kept (B := BW st D) (kept_row kept_rq) (fun b hb => hb.elim (fun e => by rw [e]; exact s) (fun e => by rw [e]; exact ⟨_, hD⟩)) (fun a o n ha => (upd_ne (fun e => n (.inr e))).trans ha)
theorem rw_upd1 {st : Addr × Addr} {D : Addr} {r : List Rat} {v : V} {ws zs : List V} {H : Hp} (hD : H D = some (.lst ws)) (s : ∃ xs, H st.1 = some (.lst xs)) (A : RW C st D r v H) : RW C st D r v (upd H D (.lst zs)) :=
  kept_row kept_rq _ _ _ _ (fun b hb => hb.elim (fun e => by rw [e]; exact s) (fun e => by rw [e]; exact ⟨_, hD⟩)) (fun a o n ha => (upd_ne (fun e => n (.inr e))).trans ha) A
theorem rw_frS {st : Addr × Addr} {c : Nat} {D : Addr} {N : List (List Rat)} {vs ws : List V} {H H' : Hp} (hD : H D = some (.lst ws)) (s : St3 st c H) (f : FrS st H H') (A : AllR (RW C st D) N vs H) : AllR (RW C st D) N vs H' :=
  A.kept (B := BW st D) (kept_row kept_rq) (fun b hb => hb.elim (fun e => by rw [e]; exact s.lst) (fun e => by rw [e]; exact ⟨_, hD⟩)) (fun a o n ha => f a o (fun e => n (.inl e)) ha)
theorem rw_new {st : Addr × Addr} {c : Nat} {D : Addr} {r : List Rat} {v : V} {H H' : Hp} {ws : List V} (hD : H D = some (.lst ws)) (s : St3 st c H) (h : NewIn (LstAt (RQ C) r) H v H') : RW C st D r v H' := by
  obtain ⟨⟨a, us, e, h1, h2⟩, p, e2, h3, _⟩ := h
  rw [e] at e2
  cases e2
  exact ⟨a, us, e, fun z => z.elim (fun z => s.fresh h3 z) (fun z => by rw [z, hD] at h3; cases h3), h1, h2⟩
theorem rw_lst {st : Addr × Addr} {D : Addr} {N : List (List Rat)} {vs : List V} {H : Hp} (h : AllR (RW C st D) N vs H) : AllR (RL C) N vs H := ⟨h.1, fun i x v h1 h2 => (h.2 i x v h1 h2).lst⟩
/-- an own operator on what was evaluated before -/
theorem r_own {p q : Rat} {x y : V} {Q : VK} {ok : Rat → Rat → Prop} {f : Rat → Rat → Rat} (hx : RatAt C H x p) (hy : RatAt C H y q) (o : ok p q) (k : ∀ r H2, Ex H H2 → RatAt C H2 r (f p q) → Q r H2) : rOwn C (spBin C ok f) E x y H Q := by
  obtain ⟨a, dx, rfl, h1⟩ := id hx
  obtain ⟨b, dy, rfl, h2⟩ := id hy
  exact ⟨a, b, dx, dy, _, _, rfl, rfl, h1, h2, _, _, p, q, rfl, hx, hy, o, fun r H4 e4 _ hr => k r H4 e4 hr⟩
/-- x[j] = v -/
theorem g_set {l : Addr} {xs : List V} {j : Nat} {v : V} {K2 : L2.St → Hp → Prop} (hl : H l = some (.lst xs)) (hv : ∀ H1, Ex H H1 → Ev ta σ H1 (.ref l)) (hi : ∀ H1, Ex H H1 → Ev tb σ H1 (.int (j : Int))) (hj : j < xs.length) (k : ∀ H1, Ex H H1 → K2 σ (upd H1 l (.lst (xs.set j v)))) : gSub ta tb rSetL v σ H K2 :=
  hv H (Ex.refl _) H (Ex.refl _) _ fun H2 e2 => hi H2 e2 H2 (Ex.refl _) _ fun H3 e3 => ⟨l, xs, (j : Int), j, rfl, rfl, (e2.trans e3) _ _ hl, ix_ok hj, k H3 (e2.trans e3)⟩
/-- one number of one row is another one: wherever the row stands -/
theorem rw_changed {st : Addr × Addr} {D p : Addr} {N : List (List Rat)} {vs us : List V} {n d w j : Nat} {q : Rat} {v : V} (A : AllR (RW C st D) N vs H) (hp : H p = some (.lst us)) (hv : RatAt C H v q) (hN : Wide w N) (hB : MatB n d N) (hq : NumB n d q) :
    ∃ N', AllR (RW C st D) N' vs (upd H p (.lst (us.set j v))) ∧ N'.length = N.length ∧ Wide w N' ∧ MatB n d N' := by
  have kq : ∀ {x : Rat} {u : V}, RatAt C H u x → RatAt C (upd H p (.lst (us.set j v))) u x := fun {x u} h => kept_rq (B := fun b => b = p) x u _ _ (fun b hb => ⟨us, by rw [hb]; exact hp⟩) (fun a o n ha => (upd_ne n).trans ha) h
  refine ⟨(List.range N.length).map fun i => if vs.getD i .non = .ref p then (N.getD i []).set j q else N.getD i [], ⟨by rw [List.length_map, List.length_range]; exact A.1, fun i r u h1 h2 => ?_⟩, by rw [List.length_map, List.length_range], fun r hr => ?_, fun r hr y hy => ?_⟩
  · obtain ⟨k, hk, e⟩ := map_get h1
    obtain ⟨rfl, hi⟩ := range_get hk
    have eu : vs.getD k .non = u := by rw [List.getD_eq_getElem?_getD, h2]; rfl
    rw [eu] at e
    obtain ⟨a, ws, ea, nb, ha, B⟩ := A.2 k _ u (getD_get (d := []) hi) h2
    by_cases c : u = .ref p
    · rw [if_pos c] at e
      rw [c] at ea
      cases ea
      rw [hp] at ha
      cases ha
      subst e
      exact ⟨p, us.set j v, c, nb, upd_same, allR_setG (k := j) ⟨B.1, fun i x v h1 h2 => kq (B.2 i x v h1 h2)⟩ (kq hv)⟩
    · rw [if_neg c] at e
      subst e
      refine ⟨a, ws, ea, nb, (upd_ne (fun z => c (by rw [ea, z]))).trans ha, ⟨B.1, fun i x v h1 h2 => kq (B.2 i x v h1 h2)⟩⟩
  · obtain ⟨k, hk, rfl⟩ := List.mem_map.mp hr
    have hi := List.mem_range.mp hk
    split
    · rw [List.length_set]; exact wide_get hN hi
    · exact wide_get hN hi
  · obtain ⟨k, hk, rfl⟩ := List.mem_map.mp hr
    have hi := List.mem_range.mp hk
    have hm := List.mem_of_getElem? (getD_get (xs := N) (d := []) hi)
    split at hy
    · rcases List.mem_or_eq_of_mem_set hy with e | e
      · exact hB _ hm _ e
      · rw [e]; exact hq
    · exact hB _ hm _ hy
theorem ev_ixI2 {xs : List V} {i : Nat} {v : V} {L : Addr} (hl : H L = some (.lst xs)) (hv : xs[i]? = some v) (h5 : σ[5]? = some (some (.ref L))) (hi : Ev tb σ H (.int (i : Int))) : Ev (tOp (rIxL K) (tVar 5) tb) σ H v := fun H1 e Q k =>
  ⟨_, h5, hi H1 e _ fun H2 e2 => ⟨L, xs, (i : Int), v, rfl, rfl, SqL.of (e2 _ _ (e _ _ hl)), atI_nat hv, k H2 e2⟩⟩
def rhoX : Nat := dd * rhoW 8
theorem rhoX_pos : 0 < rhoX := Nat.mul_pos (by decide) (rhoW_pos 8)
theorem rhoX_lt : rhoX < 2 ^ 138 := by
  unfold rhoX
  have h3 : (2 : Nat) ^ 138 = 2 ^ 15 * 2 ^ 123 := by rw [← Nat.pow_add]
  rw [h3]
  exact Nat.mul_lt_mul_of_le_of_lt dd_le' (rhoW_lt (by decide)) (Nat.pow_pos (by decide))
theorem matX {N : List (List Rat)} (h : MatB 280 (rhoW 8) N) : MatB 299 rhoX N := fun r hr q hq => (numB_up (h r hr q hq) dd_le').mono (by decide)
theorem rowsX {M : List (List Rat)} (h : RowsE M) (hl : M.length ≤ 5) : MatB 299 rhoX M := fun r hr q hq => by
  have z := rowsE_row h hl hr q hq
  have e : rhoX = (dd * 60 ^ 8) * rho5 := by unfold rhoX rhoW; rw [Nat.mul_assoc]
  rw [e]
  exact (numB_up (d := rho5) (b := 63) z (by decide)).mono (by decide)
theorem gokX {M : List (List Rat)} {w : Nat} (h : MatB 299 rhoX M) (hw : Wide w M) (hl : M.length ≤ 100) (w5 : w ≤ 5) : GOk 2000 w M :=
  gok_of (b := 299) (s := 138) (ρ := rhoX) hw hl (by omega) (.inr w5) (at2_bd h) rhoX_pos rhoX_lt (by decide) (by decide)
theorem gokY {M : List (List Rat)} {w : Nat} (h : MatB 300 rhoX M) (hw : Wide w M) (hl : M.length ≤ 100) (w5 : w ≤ 5) : GOk 2000 w M :=
  gok_of (b := 300) (s := 138) (ρ := rhoX) hw hl (by omega) (.inr w5) (at2_bd h) rhoX_pos rhoX_lt (by decide) (by decide)
theorem matB_app {n d : Nat} {M N : List (List Rat)} (h : MatB n d M) (h2 : MatB n d N) : MatB n d (M ++ N) := fun r hr => (List.mem_append.mp hr).elim (h r) (h2 r)
end
end Pn

namespace Pn
/-! ### the pseudo-inverse -/
/-- the four conditions, M with h rows and w columns -/
structure Pen (h w : Nat) (M P : M2) : Prop where
  a : mulF h (mulF w M P) M = M
  b : mulF w (mulF h P M) P = P
  c : trF (mulF w M P) = mulF w M P
  d : trF (mulF h P M) = mulF h P M
/-- only one matrix meets them -/
theorem Pen.uniq {h w : Nat} {M P Q : M2} (p : Pen h w M P) (q : Pen h w M Q) : P = Q := by
  have l : mulF w M P = mulF w M Q := by
    have e1 : mulF w M P = mulF h (mulF w M Q) (mulF w M P) := by
      rw [← mulF_assoc, q.a]
    have e2 := congrArg trF e1
    rw [p.c, trF_mul h, p.c, q.c] at e2
    have e3 : mulF h (mulF w M P) (mulF w M Q) = mulF w M Q := by rw [← mulF_assoc, p.a]
    rw [e3] at e2
    exact e2
  have r : mulF h P M = mulF h Q M := by
    have e1 : mulF h P M = mulF w (mulF h P M) (mulF h Q M) := by
      rw [mulF_assoc, ← mulF_assoc (A := M), q.a]
    have e2 := congrArg trF e1
    rw [p.d, trF_mul w, p.d, q.d] at e2
    have e3 : mulF w (mulF h Q M) (mulF h P M) = mulF h Q M := by rw [mulF_assoc, ← mulF_assoc (A := M), p.a]
    rw [e3] at e2
    exact e2
  rw [← p.b, r, mulF_assoc, l, ← mulF_assoc, q.b]
theorem Pen.tr {h w : Nat} {M P : M2} (p : Pen h w M P) : Pen w h (trF M) (trF P) := by
  refine ⟨?_, ?_, ?_, ?_⟩
  · rw [← trF_mul, ← trF_mul, ← mulF_assoc, p.a]
  · rw [← trF_mul, ← trF_mul, ← mulF_assoc, p.b]
  · rw [← trF_mul, p.d, p.d]
  · rw [← trF_mul, p.c, p.c]
theorem Pen.sym {n : Nat} {M P : M2} (p : Pen n n M P) (s : trF M = M) : trF P = P := by
  have z := p.tr
  rw [s] at z
  exact z.uniq p
/-- out of a factoring and inverses of both squares -/
theorem pen_of {h w r : Nat} {M C F X Y : M2} (hM : M = mulF r C F) (x1 : mulF r (mulF w F (trF F)) X = idF r) (y2 : mulF r Y (mulF h (trF C) C) = idF r)
    (sx : trF X = X) (sy : trF Y = Y) (vX : ∀ i j, r ≤ i → X i j = 0) (vY : ∀ i j, r ≤ i → Y i j = 0) (cF : ∀ i j, r ≤ i → F i j = 0) : Pen h w M (mulF r (trF F) (mulF r X (mulF r Y (trF C)))) := by
  have kY : ∀ Z, mulF r Y (mulF h (trF C) (mulF r C Z)) = mulF r (idF r) Z := fun Z => by rw [← y2, mulF_assoc, mulF_assoc]
  have kX : ∀ Z, mulF w F (mulF r (trF F) (mulF r X Z)) = mulF r (idF r) Z := fun Z => by rw [← x1, mulF_assoc, mulF_assoc]
  have iY : mulF r (idF r) (mulF r Y (trF C)) = mulF r Y (trF C) := id_mulF fun i j hi => sumN_zero fun k hk => by rw [vY i k hi, Rat.zero_mul]
  have iF : mulF r (idF r) F = F := id_mulF cF
  have l : mulF w M (mulF r (trF F) (mulF r X (mulF r Y (trF C)))) = mulF r C (mulF r Y (trF C)) := by
    rw [hM, mulF_assoc, kX, iY]
  have rr : mulF h (mulF r (trF F) (mulF r X (mulF r Y (trF C)))) M = mulF r (trF F) (mulF r X F) := by
    rw [hM, mulF_assoc, mulF_assoc, mulF_assoc, kY, iF]
  refine ⟨?_, ?_, ?_, ?_⟩
  · rw [l, hM, mulF_assoc, mulF_assoc, kY, iF]
  · rw [rr, mulF_assoc, mulF_assoc, kX, iY]
  · rw [l, trF_mul, trF_mul, sy, trF_trF, mulF_assoc]
  · rw [rr, trF_mul, trF_mul, sx, trF_trF, mulF_assoc]
/-! ### inverses by elimination -/
/-- the square matrix with the identity beside it -/
def besideQ (G : List (List Rat)) : List (List Rat) := List.zipWith (fun a b => a ++ b) G (idQ G.length)
def invQ (G : List (List Rat)) : List (List Rat) := (redR (besideQ G) (2 * G.length)).map fun row => row.drop G.length
theorem idQ_len (n : Nat) : (idQ n).length = n := by unfold idQ; rw [List.length_map, List.length_range]
theorem idQ_wide (n : Nat) : Wide n (idQ n) := fun r hr => by
  unfold idQ at hr
  obtain ⟨k, _, rfl⟩ := List.mem_map.mp hr
  exact unitQ_len _ _
theorem idQ_at (n : Nat) : at2 (idQ n) = idF n := by
  funext i j
  unfold idF
  by_cases hi : i < n
  · show ((idQ n).getD i []).getD j 0 = _
    unfold idQ
    rw [getD_map_range hi]
    by_cases hj : j < n
    · rw [unitQ_getD hj]
      by_cases e : i = j
      · rw [if_pos e.symm, if_pos ⟨e, hi⟩]
      · rw [if_neg (fun z => e z.symm), if_neg (fun z => e z.1)]
    · rw [List.getD_eq_getElem?_getD, List.getElem?_eq_none (by rw [unitQ_len]; omega), if_neg (by omega)]
      rfl
  · rw [at2_ge (by rw [idQ_len]; omega), if_neg (by omega)]
section
variable {G : List (List Rat)} {n : Nat}
theorem beside_len : (besideQ G).length = G.length := by unfold besideQ; rw [List.length_zipWith, idQ_len, Nat.min_self]
theorem beside_get {i : Nat} (hi : i < G.length) : (besideQ G).getD i [] = G.getD i [] ++ (idQ G.length).getD i [] := by
  unfold besideQ
  rw [List.getD_eq_getElem?_getD, List.getElem?_zipWith, getD_get (d := []) hi, getD_get (xs := idQ G.length) (d := []) (by rw [idQ_len]; exact hi)]
  rfl
theorem beside_wide (hw : Wide G.length G) : Wide (2 * G.length) (besideQ G) := wide_of fun i hi => by
  rw [beside_len] at hi
  rw [beside_get hi, List.length_append, wide_get hw hi, wide_get (idQ_wide _) (by rw [idQ_len]; exact hi)]
  omega
theorem beside_at (hw : Wide G.length G) {i k : Nat} (hi : i < G.length) : at2 (besideQ G) i k = if k < G.length then at2 G i k else idF G.length i (k - G.length) := by
  show ((besideQ G).getD i []).getD k 0 = _
  rw [beside_get hi, List.getD_eq_getElem?_getD]
  have l := wide_get hw hi
  by_cases h1 : k < G.length
  · rw [if_pos h1, List.getElem?_append_left (by omega), ← List.getD_eq_getElem?_getD]
    rfl
  · rw [if_neg h1, List.getElem?_append_right (by omega), l, ← List.getD_eq_getElem?_getD, ← idQ_at]
    rfl
/-- a matrix that makes no vector but 0 to 0 has the pivots 0, 1, .. -/
theorem beside_piv (hw : Wide G.length G) (hk : ∀ x : Nat → Rat, (∀ i, i < G.length → sumN G.length (fun k => at2 G i k * x k) = 0) → ∀ k, k < G.length → x k = 0) : redP (besideQ G) (2 * G.length) = List.range G.length := by
  have bw := beside_wide hw
  have mem : ∀ k, k < G.length → k ∈ redP (besideQ G) (2 * G.length) := fun k hkn => by
    by_cases c : k ∈ redP (besideQ G) (2 * G.length)
    · exact c
    · obtain ⟨x, h1, h2, h3⟩ := (free_iff bw (by omega)).mp c
      have z := hk x (fun i hi => by
        have e := h1 i (by rw [beside_len]; exact hi)
        have s : sumN (2 * G.length) (fun k => at2 (besideQ G) i k * x k) = sumN G.length (fun k => at2 G i k * x k) := by
          have z : ∀ m, sumN (G.length + m) (fun k => at2 (besideQ G) i k * (if k < 2 * G.length then x k else 0)) = sumN G.length (fun k => at2 G i k * x k) := by
            intro m
            induction m with
            | zero => exact sumN_congr fun q hq => by rw [beside_at hw hi, if_pos (by omega), if_pos (by omega)]
            | succ m ih =>
              rw [← Nat.add_assoc, sumN_succ, ih]
              have : (if G.length + m < 2 * G.length then x (G.length + m) else 0) = 0 := by
                split
                · exact h3 _ (by omega) (by omega)
                · rfl
              rw [this]
              grind
          have y := z G.length
          rw [← y, show G.length + G.length = 2 * G.length by omega]
          exact sumN_congr fun q hq => by rw [if_pos hq]
        rw [← s]
        exact e) k hkn
      rw [z] at h2
      exact absurd h2 (by decide)
  have asc := piv_asc bw
  have ra : (List.range G.length).Pairwise (· < ·) := List.pairwise_lt_range
  have q := asc_len (List.range G.length) _ ra asc fun k hk => mem k (List.mem_range.mp hk)
  have le : (gaussQ (besideQ G) (2 * G.length)).2.length ≤ G.length := by
    obtain ⟨_, _, _, g⟩ := gs_ex bw (2 * G.length)
    have := g.ch
    rw [beside_len] at this
    exact this
  rw [List.length_range] at q
  exact (q.2 (Nat.le_antisymm q.1 le)).symm
end
end Pn

namespace Pn
/-! ### a term is added or removed -/
abbrev V1 := Nat → Rat
def mv (n : Nat) (A : M2) (x : V1) : V1 := fun i => sumN n fun k => A i k * x k
def dotF (n : Nat) (x y : V1) : Rat := sumN n fun k => x k * y k
def addR (B : M2) (β : Rat) (u v : V1) : M2 := fun i j => B i j + β * (u i * v j)
theorem mul_addR (n : Nat) (A B : M2) (β : Rat) (u v : V1) : mulF n A (addR B β u v) = addR (mulF n A B) β (mv n A u) v := by
  funext i j
  show sumN n (fun k => A i k * (B k j + β * (u k * v j))) = sumN n (fun k => A i k * B k j) + β * (sumN n (fun k => A i k * u k) * v j)
  rw [← sumN_mulR, ← sumN_mul, ← sumN_add]
  exact sumN_congr fun k _ => by grind
theorem addR_mul (n : Nat) (A B : M2) (α : Rat) (x y : V1) : mulF n (addR A α x y) B = addR (mulF n A B) α x (mv n (trF B) y) := by
  funext i j
  show sumN n (fun k => (A i k + α * (x i * y k)) * B k j) = sumN n (fun k => A i k * B k j) + α * (x i * sumN n (fun k => B k j * y k))
  rw [← sumN_mul, ← sumN_mul, ← sumN_add]
  exact sumN_congr fun k _ => by grind
theorem mv_addR (n : Nat) (B : M2) (β : Rat) (u v x : V1) : mv n (addR B β u v) x = fun i => mv n B x i + β * (u i * dotF n v x) := by
  funext i
  show sumN n (fun k => (B i k + β * (u i * v k)) * x k) = sumN n (fun k => B i k * x k) + β * (u i * sumN n (fun k => v k * x k))
  rw [← sumN_mul, ← sumN_mul, ← sumN_add]
  exact sumN_congr fun k _ => by grind
theorem mv_mul (n m : Nat) (A B : M2) (x : V1) : mv n (mulF m A B) x = mv m A (mv n B x) := by
  funext i
  show sumN n (fun k => sumN m (fun l => A i l * B l k) * x k) = sumN m (fun l => A i l * sumN n (fun k => B l k * x k))
  have e1 : sumN n (fun k => sumN m (fun l => A i l * B l k) * x k) = sumN n (fun k => sumN m fun l => A i l * B l k * x k) := sumN_congr fun k _ => by rw [← sumN_mulR]
  rw [e1, sumN_swap]
  refine sumN_congr fun l _ => ?_
  rw [← sumN_mul]
  exact sumN_congr fun k _ => by grind
theorem tr_addR (B : M2) (β : Rat) (u v : V1) : trF (addR B β u v) = addR (trF B) β v u := by
  funext i j
  show B j i + β * (u j * v i) = B j i + β * (v i * u j)
  grind
theorem dotF_comm (n : Nat) (x y : V1) : dotF n x y = dotF n y x := sumN_congr fun k _ => Rat.mul_comm _ _
theorem dotF_mv (n : Nat) (A : M2) (x y : V1) : dotF n x (mv n A y) = dotF n (mv n (trF A) x) y := by
  show sumN n (fun i => x i * sumN n (fun k => A i k * y k)) = sumN n (fun k => sumN n (fun i => A i k * x i) * y k)
  have e1 : sumN n (fun i => x i * sumN n (fun k => A i k * y k)) = sumN n (fun i => sumN n fun k => x i * (A i k * y k)) := sumN_congr fun k _ => by rw [← sumN_mul]
  rw [e1, sumN_swap]
  refine sumN_congr fun k _ => ?_
  rw [← sumN_mulR]
  exact sumN_congr fun i _ => by grind
theorem mv_smul (n : Nat) (A : M2) (a : Rat) (x : V1) : mv n A (fun k => a * x k) = fun i => a * mv n A x i := by
  funext i
  show sumN n (fun k => A i k * (a * x k)) = a * sumN n (fun k => A i k * x k)
  rw [← sumN_mul]
  exact sumN_congr fun k _ => by grind
theorem dotF_smul (n : Nat) (a : Rat) (x y : V1) : dotF n (fun k => a * x k) y = a * dotF n x y := by
  show sumN n (fun k => a * x k * y k) = a * sumN n (fun k => x k * y k)
  rw [← sumN_mul]
  exact sumN_congr fun k _ => by grind
section
variable {n : Nat} {M P : M2} {a : V1}
theorem Pen.comm (p : Pen n n M P) (sM : trF M = M) : mulF n P M = mulF n M P := by
  have sP := p.sym sM
  have z := p.c
  rw [trF_mul, sM, sP] at z
  exact z
/-- the first and the third case: the row is in the span -/
theorem up_in {α : Rat} (p : Pen n n M P) (sM : trF M = M) (hg : mv n M (mv n P a) = a) (h1 : 1 + α * dotF n a (mv n P a) ≠ 0) : Pen n n (addR M α a a) (addR P (-(α / (1 + α * dotF n a (mv n P a)))) (mv n P a) (mv n P a)) := by
  have sP := p.sym sM
  have cm := p.comm sM
  generalize hs : dotF n a (mv n P a) = s at *
  generalize hgg : mv n P a = g at *
  have hb : -(α / (1 + α * s)) + α + α * (-(α / (1 + α * s))) * s = 0 := by
    have z : (1 + α * s) * (α / (1 + α * s)) = α := by
      have y := Rat.mul_inv_cancel _ h1
      rw [Rat.div_def]
      grind
    grind
  generalize -(α / (1 + α * s)) = β at *
  have L : mulF n (addR M α a a) (addR P β g g) = mulF n M P := by
    rw [addR_mul, mul_addR, tr_addR, sP, mv_addR, hg, hgg]
    funext i j
    have e : dotF n g a = s := by rw [dotF_comm]; exact hs
    show mulF n M P i j + β * (a i * g j) + α * (a i * (g j + β * (g j * dotF n g a))) = mulF n M P i j
    rw [e]
    grind
  have R : mulF n (addR P β g g) (addR M α a a) = mulF n M P := by
    have z := congrArg trF L
    rw [trF_mul, tr_addR, tr_addR, sP, sM, p.c] at z
    exact z
  have pg : mv n (mulF n M P) g = g := by rw [← cm, mv_mul, hg, hgg]
  refine ⟨?_, ?_, by rw [L]; exact p.c, by rw [R]; exact p.c⟩
  · rw [L, mul_addR, p.a, mv_mul, hgg, hg]
  · rw [R, mul_addR, ← cm, p.b, cm, pg]
/-- what is left of a row when its part in the span is taken: facts -/
theorem rest_facts (p : Pen n n M P) (sM : trF M = M) : (∀ i, mv n M (fun k => a k - mv n M (mv n P a) k) i = 0) ∧ (∀ i, mv n P (fun k => a k - mv n M (mv n P a) k) i = 0) := by
  have cm := p.comm sM
  have lin : ∀ (A : M2) (x y : V1) i, mv n A (fun k => x k - y k) i = mv n A x i - mv n A y i := fun A x y i => by
    show sumN n (fun k => A i k * (x k - y k)) = sumN n (fun k => A i k * x k) - sumN n (fun k => A i k * y k)
    have z := sumN_lin n 1 (-1) (fun k => A i k * x k) (fun k => A i k * y k)
    have e : sumN n (fun k => A i k * (x k - y k)) = sumN n (fun k => 1 * (A i k * x k) + -1 * (A i k * y k)) := sumN_congr fun k _ => by grind
    rw [e, z]
    grind
  refine ⟨fun i => ?_, fun i => ?_⟩
  · rw [lin]
    have e : mv n M (mv n M (mv n P a)) = mv n M a := by
      rw [← mv_mul n n M P, ← cm, ← mv_mul, ← mulF_assoc, p.a]
    have e2 : mv n M (fun k => mv n M (mv n P a) k) = mv n M a := e
    rw [e2]
    grind
  · rw [lin]
    have e : mv n P (mv n M (mv n P a)) = mv n P a := by
      rw [← mv_mul (n := n) (m := n) (A := M), ← mv_mul, ← mulF_assoc, p.b]
    have e2 : mv n P (fun k => mv n M (mv n P a) k) = mv n P a := e
    rw [e2]
    grind
/-- the second case: the rank grows -/
theorem up_out {w : Rat} {u : V1} (p : Pen n n M P) (sM : trF M = M) (hw : w ≠ 0) (hu : u = fun k => a k - mv n M (mv n P a) k) (hc : dotF n u u ≠ 0) :
    Pen n n (addR M w a a) (addR (addR (addR P (-1) (fun k => 1 / dotF n u u * u k) (mv n P a)) (-1) (mv n P a) (fun k => 1 / dotF n u u * u k)) (1 / w + dotF n a (mv n P a)) (fun k => 1 / dotF n u u * u k) (fun k => 1 / dotF n u u * u k)) := by
  have sP := p.sym sM
  have cm := p.comm sM
  obtain ⟨f1, f2⟩ := rest_facts (a := a) p sM
  rw [← hu] at f1 f2
  have Mu : mv n M u = fun _ => 0 := funext f1
  have Pu : mv n P u = fun _ => 0 := funext f2
  have gu : dotF n (mv n P a) u = 0 := by
    have z := dotF_mv n (trF P) a u
    rw [trF_trF, sP, Pu] at z
    rw [← z]
    exact sumN_zero fun k _ => Rat.mul_zero _
  have au : dotF n a u = dotF n u u := by
    have e : dotF n u u = dotF n a u - dotF n (mv n M (mv n P a)) u := by
      have z := sumN_lin n 1 (-1) (fun k => a k * u k) (fun k => mv n M (mv n P a) k * u k)
      have e1 : dotF n u u = sumN n (fun k => 1 * (a k * u k) + -1 * (mv n M (mv n P a) k * u k)) := by
        show sumN n (fun k => u k * u k) = _
        refine sumN_congr fun k _ => ?_
        have ek : u k = a k - mv n M (mv n P a) k := by rw [hu]
        grind
      rw [e1, z]
      show 1 * dotF n a u + -1 * dotF n (mv n M (mv n P a)) u = _
      grind
    have z : dotF n (mv n M (mv n P a)) u = 0 := by
      have y := dotF_mv n (trF M) (mv n P a) u
      rw [trF_trF, sM, Mu] at y
      rw [← y]
      exact sumN_zero fun k _ => Rat.mul_zero _
    rw [z] at e
    grind
  generalize hs : dotF n a (mv n P a) = s at *
  generalize hgg : mv n P a = g at *
  have ee : 1 / dotF n u u * dotF n u u = 1 := by rw [Rat.div_def, Rat.one_mul, Rat.inv_mul_cancel _ hc]
  generalize hE : 1 / dotF n u u = E at *
  generalize hcv : (fun k => E * u k) = c at *
  have Mc : mv n M c = fun _ => 0 := by rw [← hcv, mv_smul, Mu]; funext i; exact Rat.mul_zero _
  have Pc : mv n P c = fun _ => 0 := by rw [← hcv, mv_smul, Pu]; funext i; exact Rat.mul_zero _
  have ca : dotF n c a = 1 := by rw [← hcv, dotF_smul, dotF_comm, au]; exact ee
  have cu : dotF n c u = 1 := by rw [← hcv, dotF_smul]; exact ee
  have ga : dotF n g a = s := by rw [dotF_comm]; exact hs
  have pg : mv n (mulF n P M) g = g := by rw [mv_mul, ← hgg, ← mv_mul (A := M), ← mv_mul, ← mulF_assoc, p.b]
  have hk : w * (1 / w + s) = 1 + w * s := by
    have : w * (1 / w) = 1 := by rw [Rat.div_def, Rat.one_mul, Rat.mul_inv_cancel _ hw]
    grind
  generalize 1 / w + s = κ at *
  have P'a : mv n (addR (addR (addR P (-1) c g) (-1) g c) κ c c) a = fun i => (κ - s) * c i := by
    rw [mv_addR, mv_addR, mv_addR, hgg, ca, ga]
    funext i
    show g i + -1 * (c i * s) + -1 * (g i * 1) + κ * (c i * 1) = _
    grind
  have P'u : mv n (addR (addR (addR P (-1) c g) (-1) g c) κ c c) u = fun i => κ * c i - g i := by
    rw [mv_addR, mv_addR, mv_addR, Pu, cu, gu]
    funext i
    show (0 : Rat) + -1 * (c i * 0) + -1 * (g i * 1) + κ * (c i * 1) = _
    grind
  have sP' : trF (addR (addR (addR P (-1) c g) (-1) g c) κ c c) = addR (addR (addR P (-1) c g) (-1) g c) κ c c := by
    rw [tr_addR, tr_addR, tr_addR, sP]
    funext i j
    show P i j + -1 * (g i * c j) + -1 * (c i * g j) + κ * (c i * c j) = P i j + -1 * (c i * g j) + -1 * (g i * c j) + κ * (c i * c j)
    grind
  have sM' : trF (addR M w a a) = addR M w a a := by rw [tr_addR, sM]
  have L : mulF n (addR M w a a) (addR (addR (addR P (-1) c g) (-1) g c) κ c c) = addR (mulF n M P) 1 u c := by
    rw [addR_mul, sP', P'a, mul_addR, mul_addR, mul_addR, Mc]
    funext i j
    have ui : u i = a i - mv n M g i := by rw [hu]
    show mulF n M P i j + -1 * (0 * g j) + -1 * (mv n M g i * c j) + κ * (0 * c j) + w * (a i * ((κ - s) * c j)) = mulF n M P i j + 1 * (u i * c j)
    have hk2 : w * (κ - s) = 1 := by grind
    have e : w * (a i * ((κ - s) * c j)) = a i * c j := by
      have : w * (a i * ((κ - s) * c j)) = (w * (κ - s)) * (a i * c j) := by grind
      rw [this, hk2, Rat.one_mul]
    rw [e, ui]
    grind
  have sym1 : trF (addR (mulF n M P) 1 u c) = addR (mulF n M P) 1 u c := by
    rw [tr_addR, p.c]
    funext i j
    have ci : ∀ k, c k = E * u k := fun k => by rw [← hcv]
    show mulF n M P i j + 1 * (c i * u j) = mulF n M P i j + 1 * (u i * c j)
    rw [ci i, ci j]
    grind
  have R : mulF n (addR (addR (addR P (-1) c g) (-1) g c) κ c c) (addR M w a a) = addR (mulF n M P) 1 u c := by
    have z := congrArg trF L
    rw [trF_mul, sP', sM', sym1] at z
    exact z
  refine ⟨?_, ?_, by rw [L]; exact sym1, by rw [R]; exact sym1⟩
  · rw [L, addR_mul, mul_addR, p.a, sM', mv_addR, Mc, mv_mul, hgg]
    funext i j
    have ui : u i = a i - mv n M g i := by rw [hu]
    have ac : dotF n a c = 1 := by rw [dotF_comm]; exact ca
    show M i j + w * (mv n M g i * a j) + 1 * (u i * (0 + w * (a j * dotF n a c))) = M i j + w * (a i * a j)
    rw [ac, ui]
    grind
  · rw [mulF_assoc, L, mul_addR, P'u]
    have e : mulF n (addR (addR (addR P (-1) c g) (-1) g c) κ c c) (mulF n M P) = addR P (-1) c g := by
      rw [addR_mul, addR_mul, addR_mul, ← mulF_assoc, p.b, p.c, ← cm, pg]
      have z : mv n (mulF n P M) c = fun _ => 0 := by
        rw [mv_mul, Mc]
        funext i
        exact sumN_zero fun k _ => Rat.mul_zero _
      rw [z]
      funext i j
      show P i j + -1 * (c i * g j) + -1 * (g i * 0) + κ * (c i * 0) = P i j + -1 * (c i * g j)
      grind
    rw [e]
    funext i j
    show P i j + -1 * (c i * g j) + 1 * ((κ * c i - g i) * c j) = P i j + -1 * (c i * g j) + -1 * (g i * c j) + κ * (c i * c j)
    grind
/-- the last case: the rank falls -/
theorem up_fall {w : Rat} (p : Pen n n M P) (sM : trF M = M) (hg : mv n M (mv n P a) = a) (h1 : w * dotF n a (mv n P a) = 1) (hq : dotF n (mv n P a) (mv n P a) ≠ 0) :
    Pen n n (addR M (-w) a a) (addR (addR (addR P (-1) (fun k => 1 / dotF n (mv n P a) (mv n P a) * mv n P a k) (mv n P (mv n P a))) (-1) (mv n P (mv n P a)) (fun k => 1 / dotF n (mv n P a) (mv n P a) * mv n P a k)) (dotF n (mv n P a) (mv n P (mv n P a))) (fun k => 1 / dotF n (mv n P a) (mv n P a) * mv n P a k) (fun k => 1 / dotF n (mv n P a) (mv n P a) * mv n P a k)) := by
  have sP := p.sym sM
  have cm := p.comm sM
  generalize hs : dotF n a (mv n P a) = s at *
  generalize hgg : mv n P a = g at *
  generalize hhh : mv n P g = h at *
  have ee : 1 / dotF n g g * dotF n g g = 1 := by rw [Rat.div_def, Rat.one_mul, Rat.inv_mul_cancel _ hq]
  have Mh : mv n M h = g := by rw [← hhh, ← mv_mul, ← cm, mv_mul, hg, hgg]
  have ah : dotF n h a = dotF n g g := by
    have z := dotF_mv n P a g
    rw [sP, hgg, hhh, dotF_comm] at z
    exact z
  have ga : dotF n g a = s := by rw [dotF_comm]; exact hs
  generalize hE : 1 / dotF n g g = E at *
  generalize hcv : (fun k => E * g k) = c at *
  have ci : ∀ k, c k = E * g k := fun k => by rw [← hcv]
  have Mc : mv n M c = fun i => E * a i := by rw [← hcv, mv_smul, hg]
  have ca : dotF n c a = E * s := by rw [← hcv, dotF_smul, ga]
  have cg : dotF n c g = 1 := by rw [← hcv, dotF_smul]; exact ee
  generalize hγ : dotF n g h = γ at *
  have hgd : dotF n h g = γ := by rw [dotF_comm]; exact hγ
  have P'a : mv n (addR (addR (addR P (-1) c h) (-1) h c) γ c c) a = fun i => E * s * (γ * c i - h i) := by
    rw [mv_addR, mv_addR, mv_addR, hgg, ca, ah]
    funext i
    show g i + -1 * (c i * dotF n g g) + -1 * (h i * (E * s)) + γ * (c i * (E * s)) = _
    have e : c i * dotF n g g = g i := by
      rw [ci i]
      have : E * g i * dotF n g g = (E * dotF n g g) * g i := by grind
      rw [this, ee, Rat.one_mul]
    rw [e]
    grind
  have P'g : mv n (addR (addR (addR P (-1) c h) (-1) h c) γ c c) g = fun _ => 0 := by
    rw [mv_addR, mv_addR, mv_addR, hhh, cg, hgd]
    funext i
    show h i + -1 * (c i * γ) + -1 * (h i * 1) + γ * (c i * 1) = 0
    grind
  have sP' : trF (addR (addR (addR P (-1) c h) (-1) h c) γ c c) = addR (addR (addR P (-1) c h) (-1) h c) γ c c := by
    rw [tr_addR, tr_addR, tr_addR, sP]
    funext i j
    show P i j + -1 * (h i * c j) + -1 * (c i * h j) + γ * (c i * c j) = P i j + -1 * (c i * h j) + -1 * (h i * c j) + γ * (c i * c j)
    grind
  have sM' : trF (addR M (-w) a a) = addR M (-w) a a := by rw [tr_addR, sM]
  have L : mulF n (addR M (-w) a a) (addR (addR (addR P (-1) c h) (-1) h c) γ c c) = addR (mulF n M P) (-1) g c := by
    rw [addR_mul, sP', P'a, mul_addR, mul_addR, mul_addR, Mc, Mh]
    funext i j
    show mulF n M P i j + -1 * (E * a i * h j) + -1 * (g i * c j) + γ * (E * a i * c j) + -w * (a i * (E * s * (γ * c j - h j))) = mulF n M P i j + -1 * (g i * c j)
    have e : -w * (a i * (E * s * (γ * c j - h j))) = -(w * s) * (E * a i * (γ * c j - h j)) := by grind
    rw [e, h1]
    grind
  have sym1 : trF (addR (mulF n M P) (-1) g c) = addR (mulF n M P) (-1) g c := by
    rw [tr_addR, p.c]
    funext i j
    show mulF n M P i j + -1 * (c i * g j) = mulF n M P i j + -1 * (g i * c j)
    rw [ci i, ci j]
    grind
  have R : mulF n (addR (addR (addR P (-1) c h) (-1) h c) γ c c) (addR M (-w) a a) = addR (mulF n M P) (-1) g c := by
    have z := congrArg trF L
    rw [trF_mul, sP', sM', sym1] at z
    exact z
  have pg : mv n (mulF n P M) g = g := by rw [mv_mul, hg, hgg]
  refine ⟨?_, ?_, by rw [L]; exact sym1, by rw [R]; exact sym1⟩
  · rw [L, addR_mul, mul_addR, p.a, sM', mv_addR, Mc, mv_mul, hgg, hg]
    funext i j
    have ac : dotF n a c = E * s := by rw [dotF_comm]; exact ca
    show M i j + -w * (a i * a j) + -1 * (g i * (E * a j + -w * (a j * dotF n a c))) = M i j + -w * (a i * a j)
    rw [ac]
    have e : E * a j + -w * (a j * (E * s)) = E * a j - (w * s) * (E * a j) := by grind
    rw [e, h1]
    grind
  · rw [mulF_assoc, L, mul_addR, P'g]
    have e : mulF n (addR (addR (addR P (-1) c h) (-1) h c) γ c c) (mulF n M P) = addR (addR (addR P (-1) c h) (-1) h c) γ c c := by
      rw [addR_mul, addR_mul, addR_mul, ← mulF_assoc, p.b, p.c, ← cm]
      have z : mv n (mulF n P M) c = c := by rw [← hcv, mv_smul, pg]
      have y : mv n (mulF n P M) h = h := by rw [mv_mul, Mh, hhh]
      rw [z, y]
    rw [e]
    funext i j
    show _ + -1 * (0 * c j) = _
    grind
end
end Pn

namespace Pn
/-- a sum over the places of an ascending list -/
theorem sum_at {w : Nat} {c : List Nat} (hc : ∀ k ∈ c, k < w) (asc : c.Pairwise (· < ·)) : ∀ n, n ≤ c.length → ∀ g : Nat → Rat, (∀ j, j < w → (∀ a, a < n → c.getD a 0 ≠ j) → g j = 0) → sumN w g = sumN n (fun a => g (c.getD a 0)) := by
  intro n
  induction n with
  | zero => intro _ g hg; exact sumN_zero fun j hj => hg j hj fun a ha => absurd ha (Nat.not_lt_zero _)
  | succ n ih =>
    intro hn g hg
    have hcn := hc _ (getD_mem (c := c) (a := n) (by omega))
    have z1 := ih (by omega) (fun j => if j = c.getD n 0 then 0 else g j) fun j hj h => by
      by_cases e : j = c.getD n 0
      · rw [if_pos e]
      · rw [if_neg e]
        exact hg j hj fun a ha => by
          by_cases ea : a = n
          · rw [ea]; exact fun z => e z.symm
          · exact h a (by omega)
    have z2 : sumN w g = sumN w (fun j => if j = c.getD n 0 then 0 else g j) + g (c.getD n 0) := by
      have z3 := sumN_one (p := c.getD n 0) (n := w) (f := fun j => if j = c.getD n 0 then g j else 0) hcn fun j hj ne => if_neg ne
      rw [if_pos rfl] at z3
      rw [← z3, ← sumN_add]
      refine sumN_congr fun j _ => ?_
      by_cases e : j = c.getD n 0
      · rw [if_pos e, if_pos e]; grind
      · rw [if_neg e, if_neg e]; grind
    rw [z2, z1, sumN_succ]
    congr 1
    refine sumN_congr fun a ha => ?_
    rw [if_neg]
    intro e
    have := asc_inj asc (a := a) (b := n) (by omega) (by omega) e
    omega
theorem getD_range {n a : Nat} (h : a < n) : (List.range n).getD a 0 = a := by
  rw [List.getD_eq_getElem?_getD, List.getElem?_range h]
  rfl
section
variable {M : List (List Rat)} {w : Nat}
theorem redP_lt (hw : Wide w M) {k : Nat} (h : k ∈ redP M w) : k < w := piv_lt hw h
theorem redP_asc (hw : Wide w M) : (redP M w).Pairwise (· < ·) := piv_asc hw
theorem redP_one (hw : Wide w M) {a k : Nat} (ha : a < (redP M w).length) (hk : k < (redP M w).length) : at2 (gaussQ M w).1 a ((redP M w).getD k 0) = if a = k then 1 else 0 := piv_one hw ha hk
theorem redP_factor (hw : Wide w M) {i k : Nat} (hi : i < M.length) (hk : k < w) : at2 M i k = sumN (redP M w).length (fun a => at2 M i ((redP M w).getD a 0) * at2 (gaussQ M w).1 a k) := factor hw hi hk
theorem redP_ker (hw : Wide w M) {x : Nat → Rat} (hx : KerV (at2 M) M.length w x) {a : Nat} (ha : a < (redP M w).length) : sumN w (fun k => at2 (gaussQ M w).1 a k * x k) = 0 := ker_row hw hx ha
end
section
variable {G : List (List Rat)}
abbrev NoKer (n : Nat) (A : M2) : Prop := ∀ x : Nat → Rat, (∀ i, i < n → sumN n (fun k => A i k * x k) = 0) → ∀ k, k < n → x k = 0
theorem invQ_len (hw : Wide G.length G) (hk : NoKer G.length (at2 G)) : (invQ G).length = G.length := by
  unfold invQ
  rw [List.length_map, redR_len (beside_wide hw), beside_piv hw hk, List.length_range]
theorem invQ_wide (hw : Wide G.length G) : Wide G.length (invQ G) := fun r hr => by
  unfold invQ at hr
  obtain ⟨x, hx, rfl⟩ := List.mem_map.mp hr
  rw [List.length_drop, redR_wide (beside_wide hw) x hx]
  omega
theorem invQ_at (hw : Wide G.length G) (hk : NoKer G.length (at2 G)) {i j : Nat} (hi : i < G.length) : at2 (invQ G) i j = at2 (gaussQ (besideQ G) (2 * G.length)).1 i (G.length + j) := by
  have l := redR_len (beside_wide hw)
  rw [beside_piv hw hk, List.length_range] at l
  show ((invQ G).getD i []).getD j 0 = _
  unfold invQ
  rw [getD_map' (e := []) (by omega), List.getD_eq_getElem?_getD, List.getElem?_drop, ← List.getD_eq_getElem?_getD]
  show at2 (redR (besideQ G) (2 * G.length)) i (G.length + j) = _
  exact redR_at (by rw [beside_piv hw hk, List.length_range]; exact hi)
theorem invQ_off (hw : Wide G.length G) (hk : NoKer G.length (at2 G)) (i j : Nat) (h : G.length ≤ i ∨ G.length ≤ j) : at2 (invQ G) i j = 0 := by
  rcases h with h | h
  · exact at2_ge (by rw [invQ_len hw hk]; exact h)
  · exact at2_wide (invQ_wide hw) h
theorem inv_right (hw : Wide G.length G) (hk : NoKer G.length (at2 G)) : mulF G.length (at2 G) (at2 (invQ G)) = idF G.length := by
  have bw := beside_wide hw
  funext i j
  by_cases hi : i < G.length
  · by_cases hj : j < G.length
    · have z := factor bw (i := i) (k := G.length + j) (by rw [beside_len]; exact hi) (by omega)
      have ep : (gaussQ (besideQ G) (2 * G.length)).2 = List.range G.length := beside_piv hw hk
      rw [ep, List.length_range, beside_at hw hi, if_neg (by omega), Nat.add_sub_cancel_left] at z
      rw [z]
      refine sumN_congr fun a ha => ?_
      rw [getD_range ha, beside_at hw hi, if_pos ha, invQ_at hw hk ha]
    · have e : idF G.length i j = 0 := by unfold idF; rw [if_neg (by omega)]
      rw [e]
      exact sumN_zero fun k _ => by rw [invQ_off hw hk k j (.inr (Nat.not_lt.mp hj)), Rat.mul_zero]
  · have e : idF G.length i j = 0 := by unfold idF; rw [if_neg (by omega)]
    rw [e]
    exact sumN_zero fun k _ => by rw [at2_ge (Nat.not_lt.mp hi), Rat.zero_mul]
theorem inv_sym (hw : Wide G.length G) (hk : NoKer G.length (at2 G)) (s : trF (at2 G) = at2 G) : trF (at2 (invQ G)) = at2 (invQ G) ∧ mulF G.length (at2 (invQ G)) (at2 G) = idF G.length := by
  have r := inv_right hw hk
  have l : mulF G.length (trF (at2 (invQ G))) (at2 G) = idF G.length := by
    have z := congrArg trF r
    rw [trF_mul, trF_id, s] at z
    exact z
  have e : trF (at2 (invQ G)) = at2 (invQ G) := by
    have z : mulF G.length (trF (at2 (invQ G))) (mulF G.length (at2 G) (at2 (invQ G))) = at2 (invQ G) := by
      rw [← mulF_assoc, l]
      exact id_mulF fun i j hi => invQ_off hw hk i j (.inl hi)
    rw [r, mulF_id] at z
    · exact z
    · exact fun i j hj => invQ_off hw hk j i (.inl hj)
  exact ⟨e, by rw [e] at l; exact l⟩
end
/-! ### pseudo-inverses from nothing -/
def colsQ (M : List (List Rat)) (c : List Nat) : List (List Rat) := M.map fun row => c.map fun k => row.getD k 0
section
variable {M : List (List Rat)} {w : Nat}
theorem colsQ_len {c : List Nat} : (colsQ M c).length = M.length := by unfold colsQ; rw [List.length_map]
theorem colsQ_wide {c : List Nat} : Wide c.length (colsQ M c) := fun r hr => by
  unfold colsQ at hr
  obtain ⟨x, hx, rfl⟩ := List.mem_map.mp hr
  rw [List.length_map]
theorem colsQ_at {c : List Nat} {i a : Nat} (ha : a < c.length) : at2 (colsQ M c) i a = at2 M i (c.getD a 0) := by
  by_cases hi : i < M.length
  · show ((colsQ M c).getD i []).getD a 0 = _
    unfold colsQ
    rw [getD_map' (e := []) hi, getD_map' (e := 0) ha]
    rfl
  · rw [at2_ge (by rw [colsQ_len]; omega), at2_ge (Nat.not_lt.mp hi)]
theorem pin_factor (hw : Wide w M) : at2 M = mulF (redP M w).length (at2 (colsQ M (redP M w))) (at2 (redR M w)) := by
  funext i k
  by_cases hi : i < M.length
  · by_cases hk : k < w
    · rw [redP_factor hw hi hk]
      refine sumN_congr fun a ha => ?_
      rw [colsQ_at ha, redR_at ha]
    · rw [at2_wide hw (Nat.not_lt.mp hk)]
      exact (sumN_zero fun a _ => by rw [at2_wide (redR_wide hw) (Nat.not_lt.mp hk), Rat.mul_zero]).symm
  · rw [at2_ge (Nat.not_lt.mp hi)]
    exact (sumN_zero fun a _ => by rw [at2_ge (by rw [colsQ_len]; omega), Rat.zero_mul]).symm
/-- the two squares -/
def sqF (M : List (List Rat)) (w : Nat) : List (List Rat) := mulQ (redR M w) (transQ (redR M w) w) (redP M w).length
def sqC (M : List (List Rat)) (w : Nat) : List (List Rat) := mulQ (transQ (colsQ M (redP M w)) (redP M w).length) (colsQ M (redP M w)) (redP M w).length
theorem sqF_len (hw : Wide w M) : (sqF M w).length = (redP M w).length := by unfold sqF; rw [mulQ_len, redR_len hw]
theorem sqC_len : (sqC M w).length = (redP M w).length := by unfold sqC; rw [mulQ_len, transQ_len]
theorem sqF_wide : Wide (redP M w).length (sqF M w) := mulQ_wide
theorem sqC_wide : Wide (redP M w).length (sqC M w) := mulQ_wide
theorem sqF_at (hw : Wide w M) : at2 (sqF M w) = mulF w (at2 (redR M w)) (trF (at2 (redR M w))) := by
  unfold sqF
  have h1 : Wide (transQ (redR M w) w).length (redR M w) := by rw [transQ_len]; exact redR_wide hw
  have h2 : Wide (redP M w).length (transQ (redR M w) w) := by rw [← redR_len hw]; exact transQ_wide
  rw [at2_mul h1 h2, transQ_len, at2_tr (redR_wide hw)]
theorem sqC_at (hw : Wide w M) : at2 (sqC M w) = mulF M.length (trF (at2 (colsQ M (redP M w)))) (at2 (colsQ M (redP M w))) := by
  unfold sqC
  have h1 : Wide (colsQ M (redP M w)).length (transQ (colsQ M (redP M w)) (redP M w).length) := transQ_wide
  rw [at2_mul h1 colsQ_wide, colsQ_len, at2_tr colsQ_wide]
theorem tr_gram (n : Nat) (A : M2) : trF (mulF n A (trF A)) = mulF n A (trF A) := by rw [trF_mul, trF_trF]
theorem sqF_sym (hw : Wide w M) : trF (at2 (sqF M w)) = at2 (sqF M w) := by rw [sqF_at hw]; exact tr_gram _ _
theorem sqC_sym (hw : Wide w M) : trF (at2 (sqC M w)) = at2 (sqC M w) := by
  rw [sqC_at hw]
  have z := tr_gram M.length (trF (at2 (colsQ M (redP M w))))
  rw [trF_trF] at z
  exact z
theorem sqF_ker (hw : Wide w M) : NoKer (sqF M w).length (at2 (sqF M w)) := fun x hx k hk => by
  rw [sqF_len hw] at hx hk
  rw [sqF_at hw] at hx
  have z := gram_ker (A := at2 (redR M w)) hx ((redP M w).getD k 0) (piv_lt hw (getD_mem hk))
  rw [sumN_one (p := k) hk fun a ha ne => ?_] at z
  · have o := piv_one hw (a := k) (k := k) hk hk
    rw [if_pos rfl] at o
    rw [redR_at hk] at z
    have o' : at2 (gaussQ M w).1 k ((redP M w).getD k 0) = 1 := o
    rw [o'] at z
    grind
  · have o : at2 (gaussQ M w).1 a ((redP M w).getD k 0) = if a = k then 1 else 0 := piv_one hw ha hk
    rw [redR_at ha, o, if_neg ne, Rat.mul_zero]
theorem sqC_ker (hw : Wide w M) : NoKer (sqC M w).length (at2 (sqC M w)) := fun x hx k hk => by
  rw [sqC_len] at hx hk
  rw [sqC_at hw] at hx
  have z := gram_ker (A := trF (at2 (colsQ M (redP M w)))) (by rw [trF_trF]; exact hx)
  -- the vector that has x at the pivots
  have hc := fun j hj => redP_lt hw (k := j) hj
  have asc := redP_asc hw
  let y : Nat → Rat := fun j => sumN (redP M w).length fun a => if (redP M w).getD a 0 = j then x a else 0
  have yat : ∀ a, a < (redP M w).length → y ((redP M w).getD a 0) = x a := fun a ha => by
    show sumN (redP M w).length (fun b => if (redP M w).getD b 0 = (redP M w).getD a 0 then x b else 0) = x a
    rw [sumN_one (p := a) ha fun b hb ne => if_neg fun e => ne (asc_inj asc hb ha e), if_pos rfl]
  have yoff : ∀ j, (∀ a, a < (redP M w).length → (redP M w).getD a 0 ≠ j) → y j = 0 := fun j h => sumN_zero fun a ha => if_neg (h a ha)
  have ky : KerV (at2 M) M.length w y := fun i hi => by
    rw [sum_at hc asc (redP M w).length (Nat.le_refl _) (fun k => at2 M i k * y k) fun j _ h => by rw [yoff j h, Rat.mul_zero]]
    rw [← z i hi]
    refine sumN_congr fun a ha => ?_
    rw [yat a ha]
    show _ = x a * at2 (colsQ M (redP M w)) i a
    rw [colsQ_at ha, Rat.mul_comm]
  have r := redP_ker hw ky (a := k) hk
  rw [sum_at hc asc (redP M w).length (Nat.le_refl _) (fun j => at2 (gaussQ M w).1 k j * y j) fun j _ h => by rw [yoff j h, Rat.mul_zero]] at r
  rw [sumN_one (p := k) hk fun a ha ne => ?_] at r
  · have o : at2 (gaussQ M w).1 k ((redP M w).getD k 0) = 1 := (redP_one hw hk hk).trans (if_pos rfl)
    rw [o, yat k hk] at r
    grind
  · have o : at2 (gaussQ M w).1 k ((redP M w).getD a 0) = 0 := (redP_one hw hk ha).trans (if_neg fun e => ne e.symm)
    rw [o, Rat.zero_mul]
/-- the pseudo-inverse as the program reckons it -/
def pinvQ (M : List (List Rat)) (w : Nat) : List (List Rat) :=
  if (redP M w).length = 0 then zerosQ w M.length
  else mulQ (transQ (redR M w) w) (mulQ (invQ (sqF M w)) (mulQ (invQ (sqC M w)) (transQ (colsQ M (redP M w)) (redP M w).length) M.length) M.length) M.length
theorem zerosQ_at (h w : Nat) : at2 (zerosQ h w) = fun _ _ => 0 := by
  funext i j
  by_cases hi : i < h
  · show ((zerosQ h w).getD i []).getD j 0 = 0
    unfold zerosQ
    rw [getD_map_range hi, zeroQ_getD]
  · exact at2_ge (by unfold zerosQ; rw [List.length_map, List.length_range]; omega)
theorem pinvQ_len : (pinvQ M w).length = w := by
  unfold pinvQ
  split
  · unfold zerosQ; rw [List.length_map, List.length_range]
  · rw [mulQ_len, transQ_len]
theorem pinvQ_wide : Wide M.length (pinvQ M w) := by
  unfold pinvQ
  split
  · intro r hr
    unfold zerosQ at hr
    obtain ⟨k, _, rfl⟩ := List.mem_map.mp hr
    exact zeroQ_len _
  · exact mulQ_wide
theorem pinv_at (hw : Wide w M) (h0 : (redP M w).length ≠ 0) : at2 (pinvQ M w) = mulF (redP M w).length (trF (at2 (redR M w))) (mulF (redP M w).length (at2 (invQ (sqF M w))) (mulF (redP M w).length (at2 (invQ (sqC M w))) (trF (at2 (colsQ M (redP M w)))))) := by
  unfold pinvQ
  rw [if_neg h0]
  have fw : Wide (sqF M w).length (sqF M w) := by rw [sqF_len hw]; exact sqF_wide
  have cw : Wide (sqC M w).length (sqC M w) := by rw [sqC_len]; exact sqC_wide
  have lF := invQ_len fw (sqF_ker hw)
  have lC := invQ_len cw (sqC_ker hw)
  rw [sqF_len hw] at lF
  rw [sqC_len] at lC
  have wF := invQ_wide fw
  have wC := invQ_wide cw
  rw [sqF_len hw] at wF
  rw [sqC_len] at wC
  have tw : Wide M.length (transQ (colsQ M (redP M w)) (redP M w).length) := by
    have z := transQ_wide (rows := colsQ M (redP M w)) (w := (redP M w).length)
    rw [colsQ_len] at z
    exact z
  rw [at2_mul (by rw [mulQ_len, lF, ← redR_len hw]; exact transQ_wide) mulQ_wide, mulQ_len, lF, at2_tr (redR_wide hw)]
  rw [at2_mul (by rw [mulQ_len, lC]; exact wF) mulQ_wide, mulQ_len, lC]
  rw [at2_mul (by rw [transQ_len]; exact wC) tw, transQ_len, at2_tr colsQ_wide]
theorem pinv_pen (hw : Wide w M) : Pen M.length w (at2 M) (at2 (pinvQ M w)) := by
  by_cases h0 : (redP M w).length = 0
  · have m0 : at2 M = fun _ _ => 0 := by
      rw [pin_factor hw, h0]
      rfl
    have p0 : at2 (pinvQ M w) = fun _ _ => 0 := by
      unfold pinvQ
      rw [if_pos h0]
      exact zerosQ_at _ _
    have mz : ∀ n, mulF n (fun _ _ => (0 : Rat)) (fun _ _ => 0) = fun _ _ => 0 := fun n => by
      funext i j
      exact sumN_zero fun k _ => Rat.mul_zero _
    rw [m0, p0]
    exact ⟨by rw [mz, mz], by rw [mz, mz], by rw [mz]; rfl, by rw [mz]; rfl⟩
  · rw [pinv_at hw h0]
    have fw : Wide (sqF M w).length (sqF M w) := by rw [sqF_len hw]; exact sqF_wide
    have cw : Wide (sqC M w).length (sqC M w) := by rw [sqC_len]; exact sqC_wide
    have rF := inv_right fw (sqF_ker hw)
    obtain ⟨sF, _⟩ := inv_sym fw (sqF_ker hw) (sqF_sym hw)
    obtain ⟨sC, lC⟩ := inv_sym cw (sqC_ker hw) (sqC_sym hw)
    have oF := invQ_off fw (sqF_ker hw)
    have oC := invQ_off cw (sqC_ker hw)
    rw [sqF_len hw] at rF oF
    rw [sqC_len] at lC oC
    rw [sqF_at hw] at rF
    rw [sqC_at hw] at lC
    exact pen_of (pin_factor hw) rF lC sF sC (fun i j h => oF i j (.inl h)) (fun i j h => oC i j (.inl h)) (fun i j h => at2_ge (by rw [redR_len hw]; exact h))
end
end Pn

namespace Pn
/-! ### sizes: one denominator for a whole matrix -/
def CDB (N : Nat) (A : M2) : Prop := ∃ d : Nat, 0 < d ∧ d ≤ 2 ^ N ∧ ∀ i j, IntB N ((d : Rat) * A i j)
theorem CDB.mono {n m : Nat} {A : M2} (h : CDB n A) (k : n ≤ m) : CDB m A := by
  obtain ⟨d, h0, h1, h2⟩ := h
  exact ⟨d, h0, Nat.le_trans h1 (Nat.pow_le_pow_right (by decide) k), fun i j => (h2 i j).mono k⟩
theorem CDB.tr {n : Nat} {A : M2} (h : CDB n A) : CDB n (trF A) := by
  obtain ⟨d, h0, h1, h2⟩ := h
  exact ⟨d, h0, h1, fun i j => h2 j i⟩
theorem CDB.sm {n : Nat} {A : M2} (h : CDB n A) (i j : Nat) : SmB (n + 1) (A i j) := by
  obtain ⟨d, h0, h1, h2⟩ := h
  exact numB_sm (h2 i j) h0 (Nat.lt_of_le_of_lt h1 (Nat.pow_lt_pow_right (by decide) (by omega))) (by omega)
theorem sum_int {m n e : Nat} {a b : Rat} {f g : Nat → Rat} (h1 : ∀ k, IntB m (a * f k)) (h2 : ∀ k, IntB n (b * g k)) (hn : e ≤ 32) : IntB (m + n + 5) (a * b * sumN e (fun k => f k * g k)) := by
  have key : ∀ e, ∃ z : Int, a * b * sumN e (fun k => f k * g k) = (z : Rat) ∧ z.natAbs ≤ e * 2 ^ (m + n) := by
    intro e
    induction e with
    | zero => exact ⟨0, by show a * b * 0 = _; rw [Rat.mul_zero]; rfl, by simp⟩
    | succ e ih =>
      obtain ⟨z, ez, hz⟩ := ih
      obtain ⟨u, eu, hu⟩ := h1 e
      obtain ⟨v, ev, hv⟩ := h2 e
      refine ⟨z + u * v, ?_, ?_⟩
      · rw [sumN_succ, Rat.intCast_add, Rat.intCast_mul, ← ez, ← eu, ← ev]
        grind
      · have a1 : (u * v).natAbs ≤ 2 ^ (m + n) := by
          rw [Int.natAbs_mul, Nat.pow_add]
          exact Nat.mul_le_mul hu hv
        have a2 : (z + u * v).natAbs ≤ z.natAbs + (u * v).natAbs := by omega
        rw [Nat.add_mul]
        omega
  obtain ⟨z, ez, hz⟩ := key e
  refine ⟨z, ez, Nat.le_trans hz ?_⟩
  rw [Nat.pow_add 2 (m + n) 5, Nat.mul_comm]
  exact Nat.mul_le_mul_left _ hn
theorem CDB.mul {m n e : Nat} {A B : M2} (h1 : CDB m A) (h2 : CDB n B) (he : e ≤ 32) : CDB (m + n + 5) (mulF e A B) := by
  obtain ⟨d, d0, d1, d2⟩ := h1
  obtain ⟨c, c0, c1, c2⟩ := h2
  refine ⟨d * c, Nat.mul_pos d0 c0, ?_, fun i j => ?_⟩
  · refine Nat.le_trans (Nat.mul_le_mul d1 c1) ?_
    rw [← Nat.pow_add]
    exact Nat.pow_le_pow_right (by decide) (by omega)
  · rw [Rat.natCast_mul]
    exact sum_int (fun k => d2 i k) (fun k => c2 k j) he
theorem cdb_allM {n : Nat} {M : List (List Rat)} (h : CDB n (at2 M)) : AllM (n + 1) M := allM_at fun i k => h.sm i k
theorem cdb_zero (n : Nat) {A : M2} (h : ∀ i j, A i j = 0) : CDB n A := ⟨1, by decide, Nat.pow_pos (by decide), fun i j => by rw [h i j, Rat.mul_zero]; exact intB_z _⟩
/-- the reduced rows have one denominator -/
theorem GI.cd {h b : Nat} {F P : Nat → Rw} {d : List Nat} {τ : Rat} {ρ : Nat} (g : GI h F d P τ (ρ : Rat)) (hd : d.length ≤ 31) (hP : ∀ i k, IntB b (P i k)) :
    ∃ z : Nat, 0 < z ∧ z ≤ 2 ^ ((b + 5) * d.length) ∧ ∀ i k, i < d.length → IntB ((b + 5) * d.length) ((z : Rat) * F i k) := by
  have tl : ∀ n, (topF P n).length = n := fun n => by
    induction n with
    | zero => rfl
    | succ n ih => show (topF P n).length + 1 = n + 1; rw [ih]
  have tm : ∀ r ∈ topF P d.length, ∀ k, IntB b (r k) := fun r hr k => by
    obtain ⟨a, _, e⟩ := topF_mem hr
    rw [e]
    exact hP a k
  obtain ⟨z, ez, hz⟩ := D_int tm d (by omega)
  rw [tl] at hz
  have ht := g.tau
  rw [ez] at ht
  have z0 : z ≠ 0 := fun e => by
    rw [e] at ht
    exact absurd (ht.symm.trans (by show τ * 0 = 0; rw [Rat.mul_zero])) (by decide)
  refine ⟨z.natAbs, by omega, hz, fun i k hi => ?_⟩
  obtain ⟨d', l, e⟩ := g.tri.at k i hi
  obtain ⟨y, ey, hy⟩ := D_int tm d' (by omega)
  rw [tl] at hy
  rw [g.s1, ey] at e
  have zr : (z : Rat) * F i k = (y : Rat) := by
    rw [← e]
    grind
  rcases Int.natAbs_eq z with c | c
  · refine ⟨y, ?_, hy⟩
    rw [← zr]
    congr 1
    have : ((z.natAbs : Nat) : Rat) = (((z.natAbs : Nat) : Int) : Rat) := rfl
    rw [this, ← c]
  · refine ⟨-y, ?_, by rw [Int.natAbs_neg]; exact hy⟩
    have e2 : ((z.natAbs : Nat) : Rat) = (((z.natAbs : Nat) : Int) : Rat) := rfl
    have e3 : ((z.natAbs : Nat) : Int) = -z := by omega
    rw [e2, e3, Rat.intCast_neg, Rat.intCast_neg, ← zr]
    grind
section
variable {M : List (List Rat)} {w b m : Nat}
theorem cdb_red (hw : Wide w M) (h : CDB b (at2 M)) (hm : M.length ≤ m ∨ w ≤ m) (m7 : m ≤ 31) : CDB ((b + 5) * m) (at2 (redR M w)) := by
  obtain ⟨ρ, h0, h1, h2⟩ := h
  have g := gs_all h0 hw h2 w
  have hc : (redP M w).length ≤ m := by
    have h1 := g.ch
    have h2 := g.ct
    show (gaussQ M w).2.length ≤ m
    omega
  obtain ⟨P, τ, gi, hP⟩ := g.gi
  have lr : (gaussQ M w).2.reverse.length = (redP M w).length := List.length_reverse
  obtain ⟨z, z0, z1, z2⟩ := gi.cd (by omega) hP
  rw [lr] at z1 z2
  have le : (b + 5) * (redP M w).length ≤ (b + 5) * m := Nat.mul_le_mul_left _ hc
  refine ⟨z, z0, Nat.le_trans z1 (Nat.pow_le_pow_right (by decide) le), fun i j => ?_⟩
  by_cases hi : i < (redP M w).length
  · rw [redR_at hi]
    exact (z2 i j hi).mono le
  · rw [at2_ge (by rw [redR_len hw]; omega), Rat.mul_zero]
    exact intB_z _
theorem cdb_gok {n : Nat} (hw : Wide w M) (h : CDB b (at2 M)) (hl : M.length ≤ 100) (hw2 : w ≤ 100) (hm : M.length ≤ m ∨ w ≤ m) (m7 : m ≤ 31) (hn : (b + 5) * (m + 1) + b + 2 ≤ n) (h3 : 3 * n ≤ 899990) : GOk n w M := by
  obtain ⟨ρ, h0, h1, h2⟩ := h
  exact gokm_of (s := b + 1) hw hl hw2 hm m7 h2 h0 (Nat.lt_of_le_of_lt h1 (Nat.pow_lt_pow_right (by decide) (by omega))) (by omega) h3
theorem cdb_cols {c : List Nat} (h : CDB b (at2 M)) : CDB b (at2 (colsQ M c)) := by
  obtain ⟨ρ, h0, h1, h2⟩ := h
  refine ⟨ρ, h0, h1, fun i j => ?_⟩
  by_cases hj : j < c.length
  · rw [colsQ_at hj]; exact h2 _ _
  · rw [at2_wide colsQ_wide (Nat.not_lt.mp hj), Rat.mul_zero]; exact intB_z _
theorem cdb_beside {G : List (List Rat)} (hw : Wide G.length G) (h : CDB b (at2 G)) : CDB b (at2 (besideQ G)) := by
  obtain ⟨ρ, h0, h1, h2⟩ := h
  refine ⟨ρ, h0, h1, fun i j => ?_⟩
  by_cases hi : i < G.length
  · rw [beside_at hw hi]
    split
    · exact h2 _ _
    · unfold idF
      split
      · exact ⟨(ρ : Int), by rw [Rat.mul_one]; rfl, by rw [Int.natAbs_natCast]; exact h1⟩
      · rw [Rat.mul_zero]; exact intB_z _
  · rw [at2_ge (by rw [beside_len]; omega), Rat.mul_zero]; exact intB_z _
theorem cdb_inv {G : List (List Rat)} (hw : Wide G.length G) (hk : NoKer G.length (at2 G)) (h : CDB b (at2 G)) (hm : G.length ≤ m) (m7 : m ≤ 31) : CDB ((b + 5) * m) (at2 (invQ G)) := by
  have r := cdb_red (beside_wide hw) (cdb_beside hw h) (m := m) (.inl (by rw [beside_len]; exact hm)) m7
  obtain ⟨z, z0, z1, z2⟩ := r
  refine ⟨z, z0, z1, fun i j => ?_⟩
  by_cases hi : i < G.length
  · rw [invQ_at hw hk hi]
    have e := z2 i (G.length + j)
    rw [redR_at (by rw [beside_piv hw hk, List.length_range]; exact hi)] at e
    exact e
  · rw [invQ_off hw hk i j (.inl (Nat.not_lt.mp hi)), Rat.mul_zero]; exact intB_z _
/-- the bits of a pseudo-inverse -/
def fB (b m : Nat) : Nat := (b + 5) * m
def iF (b m : Nat) : Nat := (2 * fB b m + 5 + 5) * m
def iC (b m : Nat) : Nat := (2 * b + 5 + 5) * m
def pB (b m : Nat) : Nat := fB b m + (iF b m + (iC b m + b + 5) + 5) + 5
theorem cdb_sqF (hw : Wide w M) (h : CDB b (at2 M)) (hm : M.length ≤ m ∨ w ≤ m) (m7 : m ≤ 31) (w7 : w ≤ 31) : CDB (2 * fB b m + 5) (at2 (sqF M w)) := by
  rw [sqF_at hw]
  have f := cdb_red hw h hm m7
  exact (f.mul f.tr (by omega)).mono (by unfold fB; omega)
theorem cdb_sqC (hw : Wide w M) (h : CDB b (at2 M)) (h7 : M.length ≤ 31) : CDB (2 * b + 5) (at2 (sqC M w)) := by
  rw [sqC_at hw]
  have f := cdb_cols (c := redP M w) h
  exact (f.tr.mul f (by omega)).mono (by omega)
theorem piv_m (hw : Wide w M) (hm : M.length ≤ m ∨ w ≤ m) : (redP M w).length ≤ m := by
  obtain ⟨_, _, _, g⟩ := gs_ex hw w
  have h1 := g.ch
  have h2 := g.ct
  show (gaussQ M w).2.length ≤ m
  omega
theorem cdb_iF (hw : Wide w M) (h : CDB b (at2 M)) (hm : M.length ≤ m ∨ w ≤ m) (m7 : m ≤ 31) (w7 : w ≤ 31) : CDB (iF b m) (at2 (invQ (sqF M w))) := by
  have fw : Wide (sqF M w).length (sqF M w) := by rw [sqF_len hw]; exact sqF_wide
  exact cdb_inv fw (sqF_ker hw) (cdb_sqF hw h hm m7 w7) (by rw [sqF_len hw]; exact piv_m hw hm) m7
theorem cdb_iC (hw : Wide w M) (h : CDB b (at2 M)) (hm : M.length ≤ m ∨ w ≤ m) (m7 : m ≤ 31) (h7 : M.length ≤ 31) : CDB (iC b m) (at2 (invQ (sqC M w))) := by
  have cw : Wide (sqC M w).length (sqC M w) := by rw [sqC_len]; exact sqC_wide
  exact cdb_inv cw (sqC_ker hw) (cdb_sqC hw h h7) (by rw [sqC_len]; exact piv_m hw hm) m7
theorem cdb_pinv (hw : Wide w M) (h : CDB b (at2 M)) (hm : M.length ≤ m ∨ w ≤ m) (m7 : m ≤ 31) (w7 : w ≤ 31) (h7 : M.length ≤ 31) : CDB (pB b m) (at2 (pinvQ M w)) := by
  by_cases h0 : (redP M w).length = 0
  · refine cdb_zero _ fun i j => ?_
    unfold pinvQ
    rw [if_pos h0, zerosQ_at]
  · rw [pinv_at hw h0]
    have r7 : (redP M w).length ≤ 32 := by have := piv_m hw hm; omega
    have f := cdb_red hw h hm m7
    have c := cdb_cols (c := redP M w) h
    exact (f.tr.mul ((cdb_iF hw h hm m7 w7).mul ((cdb_iC hw h hm m7 h7).mul c.tr r7) r7) r7).mono (by unfold pB fB; omega)
end
end Pn

namespace Pn
open PySem L2 Evl
def spInv (C : Addr) : Sp := fun vs H Q _ => ∃ (x : V) (G : List (List Rat)) (n : Nat), vs = [x] ∧ MatAt C G x H ∧ Wide G.length G ∧ GOk n (2 * G.length) (besideQ G) ∧ NewV (MatAt C (invQ G)) H Q
/-- sizes that a pseudo-inverse may have -/
def PinOk (b m : Nat) : Prop := 0 < m ∧ m ≤ 31 ∧ 3 * ((2 * fB b m + 10) * (m + 1) + 2 * fB b m + 7) ≤ 899990 ∧ (fB b m + 1 + (iF b m + (iC b m + b + 5) + 6) + 1) * m + 1 ≤ 900000 ∧ (2 * fB b m + 3) * 31 + 1 ≤ 900000
def spPinv (C : Addr) : Sp := fun vs H Q _ => ∃ (x : V) (M : List (List Rat)) (w b m : Nat), vs = [x, .int (w : Int)] ∧ MatAt C M x H ∧ Wide w M ∧ CDB b (at2 M) ∧ ((M.length ≤ m ∨ w ≤ m) ∧ M.length ≤ 31 ∧ w ≤ 31 ∧ PinOk b m) ∧ NewV (MatAt C (pinvQ M w)) H Q
section
variable {K : PySem.W.Frag} {C : Addr} {te ta tb tc td tl : TE} {σ : L2.St} {H : Hp} {E : XK} {D : Ends} {tz tbd : TS} {g : TG}
theorem evp_inv {G : List (List Rat)} {n : Nat} (ha : EvP ta σ H (MatAt C G)) (hw : Wide G.length G) (g : GOk n (2 * G.length) (besideQ G)) : EvP (tCall (spInv C) [] E (tCons ta tNil)) σ H (MatAt C (invQ G)) :=
  evp_call1 ha fun v H1 _ r Q2 E2 k2 => ⟨v, G, n, rfl, r, hw, g, k2⟩
theorem evp_pinv {M : List (List Rat)} {w b m : Nat} (ha : EvP ta σ H (MatAt C M)) (hb : Ev tb σ H (.int (w : Int))) (hw : Wide w M) (hc : CDB b (at2 M)) (h : (M.length ≤ m ∨ w ≤ m) ∧ M.length ≤ 31 ∧ w ≤ 31 ∧ PinOk b m) : EvP (tCall (spPinv C) [] E (tCons ta (tCons tb tNil))) σ H (MatAt C (pinvQ M w)) :=
  evp_call2 mono_mat ha (evp_of hb) fun v u H1 _ r eu Q2 E2 k2 => by subst eu; exact ⟨v, M, w, b, m, rfl, r, hw, hc, h, k2⟩
end
theorem gok_beside {G : List (List Rat)} {b m : Nat} (hw : Wide G.length G) (h : CDB b (at2 G)) (hm : G.length ≤ m) (m7 : m ≤ 31) (h3 : 3 * ((b + 5) * (m + 1) + b + 2) ≤ 899990) : GOk ((b + 5) * (m + 1) + b + 2) (2 * G.length) (besideQ G) :=
  cdb_gok (beside_wide hw) (cdb_beside hw h) (by rw [beside_len]; omega) (by omega) (.inl (by rw [beside_len]; exact hm)) m7 (Nat.le_refl _) h3
theorem fB_ge {b m : Nat} (hm : 0 < m) : b ≤ fB b m := by
  unfold fB
  have := Nat.mul_le_mul_left (b + 5) hm
  omega
/-- the four conditions, of lists -/
theorem pen_lists {M P : List (List Rat)} {h w : Nat} (p : Pen h w (at2 M) (at2 P)) (lM : M.length = h) (wM : Wide w M) (lP : P.length = w) (wP : Wide h P) :
    mulQ M P h = transQ (mulQ M P h) h ∧ mulQ P M w = transQ (mulQ P M w) w ∧ mulQ (mulQ M P h) M w = M ∧ mulQ (mulQ P M w) P h = P := by
  have aL : at2 (mulQ M P h) = mulF w (at2 M) (at2 P) := by rw [at2_mul (by rw [lP]; exact wM) wP, lP]
  have aR : at2 (mulQ P M w) = mulF h (at2 P) (at2 M) := by rw [at2_mul (by rw [lM]; exact wP) wM, lM]
  have wL : Wide h (mulQ M P h) := mulQ_wide
  have wR : Wide w (mulQ P M w) := mulQ_wide
  have lL : (mulQ M P h).length = h := by rw [mulQ_len, lM]
  have lR : (mulQ P M w).length = w := by rw [mulQ_len, lP]
  refine ⟨?_, ?_, ?_, ?_⟩
  · refine mat_fun (w := h) (by rw [transQ_len, lL]) wL (by have z := transQ_wide (rows := mulQ M P h) (w := h); rw [lL] at z; exact z) ?_
    rw [at2_tr wL, aL, p.c]
  · refine mat_fun (w := w) (by rw [transQ_len, lR]) wR (by have z := transQ_wide (rows := mulQ P M w) (w := w); rw [lR] at z; exact z) ?_
    rw [at2_tr wR, aR, p.d]
  · refine mat_fun (w := w) (by rw [mulQ_len, lL, lM]) mulQ_wide wM ?_
    rw [at2_mul (by rw [lM]; exact wL) wM, lM, aL, p.a]
  · refine mat_fun (w := h) (by rw [mulQ_len, lR, lP]) mulQ_wide wP ?_
    rw [at2_mul (by rw [lP]; exact wR) wP, lP, aR, p.b]
theorem cdb_rowsE {M : List (List Rat)} (h : RowsE M) (hl : M.length ≤ 5) : CDB 178 (at2 M) := ⟨rho5, rho5_pos, Nat.le_trans (Nat.le_of_lt rho5_lt) (Nat.pow_le_pow_right (by decide) (by decide)), rowsE_int h hl⟩
theorem cdb_mulQ {a b : List (List Rat)} {w m n : Nat} (ha : Wide b.length a) (hb : Wide w b) (h1 : CDB m (at2 a)) (h2 : CDB n (at2 b)) (he : b.length ≤ 32) : CDB (m + n + 5) (at2 (mulQ a b w)) := by
  rw [at2_mul ha hb]
  exact h1.mul h2 he
end Pn

namespace Pn
open PySem L2 Evl
/-! ### lists as functions -/
def vf (x : List Rat) : V1 := fun k => x.getD k 0
theorem vf_ge {x : List Rat} {k : Nat} (h : x.length ≤ k) : vf x k = 0 := by
  unfold vf
  rw [List.getD_eq_getElem?_getD, List.getElem?_eq_none h]
  rfl
theorem applyQ_len {A : List (List Rat)} {x : List Rat} : (applyQ A x).length = A.length := by unfold applyQ; rw [List.length_map]
theorem vf_apply {A : List (List Rat)} {x : List Rat} {n : Nat} (hw : Wide n A) (hx : x.length = n) : vf (applyQ A x) = mv n (at2 A) (vf x) := by
  funext i
  by_cases hi : i < A.length
  · show (applyQ A x).getD i 0 = _
    unfold applyQ
    rw [getD_map' (e := []) hi, dotN_sum (wide_get hw hi) hx]
    rfl
  · rw [vf_ge (by rw [applyQ_len]; omega)]
    exact (sumN_zero fun k _ => by rw [at2_ge (Nat.not_lt.mp hi), Rat.zero_mul]).symm
theorem vf_dot {x y : List Rat} {n : Nat} (hx : x.length = n) (hy : y.length = n) : dotQ x y = dotF n (vf x) (vf y) := dotN_sum hx hy
theorem vf_scale {f : Rat} {x : List Rat} : vf (scaleQ f x) = fun k => f * vf x k := funext fun k => scaleQ_getD
theorem vf_sub {x y : List Rat} (h : x.length = y.length) : vf (subQ x y) = fun k => vf x k - vf y k := funext fun k => subQ_getD h
theorem outer_F {a b : List Rat} : at2 (outerQ a b) = fun i j => vf a i * vf b j := by
  funext i j
  by_cases hi : i < a.length
  · by_cases hj : j < b.length
    · exact outer_at hi hj
    · rw [at2_wide outer_wide (Nat.not_lt.mp hj), vf_ge (x := b) (Nat.not_lt.mp hj), Rat.mul_zero]
  · rw [at2_ge (by rw [outer_len]; omega), vf_ge (x := a) (Nat.not_lt.mp hi), Rat.zero_mul]
theorem addM_F {a b : List (List Rat)} {w : Nat} (hl : a.length = b.length) (h1 : Wide w a) (h2 : Wide w b) : at2 (addM a b) = fun i j => at2 a i j + at2 b i j := by
  funext i j
  by_cases hi : i < a.length
  · by_cases hj : j < w
    · exact addM_at h1 h2 hi (by omega) hj
    · rw [at2_wide (addM_wide h1 h2) (Nat.not_lt.mp hj), at2_wide h1 (Nat.not_lt.mp hj), at2_wide h2 (Nat.not_lt.mp hj)]
      grind
  · rw [at2_ge (by rw [addM_len hl]; omega), at2_ge (Nat.not_lt.mp hi), at2_ge (by omega)]
    grind
theorem scaleM_F {f : Rat} {a : List (List Rat)} : at2 (scaleM f a) = fun i j => f * at2 a i j := by
  funext i j
  by_cases hi : i < a.length
  · show ((scaleM f a).getD i []).getD j 0 = _
    unfold scaleM
    rw [getD_map' (e := []) hi, scaleQ_getD]
    rfl
  · rw [at2_ge (by rw [scaleM_len]; omega), at2_ge (Nat.not_lt.mp hi), Rat.mul_zero]
theorem addT_F {A : List (List Rat)} {row : List Rat} {w : Rat} (h : A.length = row.length) (hw : Wide row.length A) : at2 (addTermQ A row w) = addR (at2 A) w (vf row) (vf row) := by
  unfold addTermQ
  rw [addM_F (w := row.length) (by rw [scaleM_len, outer_len]; exact h) hw (scaleM_wide outer_wide), scaleM_F, outer_F]
  rfl
/-- the matrix minus a b' and minus b a' -/
def withoutQ (M : List (List Rat)) (a b : List Rat) : List (List Rat) := addM M (scaleM (-1) (addM (outerQ a b) (outerQ b a)))
section
variable {M P : List (List Rat)} {a b : List Rat} {n : Nat}
theorem without_len (lM : M.length = n) (la : a.length = n) (lb : b.length = n) : (withoutQ M a b).length = n := by
  unfold withoutQ
  rw [addM_len (by rw [scaleM_len, addM_len (by rw [outer_len, outer_len, la, lb]), outer_len, lM, la])]
  exact lM
theorem without_wide (wM : Wide n M) (la : a.length = n) (lb : b.length = n) : Wide n (withoutQ M a b) := by
  have w1 : Wide n (outerQ a b) := by have z := outer_wide (a := a) (b := b); rw [lb] at z; exact z
  have w2 : Wide n (outerQ b a) := by have z := outer_wide (a := b) (b := a); rw [la] at z; exact z
  exact addM_wide wM (scaleM_wide (addM_wide w1 w2))
theorem both_F (la : a.length = n) (lb : b.length = n) : at2 (addM (outerQ a b) (outerQ b a)) = fun i j => vf a i * vf b j + vf b i * vf a j := by
  have w1 : Wide n (outerQ a b) := by have z := outer_wide (a := a) (b := b); rw [lb] at z; exact z
  have w2 : Wide n (outerQ b a) := by have z := outer_wide (a := b) (b := a); rw [la] at z; exact z
  rw [addM_F (w := n) (by rw [outer_len, outer_len, la, lb]) w1 w2, outer_F, outer_F]
theorem without_F (lM : M.length = n) (wM : Wide n M) (la : a.length = n) (lb : b.length = n) : at2 (withoutQ M a b) = addR (addR (at2 M) (-1) (vf a) (vf b)) (-1) (vf b) (vf a) := by
  have w1 : Wide n (outerQ a b) := by have z := outer_wide (a := a) (b := b); rw [lb] at z; exact z
  have w2 : Wide n (outerQ b a) := by have z := outer_wide (a := b) (b := a); rw [la] at z; exact z
  have ll : (addM (outerQ a b) (outerQ b a)).length = n := by rw [addM_len (by rw [outer_len, outer_len, la, lb]), outer_len, la]
  unfold withoutQ
  rw [addM_F (w := n) (by rw [scaleM_len, ll, lM]) wM (scaleM_wide (addM_wide w1 w2)), scaleM_F, both_F la lb]
  funext i j
  show at2 M i j + -1 * (vf a i * vf b j + vf b i * vf a j) = at2 M i j + -1 * (vf a i * vf b j) + -1 * (vf b i * vf a j)
  grind
/-! ### a term added, a term removed -/
def restQ (M P : List (List Rat)) (row : List Rat) : List Rat := subQ row (applyQ M (applyQ P row))
def sizeQ (P : List (List Rat)) (row : List Rat) : Rat := dotQ row (applyQ P row)
def partQ (x : List Rat) : List Rat := scaleQ (1 / dotQ x x) x
def wAddQ (M P : List (List Rat)) (row : List Rat) (w : Rat) : List (List Rat) :=
  if (restQ M P row).all (fun q => decide (q = 0)) then addTermQ P (applyQ P row) (-(w / (1 + w * sizeQ P row)))
  else addTermQ (withoutQ P (partQ (restQ M P row)) (applyQ P row)) (partQ (restQ M P row)) (1 / w + sizeQ P row)
def wRemQ (P : List (List Rat)) (row : List Rat) (w : Rat) : List (List Rat) :=
  if 1 - w * sizeQ P row = 0 then addTermQ (withoutQ P (partQ (applyQ P row)) (applyQ P (applyQ P row))) (partQ (applyQ P row)) (dotQ (applyQ P row) (applyQ P (applyQ P row)))
  else addTermQ P (applyQ P row) (w / (1 - w * sizeQ P row))
def Psd (n : Nat) (A : M2) : Prop := ∀ x : V1, 0 ≤ dotF n x (mv n A x)
theorem psd_add {A : M2} {β : Rat} {u : V1} (h : Psd n A) (hb : 0 ≤ β) : Psd n (addR A β u u) := fun x => by
  have e : dotF n x (mv n (addR A β u u) x) = dotF n x (mv n A x) + β * (dotF n u x * dotF n u x) := by
    rw [mv_addR]
    show sumN n (fun k => x k * (mv n A x k + β * (u k * dotF n u x))) = sumN n (fun k => x k * mv n A x k) + β * (dotF n u x * dotF n u x)
    have e2 : β * (dotF n u x * dotF n u x) = sumN n (fun k => β * (u k * x k * dotF n u x)) := by
      rw [sumN_mul, sumN_mulR]
      rfl
    rw [e2, ← sumN_add]
    exact sumN_congr fun k _ => by grind
  rw [e]
  have z := h x
  have y := Rat.mul_nonneg hb (sq_nonneg (dotF n u x))
  grind
theorem restQ_len {row : List Rat} (lM : M.length = n) (lr : row.length = n) : (restQ M P row).length = n := by
  unfold restQ
  rw [subQ_len (by rw [applyQ_len, lM, lr]), lr]
theorem rest_F {row : List Rat} (lM : M.length = n) (wM : Wide n M) (lP : P.length = n) (wP : Wide n P) (lr : row.length = n) : vf (restQ M P row) = fun k => vf row k - mv n (at2 M) (mv n (at2 P) (vf row)) k := by
  unfold restQ
  rw [vf_sub (by rw [applyQ_len, lM, lr]), vf_apply wM (by rw [applyQ_len, lP]), vf_apply wP lr]
theorem all_zero {x : List Rat} : x.all (fun q => decide (q = 0)) = true ↔ ∀ k, vf x k = 0 := by
  rw [List.all_eq_true]
  constructor
  · intro h k
    by_cases hk : k < x.length
    · have z := h _ (List.mem_of_getElem? (getD_get (d := 0) hk))
      exact of_decide_eq_true z
    · exact vf_ge (Nat.not_lt.mp hk)
  · intro h q hq
    obtain ⟨k, hk, e⟩ := List.mem_iff_getElem.mp hq
    have z := h k
    unfold vf at z
    rw [List.getD_eq_getElem?_getD, List.getElem?_eq_getElem hk] at z
    have z2 : x[k] = 0 := z
    rw [e] at z2
    exact decide_eq_true z2
theorem dot_ne {u : V1} (h : ¬ ∀ k, k < n → u k = 0) : dotF n u u ≠ 0 := fun e => h fun k hk => sq_null (sumN_null (fun k _ => sq_nonneg _) e k hk)
theorem wAdd_pen {row : List Rat} {w : Rat} (lM : M.length = n) (wM : Wide n M) (lP : P.length = n) (wP : Wide n P) (lr : row.length = n) (p : Pen n n (at2 M) (at2 P)) (sM : trF (at2 M) = at2 M) (psd : Psd n (at2 M)) (hw : 0 < w) :
    Pen n n (at2 (addTermQ M row w)) (at2 (wAddQ M P row w)) := by
  have li : (applyQ P row).length = n := by rw [applyQ_len, lP]
  have fi := vf_apply wP lr
  have fr := rest_F lM wM lP wP lr
  have lrest := restQ_len (P := P) lM lr
  have es : sizeQ P row = dotF n (vf row) (mv n (at2 P) (vf row)) := by unfold sizeQ; rw [vf_dot lr li, fi]
  have w0 : w ≠ 0 := fun e => by rw [e] at hw; exact absurd hw (by decide)
  rw [addT_F (by omega) (by rw [lr]; exact wM)]
  unfold wAddQ
  by_cases c : (restQ M P row).all (fun q => decide (q = 0)) = true
  · rw [if_pos c]
    have z := all_zero.mp c
    have hg : mv n (at2 M) (mv n (at2 P) (vf row)) = vf row := by
      funext k
      have y := z k
      rw [fr] at y
      grind
    have sz : 0 ≤ sizeQ P row := by
      have y := psd (mv n (at2 P) (vf row))
      rw [hg, dotF_comm, ← es] at y
      exact y
    have h1 : 1 + w * dotF n (vf row) (mv n (at2 P) (vf row)) ≠ 0 := fun e => by
      rw [← es] at e
      have y := Rat.mul_nonneg (Rat.le_of_lt hw) sz
      have z : (0 : Rat) < 1 := by decide
      grind
    rw [addT_F (by rw [lP, li]) (by rw [li]; exact wP), fi, es]
    exact up_in p sM hg h1
  · rw [if_neg c]
    have hu : dotF n (vf (restQ M P row)) (vf (restQ M P row)) ≠ 0 := dot_ne fun h => c (all_zero.mpr fun k => by
      by_cases hk : k < n
      · exact h k hk
      · exact vf_ge (by omega))
    have lp : (partQ (restQ M P row)).length = n := by unfold partQ; rw [scaleQ_len, lrest]
    have fp : vf (partQ (restQ M P row)) = fun k => 1 / dotF n (vf (restQ M P row)) (vf (restQ M P row)) * vf (restQ M P row) k := by
      unfold partQ
      rw [vf_scale, vf_dot lrest lrest]
    rw [addT_F (by rw [without_len lP lp li, lp]) (by rw [lp]; exact without_wide wP lp li), without_F lP wP lp li, fi, es, fp]
    exact up_out p sM w0 fr hu
theorem wRem_pen {row : List Rat} {w : Rat} {N : M2} (lM : M.length = n) (wM : Wide n M) (lP : P.length = n) (wP : Wide n P) (lr : row.length = n) (p : Pen n n (at2 M) (at2 P)) (sM : trF (at2 M) = at2 M) (psd : Psd n N) (hw : 0 < w) (hM : at2 M = addR N w (vf row) (vf row)) :
    Pen n n (at2 (addTermQ M row (-w))) (at2 (wRemQ P row w)) := by
  have li : (applyQ P row).length = n := by rw [applyQ_len, lP]
  have fi := vf_apply wP lr
  have es : sizeQ P row = dotF n (vf row) (mv n (at2 P) (vf row)) := by unfold sizeQ; rw [vf_dot lr li, fi]
  -- the row is in the span
  have hg : mv n (at2 M) (mv n (at2 P) (vf row)) = vf row := by
    obtain ⟨f1, f2⟩ := rest_facts (a := vf row) p sM
    have e : dotF n (fun k => vf row k - mv n (at2 M) (mv n (at2 P) (vf row)) k) (mv n (at2 M) (fun k => vf row k - mv n (at2 M) (mv n (at2 P) (vf row)) k)) = 0 := sumN_zero fun k _ => by rw [f1 k, Rat.mul_zero]
    have au : dotF n (vf row) (fun k => vf row k - mv n (at2 M) (mv n (at2 P) (vf row)) k) = dotF n (fun k => vf row k - mv n (at2 M) (mv n (at2 P) (vf row)) k) (fun k => vf row k - mv n (at2 M) (mv n (at2 P) (vf row)) k) := by
      have Mu : mv n (at2 M) (fun k => vf row k - mv n (at2 M) (mv n (at2 P) (vf row)) k) = fun _ => 0 := funext f1
      have z : dotF n (mv n (at2 M) (mv n (at2 P) (vf row))) (fun k => vf row k - mv n (at2 M) (mv n (at2 P) (vf row)) k) = 0 := by
        have y := dotF_mv n (trF (at2 M)) (mv n (at2 P) (vf row)) (fun k => vf row k - mv n (at2 M) (mv n (at2 P) (vf row)) k)
        rw [trF_trF, sM, Mu] at y
        rw [← y]
        exact sumN_zero fun k _ => Rat.mul_zero _
      generalize hU : (fun k => vf row k - mv n (at2 M) (mv n (at2 P) (vf row)) k) = u at *
      have e1 : dotF n u u = 1 * dotF n (vf row) u + -1 * dotF n (mv n (at2 M) (mv n (at2 P) (vf row))) u := by
        show sumN n (fun k => u k * u k) = 1 * sumN n (fun k => vf row k * u k) + -1 * sumN n (fun k => mv n (at2 M) (mv n (at2 P) (vf row)) k * u k)
        rw [← sumN_lin]
        refine sumN_congr fun k _ => ?_
        have ek : u k = vf row k - mv n (at2 M) (mv n (at2 P) (vf row)) k := by rw [← hU]
        grind
      rw [z] at e1
      grind
    have un : ∀ k, (fun k => vf row k - mv n (at2 M) (mv n (at2 P) (vf row)) k) k = 0 := by
      generalize hU : (fun k => vf row k - mv n (at2 M) (mv n (at2 P) (vf row)) k) = u at *
      have q : dotF n u (mv n N u) + w * (dotF n (vf row) u * dotF n (vf row) u) = 0 := by
        rw [hM] at e
        rw [mv_addR] at e
        have e3 : dotF n u (fun i => mv n N u i + w * (vf row i * dotF n (vf row) u)) = dotF n u (mv n N u) + w * (dotF n (vf row) u * dotF n (vf row) u) := by
          show sumN n (fun k => u k * (mv n N u k + w * (vf row k * dotF n (vf row) u))) = sumN n (fun k => u k * mv n N u k) + w * (dotF n (vf row) u * dotF n (vf row) u)
          have e2 : w * (dotF n (vf row) u * dotF n (vf row) u) = sumN n (fun k => w * (vf row k * u k * dotF n (vf row) u)) := by
            rw [sumN_mul, sumN_mulR]
            rfl
          rw [e2, ← sumN_add]
          exact sumN_congr fun k _ => by grind
        rw [e3] at e
        exact e
      have n1 := psd u
      have n2 := sq_nonneg (dotF n (vf row) u)
      have n3 := Rat.mul_nonneg (Rat.le_of_lt hw) n2
      have q2 : w * (dotF n (vf row) u * dotF n (vf row) u) = 0 := by grind
      have q3 : dotF n (vf row) u = 0 := by
        rcases Rat.mul_eq_zero.mp q2 with h | h
        · rw [h] at hw; exact absurd hw (by decide)
        · exact sq_null h
      rw [q3] at au
      have q4 := sumN_null (fun k _ => sq_nonneg (u k)) au.symm
      intro k
      by_cases hk : k < n
      · exact sq_null (q4 k hk)
      · have ek : u k = vf row k - mv n (at2 M) (mv n (at2 P) (vf row)) k := by rw [← hU]
        rw [ek, vf_ge (by omega)]
        have : mv n (at2 M) (mv n (at2 P) (vf row)) k = 0 := sumN_zero fun j _ => by rw [at2_ge (by omega), Rat.zero_mul]
        rw [this]
        grind
    funext k
    have y := un k
    dsimp only at y
    grind
  rw [addT_F (by omega) (by rw [lr]; exact wM)]
  unfold wRemQ
  by_cases c : 1 - w * sizeQ P row = 0
  · rw [if_pos c]
    have h1 : w * dotF n (vf row) (mv n (at2 P) (vf row)) = 1 := by rw [← es]; grind
    have hq : dotF n (mv n (at2 P) (vf row)) (mv n (at2 P) (vf row)) ≠ 0 := dot_ne fun h => by
      have z : dotF n (vf row) (mv n (at2 P) (vf row)) = 0 := sumN_zero fun k hk => by rw [h k hk, Rat.mul_zero]
      rw [z, Rat.mul_zero] at h1
      exact absurd h1 (by decide)
    have l2 : (applyQ P (applyQ P row)).length = n := by rw [applyQ_len, lP]
    have f2 := vf_apply wP li
    rw [fi] at f2
    have lp : (partQ (applyQ P row)).length = n := by unfold partQ; rw [scaleQ_len, li]
    have fp : vf (partQ (applyQ P row)) = fun k => 1 / dotF n (mv n (at2 P) (vf row)) (mv n (at2 P) (vf row)) * mv n (at2 P) (vf row) k := by
      unfold partQ
      rw [vf_scale, vf_dot li li, fi]
    rw [addT_F (by rw [without_len lP lp l2, lp]) (by rw [lp]; exact without_wide wP lp l2), without_F lP wP lp l2, f2, fp, vf_dot li l2, fi, f2]
    exact up_fall p sM hg h1 hq
  · rw [if_neg c]
    have h1 : 1 + -w * dotF n (vf row) (mv n (at2 P) (vf row)) ≠ 0 := fun e => c (by rw [es]; grind)
    rw [addT_F (by rw [lP, li]) (by rw [li]; exact wP), fi, es]
    have z := up_in p sM hg h1
    have e : -(-w / (1 + -w * dotF n (vf row) (mv n (at2 P) (vf row)))) = w / (1 - w * dotF n (vf row) (mv n (at2 P) (vf row))) := by
      have e1 : 1 + -w * dotF n (vf row) (mv n (at2 P) (vf row)) = 1 - w * dotF n (vf row) (mv n (at2 P) (vf row)) := by grind
      rw [e1, Rat.div_def, Rat.div_def]
      grind
    rw [e] at z
    exact z
end
end Pn

namespace Pn
open PySem L2 Evl
/-! ### sizes of numbers and vectors by one denominator -/
def QB (N : Nat) (q : Rat) : Prop := ∃ d : Nat, 0 < d ∧ d ≤ 2 ^ N ∧ IntB N ((d : Rat) * q)
def VB (N : Nat) (x : List Rat) : Prop := ∃ d : Nat, 0 < d ∧ d ≤ 2 ^ N ∧ ∀ k, IntB N ((d : Rat) * vf x k)
theorem pow_le {a b : Nat} (h : a ≤ b) : 2 ^ a ≤ 2 ^ b := Nat.pow_le_pow_right (by decide) h
theorem QB.mono {n m : Nat} {q : Rat} (h : QB n q) (k : n ≤ m) : QB m q := by
  obtain ⟨d, h0, h1, h2⟩ := h
  exact ⟨d, h0, Nat.le_trans h1 (pow_le k), h2.mono k⟩
theorem VB.mono {n m : Nat} {x : List Rat} (h : VB n x) (k : n ≤ m) : VB m x := by
  obtain ⟨d, h0, h1, h2⟩ := h
  exact ⟨d, h0, Nat.le_trans h1 (pow_le k), fun i => (h2 i).mono k⟩
theorem QB.sm {n : Nat} {q : Rat} (h : QB n q) : SmB (n + 1) q := by
  obtain ⟨d, h0, h1, h2⟩ := h
  exact numB_sm h2 h0 (Nat.lt_of_le_of_lt h1 (Nat.pow_lt_pow_right (by decide) (by omega))) (by omega)
theorem VB.at {n : Nat} {x : List Rat} (h : VB n x) (k : Nat) : QB n (vf x k) := by
  obtain ⟨d, h0, h1, h2⟩ := h
  exact ⟨d, h0, h1, h2 k⟩
theorem CDB.at {n : Nat} {A : M2} (h : CDB n A) (i j : Nat) : QB n (A i j) := by
  obtain ⟨d, h0, h1, h2⟩ := h
  exact ⟨d, h0, h1, h2 i j⟩
theorem allS_of {n : Nat} {x : List Rat} (h : ∀ k, SmB n (vf x k)) : AllS n x := fun q hq => by
  obtain ⟨k, hk, e⟩ := List.mem_iff_getElem.mp hq
  have z := h k
  unfold vf at z
  rw [List.getD_eq_getElem?_getD, List.getElem?_eq_getElem hk] at z
  rw [← e]
  exact z
theorem VB.sm {n : Nat} {x : List Rat} (h : VB n x) : AllS (n + 1) x := allS_of fun k => (h.at k).sm
theorem QB.mul {a b : Nat} {p q : Rat} (h1 : QB a p) (h2 : QB b q) : QB (a + b) (p * q) := by
  obtain ⟨d, d0, d1, d2⟩ := h1
  obtain ⟨c, c0, c1, c2⟩ := h2
  exact ⟨d * c, Nat.mul_pos d0 c0, Nat.le_trans (Nat.mul_le_mul d1 c1) (by rw [← Nat.pow_add]; exact Nat.le_refl _), numB_mul d2 c2⟩
theorem QB.add {a b : Nat} {p q : Rat} (h1 : QB a p) (h2 : QB b q) : QB (a + b + 1) (p + q) := by
  obtain ⟨d, d0, d1, d2⟩ := h1
  obtain ⟨c, c0, c1, c2⟩ := h2
  refine ⟨d * c, Nat.mul_pos d0 c0, Nat.le_trans (Nat.mul_le_mul d1 c1) (by rw [← Nat.pow_add]; exact pow_le (by omega)), ?_⟩
  have e1 : NumB (a + b) (d * c) p := by
    have z := numB_up (b := b) d2 c1
    rw [Nat.mul_comm]
    exact z
  have e2 : NumB (a + b) (d * c) q := by
    have z := numB_up (b := a) c2 d1
    exact z.mono (by omega)
  exact numB_add e1 e2
theorem QB.neg {a : Nat} {p : Rat} (h : QB a p) : QB a (-p) := by
  obtain ⟨d, d0, d1, d2⟩ := h
  exact ⟨d, d0, d1, numB_neg d2⟩
theorem QB.sub {a b : Nat} {p q : Rat} (h1 : QB a p) (h2 : QB b q) : QB (a + b + 1) (p - q) := by
  have e : p - q = p + -q := by grind
  rw [e]
  exact h1.add h2.neg
theorem QB.one : QB 0 1 := ⟨1, by decide, by decide, 1, by rw [Rat.mul_one]; rfl, by decide⟩
theorem QB.inv {a : Nat} {q : Rat} (h : QB a q) (h0 : q ≠ 0) : QB a (1 / q) := by
  obtain ⟨d, d0, d1, z, ez, hz⟩ := h
  have dr : (d : Rat) ≠ 0 := by exact_mod_cast Nat.ne_of_gt d0
  have z0 : z ≠ 0 := fun e => by
    rw [e] at ez
    have ez : (d : Rat) * q = 0 := ez
    rcases Rat.mul_eq_zero.mp ez with h | h
    · exact dr h
    · exact h0 h
  have e1 : (z : Rat) * (1 / q) = (d : Rat) := by
    rw [← ez, Rat.mul_assoc, Rat.div_def, Rat.one_mul, Rat.mul_inv_cancel _ h0, Rat.mul_one]
  have e2 : ((z.natAbs : Nat) : Rat) = (((z.natAbs : Nat) : Int) : Rat) := rfl
  rcases Int.natAbs_eq z with c | c
  · refine ⟨z.natAbs, by omega, hz, (d : Int), ?_, by rw [Int.natAbs_natCast]; exact d1⟩
    rw [e2, ← c, e1]
    rfl
  · refine ⟨z.natAbs, by omega, hz, -(d : Int), ?_, by rw [Int.natAbs_neg, Int.natAbs_natCast]; exact d1⟩
    have e3 : ((z.natAbs : Nat) : Int) = -z := by omega
    rw [e2, e3, Rat.intCast_neg, Rat.intCast_neg]
    have e4 : ((d : Int) : Rat) = (d : Rat) := rfl
    rw [e4, ← e1]
    grind
theorem QB.div {a b : Nat} {p q : Rat} (h1 : QB a p) (h2 : QB b q) (h0 : q ≠ 0) : QB (a + b) (p / q) := by
  have e : p / q = p * (1 / q) := by rw [Rat.div_def, Rat.div_def, Rat.one_mul]
  rw [e]
  exact h1.mul (h2.inv h0)
theorem VB.mv {m r n : Nat} {A : List (List Rat)} {x : List Rat} (h1 : CDB m (at2 A)) (h2 : VB r x) (hw : Wide n A) (hx : x.length = n) (hn : n ≤ 32) : VB (m + r + 5) (applyQ A x) := by
  obtain ⟨d, d0, d1, d2⟩ := h1
  obtain ⟨c, c0, c1, c2⟩ := h2
  refine ⟨d * c, Nat.mul_pos d0 c0, Nat.le_trans (Nat.mul_le_mul d1 c1) (by rw [← Nat.pow_add]; exact pow_le (by omega)), fun k => ?_⟩
  rw [vf_apply hw hx, Rat.natCast_mul]
  exact sum_int (fun j => d2 k j) c2 hn
theorem VB.dot {a b n : Nat} {x y : List Rat} (h1 : VB a x) (h2 : VB b y) (hx : x.length = n) (hy : y.length = n) (hn : n ≤ 32) : QB (a + b + 5) (dotQ x y) := by
  obtain ⟨d, d0, d1, d2⟩ := h1
  obtain ⟨c, c0, c1, c2⟩ := h2
  refine ⟨d * c, Nat.mul_pos d0 c0, Nat.le_trans (Nat.mul_le_mul d1 c1) (by rw [← Nat.pow_add]; exact pow_le (by omega)), ?_⟩
  rw [vf_dot hx hy, Rat.natCast_mul]
  exact sum_int d2 c2 hn
theorem VB.sub {a b : Nat} {x y : List Rat} (h1 : VB a x) (h2 : VB b y) (hl : x.length = y.length) : VB (a + b + 1) (subQ x y) := by
  obtain ⟨d, d0, d1, d2⟩ := h1
  obtain ⟨c, c0, c1, c2⟩ := h2
  refine ⟨d * c, Nat.mul_pos d0 c0, Nat.le_trans (Nat.mul_le_mul d1 c1) (by rw [← Nat.pow_add]; exact pow_le (by omega)), fun k => ?_⟩
  rw [vf_sub hl]
  have e1 : NumB (a + b) (d * c) (vf x k) := by
    have z := numB_up (b := b) (show NumB a d (vf x k) from d2 k) c1
    rw [Nat.mul_comm]
    exact z
  have e2 : NumB (a + b) (d * c) (vf y k) := (numB_up (b := a) (show NumB b c (vf y k) from c2 k) d1).mono (by omega)
  exact numB_sub e1 e2
theorem VB.smul {a b : Nat} {f : Rat} {x : List Rat} (h1 : QB a f) (h2 : VB b x) : VB (a + b) (scaleQ f x) := by
  obtain ⟨d, d0, d1, d2⟩ := h1
  obtain ⟨c, c0, c1, c2⟩ := h2
  refine ⟨d * c, Nat.mul_pos d0 c0, Nat.le_trans (Nat.mul_le_mul d1 c1) (by rw [← Nat.pow_add]; exact Nat.le_refl _), fun k => ?_⟩
  rw [vf_scale]
  exact numB_mul (show NumB a d f from d2) (show NumB b c (vf x k) from c2 k)
theorem VB.part {a n : Nat} {x : List Rat} (h : VB a x) (hx : x.length = n) (hn : n ≤ 32) (h0 : dotQ x x ≠ 0) : VB (2 * a + 5) (partQ x) := by
  obtain ⟨d, d0, d1, d2⟩ := h
  have dr : (d : Rat) ≠ 0 := by exact_mod_cast Nat.ne_of_gt d0
  obtain ⟨z, ez, hz⟩ := sum_int (e := n) d2 d2 hn
  have ez : (d : Rat) * (d : Rat) * dotQ x x = (z : Rat) := by rw [vf_dot hx hx]; exact ez
  have z0 : z ≠ 0 := fun e => by
    rw [e] at ez
    have ez : (d : Rat) * (d : Rat) * dotQ x x = 0 := ez
    rcases Rat.mul_eq_zero.mp ez with h | h
    · rcases Rat.mul_eq_zero.mp h with h | h <;> exact dr h
    · exact h0 h
  have key : ∀ k, (z : Rat) * vf (partQ x) k = (d : Rat) * ((d : Rat) * vf x k) := fun k => by
    unfold partQ
    rw [vf_scale, ← ez, Rat.div_def, Rat.one_mul]
    have y := Rat.mul_inv_cancel _ h0
    generalize (dotQ x x)⁻¹ = i at *
    grind
  have num : ∀ k, IntB (2 * a + 5) ((d : Rat) * ((d : Rat) * vf x k)) := fun k => (intB_scale (d2 k) d1).mono (by omega)
  have e2 : ((z.natAbs : Nat) : Rat) = (((z.natAbs : Nat) : Int) : Rat) := rfl
  rcases Int.natAbs_eq z with c | c
  · refine ⟨z.natAbs, by omega, Nat.le_trans hz (pow_le (by omega)), fun k => ?_⟩
    rw [e2, ← c, key]
    exact num k
  · refine ⟨z.natAbs, by omega, Nat.le_trans hz (pow_le (by omega)), fun k => ?_⟩
    have e3 : ((z.natAbs : Nat) : Int) = -z := by omega
    rw [e2, e3, Rat.intCast_neg]
    have e4 : -(z : Rat) * vf (partQ x) k = -((d : Rat) * ((d : Rat) * vf x k)) := by rw [← key]; grind
    rw [e4]
    obtain ⟨y, ey, hy⟩ := num k
    exact ⟨-y, by rw [Rat.intCast_neg, ← ey], by rw [Int.natAbs_neg]; exact hy⟩
/-- a' b and b' a together, and taken of a matrix -/
theorem cdb_both {a b n : Nat} {x y : List Rat} (h1 : VB a x) (h2 : VB b y) (hx : x.length = n) (hy : y.length = n) : CDB (a + b + 1) (at2 (addM (outerQ x y) (outerQ y x))) := by
  obtain ⟨d, d0, d1, d2⟩ := h1
  obtain ⟨c, c0, c1, c2⟩ := h2
  refine ⟨d * c, Nat.mul_pos d0 c0, Nat.le_trans (Nat.mul_le_mul d1 c1) (by rw [← Nat.pow_add]; exact pow_le (by omega)), fun i j => ?_⟩
  rw [both_F hx hy]
  have e1 : NumB (a + b) (d * c) (vf x i * vf y j) := numB_mul (show NumB a d (vf x i) from d2 i) (show NumB b c (vf y j) from c2 j)
  have e2 : NumB (a + b) (d * c) (vf y i * vf x j) := by
    rw [Rat.mul_comm]
    exact numB_mul (show NumB a d (vf x j) from d2 j) (show NumB b c (vf y i) from c2 i)
  exact numB_add e1 e2
theorem cdb_without {m a b n : Nat} {M : List (List Rat)} {x y : List Rat} (h : CDB m (at2 M)) (h1 : VB a x) (h2 : VB b y) (lM : M.length = n) (wM : Wide n M) (hx : x.length = n) (hy : y.length = n) : CDB (m + a + b + 2) (at2 (withoutQ M x y)) := by
  obtain ⟨e, e0, e1, e2⟩ := h
  obtain ⟨d, d0, d1, d2⟩ := cdb_both h1 h2 hx hy
  refine ⟨e * d, Nat.mul_pos e0 d0, Nat.le_trans (Nat.mul_le_mul e1 d1) (by rw [← Nat.pow_add]; exact pow_le (by omega)), fun i j => ?_⟩
  have z1 : NumB (m + (a + b + 1)) (e * d) (at2 M i j) := by
    have z := numB_up (b := a + b + 1) (show NumB m e (at2 M i j) from e2 i j) d1
    rw [Nat.mul_comm]
    exact z
  have z2 : NumB (m + (a + b + 1)) (e * d) (at2 (addM (outerQ x y) (outerQ y x)) i j) := (numB_up (b := m) (show NumB (a + b + 1) d _ from d2 i j) e1).mono (by omega)
  have ef : at2 (withoutQ M x y) i j = at2 M i j - at2 (addM (outerQ x y) (outerQ y x)) i j := by
    rw [without_F lM wM hx hy, both_F hx hy]
    show at2 M i j + -1 * (vf x i * vf y j) + -1 * (vf y i * vf x j) = at2 M i j - (vf x i * vf y j + vf y i * vf x j)
    grind
  rw [ef]
  exact (numB_sub z1 z2).mono (by omega)
/-! ### promises -/
def spDivided (C : Addr) : Sp := fun vs H Q _ => ∃ (x y : V) (a : List Rat) (q : Rat) (n : Nat), vs = [x, y] ∧ VecAt C a x H ∧ RatAt C H y q ∧ a.length ≤ 10000 ∧ (AllS n a ∧ SmB n q ∧ q ≠ 0 ∧ 2 ≤ n ∧ 3 * n ≤ 900000) ∧ NewV (VecAt C (scaleQ (1 / q) a)) H Q
def spWithout (C : Addr) : Sp := fun vs H Q _ => ∃ (x y z : V) (M : List (List Rat)) (a b : List Rat) (n m p q : Nat), vs = [x, y, z] ∧ MatAt C M x H ∧ VecAt C a y H ∧ VecAt C b z H ∧ (M.length = n ∧ Wide n M ∧ a.length = n ∧ b.length = n ∧ n ≤ 32) ∧ (CDB m (at2 M) ∧ VB p a ∧ VB q b) ∧ (2 * (p + q) + m + 20 ≤ 900000) ∧ NewV (MatAt C (withoutQ M a b)) H Q
/-- sizes with which a term may be added or removed -/
def UpdOk (m p r k n : Nat) : Prop := n ≤ 32 ∧ (3 * (m + 2 * r + p + 20) + 3) * n + 1 ≤ 900000 ∧ 13 * (m + 2 * r + p + 20) + 4 * k + 100 ≤ 900000
def spWAdd (C : Addr) : Sp := fun vs H Q _ => ∃ (x y z u : V) (M P : List (List Rat)) (row : List Rat) (w : Rat) (n m p r k : Nat), vs = [x, y, z, u] ∧ MatAt C M x H ∧ MatAt C P y H ∧ VecAt C row z H ∧ RatAt C H u w ∧
  ((M.length = n ∧ Wide n M) ∧ (P.length = n ∧ Wide n P) ∧ row.length = n) ∧ (CDB m (at2 M) ∧ CDB p (at2 P) ∧ VB r row ∧ QB k w) ∧ UpdOk m p r k n ∧ (w ≠ 0 ∧ ((restQ M P row).all (fun q => decide (q = 0)) = true → 1 + w * sizeQ P row ≠ 0)) ∧ NewV (MatAt C (wAddQ M P row w)) H Q
def spWRem (C : Addr) : Sp := fun vs H Q _ => ∃ (x y z u : V) (M P : List (List Rat)) (row : List Rat) (w : Rat) (n m p r k : Nat), vs = [x, y, z, u] ∧ MatAt C M x H ∧ MatAt C P y H ∧ VecAt C row z H ∧ RatAt C H u w ∧
  ((M.length = n ∧ Wide n M) ∧ (P.length = n ∧ Wide n P) ∧ row.length = n) ∧ (CDB m (at2 M) ∧ CDB p (at2 P) ∧ VB r row ∧ QB k w) ∧ UpdOk m p r k n ∧ (1 - w * sizeQ P row = 0 → dotQ (applyQ P row) (applyQ P row) ≠ 0) ∧ NewV (MatAt C (wRemQ P row w)) H Q
section
variable {K : PySem.W.Frag} {C : Addr} {te ta tb tc td tl : TE} {σ : L2.St} {H : Hp} {E : XK} {D : Ends} {tz tbd : TS} {g : TG}
theorem evp_divided {a : List Rat} {q : Rat} {n : Nat} (ha : EvP ta σ H (VecAt C a)) (hb : EvP tb σ H (fun v H => RatAt C H v q)) (hl : a.length ≤ 10000) (h : AllS n a ∧ SmB n q ∧ q ≠ 0 ∧ 2 ≤ n ∧ 3 * n ≤ 900000) : EvP (tCall (spDivided C) [] E (tCons ta (tCons tb tNil))) σ H (VecAt C (scaleQ (1 / q) a)) :=
  evp_call2 mono_vec ha hb fun v u H1 _ r1 r2 Q2 E2 k2 => ⟨v, u, a, q, n, rfl, r1, r2, hl, h, k2⟩
theorem evp_without {M : List (List Rat)} {a b : List Rat} {n m p q : Nat} (ha : EvP ta σ H (MatAt C M)) (hb : EvP tb σ H (VecAt C a)) (hc : EvP tc σ H (VecAt C b)) (h : M.length = n ∧ Wide n M ∧ a.length = n ∧ b.length = n ∧ n ≤ 32) (hs : CDB m (at2 M) ∧ VB p a ∧ VB q b) (ho : 2 * (p + q) + m + 20 ≤ 900000) :
    EvP (tCall (spWithout C) [] E (tCons ta (tCons tb (tCons tc tNil)))) σ H (MatAt C (withoutQ M a b)) :=
  evp_call3 mono_mat mono_vec ha hb hc fun v u z H1 _ r1 r2 r3 Q2 E2 k2 => ⟨v, u, z, M, a, b, n, m, p, q, rfl, r1, r2, r3, h, hs, ho, k2⟩
theorem evp_call4 {sp : Sp} {S1 S2 S3 S4 S' : V → Hp → Prop} (m1 : Mono S1) (m2 : Mono S2) (m3 : Mono S3) (ha : EvP ta σ H S1) (hb : EvP tb σ H S2) (hc : EvP tc σ H S3) (hd : EvP td σ H S4) (hs : ∀ v u z y H1, Ex H H1 → S1 v H1 → S2 u H1 → S3 z H1 → S4 y H1 → ∀ (Q : VK) (E : XK), (∀ r H2, Ex H1 H2 → S' r H2 → Q r H2) → sp [v, u, z, y] H1 Q E) :
    EvP (tCall sp [] E (tCons ta (tCons tb (tCons tc (tCons td tNil))))) σ H S' := fun H1 e Q k =>
  ha H1 e _ fun v H2 e2 hv => hb H2 (e.trans e2) _ fun u H3 e3 hu => hc H3 ((e.trans e2).trans e3) _ fun z H4 e4 hz => hd H4 (((e.trans e2).trans e3).trans e4) _ fun y H5 e5 hy =>
    hs v u z y H5 ((((e.trans e2).trans e3).trans e4).trans e5) (m1 _ _ _ ((e3.trans e4).trans e5) hv) (m2 _ _ _ (e4.trans e5) hu) (m3 _ _ _ e5 hz) hy Q E fun r H6 e6 hr => k r H6 ((((e2.trans e3).trans e4).trans e5).trans e6) hr
theorem evp_wAdd {M P : List (List Rat)} {row : List Rat} {w : Rat} {n m p r k : Nat} (ha : EvP ta σ H (MatAt C M)) (hb : EvP tb σ H (MatAt C P)) (hc : EvP tc σ H (VecAt C row)) (hd : EvP td σ H (fun v H => RatAt C H v w)) (h1 : (M.length = n ∧ Wide n M) ∧ (P.length = n ∧ Wide n P) ∧ row.length = n) (h2 : CDB m (at2 M) ∧ CDB p (at2 P) ∧ VB r row ∧ QB k w) (h3 : UpdOk m p r k n) (h4 : w ≠ 0 ∧ ((restQ M P row).all (fun q => decide (q = 0)) = true → 1 + w * sizeQ P row ≠ 0)) :
    EvP (tCall (spWAdd C) [] E (tCons ta (tCons tb (tCons tc (tCons td tNil))))) σ H (MatAt C (wAddQ M P row w)) :=
  evp_call4 mono_mat mono_mat mono_vec ha hb hc hd fun v u z y H1 _ r1 r2 r3 r4 Q2 E2 k2 => ⟨v, u, z, y, M, P, row, w, n, m, p, r, k, rfl, r1, r2, r3, r4, h1, h2, h3, h4, k2⟩
theorem evp_wRem {M P : List (List Rat)} {row : List Rat} {w : Rat} {n m p r k : Nat} (ha : EvP ta σ H (MatAt C M)) (hb : EvP tb σ H (MatAt C P)) (hc : EvP tc σ H (VecAt C row)) (hd : EvP td σ H (fun v H => RatAt C H v w)) (h1 : (M.length = n ∧ Wide n M) ∧ (P.length = n ∧ Wide n P) ∧ row.length = n) (h2 : CDB m (at2 M) ∧ CDB p (at2 P) ∧ VB r row ∧ QB k w) (h3 : UpdOk m p r k n) (h4 : 1 - w * sizeQ P row = 0 → dotQ (applyQ P row) (applyQ P row) ≠ 0) :
    EvP (tCall (spWRem C) [] E (tCons ta (tCons tb (tCons tc (tCons td tNil))))) σ H (MatAt C (wRemQ P row w)) :=
  evp_call4 mono_mat mono_mat mono_vec ha hb hc hd fun v u z y H1 _ r1 r2 r3 r4 Q2 E2 k2 => ⟨v, u, z, y, M, P, row, w, n, m, p, r, k, rfl, r1, r2, r3, r4, h1, h2, h3, h4, k2⟩
end
end Pn

namespace Pn
open PySem L2 Evl
/-! ### terms and their normal matrices -/
def WOk (q : Rat) : Prop := SmB 9 q ∧ 0 < q ∧ q.den ∣ 28
def spWeight4 (C : Addr) : Sp := fun vs H Q _ => ∃ (st : Addr × Addr) (c : Nat), vs = [.ref st.1] ∧ St3 st c H ∧ c + 4 < cMax ∧ ∀ q v H', WOk q → RatAt C H' v q → St3 st (c + 2) H' → FrS st H H' → Q v H'
def TermsE (w : Nat) (ts : List (Rat × List Rat)) : Prop := ∀ (i : Nat) t, ts[i]? = some t → WOk t.1 ∧ (∀ q ∈ t.2, EB i q) ∧ t.2.length = w
def spTermList4 (C : Addr) : Sp := fun vs H Q _ => ∃ (st : Addr × Addr) (c w : Nat) (many : Int), vs = [.ref st.1, .int (w : Int), .int many] ∧ St3 st c H ∧ c + 10000 < cMax ∧ w ≤ 100 ∧ 0 < many ∧ many ≤ 7 ∧
  ∀ ts p vs H', ts.length < many.toNat → TermsE w ts → H p = none → H' p = some (.lst vs) → AllR (RT C) ts vs H' → St3 st (c + 9000) H' → FrS st H H' → Q (.ref p) H'
theorem den28 (t : Int) {b : Int} (hb : b ≠ 0) (h : b.natAbs ∣ 28) : (Rat.divInt t b).den ∣ 28 := Nat.dvd_trans (den_divInt_dvd t hb) h
theorem wok_num {q : Rat} (h : WOk q) : NumB 14 28 q := int_of (b := 5) (n := 9) h.1.1 h.2.2 (by decide) (by decide)
theorem wok_qb {q : Rat} (h : WOk q) : QB 14 q := ⟨28, by decide, by decide, wok_num h⟩
/-- a term with a row over one denominator -/
def TermB (n d w : Nat) (t : Rat × List Rat) : Prop := WOk t.1 ∧ (∀ q ∈ t.2, NumB n d q) ∧ t.2.length = w
def TermsB (n d w : Nat) (ts : List (Rat × List Rat)) : Prop := ∀ t ∈ ts, TermB n d w t
theorem term_vf {n d w : Nat} {t : Rat × List Rat} (h : TermB n d w t) (i : Nat) : NumB n d (vf t.2 i) := by
  by_cases hi : i < t.2.length
  · exact h.2.1 _ (List.mem_of_getElem? (getD_get (d := 0) hi))
  · rw [vf_ge (Nat.not_lt.mp hi)]
    exact ⟨0, by rw [Rat.mul_zero]; rfl, by simp⟩
theorem term_numB {n d w : Nat} {t : Rat × List Rat} (h : TermB n d w t) (i j : Nat) : NumB (14 + n + n) (28 * d * d) (termQ i j t) := numB_mul (numB_mul (wok_num h.1) (term_vf h i)) (term_vf h j)
theorem fold_numB {c e i j : Nat} : ∀ {ts : List (Rat × List Rat)} {s : Rat} {m : Nat}, c ≤ m → NumB m e s → (∀ t ∈ ts, NumB c e (termQ i j t)) → NumB (m + ts.length) e (ts.foldl (fun s t => s + termQ i j t) s)
  | [], s, m, _, h, _ => h
  | t :: ts, s, m, hm, h, ht => by
    have z := fold_numB (ts := ts) (m := m + 1) (by omega) (numB_add h ((ht t List.mem_cons_self).mono hm)) (fun x hx => ht x (List.mem_cons_of_mem _ hx))
    refine NumB.mono z ?_
    rw [List.length_cons]
    omega
theorem entry_numB {n d w i j : Nat} {ts : List (Rat × List Rat)} (h : TermsB n d w ts) : NumB (14 + n + n + ts.length) (28 * d * d) (entryQ ts i j) :=
  fold_numB (Nat.le_refl _) ⟨0, by rw [Rat.mul_zero]; rfl, by simp⟩ fun t ht => term_numB (h t ht) i j
theorem norm_cdb {n d s w b : Nat} {ts : List (Rat × List Rat)} (h : TermsB n d w ts) (d0 : 0 < d) (hd : d ≤ 2 ^ s) (h1 : 5 + s + s ≤ b) (h2 : 14 + n + n + ts.length ≤ b) : CDB b (at2 (normQ ts w)) := by
  refine ⟨28 * d * d, Nat.mul_pos (Nat.mul_pos (by decide) d0) d0, ?_, fun i j => ?_⟩
  · refine Nat.le_trans (Nat.mul_le_mul (Nat.mul_le_mul (show 28 ≤ 2 ^ 5 by decide) hd) hd) ?_
    rw [← Nat.pow_add, ← Nat.pow_add]
    exact pow_le h1
  · by_cases hi : i < w
    · by_cases hj : j < w
      · rw [norm_at hi hj]
        exact (entry_numB h).mono h2
      · rw [at2_wide (norm_wide _ _) (Nat.not_lt.mp hj), Rat.mul_zero]
        exact intB_z _
    · rw [at2_ge (by rw [norm_len]; omega), Rat.mul_zero]
      exact intB_z _
theorem entry_comm (ts : List (Rat × List Rat)) (i j : Nat) : entryQ ts i j = entryQ ts j i := by
  unfold entryQ
  have key : ∀ (ts : List (Rat × List Rat)) (s : Rat), ts.foldl (fun s t => s + termQ i j t) s = ts.foldl (fun s t => s + termQ j i t) s := by
    intro ts
    induction ts with
    | nil => intro s; rfl
    | cons t ts ih =>
      intro s
      have e : termQ i j t = termQ j i t := by unfold termQ; grind
      show ts.foldl (fun s t => s + termQ i j t) (s + termQ i j t) = ts.foldl (fun s t => s + termQ j i t) (s + termQ j i t)
      rw [e, ih]
  exact key ts 0
theorem norm_sym (ts : List (Rat × List Rat)) (w : Nat) : trF (at2 (normQ ts w)) = at2 (normQ ts w) := by
  funext i j
  show at2 (normQ ts w) j i = _
  by_cases hi : i < w
  · by_cases hj : j < w
    · rw [norm_at hi hj, norm_at hj hi, entry_comm]
    · rw [at2_wide (norm_wide _ _) (Nat.not_lt.mp hj), at2_ge (by rw [norm_len]; omega)]
  · rw [at2_wide (norm_wide _ _) (Nat.not_lt.mp hi), at2_ge (i := i) (by rw [norm_len]; omega)]
theorem norm_add {w : Nat} (ts : List (Rat × List Rat)) {q : Rat} {row : List Rat} (h : row.length = w) : at2 (normQ (ts ++ [(q, row)]) w) = addR (at2 (normQ ts w)) q (vf row) (vf row) := by
  subst h
  rw [← addT_norm, addT_F (norm_len _ _) (norm_wide _ _)]
theorem norm_nil (w : Nat) : at2 (normQ [] w) = fun _ _ => 0 := by
  funext i j
  by_cases hi : i < w
  · by_cases hj : j < w
    · rw [norm_at hi hj]; rfl
    · exact at2_wide (norm_wide _ _) (Nat.not_lt.mp hj)
  · exact at2_ge (by rw [norm_len]; omega)
theorem psd_zero (n : Nat) : Psd n (fun _ _ => 0) := fun x => by
  have e : dotF n x (mv n (fun _ _ => 0) x) = 0 := sumN_zero fun k _ => by
    have : mv n (fun _ _ => 0) x k = 0 := sumN_zero fun j _ => Rat.zero_mul _
    rw [this, Rat.mul_zero]
  rw [e]
  exact Rat.le_refl
theorem norm_psd {w : Nat} : ∀ (k : Nat) (ts : List (Rat × List Rat)), ts.length = k → (∀ t ∈ ts, 0 < t.1 ∧ t.2.length = w) → Psd w (at2 (normQ ts w))
  | 0, ts, hl, _ => by
    rw [List.length_eq_zero_iff.mp hl, norm_nil]
    exact psd_zero w
  | k + 1, ts, hl, h => by
    have hne : ts ≠ [] := fun e => by rw [e] at hl; cases hl
    obtain ⟨us, u, e⟩ : ∃ us u, ts = us ++ [u] := ⟨ts.dropLast, ts.getLast hne, (List.dropLast_concat_getLast hne).symm⟩
    obtain ⟨q, row⟩ := u
    subst e
    have hu := h (q, row) (by simp)
    rw [norm_add us hu.2]
    refine psd_add (norm_psd k us (by rw [List.length_append] at hl; simpa using hl) fun t ht => h t (by simp [ht])) (Rat.le_of_lt hu.1)
theorem terms_psd {n d w : Nat} {ts : List (Rat × List Rat)} (h : TermsB n d w ts) : Psd w (at2 (normQ ts w)) := norm_psd _ ts rfl fun t ht => ⟨(h t ht).1.2.1, (h t ht).2.2⟩
theorem termsE_B {w : Nat} {ts : List (Rat × List Rat)} (h : TermsE w ts) (hl : ts.length ≤ 7) : TermsB 250 (dd ^ 7) w ts := fun t ht => by
  obtain ⟨i, hi, e⟩ := List.mem_iff_getElem.mp ht
  obtain ⟨h1, h2, h3⟩ := h i t (by rw [List.getElem?_eq_getElem hi, e])
  refine ⟨h1, fun q hq => ?_, h3⟩
  have z := h2 q hq
  have zs : q.num.natAbs < 2 ^ 143 := Nat.lt_of_lt_of_le z.1.1 (Nat.pow_le_pow_right (by decide) (by have := bnd_le i; omega))
  exact (int_of (b := 105) (n := 143) zs (Nat.dvd_trans z.2 (Nat.pow_dvd_pow dd (by omega))) (by decide) (by decide)).mono (by decide)
theorem vb_row {n d s b : Nat} {row : List Rat} (h : ∀ q ∈ row, NumB n d q) (d0 : 0 < d) (hd : d ≤ 2 ^ s) (h1 : s ≤ b) (h2 : n ≤ b) : VB b row := ⟨d, d0, Nat.le_trans hd (pow_le h1), fun k => by
  by_cases hk : k < row.length
  · exact IntB.mono (h _ (List.mem_of_getElem? (getD_get (d := 0) hk))) h2
  · rw [vf_ge (Nat.not_lt.mp hk), Rat.mul_zero]
    exact intB_z _⟩
/-! ### the law's own look at an inverse -/
def spIsInv (C : Addr) : Sp := fun vs H Q _ => ∃ (x y : V) (M P : List (List Rat)) (n b p : Nat), vs = [x, y, .int (n : Int)] ∧ MatAt C M x H ∧ MatAt C P y H ∧ ((M.length = n ∧ Wide n M) ∧ (P.length = n ∧ Wide n P) ∧ n ≤ 31) ∧ Pen n n (at2 M) (at2 P) ∧ (CDB b (at2 M) ∧ CDB p (at2 P) ∧ (2 * b + 2 * p + 20) * n + 1 ≤ 900000) ∧ ∀ H', Ex H H' → Q (.bl true) H'
section
variable {K : PySem.W.Frag} {C : Addr} {te ta tb tc td tl : TE} {σ : L2.St} {H : Hp} {E : XK} {D : Ends} {tz tbd : TS} {g : TG}
theorem ev_isInv {M P : List (List Rat)} {n b p : Nat} (ha : EvP ta σ H (MatAt C M)) (hb : EvP tb σ H (MatAt C P)) (hc : Ev tc σ H (.int (n : Int))) (h1 : (M.length = n ∧ Wide n M) ∧ (P.length = n ∧ Wide n P) ∧ n ≤ 31) (h2 : Pen n n (at2 M) (at2 P)) (h3 : CDB b (at2 M) ∧ CDB p (at2 P) ∧ (2 * b + 2 * p + 20) * n + 1 ≤ 900000) :
    Ev (tCall (spIsInv C) [] E (tCons ta (tCons tb (tCons tc tNil)))) σ H (.bl true) :=
  ev_of (evp_callT mono_mat mono_mat ha hb hc fun x y H1 _ r1 r2 Q2 E2 k2 => ⟨x, y, M, P, n, b, p, rfl, r1, r2, h1, h2, h3, fun H4 e4 => k2 _ _ e4 rfl⟩)
/-- the last item of a list of terms, by -1 -/
theorem evp_termAt {ts : List (Rat × List Rat)} {t : Rat × List Rat} (h : EvP te σ H (RT C t)) : EvP (tOp (rIxT K) te (tC (.int 1))) σ H (VecAt C t.2) := fun H1 e Q k =>
  h H1 e _ fun v H2 e2 ⟨a, x, y, ev, ha, rx, ry⟩ => by
    subst ev
    exact ⟨a, _, _, _, rfl, rfl, SqT.of ha, atI_nat (j := 1) rfl, k _ _ e2 ry⟩
theorem evp_mkTerm {q : Rat} {row : List Rat} (ha : EvP ta σ H (fun v H => RatAt C H v q)) (hb : EvP tb σ H (VecAt C row)) : EvP (tTup (tCons ta (tCons tb tNil))) σ H (RT C (q, row)) := fun H1 e Q k =>
  ha H1 e _ fun v H2 e2 rv => hb H2 (e.trans e2) _ fun u H3 e3 ru => ⟨by show 2 ≤ sizeLine; decide, fun p hp => k _ _ ((e2.trans e3).trans (Ex.new hp)) ⟨p, v, u, rfl, upd_same, (rv.mono e3).mono (Ex.new hp), mono_vec _ _ _ (Ex.new hp) ru⟩⟩
/-- [x] -/
theorem evp_lst1 {α : Type} {R : α → V → Hp → Prop} {y : α} (m : MonoR R) (hb : EvP tb σ H (R y)) : EvP (tLst (tCons tb tNil)) σ H (LstAt R [y]) := fun H1 e Q k =>
  hb H1 e _ fun u H3 e3 r => ⟨by show 1 ≤ sizeLine; decide, fun p hp => k _ _ (e3.trans (Ex.new hp)) ⟨p, _, rfl, upd_same, (allR_one r).mono m (Ex.new hp)⟩⟩
/-- xs + ys of lists -/
theorem evp_catL {α : Type} {R : α → V → Hp → Prop} {xs ys : List α} (m : MonoR R) (ha : EvP ta σ H (LstAt R xs)) (hb : EvP tb σ H (LstAt R ys)) (hz : xs.length + ys.length ≤ 10000) : EvP (tOp rCat ta tb) σ H (LstAt R (xs ++ ys)) := fun H1 e Q k =>
  ha H1 e _ fun v H2 e2 ⟨a, vs, ev, h1, A1⟩ => hb H2 (e.trans e2) _ fun w H3 e3 ⟨b, ws, ew, h2, A2⟩ => by
    subst ev ew
    have A1 := A1.mono m e3
    refine ⟨a, b, vs, ws, rfl, rfl, e3 _ _ h1, h2, sz_of (by have := A1.1; have := A2.1; omega), fun p hp => ?_⟩
    exact k _ _ ((e2.trans e3).trans (Ex.new hp)) ⟨p, _, rfl, upd_same, (allR_app A1 A2).mono m (Ex.new hp)⟩
end
end Pn

namespace Pn
open PySem L2 Evl
open PySem.Spec PyProof.Rows
section
variable {X : Cx}
/-- tuple(xs) of a list: what it makes has no dict of its own -/
theorem call_tupleF : CallR X (.type "tuple") (fun xs H Q => ∃ p ys, xs = [.ref p] ∧ SqL X.K H p ys ∧ ∀ (l : Addr) (o : Obj), H l = none → o.cls = .type "tuple" → o.dict = none → Q (.ref l) (upd H l (.frz o (.tup ys)))) := by
  intro pins s σ H xs us Q I r h
  obtain ⟨p, ys, rfl, hq, q⟩ := h
  obtain ⟨u, rfl, rx⟩ := vals1 r
  cases rx
  obtain ⟨its, r', pl, hz⟩ := I.list hq
  have hlen := r'.length
  refine call_tuple_list pl.isList (fun h' kp => ?_) (by simp only [List.size_toArray] <;> omega)
  have I1 : Inv X pins σ H { s with heap := h' } := I.kept (t' := s.toks) kp
  have I2 : Inv X pins σ (upd H h'.objs.size (.frz { cls := .type "tuple", data := .seq its.toArray } (.tup ys))) { s with heap := h'.push { cls := .type "tuple", data := .seq its.toArray } } :=
    I1.laid (t' := s.toks) (fun b o e => Heap.get?_push_of_some _ e) (Nat.le_refl _) (show ObjOk X.prog X.w _ _ _ (.frz _ (.tup ys)) from ⟨Heap.get?_push_size _ rfl, hz, its, r', IsTup.new _ _⟩)
  exact ⟨.ref h'.objs.size, _, I2, rfl, q _ _ (I1.hok.fresh (Nat.le_refl _)) rfl rfl⟩
theorem pairs2_of {pins : List (Addr × Obj)} {σ : L2.St} {H : Hp} {s : Shared} (I : Inv X pins σ H s) : ∀ {ps : List Addr} {kvs : List (Key × V)}, Paired (fun p kv => SqT X.K H p [kV kv.1, kv.2]) ps kvs →
    ∃ (prs : List (Key × Value)) (qs : List (Value × Value)), KV kvs prs ∧ prs.length = ps.length ∧ qs.length = ps.length ∧ ∀ (j : Nat) (u v : Value), qs[j]? = some (u, v) → ∃ (b : Addr) (k : Key), ps[j]? = some b ∧ IsTup s.heap b #[u, v] ∧ prs[j]? = some (k, v) ∧ (mixKind X.prog X.w).is k u = true
  | _, _, .nil => ⟨[], [], .nil, rfl, rfl, fun j u v e => by simp at e⟩
  | _, _, .cons (a := p) (b := kv) h t => by
    obtain ⟨prs, qs, r, hl, hl2, hp⟩ := pairs2_of I t
    obtain ⟨its, rv, ht, _⟩ := I.tuple h
    obtain ⟨u, y, ei, ru, ry⟩ := vals2 rv
    subst ei
    refine ⟨(kv.1, y) :: prs, (u, y) :: qs, .cons ⟨rfl, ry⟩ r, by rw [List.length_cons, List.length_cons, hl], by rw [List.length_cons, List.length_cons, hl2], fun j u' v' e => ?_⟩
    cases j with
    | zero =>
      have e' : (u, y) = (u', v') := Option.some.inj e
      injection e' with e1 e2
      subst e1 e2
      exact ⟨p, kv.1, rfl, ht, rfl, kV_is (P := X.prog) (w := X.w) ru⟩
    | succ j =>
      obtain ⟨b, k, e1, e2, e3, e4⟩ := hp j u' v' (by simpa using e)
      exact ⟨b, k, by simpa using e1, e2, by simpa using e3, e4⟩
/-- dict(t) of a tuple of pairs (key, value) -/
theorem call_dictT (hcalm : X.calm = true) : CallR X (.type "dict") (fun xs H Q => ∃ (a : Addr) (o : Obj) (ps : List Addr) (kvs : List (Key × V)), xs = [.ref a] ∧ H a = some (.frz o (.tup (ps.map V.ref))) ∧ o.cls = .type "tuple" ∧ o.dict = none ∧ Paired (fun p kv => SqT X.K H p [kV kv.1, kv.2]) ps kvs ∧
    ∀ p, H p = none → Q (.ref p) (upd H p (.dK (mergeK [] kvs)))) := by
  intro pins s σ H xs us Q I r q
  obtain ⟨a, o, ps, kvs, ex, hq, ho1, ho2, hp, q⟩ := q
  subst ex
  obtain ⟨u, eu, rx⟩ := vals1 r
  subst eu
  cases rx
  obtain ⟨ho, hz, its, rv, ⟨o', ho', hc', n, hdat⟩⟩ := I.hok a _ hq
  have eo : o' = o := by rw [ho] at ho'; exact (Option.some.inj ho').symm
  subst eo
  have ei := refs_at rv
  subst ei
  rw [List.length_map] at hz
  obtain ⟨prs, qs, rel, hl, hl2, hpr⟩ := pairs2_of I hp
  refine PySem.call_dict_pairs (knd := mixKind X.prog X.w) (kvs := prs) (PairArg.tuple a (ps.map Value.ref).toArray (fun j => ps.getD j 0) qs) (I.ok.hd hcalm) ⟨⟨o', n, ho, ho1, ho2, hdat⟩, by simp [hl2], fun j k v e => ?_⟩ ⟨by rw [hl, hl2], fun i key v e => ?_⟩ (by rw [hl2]; exact hz) fun h' tk hd' k => ?_
  · obtain ⟨b, k', e1, e2, e3, e4⟩ := hpr j k v e
    have eb : ps.getD j 0 = b := by rw [List.getD_eq_getElem?_getD, e1]; rfl
    exact ⟨by simp [e1, eb], .inl (by dsimp only; rw [eb]; exact e2)⟩
  · obtain ⟨b, k', e1, e2, e3, e4⟩ := hpr i key v e
    exact ⟨k', e3, e4⟩
  · have hm : (s.heap.objs.size == sysModules) = false := beq_eq_false_iff_ne.mpr (Nat.ne_of_gt I.big)
    have hlen : (mergeK [] kvs).length ≤ sizeLine := by
      refine Nat.le_trans (length_mergeK kvs []) ?_
      rw [List.length_nil, Nat.zero_add, rel.length, hl]
      exact hz
    exact ⟨.ref s.heap.objs.size, upd H s.heap.objs.size (.dK (mergeK [] kvs)), I.laid (t' := tk) (fun b o e => k b o (fun h => nomatch h) e) (Nat.le_refl _) (show ObjOk X.prog X.w _ _ _ (.dK (mergeK [] kvs)) from ⟨hlen, hm, merged [] prs, KV.merge rel .nil, hd'⟩), rfl, q _ (I.hok.fresh (Nat.le_refl _))⟩
end
end Pn

namespace Pn
open PySem L2 Evl
/-! ### terms added and removed: the law's own facts -/
section
variable {n : Nat} {M P : List (List Rat)}
theorem wAdd_ne {row : List Rat} {w : Rat} (lM : M.length = n) (wM : Wide n M) (lP : P.length = n) (wP : Wide n P) (lr : row.length = n) (psd : Psd n (at2 M)) (hw : 0 < w) (c : (restQ M P row).all (fun q => decide (q = 0)) = true) : 1 + w * sizeQ P row ≠ 0 := by
  have li : (applyQ P row).length = n := by rw [applyQ_len, lP]
  have fi := vf_apply wP lr
  have fr := rest_F lM wM lP wP lr
  have es : sizeQ P row = dotF n (vf row) (mv n (at2 P) (vf row)) := by unfold sizeQ; rw [vf_dot lr li, fi]
  have z := all_zero.mp c
  have hg : mv n (at2 M) (mv n (at2 P) (vf row)) = vf row := by
    funext k
    have y := z k
    rw [fr] at y
    grind
  have sz : 0 ≤ sizeQ P row := by
    have y := psd (mv n (at2 P) (vf row))
    rw [hg, dotF_comm, ← es] at y
    exact y
  intro e
  have y := Rat.mul_nonneg (Rat.le_of_lt hw) sz
  have z : (0 : Rat) < 1 := by decide
  grind
theorem wRem_ne {row : List Rat} {w : Rat} (lP : P.length = n) (wP : Wide n P) (lr : row.length = n) (c : 1 - w * sizeQ P row = 0) : dotQ (applyQ P row) (applyQ P row) ≠ 0 := by
  have li : (applyQ P row).length = n := by rw [applyQ_len, lP]
  have fi := vf_apply wP lr
  have es : sizeQ P row = dotF n (vf row) (mv n (at2 P) (vf row)) := by unfold sizeQ; rw [vf_dot lr li, fi]
  rw [vf_dot li li, fi]
  refine dot_ne fun h => ?_
  have z : dotF n (vf row) (mv n (at2 P) (vf row)) = 0 := sumN_zero fun k hk => by rw [h k hk, Rat.mul_zero]
  rw [es, z, Rat.mul_zero] at c
  exact absurd c (by decide +kernel)
theorem addU_len {A : List (List Rat)} {x : List Rat} {w : Rat} (h : A.length = x.length) : (addTermQ A x w).length = A.length := by
  unfold addTermQ
  rw [addM_len (by rw [scaleM_len, outer_len, h])]
theorem addU_wide {A : List (List Rat)} {x : List Rat} {w : Rat} {n : Nat} (h : Wide n A) (hx : x.length = n) : Wide n (addTermQ A x w) := by
  unfold addTermQ
  have z := outer_wide (a := x) (b := x)
  rw [hx] at z
  exact addM_wide h (scaleM_wide z)
theorem wAdd_len {row : List Rat} {w : Rat} (lM : M.length = n) (lP : P.length = n) (lr : row.length = n) : (wAddQ M P row w).length = n := by
  have li : (applyQ P row).length = n := by rw [applyQ_len, lP]
  have lrest := restQ_len (P := P) lM lr
  have lp : (partQ (restQ M P row)).length = n := by unfold partQ; rw [scaleQ_len, lrest]
  unfold wAddQ
  split
  · rw [addU_len (by omega), lP]
  · rw [addU_len (by rw [without_len lP lp li, lp]), without_len lP lp li]
theorem wAdd_wide {row : List Rat} {w : Rat} (lM : M.length = n) (lP : P.length = n) (wP : Wide n P) (lr : row.length = n) : Wide n (wAddQ M P row w) := by
  have li : (applyQ P row).length = n := by rw [applyQ_len, lP]
  have lrest := restQ_len (P := P) lM lr
  have lp : (partQ (restQ M P row)).length = n := by unfold partQ; rw [scaleQ_len, lrest]
  unfold wAddQ
  split
  · exact addU_wide wP li
  · exact addU_wide (without_wide wP lp li) lp
theorem wRem_len {row : List Rat} {w : Rat} (lP : P.length = n) (lr : row.length = n) : (wRemQ P row w).length = n := by
  have li : (applyQ P row).length = n := by rw [applyQ_len, lP]
  have l2 : (applyQ P (applyQ P row)).length = n := by rw [applyQ_len, lP]
  have lp : (partQ (applyQ P row)).length = n := by unfold partQ; rw [scaleQ_len, li]
  unfold wRemQ
  split
  · rw [addU_len (by rw [without_len lP lp l2, lp]), without_len lP lp l2]
  · rw [addU_len (by omega), lP]
theorem wRem_wide {row : List Rat} {w : Rat} (lP : P.length = n) (wP : Wide n P) (lr : row.length = n) : Wide n (wRemQ P row w) := by
  have li : (applyQ P row).length = n := by rw [applyQ_len, lP]
  have l2 : (applyQ P (applyQ P row)).length = n := by rw [applyQ_len, lP]
  have lp : (partQ (applyQ P row)).length = n := by unfold partQ; rw [scaleQ_len, li]
  unfold wRemQ
  split
  · exact addU_wide (without_wide wP lp l2) lp
  · exact addU_wide wP li
end
theorem pinOk5 : PinOk 560 5 := ⟨by decide, by decide, by decide, by decide, by decide⟩
theorem pB5 : pB 560 5 ≤ 38000 := by decide
theorem updOk5 {n : Nat} (h : n ≤ 5) : UpdOk 560 38000 270 14 n := ⟨by omega, Nat.le_trans (Nat.add_le_add_right (Nat.mul_le_mul_left _ h) 1) (by decide), by decide⟩
theorem ddpow : dd ^ 7 ≤ 2 ^ 105 := by decide
theorem dd_pos7 : 0 < dd ^ 7 := by decide
/-- the normal matrix of the law's terms -/
theorem norm_facts {w : Nat} {ts : List (Rat × List Rat)} (h : TermsB 269 (dd ^ 7) w ts) (h6 : ts.length ≤ 7) : CDB 560 (at2 (normQ ts w)) :=
  norm_cdb (s := 105) h dd_pos7 ddpow (by decide) (by omega)
theorem draw_num {q : Rat} (h : SmB 20 q ∧ q.den ∣ dd) : NumB 269 (dd ^ 7) q :=
  (int_of (b := 105) (n := 20) h.1.1 (Nat.dvd_trans h.2 (Nat.dvd_trans (by rw [Nat.pow_one]; exact Nat.dvd_refl _) (Nat.pow_dvd_pow dd (show 1 ≤ 7 by decide)))) ddpow dd_pos7).mono (by decide)
theorem comb_num {x y f : Rat} {i j : Nat} (hx : EB i x) (hi : i ≤ 6) (hf : SmB 20 f ∧ f.den ∣ dd) (hy : EB j y) (hj : j ≤ 5) : NumB 269 (dd ^ 7) (x - f * y) := by
  have sx : x.num.natAbs < 2 ^ 160 := Nat.lt_of_lt_of_le hx.1.1 (Nat.pow_le_pow_right (by decide) (by have := bnd_le i; omega))
  have zf := smB_mul hf.1 hy.1
  have sf : (f * y).num.natAbs < 2 ^ 160 := Nat.lt_of_lt_of_le zf.1 (Nat.pow_le_pow_right (by decide) (by have := bnd_le j; omega))
  exact (numB_sub (int_of (b := 105) (n := 160) sx (Nat.dvd_trans hx.2 (Nat.pow_dvd_pow dd (by omega))) ddpow dd_pos7) (int_of (b := 105) (n := 160) sf (Nat.dvd_trans (dd_mul hf.2 hy.2) (Nat.pow_dvd_pow dd (by omega))) ddpow dd_pos7)).mono (by decide)
theorem row_vb {row : List Rat} (h : ∀ q ∈ row, NumB 269 (dd ^ 7) q) : VB 270 row := vb_row h dd_pos7 ddpow (by decide) (by decide)
theorem terms_ok {w : Nat} {ts : List (Rat × List Rat)} (h : TermsB 269 (dd ^ 7) w ts) : TermsOk 9 271 w ts := fun t ht => ⟨(h t ht).1.1, fun q hq => (row_vb (h t ht).2.1).sm q hq |>.mono (by decide), (h t ht).2.2⟩
theorem pinv_facts {w : Nat} {N : List (List Rat)} (h : CDB 560 (at2 N)) (lN : N.length = w) (wN : Wide w N) (w5 : w ≤ 5) : Pen w w (at2 N) (at2 (pinvQ N w)) ∧ CDB 38000 (at2 (pinvQ N w)) ∧ (pinvQ N w).length = w ∧ Wide w (pinvQ N w) := by
  have pen := pinv_pen wN
  have wP := pinvQ_wide (M := N) (w := w)
  rw [lN] at pen wP
  exact ⟨pen, (cdb_pinv wN h (m := 5) (.inr w5) (by decide) (by omega) (by omega)).mono pB5, pinvQ_len, wP⟩
theorem termsB_app {n d w : Nat} {ts us : List (Rat × List Rat)} (h1 : TermsB n d w ts) (h2 : TermsB n d w us) : TermsB n d w (ts ++ us) := fun t ht => (List.mem_append.mp ht).elim (h1 t) (h2 t)
theorem termsB_one {n d w : Nat} {t : Rat × List Rat} (h : TermB n d w t) : TermsB n d w [t] := fun u hu => by rw [List.mem_singleton.mp hu]; exact h
theorem termsB_mono {n m d w : Nat} {ts : List (Rat × List Rat)} (h : TermsB n d w ts) (k : n ≤ m) : TermsB m d w ts := fun t ht => ⟨(h t ht).1, fun q hq => ((h t ht).2.1 q hq).mono k, (h t ht).2.2⟩
/-- what the law asks of with_added -/
theorem added_facts {w : Nat} {ts : List (Rat × List Rat)} {q : Rat} {row : List Rat} (h : TermsB 269 (dd ^ 7) w ts) (h6 : ts.length ≤ 6) (hq : TermB 269 (dd ^ 7) w (q, row)) (w5 : w ≤ 5) :
    Pen w w (at2 (normQ (ts ++ [(q, row)]) w)) (at2 (wAddQ (normQ ts w) (pinvQ (normQ ts w) w) row q)) ∧ CDB 38000 (at2 (wAddQ (normQ ts w) (pinvQ (normQ ts w) w) row q)) := by
  have c1 := norm_facts h (by omega)
  have c2 := norm_facts (termsB_app h (termsB_one hq)) (by simp; omega)
  obtain ⟨p1, p2, p3, p4⟩ := pinv_facts c1 (norm_len _ _) (norm_wide _ _) w5
  obtain ⟨q1, q2, q3, q4⟩ := pinv_facts c2 (norm_len _ _) (norm_wide _ _) w5
  have z := wAdd_pen (norm_len _ _) (norm_wide _ _) p3 p4 hq.2.2 p1 (norm_sym _ _) (terms_psd h) hq.1.2.1
  have e : at2 (addTermQ (normQ ts w) row q) = at2 (normQ (ts ++ [(q, row)]) w) := by
    rw [norm_add ts hq.2.2]
    have lr := hq.2.2
    dsimp only at lr
    subst lr
    exact addT_F (norm_len _ _) (norm_wide _ _)
  rw [e] at z
  refine ⟨z, ?_⟩
  rw [z.uniq q1]
  exact q2
theorem entry_app (ts us : List (Rat × List Rat)) (i j : Nat) : entryQ (ts ++ us) i j = us.foldl (fun s t => s + termQ i j t) (entryQ ts i j) := List.foldl_append
theorem fold_shift (i j : Nat) (us : List (Rat × List Rat)) : ∀ (s a : Rat), us.foldl (fun s t => s + termQ i j t) (s + a) = us.foldl (fun s t => s + termQ i j t) s + a := by
  induction us with
  | nil => intro s a; rfl
  | cons u us ih =>
    intro s a
    show us.foldl _ (s + a + termQ i j u) = us.foldl _ (s + termQ i j u) + a
    rw [← ih]
    congr 1
    grind
/-- a term in the midst -/
theorem entry_mid (ts us : List (Rat × List Rat)) (t : Rat × List Rat) (i j : Nat) : entryQ (ts ++ t :: us) i j = entryQ (ts ++ us) i j + termQ i j t := by
  rw [entry_app, entry_app]
  show us.foldl _ (entryQ ts i j + termQ i j t) = _
  rw [fold_shift]
theorem norm_mid {w : Nat} (ts us : List (Rat × List Rat)) {q : Rat} {row : List Rat} : at2 (normQ (ts ++ (q, row) :: us) w) = at2 (normQ ((ts ++ us) ++ [(q, row)]) w) := by
  funext i k
  by_cases hi : i < w
  · by_cases hk : k < w
    · rw [norm_at hi hk, norm_at hi hk, entry_mid]
      have z := entry_mid (ts ++ us) [] (q, row) i k
      rw [List.append_nil] at z
      rw [z]
    · rw [at2_wide (norm_wide _ _) (Nat.not_lt.mp hk), at2_wide (norm_wide _ _) (Nat.not_lt.mp hk)]
  · rw [at2_ge (by rw [norm_len]; omega), at2_ge (by rw [norm_len]; omega)]
/-- what the law asks of with_removed -/
theorem removed_facts {w : Nat} {ts us : List (Rat × List Rat)} {q : Rat} {row : List Rat} (h : TermsB 269 (dd ^ 7) w (ts ++ (q, row) :: us)) (h6 : (ts ++ (q, row) :: us).length ≤ 7) (w5 : w ≤ 5) :
    Pen w w (at2 (normQ (ts ++ us) w)) (at2 (wRemQ (pinvQ (normQ (ts ++ (q, row) :: us) w) w) row q)) ∧ CDB 38000 (at2 (wRemQ (pinvQ (normQ (ts ++ (q, row) :: us) w) w) row q)) := by
  have hq := h (q, row) (by simp)
  have lr := hq.2.2
  have h2 : TermsB 269 (dd ^ 7) w (ts ++ us) := fun t ht => h t (by rcases List.mem_append.mp ht with e | e <;> simp [e])
  have l2 : (ts ++ us).length ≤ 7 := by rw [List.length_append] at h6 ⊢; rw [List.length_cons] at h6; omega
  have c1 := norm_facts h h6
  have c2 := norm_facts h2 l2
  obtain ⟨p1, p2, p3, p4⟩ := pinv_facts c1 (norm_len _ _) (norm_wide _ _) w5
  obtain ⟨q1, q2, q3, q4⟩ := pinv_facts c2 (norm_len _ _) (norm_wide _ _) w5
  have hM : at2 (normQ (ts ++ (q, row) :: us) w) = addR (at2 (normQ (ts ++ us) w)) q (vf row) (vf row) := by rw [norm_mid, norm_add _ lr]
  have z := wRem_pen (norm_len _ _) (norm_wide _ _) p3 p4 lr p1 (norm_sym _ _) (terms_psd h2) hq.1.2.1 hM
  have e : at2 (addTermQ (normQ (ts ++ (q, row) :: us) w) row (-q)) = at2 (normQ (ts ++ us) w) := by
    have e2 : at2 (addTermQ (normQ (ts ++ (q, row) :: us) w) row (-q)) = addR (at2 (normQ (ts ++ (q, row) :: us) w)) (-q) (vf row) (vf row) := by
      dsimp only at lr
      subst lr
      exact addT_F (norm_len _ _) (norm_wide _ _)
    rw [e2, hM]
    funext i k
    unfold addR
    grind
  rw [e] at z
  refine ⟨z, ?_⟩
  rw [z.uniq q1]
  exact q2
end Pn

namespace Pn
open PySem L2 Evl
section
variable {K : PySem.W.Frag} {C : Addr} {te ta tb tc td tl : TE} {σ : L2.St} {H : Hp} {E : XK}
theorem cut_take {vs : List V} {k : Nat} (h : k ≤ vs.length) : cutV vs none (some (k : Int)) = vs.take k := by
  unfold cutV
  rw [HT.sIx_none, HT.sIx_nat, Nat.min_eq_left h, Nat.sub_zero, List.drop_zero]
theorem cut_drop {vs : List V} {k : Nat} (h : k ≤ vs.length) : cutV vs (some (k : Int)) none = vs.drop k := by
  unfold cutV
  rw [HT.sIx_none, HT.sIx_nat, Nat.min_eq_left h, List.take_of_length_le (by rw [List.length_drop]; exact Nat.le_refl _)]
/-- xs[:k] -/
theorem evp_takeL {α : Type} {R : α → V → Hp → Prop} {xs : List α} {k : Nat} (m : MonoR R) (h : EvP te σ H (LstAt R xs)) (hh : Ev tb σ H (.int (k : Int))) (hk : k ≤ xs.length) : EvP (tSl (rSlL K) te tNoPart (tPart tb)) σ H (LstAt R (xs.take k)) := fun H1 e Q q =>
  h H1 e _ fun v H2 e2 ⟨a, vs, ev, ha, hA⟩ => by
    subst ev
    refine hh H2 (e.trans e2) _ fun H3 e3 => ⟨k, rfl, a, vs, rfl, SqL.of (e3 _ _ ha), fun p hp => q _ _ ((e2.trans e3).trans (Ex.new hp)) ⟨p, _, rfl, upd_same, ?_⟩⟩
    have A := hA.mono m (e3.trans (Ex.new (o := .lst (cutV vs none (some (k : Int)))) hp))
    rw [cut_take (by have := A.1; omega)] at A ⊢
    exact allR_take k A
/-- xs[k:] -/
theorem evp_dropL {α : Type} {R : α → V → Hp → Prop} {xs : List α} {k : Nat} (m : MonoR R) (h : EvP te σ H (LstAt R xs)) (hh : Ev tb σ H (.int (k : Int))) (hk : k ≤ xs.length) : EvP (tSl (rSlL K) te (tPart tb) tNoPart) σ H (LstAt R (xs.drop k)) := fun H1 e Q q =>
  h H1 e _ fun v H2 e2 ⟨a, vs, ev, ha, hA⟩ => by
    subst ev
    refine hh H2 (e.trans e2) _ fun H3 e3 => ⟨k, rfl, a, vs, rfl, SqL.of (e3 _ _ ha), fun p hp => q _ _ ((e2.trans e3).trans (Ex.new hp)) ⟨p, _, rfl, upd_same, ?_⟩⟩
    have A := hA.mono m (e3.trans (Ex.new (o := .lst (cutV vs (some (k : Int)) none)) hp))
    rw [cut_drop (by have := A.1; omega)] at A ⊢
    exact allR_drop k A
end
end Pn

namespace Pn
open PySem L2 Evl
section
variable {X : Cx} {K : PySem.W.Frag} {k : Nat} {f C : Addr} {ps : List Str} {sp : Sp} {x m : Str} {p pos apos cpos : Pos} {e o : Expr} {td ty tx : TE} {ta : TE}
/-- o.m() -/
theorem pe_methF0 {pl : Sem Bool} (he : PE X o ta) (c : Cls X.K C) (hm : Meth X.K C m f) (F : FnG X.prog X.w X.K X.mg X.base k f ps sp) (hr : Room k X.A)
    (ht : eval (.Call (.Attribute o m apos) [] [] pos) X.env = (do
      let ov ← eval o X.env
      standAt apos.atName
      let (f, first) ← holding [ov] (getMethod ov m pl)
      callWith pos f first (backTo pos (starEach [] X.env)) (backToKw pos (keywordEach [] X.env))) := by rfl) :
    PE X (.Call (.Attribute o m apos) [] [] pos) (tMeth C m sp [] E0 ta tNil) := by
  obtain ⟨fd, F1, b⟩ := F.ex
  exact pe_meth0 he c hm F1 hr b .nil pass0 ht
/-- C() -/
theorem pe_makeF0 (M : Mk X.K C f) (F : FnG X.prog X.w X.K X.mg X.base k f ps sp) (hr : Room (k + 1) X.A) (hm : X.mg x = some (.ref C)) (hg : Gl X x := by rfl)
    (hdb : (x == ("__debug__" : Str)) = false := by decide) : PE X (.Call (.Name x p) [] [] pos) (tMake C sp [] E0 tNil) := by
  obtain ⟨fd, F1, b⟩ := F.ex
  exact pe_make0 M F1 hr hg hm b .nil pass0 hdb
def rTupF (K : PySem.W.Frag) : List V → Hp → VK → Prop := fun xs H Q => ∃ p ys, xs = [.ref p] ∧ SqL K H p ys ∧ ∀ (l : Addr) (o : Obj), H l = none → o.cls = .type "tuple" → o.dict = none → Q (.ref l) (upd H l (.frz o (.tup ys)))
theorem call_tupFK (hK : X.K = K) : CallR X (.type "tuple") (rTupF K) := by
  subst hK
  exact call_tupleF
def rDictT (K : PySem.W.Frag) : List V → Hp → VK → Prop := fun xs H Q => ∃ (a : Addr) (o : Obj) (ps : List Addr) (kvs : List (Key × V)), xs = [.ref a] ∧ H a = some (.frz o (.tup (ps.map V.ref))) ∧ o.cls = .type "tuple" ∧ o.dict = none ∧ Paired (fun p kv => SqT K H p [kV kv.1, kv.2]) ps kvs ∧
    ∀ p, H p = none → Q (.ref p) (upd H p (.dK (mergeK [] kvs)))
theorem call_dictTK (hK : X.K = K) (hc : X.calm = true) : CallR X (.type "dict") (rDictT K) := by
  subst hK
  exact call_dictT hc
/-- d.get(k, x) -/
theorem pe_get2 (hu : Room 1 X.A) (ho : PE X o td) (he : PE X e ty) (hf : PE X e' tx) (h1 : attributeBase o "get" X.env (eval o X.env) = eval o X.env := by rfl)
    (h2 : ((backTo cpos (starEach [e, e'] X.env)).all (fun x => !x.1) && (backToKw cpos (keywordEach [] X.env)).all (fun x => x.1.isSome)
    && decide (([e, e'] : List Expr).length + ([] : List Keyword).length + (if ([] : List Keyword).isEmpty then 0 else 1) < 30)) = true := by rfl)
    (h3 : (apos.endLine == cpos.line) = true := by rfl) (h4 : backTo cpos (starEach [e, e'] X.env) = [(false, eval e X.env), (false, eval e' X.env)] := by rfl) : PE X (.Call (.Attribute o "get" apos) [e, e'] [] cpos) (tDGet2 td ty tx) :=
  pe_dget2 (by have := hu.units; omega) ho he hf ⟨h1, h2, h3, h4⟩
end
end Pn

namespace Pn
open PySem L2 Evl
/-! ### readings and nets on the heap -/
structure Rdg where
  name : Str
  terms : List (Str × Int)
  value : Rat
  weight : Rat
structure NetV where
  ns : List Str
  xs : List Rat
  rds : List Rdg
  M : List (List Rat)
  P : List (List Rat)
  r : List Rat
  t : Rat
theorem len_putF {f : Str} {v w : V} : ∀ {fs : List (Str × V)}, fs.lookup f = some w → (putF f v fs).length = fs.length
  | [], h => nomatch h
  | (g, x) :: r, h => by
    show (if g = f then (g, v) :: r else (g, x) :: putF f v r).length = _
    by_cases e : g = f
    · rw [if_pos e]; rfl
    · rw [if_neg e]
      have e2 : (f == g) = false := beq_eq_false_iff_ne.mpr (Ne.symm e)
      rw [List.lookup_cons, e2] at h
      show (putF f v r).length + 1 = r.length + 1
      rw [len_putF h]
def NFs : List Str := ["points", "approximations", "readings", "normal", "inverse", "right", "total"]
/-- a net's fields -/
structure Flds (fs : List (Str × V)) (pl rl : Addr) (va vM vP vr vt : V) : Prop where
  p : fs.lookup ("points" : Str) = some (.ref pl)
  a : fs.lookup ("approximations" : Str) = some va
  rd : fs.lookup ("readings" : Str) = some (.ref rl)
  M : fs.lookup ("normal" : Str) = some vM
  P : fs.lookup ("inverse" : Str) = some vP
  r : fs.lookup ("right" : Str) = some vr
  t : fs.lookup ("total" : Str) = some vt
  n : fs.length ≤ 7
  q : ∀ f : Str, f ∉ NFs → fs.lookup f = none
theorem put_same {f : Str} {v : V} {fs : List (Str × V)} : (putF f v fs).lookup f = some v := by rw [lookup_putF, if_pos rfl]
theorem put_ne {f g : Str} {v : V} {fs : List (Str × V)} (h : g ≠ f) : (putF f v fs).lookup g = fs.lookup g := by rw [lookup_putF, if_neg h]
section
variable {fs : List (Str × V)} {pl rl : Addr} {va vM vP vr vt : V}
theorem Flds.setA (h : Flds fs pl rl va vM vP vr vt) (v : V) : Flds (putF "approximations" v fs) pl rl v vM vP vr vt :=
  ⟨(put_ne (by decide +kernel)).trans h.p, put_same, (put_ne (by decide +kernel)).trans h.rd, (put_ne (by decide +kernel)).trans h.M, (put_ne (by decide +kernel)).trans h.P, (put_ne (by decide +kernel)).trans h.r, (put_ne (by decide +kernel)).trans h.t, by rw [len_putF h.a]; exact h.n, fun f hf => (put_ne (fun e => hf (by rw [e]; decide +kernel))).trans (h.q f hf)⟩
theorem Flds.setM (h : Flds fs pl rl va vM vP vr vt) (v : V) : Flds (putF "normal" v fs) pl rl va v vP vr vt :=
  ⟨(put_ne (by decide +kernel)).trans h.p, (put_ne (by decide +kernel)).trans h.a, (put_ne (by decide +kernel)).trans h.rd, put_same, (put_ne (by decide +kernel)).trans h.P, (put_ne (by decide +kernel)).trans h.r, (put_ne (by decide +kernel)).trans h.t, by rw [len_putF h.M]; exact h.n, fun f hf => (put_ne (fun e => hf (by rw [e]; decide +kernel))).trans (h.q f hf)⟩
theorem Flds.setP (h : Flds fs pl rl va vM vP vr vt) (v : V) : Flds (putF "inverse" v fs) pl rl va vM v vr vt :=
  ⟨(put_ne (by decide +kernel)).trans h.p, (put_ne (by decide +kernel)).trans h.a, (put_ne (by decide +kernel)).trans h.rd, (put_ne (by decide +kernel)).trans h.M, put_same, (put_ne (by decide +kernel)).trans h.r, (put_ne (by decide +kernel)).trans h.t, by rw [len_putF h.P]; exact h.n, fun f hf => (put_ne (fun e => hf (by rw [e]; decide +kernel))).trans (h.q f hf)⟩
theorem Flds.setR (h : Flds fs pl rl va vM vP vr vt) (v : V) : Flds (putF "right" v fs) pl rl va vM vP v vt :=
  ⟨(put_ne (by decide +kernel)).trans h.p, (put_ne (by decide +kernel)).trans h.a, (put_ne (by decide +kernel)).trans h.rd, (put_ne (by decide +kernel)).trans h.M, (put_ne (by decide +kernel)).trans h.P, put_same, (put_ne (by decide +kernel)).trans h.t, by rw [len_putF h.r]; exact h.n, fun f hf => (put_ne (fun e => hf (by rw [e]; decide +kernel))).trans (h.q f hf)⟩
theorem Flds.setT (h : Flds fs pl rl va vM vP vr vt) (v : V) : Flds (putF "total" v fs) pl rl va vM vP vr v :=
  ⟨(put_ne (by decide +kernel)).trans h.p, (put_ne (by decide +kernel)).trans h.a, (put_ne (by decide +kernel)).trans h.rd, (put_ne (by decide +kernel)).trans h.M, (put_ne (by decide +kernel)).trans h.P, (put_ne (by decide +kernel)).trans h.r, put_same, by rw [len_putF h.t]; exact h.n, fun f hf => (put_ne (fun e => hf (by rw [e]; decide +kernel))).trans (h.q f hf)⟩
end
/-- terms: a tuple of pairs, made by tuple(..) -/
def TmAt (ts : List (Str × Int)) (v : V) (H : Hp) : Prop := ∃ (a : Addr) (o : Obj) (ps : List Addr), v = .ref a ∧ H a = some (.frz o (.tup (ps.map V.ref))) ∧ o.cls = .type "tuple" ∧ o.dict = none ∧ Paired (fun p (t : Str × Int) => H p = some (.tup [.str t.1, .int t.2])) ps ts
def RdF (r : Rdg) (vt vv vw : V) : List (Str × V) := [(("name" : Str), .str r.name), (("terms" : Str), vt), (("value" : Str), vv), (("weight" : Str), vw)]
def RdAt (C CR : Addr) (r : Rdg) (v : V) (H : Hp) : Prop := ∃ a dx vt vv vw, v = .ref a ∧ H a = some (.ins CR dx (RdF r vt vv vw)) ∧ TmAt r.terms vt H ∧ RatAt C H vv r.value ∧ RatAt C H vw r.weight
theorem rdF_name {r : Rdg} {vt vv vw : V} : (RdF r vt vv vw).lookup ("name" : Str) = some (.str r.name) := by unfold RdF; simp [List.lookup]
theorem rdF_terms {r : Rdg} {vt vv vw : V} : (RdF r vt vv vw).lookup ("terms" : Str) = some vt := by
  unfold RdF
  have h : ((("terms" : Str) == ("name" : Str)) = false) := by decide +kernel
  simp [List.lookup, h]
theorem rdF_value {r : Rdg} {vt vv vw : V} : (RdF r vt vv vw).lookup ("value" : Str) = some vv := by
  unfold RdF
  have h : ((("value" : Str) == ("name" : Str)) = false) := by decide +kernel
  have h2 : ((("value" : Str) == ("terms" : Str)) = false) := by decide +kernel
  simp [List.lookup, h, h2]
theorem rdF_weight {r : Rdg} {vt vv vw : V} : (RdF r vt vv vw).lookup ("weight" : Str) = some vw := by
  unfold RdF
  have h : ((("weight" : Str) == ("name" : Str)) = false) := by decide +kernel
  have h2 : ((("weight" : Str) == ("terms" : Str)) = false) := by decide +kernel
  have h3 : ((("weight" : Str) == ("value" : Str)) = false) := by decide +kernel
  simp [List.lookup, h, h2, h3]
theorem put_name {v : V} : putF "name" v [] = [(("name" : Str), v)] := rfl
theorem put_terms {n v : V} : putF "terms" v [(("name" : Str), n)] = [(("name" : Str), n), (("terms" : Str), v)] := by
  show (if ("name" : Str) = "terms" then _ else (("name" : Str), n) :: putF "terms" v []) = _
  rw [if_neg (by decide +kernel)]; rfl
theorem put_value {n t v : V} : putF "value" v [(("name" : Str), n), (("terms" : Str), t)] = [(("name" : Str), n), (("terms" : Str), t), (("value" : Str), v)] := by
  show (if ("name" : Str) = "value" then _ else (("name" : Str), n) :: (if ("terms" : Str) = "value" then _ else (("terms" : Str), t) :: putF "value" v [])) = _
  rw [if_neg (by decide +kernel), if_neg (by decide +kernel)]; rfl
theorem put_weight {n t u v : V} : putF "weight" v [(("name" : Str), n), (("terms" : Str), t), (("value" : Str), u)] = [(("name" : Str), n), (("terms" : Str), t), (("value" : Str), u), (("weight" : Str), v)] := by
  show (if ("name" : Str) = "weight" then _ else (("name" : Str), n) :: (if ("terms" : Str) = "weight" then _ else (("terms" : Str), t) :: (if ("value" : Str) = "weight" then _ else (("value" : Str), u) :: putF "weight" v []))) = _
  rw [if_neg (by decide +kernel), if_neg (by decide +kernel), if_neg (by decide +kernel)]; rfl
def NetAt (C CR CN a pl rl : Addr) (N : NetV) (H : Hp) : Prop := ∃ dx fs va vM vP vr vt us, H a = some (.ins CN dx fs) ∧ Flds fs pl rl va vM vP vr vt ∧ H pl = some (.lst (N.ns.map V.str)) ∧ H rl = some (.lst us) ∧ VecAt C N.xs va H ∧ AllR (RdAt C CR) N.rds us H ∧ MatAt C N.M vM H ∧ MatAt C N.P vP H ∧ VecAt C N.r vr H ∧ RatAt C H vt N.t
/-! ### what stays when nets and lists change -/
/-- a list, or a net -/
def MutO (o : HO) : Prop := (∃ xs, o = .lst xs) ∨ ∃ C dx fs w, o = .ins C dx fs ∧ fs.lookup ("points" : Str) = some w
def AllMut (B : Addr → Prop) (H : Hp) : Prop := ∀ b, B b → ∃ o, H b = some o ∧ MutO o
def FrB (B : Addr → Prop) (H H' : Hp) : Prop := ∀ a o, ¬ B a → H a = some o → H' a = some o
theorem FrB.refl {B : Addr → Prop} {H : Hp} : FrB B H H := fun _ _ _ h => h
theorem FrB.trans {B : Addr → Prop} {H H1 H2 : Hp} (a : FrB B H H1) (b : FrB B H1 H2) : FrB B H H2 := fun x o n h => b x o n (a x o n h)
theorem FrB.of {B : Addr → Prop} {H H' : Hp} (e : Ex H H') : FrB B H H' := fun a o _ h => e _ _ h
theorem FrB.upd {B : Addr → Prop} {H : Hp} {p : Addr} {o : HO} (hp : B p) : FrB B H (L2.upd H p o) := fun a u n h => (upd_ne fun e => n (by rw [e]; exact hp)).trans h
theorem FrB.st {B : Addr → Prop} {st : Addr × Addr} {H H' : Hp} (f : FrS st H H') (hs : B st.1) : FrB B H H' := fun a o n h => f a o (fun e => n (by rw [e]; exact hs)) h
theorem FrB.weak {B B' : Addr → Prop} {H H' : Hp} (f : FrB B H H') (h : ∀ a, B a → B' a) : FrB B' H H' := fun a o n e => f a o (fun b => n (h a b)) e
/-- R is told by things that stay -/
def KeptN {α : Type} (R : α → V → Hp → Prop) : Prop := ∀ (B : Addr → Prop) x v H H', AllMut B H → FrB B H H' → R x v H → R x v H'
theorem keep1 {B : Addr → Prop} {H H' : Hp} {a : Addr} {o : HO} (hB : AllMut B H) (f : FrB B H H') (h : H a = some o) (n : ¬ MutO o) : H' a = some o := f _ _ (fun b => by
  obtain ⟨u, h1, h2⟩ := hB a b
  rw [h] at h1
  exact n (Option.some.inj h1 ▸ h2)) h
theorem nmut_tup {xs : List V} : ¬ MutO (.tup xs) := fun h => by
  rcases h with ⟨_, e⟩ | ⟨_, _, _, _, e, _⟩ <;> cases e
theorem nmut_frz {o : Obj} {u : HO} : ¬ MutO (.frz o u) := fun h => by
  rcases h with ⟨_, e⟩ | ⟨_, _, _, _, e, _⟩ <;> cases e
theorem nmut_rat {C dx : Addr} {q : Rat} : ¬ MutO (.ins C dx (RatO q)) := fun h => by
  rcases h with ⟨_, e⟩ | ⟨_, _, _, _, e, h⟩
  · cases e
  · injection e with e1 e2 e3
    subst e3
    unfold RatO at h
    have h1 : ((("points" : Str) == ("top" : Str)) = false) := by decide +kernel
    have h2 : ((("points" : Str) == ("bottom" : Str)) = false) := by decide +kernel
    simp [List.lookup, h1, h2] at h
theorem nmut_rd {C dx : Addr} {r : Rdg} {vt vv vw : V} : ¬ MutO (.ins C dx (RdF r vt vv vw)) := fun h => by
  rcases h with ⟨_, e⟩ | ⟨_, _, _, _, e, h⟩
  · cases e
  · injection e with e1 e2 e3
    subst e3
    unfold RdF at h
    have h1 : ((("points" : Str) == ("name" : Str)) = false) := by decide +kernel
    have h2 : ((("points" : Str) == ("terms" : Str)) = false) := by decide +kernel
    have h3 : ((("points" : Str) == ("value" : Str)) = false) := by decide +kernel
    have h4 : ((("points" : Str) == ("weight" : Str)) = false) := by decide +kernel
    simp [List.lookup, h1, h2, h3, h4] at h
theorem keptN_rq {C : Addr} : KeptN (RQ C) := fun B q v H H' hB f ⟨a, dx, e, h⟩ => ⟨a, dx, e, keep1 hB f h nmut_rat⟩
theorem AllR.keptN {α : Type} {R : α → V → Hp → Prop} (k : KeptN R) {B : Addr → Prop} {xs : List α} {vs : List V} {H H' : Hp} (hB : AllMut B H) (f : FrB B H H') (h : AllR R xs vs H) : AllR R xs vs H' := ⟨h.1, fun i x v h1 h2 => k B x v H H' hB f (h.2 i x v h1 h2)⟩
theorem keptN_tup {α : Type} {R : α → V → Hp → Prop} (k : KeptN R) : KeptN (TupAt R) := fun B xs v H H' hB f ⟨a, vs, e, h, h2⟩ => ⟨a, vs, e, keep1 hB f h nmut_tup, h2.keptN k hB f⟩
theorem paired_imp {α β : Type} {P Q : α → β → Prop} (h : ∀ a b, P a b → Q a b) : ∀ {xs : List α} {ys : List β}, Paired P xs ys → Paired Q xs ys
  | _, _, .nil => .nil
  | _, _, .cons a t => .cons (h _ _ a) (paired_imp h t)
theorem keptN_tm : KeptN TmAt := fun B ts v H H' hB f ⟨a, o, ps, e, h, h1, h2, h3⟩ => ⟨a, o, ps, e, keep1 hB f h nmut_frz, h1, h2, paired_imp (fun p t g => keep1 hB f g nmut_tup) h3⟩
theorem keptN_rd {C CR : Addr} : KeptN (RdAt C CR) := fun B r v H H' hB f ⟨a, dx, vt, vv, vw, e, h, h1, h2, h3⟩ => ⟨a, dx, vt, vv, vw, e, keep1 hB f h nmut_rd, keptN_tm B _ _ _ _ hB f h1, keptN_rq B _ _ _ _ hB f h2, keptN_rq B _ _ _ _ hB f h3⟩
theorem mono_tm : MonoR TmAt := fun ts v H H' e ⟨a, o, ps, ev, h, h1, h2, h3⟩ => ⟨a, o, ps, ev, e _ _ h, h1, h2, paired_imp (fun p t g => e _ _ g) h3⟩
theorem mono_rd {C CR : Addr} : MonoR (RdAt C CR) := fun r v H H' e ⟨a, dx, vt, vv, vw, ev, h, h1, h2, h3⟩ => ⟨a, dx, vt, vv, vw, ev, e _ _ h, mono_tm _ _ _ _ e h1, h2.mono e, h3.mono e⟩
theorem NetAt.ex {C CR CN a pl rl : Addr} {N : NetV} {H H' : Hp} (h : NetAt C CR CN a pl rl N H) (e : Ex H H') : NetAt C CR CN a pl rl N H' := by
  obtain ⟨dx, fs, va, vM, vP, vr, vt, us, h1, h2, h3, h4, h5, h6, h7, h8, h9, h10⟩ := h
  exact ⟨dx, fs, va, vM, vP, vr, vt, us, e _ _ h1, h2, e _ _ h3, e _ _ h4, mono_vec _ _ _ e h5, h6.mono mono_rd e, mono_mat _ _ _ e h7, mono_mat _ _ _ e h8, mono_vec _ _ _ e h9, h10.mono e⟩
/-- a net stays where its own three objects stay -/
theorem NetAt.fr {B : Addr → Prop} {C CR CN a pl rl : Addr} {N : NetV} {H H' : Hp} (h : NetAt C CR CN a pl rl N H) (hB : AllMut B H) (f : FrB B H H') (na : ¬ B a) (np : ¬ B pl) (nr : ¬ B rl) : NetAt C CR CN a pl rl N H' := by
  obtain ⟨dx, fs, va, vM, vP, vr, vt, us, h1, h2, h3, h4, h5, h6, h7, h8, h9, h10⟩ := h
  exact ⟨dx, fs, va, vM, vP, vr, vt, us, f _ _ na h1, h2, f _ _ np h3, f _ _ nr h4, keptN_tup keptN_rq B _ _ _ _ hB f h5, h6.keptN keptN_rd hB f, keptN_tup (keptN_tup keptN_rq) B _ _ _ _ hB f h7, keptN_tup (keptN_tup keptN_rq) B _ _ _ _ hB f h8, keptN_tup keptN_rq B _ _ _ _ hB f h9, keptN_rq B _ _ _ _ hB f h10⟩
theorem NetAt.mut {C CR CN a pl rl : Addr} {N : NetV} {H : Hp} (h : NetAt C CR CN a pl rl N H) : AllMut (fun b => b = a ∨ b = pl ∨ b = rl) H := fun b hb => by
  obtain ⟨dx, fs, va, vM, vP, vr, vt, us, h1, h2, h3, h4, _⟩ := h
  rcases hb with e | e | e
  · exact ⟨_, by rw [e]; exact h1, .inr ⟨_, _, _, _, rfl, h2.p⟩⟩
  · exact ⟨_, by rw [e]; exact h3, .inl ⟨_, rfl⟩⟩
  · exact ⟨_, by rw [e]; exact h4, .inl ⟨_, rfl⟩⟩
end Pn

namespace Pn
open PySem PySem.SeqAt
open AutoSeq1 (wpAny_loadPart')
open MeetsSeq MeetsSeq2 MeetsSeq3 SeqRoads2
section
variable {prog : Program} {w : World} {A : Around} {R : Result → Shared → Prop}
/-- list.remove: the j-th item is the first that is equal; == may make objects -/
theorem remove_loopB (l : Addr) (x : Value) (j N : Nat) (I : Nat → Shared → Prop)
    (read : ∀ i s, I i s → ∃ (items : Array Value) (n : Nat), s.heap.get? l = some { cls := .type "list", dict := none, data := .seq items n, slots := #[] } ∧ items.size = N ∧ (∀ (h1 : i < items.size), i ≤ j → wpAny (model prog w) A.in1 (eqBool items[i] x) (fun r s' => r = decide (i = j) ∧ I (i + 1) s') (fun e s' => R (.error e) s') s))
    (hj : j < N) (hN : N ≤ sizeLine)
    (fin : ∀ s, I (j + 1) s → R (.ok (.ret .none)) { s with heap := s.heap.update l (Obj.mapSeq fun xs => xs.eraseIdxIfInBounds j) }) (k : Nat) :
    ∀ i : Nat, j - i = k → i ≤ j → ∀ s, I i s →
      wpAny (model prog w) A.in1 (Builtin.«list.remove.loop» ⟨[.ref l, x, rawInt i], []⟩) (GQ.FinOf prog w A R) (fun e s' => R (.error e) s') s := by
  induction k with
  | zero =>
    intro i hk hij s h
    obtain ⟨items, n, hl, hs, turn⟩ := read _ _ h
    have hij' : i = j := by omega
    subst hij'
    have ht := turn (by omega) (Nat.le_refl _)
    obtain ⟨hp, g, d, tk, os⟩ := s
    wp_walk using wpAny_loadPart' hl
    have hi : items[((i : Nat) : Int).toNat]? = some items[i] := by simp [hs, hj]
    rw [hi]
    refine wpAny_bind (wpAny_mono ht (fun r s2 h2 => ?_) fun _ _ x => x)
    obtain ⟨hr, h2⟩ := h2
    rw [decide_eq_true rfl] at hr
    subst hr
    obtain ⟨items2, n2, hl2, hs2, _⟩ := read _ _ h2
    have hf := fin s2 h2
    obtain ⟨hp2, g2, d2, tk2, os2⟩ := s2
    have hs1 : items2.size ≤ sizeLine := by omega
    have hz' : (items2.eraseIdxIfInBounds i).size ≤ sizeLine + 1 := Nat.le_trans (size_erased items2 _) (Nat.le_succ_of_le hs1)
    wp_walk using (wpAny_updateSeq hl2 rfl (hz := hs1) (_hz' := hz')), wpAny_loadPart' hl2
    simpa using hf
  | succ k ih =>
    intro i hk hij s h
    obtain ⟨items, n, hl, hs, turn⟩ := read _ _ h
    have hlt : i < items.size := by omega
    have ht := turn hlt hij
    obtain ⟨hp, g, d, tk, os⟩ := s
    wp_walk using wpAny_loadPart' hl
    have hi : items[((i : Nat) : Int).toNat]? = some items[i] := by simp [hlt]
    have hc : ((i : Int) + 1) = ((i + 1 : Nat) : Int) := by push_cast; rfl
    rw [hi]
    refine wpAny_bind (wpAny_mono ht (fun r s2 h2 => ?_) fun _ _ x => x)
    obtain ⟨hr, h2⟩ := h2
    rw [decide_eq_false (by omega)] at hr
    subst hr
    have hrec := ih (i + 1) (by omega) (by omega) s2 h2
    obtain ⟨hp2, g2, d2, tk2, os2⟩ := s2
    wp_walk
    rw [hc]
    exact ⟨plainId_quiet plain_remove_loop _, codeAny_builtin entry_remove_loop (by
      rw [Around.under_plainId plain_remove_loop _]
      exact hrec)⟩
theorem list_removeB (l : Addr) (x : Value) (j N : Nat) (I : Nat → Shared → Prop)
    (read : ∀ i s, I i s → ∃ (items : Array Value) (n : Nat), s.heap.get? l = some { cls := .type "list", dict := none, data := .seq items n, slots := #[] } ∧ items.size = N ∧ (∀ (h1 : i < items.size), i ≤ j → wpAny (model prog w) A.in1 (eqBool items[i] x) (fun r s' => r = decide (i = j) ∧ I (i + 1) s') (fun e s' => R (.error e) s') s))
    (hj : j < N) (hN : N ≤ sizeLine)
    (fin : ∀ s, I (j + 1) s → R (.ok (.ret .none)) { s with heap := s.heap.update l (Obj.mapSeq fun xs => xs.eraseIdxIfInBounds j) }) {s : Shared} (h : I 0 s) :
    wpAny (model prog w) A.in1 (Builtin.«list.remove» ⟨[.ref l, x], []⟩) (GQ.FinOf prog w A R) (fun e s' => R (.error e) s') s := by
  obtain ⟨items, n, hl, hs, _⟩ := read _ _ h
  have hrec := remove_loopB (A := A) (R := R) l x j N I read hj hN fin _ 0 rfl (Nat.zero_le _) s h
  obtain ⟨hp, g, d, tk, os⟩ := s
  wp_walk using wpAny_loadPart' hl
  exact ⟨plainId_quiet plain_remove_loop _, codeAny_builtin entry_remove_loop (by
    rw [Around.under_plainId plain_remove_loop _]
    exact hrec)⟩
end
end Pn
namespace Pn
open PySem L2 Evl
section
variable {X : Cx} {n : Nat} {S T : Cmp}
theorem EqB.or (h : EqB X n S) (h' : EqB X n T) : EqB X n (fun x y b H => S x y b H ∨ T x y b H) := fun A pins s σ H x y b u v sb I rx ry d =>
  d.elim (h A pins s σ H x y b u v sb I rx ry) (h' A pins s σ H x y b u v sb I rx ry)
theorem EqB.mono {m : Nat} (h : EqB X n S) (k : n ≤ m) : EqB X m S := fun A pins s σ H x y b u v sb => h A pins s σ H x y b u v (sb.mono k)
theorem MonC.or (h : MonC S) (h' : MonC T) : MonC (fun x y b H => S x y b H ∨ T x y b H) := fun x y b H H' e d => d.elim (fun d => .inl (h x y b H H' e d)) fun d => .inr (h' x y b H H' e d)
/-- xs.remove(y): the j-th item is the first equal to y -/
def rRemB (S : Cmp) : V → List V → Hp → VK → Prop := fun x xs H Q => ∃ (l : Addr) (vs : List V) (y : V) (j : Nat), x = .ref l ∧ xs = [y] ∧ H l = some (.lst vs) ∧ j < vs.length ∧ (∀ (i : Nat) v, i ≤ j → vs[i]? = some v → S v y (decide (i = j)) H) ∧ ∀ H', Ex H H' → Q .non (upd H' l (.lst (vs.eraseIdx j)))
theorem mt_removeB (m : MonC S) (h : EqB X n S) (hr : Room (n + 1) X.A) : MtR X "list.remove" (rRemB S) := by
  intro pins s σ H x xs v us Q I rx rxs hq
  obtain ⟨l, vs, y, j, rfl, rfl, hH, hj, he, q⟩ := hq
  cases rx
  obtain ⟨u, rfl, ru⟩ := rxs.one
  obtain ⟨z0, its0, n0, r0, hl0, e0⟩ := I.lstM hH
  have sb : Sub X (n + 1) X.A := ⟨hr, rfl⟩
  refine GQ.call_here PySem.F.slot_list_remove ⟨_, e0, rfl⟩ PySem.F.entry_list_remove (PySem.F.args_list_remove_2 _ _) ?_
  refine list_removeB (R := wants (EP X pins σ Q) X.xe) l u j vs.length (fun _ s' => ∃ H', Inv X pins σ H' s' ∧ Ex H H') (fun i s' ⟨H1, I1, e1⟩ => ?_) hj (by omega) (fun s' ⟨H1, I1, e1⟩ => ?_) ⟨H, I, Ex.refl H⟩
  · obtain ⟨z, its, k, r, hl, e⟩ := I1.lstM (e1 _ _ hH)
    refine ⟨its.toArray, k, e, by rw [List.size_toArray]; exact hl.symm, fun h1 hij => ?_⟩
    have k1 : i < vs.length := by omega
    obtain ⟨t, ht, rt⟩ := r.get (List.getElem?_eq_getElem k1)
    have g1 : its.toArray[i] = t := by
      have : its[i]? = some its.toArray[i] := by
        rw [List.getElem?_eq_getElem (by simpa using h1)]
        simp
      rw [ht] at this
      exact (Option.some.inj this).symm
    rw [g1]
    refine wpAny_mono (h X.A.in1 pins s' σ H1 _ _ _ t u sb.in1 I1 rt ru (m _ _ _ _ _ e1 (he i _ hij (List.getElem?_eq_getElem k1)))) (fun r s2 q2 => ?_) fun _ _ x => x
    obtain ⟨hr', H2, I2, e2⟩ := q2
    exact ⟨hr', H2, I2, e1.trans e2⟩
  · obtain ⟨z, its, k, r, hl, e⟩ := I1.lstM (e1 _ _ hH)
    refine ⟨.non, _, I1.lset (its' := its.eraseIdx j) (t' := s'.toks) (e1 _ _ hH) e ?_ (r.eraseIdx j) ?_, rfl, q H1 e1⟩
    · show its.toArray.eraseIdxIfInBounds j = (its.eraseIdx j).toArray
      rw [List.eraseIdxIfInBounds_toArray]
    · have := List.length_eraseIdx_le vs j
      omega
end
end Pn

namespace Pn
open PySem L2 Evl
/-! ### terms compared -/
def STM (C : Addr) : Cmp := DT fun x y b H => DR C x y b H ∨ DT (DR C) x y b H
theorem monC_tm {C : Addr} : MonC (STM C) := monC_dt (MonC.or monC_dr (monC_dt monC_dr))
theorem eqB_tm {X : Cx} {n : Nat} {C f : Addr} {ps : List Str} (F : FnG X.prog X.w X.K X.mg X.base n f ps (spCmp C fun p q => decide (p = q))) (hs : Meth X.K C "__eq__" f) : EqB X (n + 2) (STM C) :=
  eqB_tup (MonC.or monC_dr (monC_dt monC_dr)) (EqB.or ((eqB_rat F hs).mono (Nat.le_succ n)) (eqB_tup monC_dr (eqB_rat F hs)))
theorem rat_inj {C : Addr} {H : Hp} {v : V} {p q : Rat} (h1 : RatAt C H v p) (h2 : RatAt C H v q) : p = q := by
  obtain ⟨a, da, rfl, ha⟩ := h1
  obtain ⟨c, dc, ey, hc⟩ := h2
  injection ey with ey
  subst ey
  rw [ha] at hc
  injection hc with hc
  injection hc with _ _ h3
  exact ratO_inj h3
theorem tm_dt {C : Addr} {H : Hp} {x y : V} {t u : Rat × List Rat} (hx : RT C t x H) (hy : RT C u y H) (hl : t.2.length = u.2.length) : STM C x y (decide (t = u)) H := by
  obtain ⟨a, v1, v2, rfl, ha, r1, r2⟩ := hx
  obtain ⟨c, w1, w2, rfl, hc, s1, s2⟩ := hy
  have dv := vec_dt r2 s2 hl
  refine ⟨a, c, [v1, v2], [w1, w2], fun i => if i = 0 then decide (t.1 = u.1) else decide (t.2 = u.2), rfl, rfl, ha, hc, rfl, fun i x y g1 g2 => ?_, ?_, fun e => ?_⟩
  · match i with
    | 0 =>
      cases g1
      cases g2
      exact .inl ⟨_, _, r1, s1, rfl⟩
    | 1 =>
      cases g1
      cases g2
      exact .inr dv
    | i + 2 => exact nomatch g1
  · rw [decide_eq_true_iff]
    constructor
    · intro e i _
      subst e
      dsimp only
      split <;> simp
    · intro h
      have h0 := h 0 (by simp)
      have h1 := h 1 (by simp)
      exact Prod.ext (of_decide_eq_true h0) (of_decide_eq_true h1)
  · subst e
    rw [ha] at hc
    injection hc with hc
    injection hc with hc
    injection hc with e1 hc
    injection hc with e2 _
    subst e1 e2
    have z1 := rat_inj r1 s1
    have z2 : t.2 = u.2 := by
      obtain ⟨a', c', _, _, _, e3, e4, _, _, _, _, _, same⟩ := dv
      rw [e3] at e4
      injection e4 with e4
      exact of_decide_eq_true (same e4)
    exact decide_eq_true (Prod.ext z1 z2)
/-! ### what is kept -/
def KOk (w : Nat) (ts : List (Rat × List Rat)) (M P : List (List Rat)) : Prop := (M.length = w ∧ Wide w M) ∧ (P.length = w ∧ Wide w P) ∧ at2 M = at2 (normQ ts w) ∧ Pen w w (at2 M) (at2 P)
def PosW (w : Nat) (ts : List (Rat × List Rat)) : Prop := ∀ t ∈ ts, 0 < t.1 ∧ t.2.length = w
theorem termsB_pos {n d w : Nat} {ts : List (Rat × List Rat)} (h : TermsB n d w ts) : PosW w ts := fun t ht => ⟨(h t ht).1.2.1, (h t ht).2.2⟩
theorem at2_add {w : Nat} {M : List (List Rat)} {row : List Rat} (lM : M.length = w) (wM : Wide w M) (lr : row.length = w) (q : Rat) : at2 (addTermQ M row q) = addR (at2 M) q (vf row) (vf row) := by
  subst lr
  exact addT_F lM wM
theorem kok_add {w : Nat} {ts : List (Rat × List Rat)} {M P : List (List Rat)} {q : Rat} {row : List Rat} (h : KOk w ts M P) (ht : PosW w ts) (hq : 0 < q) (lr : row.length = w) : KOk w (ts ++ [(q, row)]) (addTermQ M row q) (wAddQ M P row q) := by
  obtain ⟨⟨lM, wM⟩, ⟨lP, wP⟩, eM, pen⟩ := h
  have sM : trF (at2 M) = at2 M := by rw [eM]; exact norm_sym _ _
  have ps : Psd w (at2 M) := by rw [eM]; exact norm_psd _ ts rfl ht
  refine ⟨⟨by rw [addU_len (by omega), lM], addU_wide wM lr⟩, ⟨wAdd_len lM lP lr, wAdd_wide lM lP wP lr⟩, ?_, wAdd_pen lM wM lP wP lr pen sM ps hq⟩
  rw [at2_add lM wM lr, norm_add _ lr, eM]
theorem kok_rem {w : Nat} {ts us : List (Rat × List Rat)} {M P : List (List Rat)} {q : Rat} {row : List Rat} (h : KOk w (ts ++ (q, row) :: us) M P) (ht : PosW w (ts ++ us)) (hq : 0 < q) (lr : row.length = w) : KOk w (ts ++ us) (addTermQ M row (-q)) (wRemQ P row q) := by
  obtain ⟨⟨lM, wM⟩, ⟨lP, wP⟩, eM, pen⟩ := h
  have sM : trF (at2 M) = at2 M := by rw [eM]; exact norm_sym _ _
  have hM : at2 M = addR (at2 (normQ (ts ++ us) w)) q (vf row) (vf row) := by rw [eM, norm_mid, norm_add _ lr]
  refine ⟨⟨by rw [addU_len (by omega), lM], addU_wide wM lr⟩, ⟨wRem_len lP lr, wRem_wide lP wP lr⟩, ?_, wRem_pen lM wM lP wP lr pen sM (norm_psd _ _ rfl ht) hq hM⟩
  rw [at2_add lM wM lr, hM]
  funext i k
  unfold addR
  grind
theorem pinOk4 : PinOk 60 4 := ⟨by decide, by decide, by decide, by decide, by decide⟩
theorem pB4 : pB 60 4 ≤ 5000 := by decide
theorem updOk4 {n : Nat} (h : n ≤ 4) : UpdOk 60 5000 20 14 n := ⟨by omega, Nat.le_trans (Nat.add_le_add_right (Nat.mul_le_mul_left _ h) 1) (by decide), by decide⟩
theorem kok_sizes {w : Nat} {ts : List (Rat × List Rat)} {M P : List (List Rat)} (h : KOk w ts M P) (tB : TermsB 13 1 w ts) (hl : ts.length ≤ 12) (w4 : w ≤ 4) : CDB 60 (at2 M) ∧ CDB 5000 (at2 P) := by
  obtain ⟨⟨lM, wM⟩, ⟨lP, wP⟩, eM, pen⟩ := h
  have c1 : CDB 60 (at2 M) := by
    rw [eM]
    exact norm_cdb (s := 0) tB (by decide) (by decide) (by decide) (by omega)
  refine ⟨c1, ?_⟩
  have p2 := pinv_pen wM
  rw [lM] at p2
  rw [pen.uniq p2]
  exact (cdb_pinv wM c1 (m := 4) (.inr w4) (by decide) (by omega) (by omega)).mono pB4
theorem mul_z (n : Nat) (A : M2) : mulF n (fun _ _ => 0) A = fun _ _ => 0 := by
  funext i j
  exact sumN_zero fun k _ => Rat.zero_mul _
theorem pen_z (n : Nat) : Pen n n (fun _ _ => 0) (fun _ _ => 0) := ⟨by rw [mul_z, mul_z], by rw [mul_z, mul_z], by rw [mul_z]; rfl, by rw [mul_z]; rfl⟩
theorem kok_zero {w : Nat} {Z : List (List Rat)} (lZ : Z.length = w) (wZ : Wide w Z) (hz : at2 Z = fun _ _ => 0) : KOk w [] Z Z :=
  ⟨⟨lZ, wZ⟩, ⟨lZ, wZ⟩, by rw [hz, norm_nil], by rw [hz]; exact pen_z w⟩
theorem kok_nil {w : Nat} {M P Z : List (List Rat)} (h : KOk w [] M P) (lZ : Z.length = w) (wZ : Wide w Z) (hz : at2 Z = fun _ _ => 0) : M = Z ∧ P = Z := by
  obtain ⟨⟨lM, wM⟩, ⟨lP, wP⟩, eM, pen⟩ := h
  have k0 := kok_zero lZ wZ hz
  have e1 : at2 M = at2 Z := by rw [eM, norm_nil, hz]
  refine ⟨mat_fun (by omega) wM wZ e1, mat_fun (by omega) wP wZ ?_⟩
  rw [e1] at pen
  exact pen.uniq k0.2.2.2
/-! ### the list that keeps them -/
def KeptAt (C pk p : Addr) (ts : List (Rat × List Rat)) (M P : List (List Rat)) (H : Hp) : Prop := ∃ vs vM vP, H pk = some (.lst [.ref p, vM, vP]) ∧ H p = some (.lst vs) ∧ AllR (RT C) ts vs H ∧ MatAt C M vM H ∧ MatAt C P vP H
/-- the lists that may change -/
def B3 (st : Addr × Addr) (pk p : Addr) : Addr → Prop := fun b => b = st.1 ∨ b = pk ∨ b = p
def Fr3 (st : Addr × Addr) (pk p : Addr) (H H' : Hp) : Prop := ∀ a o, ¬ B3 st pk p a → H a = some o → H' a = some o
theorem Fr3.refl {st : Addr × Addr} {pk p : Addr} {H : Hp} : Fr3 st pk p H H := fun _ _ _ h => h
theorem Fr3.trans {st : Addr × Addr} {pk p : Addr} {H H1 H2 : Hp} (a : Fr3 st pk p H H1) (b : Fr3 st pk p H1 H2) : Fr3 st pk p H H2 := fun x o n h => b x o n (a x o n h)
theorem Fr3.st {st : Addr × Addr} {pk p : Addr} {H H' : Hp} (f : FrS st H H') : Fr3 st pk p H H' := fun a o n h => f a o (fun e => n (.inl e)) h
theorem Fr3.of {st : Addr × Addr} {pk p : Addr} {H H' : Hp} (e : Ex H H') : Fr3 st pk p H H' := fun a o _ h => e _ _ h
theorem Fr3.updK {st : Addr × Addr} {pk p : Addr} {H : Hp} {o : HO} : Fr3 st pk p H (upd H pk o) := fun a u n h => (upd_ne fun e => n (.inr (.inl e))).trans h
theorem Fr3.updP {st : Addr × Addr} {pk p : Addr} {H : Hp} {o : HO} : Fr3 st pk p H (upd H p o) := fun a u n h => (upd_ne fun e => n (.inr (.inr e))).trans h
/-- three lists, all different -/
def D3 (st : Addr × Addr) (pk p : Addr) : Prop := pk ≠ st.1 ∧ pk ≠ st.2 ∧ p ≠ st.1 ∧ p ≠ st.2 ∧ p ≠ pk
section
variable {C : Addr} {st : Addr × Addr} {pk p : Addr} {ts : List (Rat × List Rat)} {M P : List (List Rat)} {H H' : Hp} {c : Nat}
theorem all3 (s : St3 st c H) (k : KeptAt C pk p ts M P H) : ∀ b, B3 st pk p b → ∃ xs, H b = some (.lst xs) := fun b hb => by
  obtain ⟨vs, vM, vP, h1, h2, _⟩ := k
  rcases hb with e | e | e
  · obtain ⟨xs, z⟩ := s.lst
    exact ⟨xs, by rw [e]; exact z⟩
  · exact ⟨_, by rw [e]; exact h1⟩
  · exact ⟨_, by rw [e]; exact h2⟩
theorem KeptAt.ex (k : KeptAt C pk p ts M P H) (e : Ex H H') : KeptAt C pk p ts M P H' := by
  obtain ⟨vs, vM, vP, h1, h2, h3, h4, h5⟩ := k
  exact ⟨vs, vM, vP, e _ _ h1, e _ _ h2, h3.mono mono_rt e, mono_mat _ _ _ e h4, mono_mat _ _ _ e h5⟩
theorem KeptAt.fr (k : KeptAt C pk p ts M P H) (d : D3 st pk p) (s : St3 st c H) (f : FrS st H H') : KeptAt C pk p ts M P H' := by
  have hB := all3 s k
  obtain ⟨vs, vM, vP, h1, h2, h3, h4, h5⟩ := k
  have g : ∀ a o, ¬ B3 st pk p a → H a = some o → H' a = some o := Fr3.st f
  exact ⟨vs, vM, vP, f _ _ d.1 h1, f _ _ d.2.2.1 h2, h3.kept kept_rt hB g, kept_mat _ _ _ _ hB g h4, kept_mat _ _ _ _ hB g h5⟩
/-- kept[2] = .. -/
theorem KeptAt.set2 (k : KeptAt C pk p ts M P H) (d : D3 st pk p) (s : St3 st c H) {N : List (List Rat)} {v : V} (hv : MatAt C N v H) : ∃ vs, H pk = some (.lst vs) ∧ 2 < vs.length ∧ KeptAt C pk p ts M N (upd H pk (.lst (vs.set 2 v))) ∧ St3 st c (upd H pk (.lst (vs.set 2 v))) := by
  have hB := all3 s k
  obtain ⟨vs, vM, vP, h1, h2, h3, h4, h5⟩ := k
  have g : ∀ a o, ¬ B3 st pk p a → H a = some o → upd H pk (.lst ([.ref p, vM, vP].set 2 v)) a = some o := Fr3.updK
  exact ⟨_, h1, by simp, ⟨vs, vM, v, upd_same, (upd_ne d.2.2.2.2).trans h2, h3.kept kept_rt hB g, kept_mat _ _ _ _ hB g h4, kept_mat _ _ _ _ hB g hv⟩, s.upd d.1 d.2.1⟩
/-- kept[1] = .. -/
theorem KeptAt.set1 (k : KeptAt C pk p ts M P H) (d : D3 st pk p) (s : St3 st c H) {N : List (List Rat)} {v : V} (hv : MatAt C N v H) : ∃ vs, H pk = some (.lst vs) ∧ 1 < vs.length ∧ KeptAt C pk p ts N P (upd H pk (.lst (vs.set 1 v))) ∧ St3 st c (upd H pk (.lst (vs.set 1 v))) := by
  have hB := all3 s k
  obtain ⟨vs, vM, vP, h1, h2, h3, h4, h5⟩ := k
  have g : ∀ a o, ¬ B3 st pk p a → H a = some o → upd H pk (.lst ([.ref p, vM, vP].set 1 v)) a = some o := Fr3.updK
  exact ⟨_, h1, by simp, ⟨vs, v, vP, upd_same, (upd_ne d.2.2.2.2).trans h2, h3.kept kept_rt hB g, kept_mat _ _ _ _ hB g hv, kept_mat _ _ _ _ hB g h5⟩, s.upd d.1 d.2.1⟩
/-- the terms change -/
theorem KeptAt.terms (k : KeptAt C pk p ts M P H) (d : D3 st pk p) (s : St3 st c H) {us : List (Rat × List Rat)} {vs : List V} (hv : AllR (RT C) us vs H) : KeptAt C pk p us M P (upd H p (.lst vs)) ∧ St3 st c (upd H p (.lst vs)) := by
  have hB := all3 s k
  obtain ⟨ws, vM, vP, h1, h2, h3, h4, h5⟩ := k
  have g : ∀ a o, ¬ B3 st pk p a → H a = some o → upd H p (.lst vs) a = some o := Fr3.updP
  exact ⟨⟨vs, vM, vP, (upd_ne d.2.2.2.2.symm).trans h1, upd_same, hv.kept kept_rt hB g, kept_mat _ _ _ _ hB g h4, kept_mat _ _ _ _ hB g h5⟩, s.upd d.2.2.1 d.2.2.2.1⟩
variable {K : PySem.W.Frag} {te ta tb tc td tl : TE} {σ : L2.St} {E : XK}
/-- xs[i] of a list of any kinds -/
theorem evp_at3 {a : Addr} {vs : List V} {i : Nat} {v : V} {S : V → Hp → Prop} (m : Mono S) (ha : Ev ta σ H (.ref a)) (hb : Ev tb σ H (.int (i : Int))) (h : H a = some (.lst vs)) (hg : vs[i]? = some v) (hs : S v H) : EvP (tOp (rIxL K) ta tb) σ H S := fun H1 e Q k =>
  ha H1 e _ fun H2 e2 => hb H2 (e.trans e2) _ fun H3 e3 => ⟨a, _, _, _, rfl, rfl, SqL.of (((e.trans e2).trans e3) _ _ h), atI_nat hg, k _ _ (e2.trans e3) (m _ _ _ ((e.trans e2).trans e3) hs)⟩
theorem KeptAt.e0 (k : KeptAt C pk p ts M P H) (h : σ[j]? = some (some (.ref pk))) : EvP (tOp (rIxL K) (tVar j) (tC (.int 0))) σ H (LstAt (RT C) ts) := by
  obtain ⟨vs, vM, vP, h1, h2, h3, h4, h5⟩ := k
  exact evp_at3 (i := 0) mono_lrt (ev_var h) ev_c h1 rfl ⟨p, vs, rfl, h2, h3⟩
theorem KeptAt.e1 (k : KeptAt C pk p ts M P H) (h : σ[j]? = some (some (.ref pk))) : EvP (tOp (rIxL K) (tVar j) (tC (.int 1))) σ H (MatAt C M) := by
  obtain ⟨vs, vM, vP, h1, h2, h3, h4, h5⟩ := k
  exact evp_at3 (i := 1) mono_mat (ev_var h) ev_c h1 rfl h4
theorem KeptAt.e2 (k : KeptAt C pk p ts M P H) (h : σ[j]? = some (some (.ref pk))) : EvP (tOp (rIxL K) (tVar j) (tC (.int 2))) σ H (MatAt C P) := by
  obtain ⟨vs, vM, vP, h1, h2, h3, h4, h5⟩ := k
  exact evp_at3 (i := 2) mono_mat (ev_var h) ev_c h1 rfl h5
/-- xs[i] = v, the last statement -/
theorem asg_subS {a : Addr} {i j : Nat} {S : V → Hp → Prop} {D : Ends} (hv : EvP ta σ H S) (hj : σ[j]? = some (some (.ref a))) (k : ∀ v H1, Ex H H1 → S v H1 → ∃ vs, H1 a = some (.lst vs) ∧ i < vs.length ∧ D.nx σ (upd H1 a (.lst (vs.set i v)))) :
    tAsg ta (gSub (tVar j) (tC (.int (i : Int))) rSetL) D σ H := hv H (Ex.refl _) _ fun v H1 e r => by
  obtain ⟨vs, h1, h2, h3⟩ := k v H1 e r
  exact ⟨_, hj, a, vs, (i : Int), i, rfl, rfl, h1, by simp [ixN]; omega, h3⟩
theorem KeptAt.ev0 (k : KeptAt C pk p ts M P H) (h : σ[j]? = some (some (.ref pk))) : Ev (tOp (rIxL K) (tVar j) (tC (.int 0))) σ H (.ref p) := by
  obtain ⟨vs, vM, vP, h1, h2, h3, h4, h5⟩ := k
  exact ev_of (evp_at3 (i := 0) (S := fun v _ => v = .ref p) (fun _ _ _ _ h => h) (ev_var h) ev_c h1 rfl rfl)
theorem KeptAt.lst (k : KeptAt C pk p ts M P H) : LstAt (RT C) ts (.ref p) H := by
  obtain ⟨vs, vM, vP, h1, h2, h3, h4, h5⟩ := k
  exact ⟨p, vs, rfl, h2, h3⟩
theorem KeptAt.vec (k : KeptAt C pk p ts M P H) (s : St3 st c H) (f : Fr3 st pk p H H') {x : List Rat} {v : V} (h : VecAt C x v H) : VecAt C x v H' := kept_tup kept_rq _ _ _ _ (all3 s k) f h
theorem KeptAt.rat (k : KeptAt C pk p ts M P H) (s : St3 st c H) (f : Fr3 st pk p H H') {x : Rat} {v : V} (h : RatAt C H v x) : RatAt C H' v x := kept_rq _ _ _ _ (all3 s k) f h
theorem KeptAt.mat (k : KeptAt C pk p ts M P H) (s : St3 st c H) (f : Fr3 st pk p H H') {x : List (List Rat)} {v : V} (h : MatAt C x v H) : MatAt C x v H' := kept_mat _ _ _ _ (all3 s k) f h
/-- a test of two, the second of which draws -/
theorem q_and {t u : TT} {ty tz : TS} {D : Ends} (Mid : Hp → Prop) (h : ∀ Z : Hp → Prop, (∀ H1, Mid H1 → Z H1) → t σ H fun b H1 => if b = true then u σ H1 (fun b2 H2 => if b2 = true then ty { D with nx := tz D } σ H2 else Z H2) else Z H1) (k : ∀ H1, Mid H1 → tz D σ H1) : tSeq (tIfS (tAnd t u) ty tNext) tz D σ H :=
  h (fun H1 => tz D σ H1) k
/-- a row of small whole fractions -/
theorem draw_small {c n j i : Nat} {vs : List Nat} {Q : VK} (hn : Ev ta σ H (.int (n : Int))) (hl : n ≤ 1000) (s0 : St3 st c H) (hc : c + n + 1 < cMax) (hw : ∀ x, wipe ((wipe σ vs).set j (some x)) vs = wipe σ vs)
    (hs : ∀ x, ((wipe σ vs).set j (some x))[i]? = some (some (.ref st.1)))
    (k : ∀ qs v H', qs.length = n → (∀ q ∈ qs, NumB 2 1 q) → VecAt C qs v H' → St3 st (c + 1 * n) H' → FrS st H H' → Q v H') :
    tCB (rTupL K) (tCons (tLc (iRng1 (tCons ta tNil)) (gName j) tYes (tMake C (spInit C) [.int 1] E (tCons (tOp (rI0 fun i j => .int (i - j)) (tCall spDraw3 [] E (tCons (tVar i) (tCons (tC (.int 7)) tNil))) (tC (.int 3))) tNil)) vs) tNil) σ H Q := by
  show tLc (iRng1 (tCons ta tNil)) (gName j) tYes _ vs σ H (fun v H1 => rTupL K [v] H1 Q)
  refine lc_st3 (st := st) (c := c) (n := n) (cost := 1) (S := fun D i v H => ∃ q, NumB 2 1 q ∧ RatAt C H v q) (ea_cons hn ea_nil) (by omega) s0 hw ?_ ?_ ?_ ?_
  · intro m D H' kk hj s f nD hD hD0 kz
    refine ⟨_, hs _, st, c + 1 * m, 7, rfl, s, (by omega), by decide, fun d H2 d0 d1 s2 f2 => ?_⟩
    refine ⟨_, _, rfl, rfl, ?_⟩
    intro x dx nx ndx _
    refine ⟨x, dx, d - 3, 1, rfl, upd_same, by decide, Nat.one_lt_two_pow (by decide), fun G eq => ⟨rfl, ?_⟩⟩
    obtain ⟨e1, r1⟩ : Ex H2 G ∧ RatAt C G (.ref x) (Rat.divInt (d - 3) 1) := by
      rw [eq]
      exact made nx ndx
    refine kz _ G (by rw [Nat.mul_add 1 m 1]; exact s2.ex e1) (f2.trans (.of e1)) ⟨_, ?_, r1⟩
    exact ⟨d - 3, by rw [divInt_one]; exact Rat.one_mul _, by omega⟩
  · rintro D m v H' H2 c' s f ⟨q, sm, pr⟩
    exact ⟨q, sm, pr.mono3 s f⟩
  · rintro D m v H' ys zs hD ⟨q, sm, pr⟩
    exact ⟨q, sm, stab_rat v H' _ D ys (fun a o ne ha => (upd_ne ne).trans ha) hD pr⟩
  intro D ys H5 nD hD0 s5 f5 hD hl hy
  obtain ⟨qs, q1, q2⟩ := pick hy
  refine ⟨D, ys, rfl, SqL.of hD, fun l hl0 => ?_⟩
  have e6 := Ex.new (o := .tup ys) hl0
  refine k qs _ _ (by omega) (fun q hq => ?_) ⟨l, ys, rfl, upd_same, q1.symm, fun j x v h1 h2 => ((q2 j v x h2 h1).2).mono e6⟩ (s5.ex e6) (f5.trans (.of e6))
  obtain ⟨m, hm, e⟩ := List.mem_iff_getElem.mp hq
  exact (q2 m _ q (List.getElem?_eq_getElem (by omega)) (by rw [List.getElem?_eq_getElem hm, e])).1
/-- xs[i] = v -/
theorem asg_sub {a : Addr} {i j : Nat} {S : V → Hp → Prop} {D : Ends} {tz : TS} (hv : EvP ta σ H S) (hj : σ[j]? = some (some (.ref a))) (k : ∀ v H1, Ex H H1 → S v H1 → ∃ vs, H1 a = some (.lst vs) ∧ i < vs.length ∧ tz D σ (upd H1 a (.lst (vs.set i v)))) :
    tSeq (tAsg ta (gSub (tVar j) (tC (.int (i : Int))) rSetL)) tz D σ H := hv H (Ex.refl _) _ fun v H1 e r => by
  obtain ⟨vs, h1, h2, h3⟩ := k v H1 e r
  exact ⟨_, hj, a, vs, (i : Int), i, rfl, rfl, h1, by simp [ixN]; omega, h3⟩
end
theorem first_eq {α : Type} {ts : List α} {t : α} : ∀ (i : Nat), ts[i]? = some t → ∃ j, j ≤ i ∧ ts[j]? = some t ∧ ∀ m, m < j → ts[m]? ≠ some t := fun i => by
  induction i using Nat.strongRecOn with
  | _ i ih =>
    intro h
    by_cases c : ∃ m, m < i ∧ ts[m]? = some t
    · obtain ⟨m, hm, g⟩ := c
      obtain ⟨j, h1, h2, h3⟩ := ih m hm g
      exact ⟨j, by omega, h2, h3⟩
    · exact ⟨i, Nat.le_refl _, h, fun m hm g => c ⟨m, hm, g⟩⟩
theorem row_vb1 {k : Nat} {row : List Rat} (h : ∀ q ∈ row, NumB k 1 q) (hk : k ≤ 20) : VB 20 row := vb_row (s := 0) h (by decide) (by decide) (by decide) hk
theorem split_at {α : Type} {ts : List α} {t : α} {j : Nat} (h : ts[j]? = some t) : ts = ts.take j ++ t :: ts.drop (j + 1) := by
  obtain ⟨z1, z2⟩ := List.getElem?_eq_some_iff.mp h
  rw [← z2, ← List.drop_eq_getElem_cons, List.take_append_drop]
theorem seqIx {i n : Nat} (h : i < n) : seqIndex? (i : Int) n = some i := by
  unfold seqIndex?
  simp
  omega
def zerM (w : Nat) : List (List Rat) := (List.range w).map fun _ => (List.range w).map fun _ => ((0 : Int) : Rat)
theorem zero_len (w : Nat) : (zerM w).length = w := by unfold zerM; rw [List.length_map, List.length_range]
theorem zero_wide (w : Nat) : Wide w (zerM w) := fun r hr => by
  unfold zerM at hr
  obtain ⟨j, hj, rfl⟩ := List.mem_map.mp hr
  rw [List.length_map, List.length_range]
theorem zero_at (w : Nat) : at2 (zerM w) = fun _ _ => 0 := by
  funext i j
  by_cases hi : i < w
  · by_cases hj : j < w
    · unfold at2 zerM
      simp [List.getD_eq_getElem?_getD, List.getElem?_map, List.getElem?_range hi, List.getElem?_range hj]
    · exact at2_wide (zero_wide w) (by omega)
  · exact at2_ge (by rw [zero_len]; omega)
def spEdit (C : Addr) : Sp := fun vs H Q _ => ∃ (st : Addr × Addr) (pk p : Addr) (c w k : Nat) (ts : List (Rat × List Rat)) (M P : List (List Rat)), vs = [.ref st.1, .ref pk, .int (w : Int)] ∧ St3 st c H ∧ c + 100 < cMax ∧ D3 st pk p ∧ KeptAt C pk p ts M P H ∧ (KOk w ts M P ∧ TermsB k 1 w ts ∧ ts.length ≤ 10 ∧ 2 ≤ k ∧ k ≤ 12 ∧ w ≤ 4) ∧
  ∀ ts' M' P' H', KeptAt C pk p ts' M' P' H' → KOk w ts' M' P' → TermsB (k + 1) 1 w ts' → ts'.length ≤ ts.length + 1 → St3 st (c + 40) H' → Fr3 st pk p H H' → Q .non H'
end Pn

namespace Pn
open PySem L2 Evl
/-! ### what the defs of books and nets promise -/
def keysOf (ts : List (Str × Int)) : List (Key × V) := ts.map fun t => (.inr t.1, .int t.2)
def coefI (ts : List (Str × Int)) (n : Str) : Int := match valV (mergeK [] (keysOf ts)) (.inr n : Key) with | some (.int c) => c | _ => 0
def rowQ (ns : List Str) (ts : List (Str × Int)) : List Rat := ns.map fun n => ((coefI ts n : Int) : Rat)
def PtAt (ns : List Str) (v : V) (H : Hp) : Prop := ∃ a, v = .ref a ∧ H a = some (.lst (ns.map V.str))
def RS : Str → V → Hp → Prop := fun n v _ => v = .str n
theorem mono_rs : MonoR RS := fun _ _ _ _ _ h => h
theorem mono_pt {ns : List Str} : Mono (PtAt ns) := fun v H H' e ⟨a, ev, h⟩ => ⟨a, ev, e _ _ h⟩
theorem ptAt_lst {ns : List Str} {v : V} {H : Hp} (h : PtAt ns v H) : LstAt RS ns v H := by
  obtain ⟨a, e, h⟩ := h
  exact ⟨a, _, e, h, by simp, fun i x v h1 h2 => by rw [List.getElem?_map, h1] at h2; exact (Option.some.inj h2).symm⟩
def spRdInit (CR : Addr) : Sp := fun vs H Q _ => ∃ (p dx : Addr) (n : Str) (vt vv vw : V), vs = [.ref p, .str n, vt, vv, vw] ∧ H p = some (.ins CR dx []) ∧ ∀ H', H' = upd H p (.ins CR dx [(("name" : Str), .str n), (("terms" : Str), vt), (("value" : Str), vv), (("weight" : Str), vw)]) → Q .non H'
def spRowAmong (C : Addr) : Sp := fun vs H Q _ => ∃ (x y : V) (ns : List Str) (ts : List (Str × Int)), vs = [x, y] ∧ PtAt ns x H ∧ TmAt ts y H ∧ ns.length ≤ 10000 ∧ NewV (VecAt C (rowQ ns ts)) H Q
def spChkPt : Sp := fun vs H Q _ => ∃ (x : V) (n : Str) (ns : List Str), vs = [x, .str n] ∧ PtAt ns x H ∧ n ∈ ns ∧ ∀ H', Ex H H' → Q .non H'
def spChkPts : Sp := fun vs H Q _ => ∃ (x y : V) (ns : List Str) (ts : List (Str × Int)), vs = [x, y] ∧ PtAt ns x H ∧ TmAt ts y H ∧ (∀ t ∈ ts, t.1 ∈ ns) ∧ ∀ H', Ex H H' → Q .non H'
def spChkNew : Sp := fun vs H Q _ => ∃ (x : V) (n : Str) (ns : List Str), vs = [x, .str n] ∧ PtAt ns x H ∧ n ∉ ns ∧ ns.length < 12 ∧ ∀ H', Ex H H' → Q .non H'
def spChkRd (C CR : Addr) : Sp := fun vs H Q _ => ∃ (x : V) (n : Str) (rds : List Rdg), vs = [x, .str n] ∧ LstAt (RdAt C CR) rds x H ∧ (∀ r ∈ rds, r.name ≠ n) ∧ rds.length ≤ 10000 ∧ ∀ H', Ex H H' → Q .non H'
def spChkRoom (C CR : Addr) : Sp := fun vs H Q _ => ∃ (x : V) (rds : List Rdg), vs = [x] ∧ LstAt (RdAt C CR) rds x H ∧ rds.length < 24 ∧ ∀ H', Ex H H' → Q .non H'
def widQ (M : List (List Rat)) : List (List Rat) := (M.map fun r => r ++ [((0 : Int) : Rat)]) ++ [zeroQ (M.length + 1)]
def spWid (C : Addr) : Sp := fun vs H Q _ => ∃ (x : V) (M : List (List Rat)), vs = [x] ∧ MatAt C M x H ∧ M.length ≤ 100 ∧ (∀ r ∈ M, r.length ≤ 100) ∧ NewV (MatAt C (widQ M)) H Q
/-- every value of the dict is an int -/
theorem putK_ints {kvs : List (Key × V)} {k : Key} {c : Int} (h : ∀ kv ∈ kvs, ∃ c : Int, kv.2 = .int c) : ∀ kv ∈ putK kvs k (.int c), ∃ c : Int, kv.2 = .int c := fun kv hk => by
  unfold putK at hk
  split at hk
  · obtain ⟨u, hu, e⟩ := List.mem_map.mp hk
    split at e
    · exact ⟨c, by rw [← e]⟩
    · rw [← e]; exact h u hu
  · rcases List.mem_append.mp hk with h1 | h1
    · exact h kv h1
    · rw [List.mem_singleton.mp h1]; exact ⟨c, rfl⟩
theorem merge_ints : ∀ (ts : List (Str × Int)) (acc : List (Key × V)), (∀ kv ∈ acc, ∃ c : Int, kv.2 = .int c) → ∀ kv ∈ mergeK acc (keysOf ts), ∃ c : Int, kv.2 = .int c
  | [], acc, h => h
  | t :: ts, acc, h => merge_ints ts (putK acc (.inr t.1) (.int t.2)) (putK_ints h)
theorem coef_of (ts : List (Str × Int)) (n : Str) : (valV (mergeK [] (keysOf ts)) (.inr n : Key)).getD (.int 0) = .int (coefI ts n) := by
  unfold coefI
  cases e : valV (mergeK [] (keysOf ts)) (.inr n : Key) with
  | none => rfl
  | some v =>
    unfold valV at e
    cases e2 : (mergeK [] (keysOf ts)).find? fun kv => decide (kv.1 = (.inr n : Key)) with
    | none => rw [e2] at e; cases e
    | some kv =>
      rw [e2] at e
      obtain ⟨c, hc⟩ := merge_ints ts [] (fun kv h => nomatch h) kv (List.mem_of_find?_eq_some e2)
      have ev : kv.2 = v := Option.some.inj e
      rw [← ev, hc]
      rfl
theorem paired_keys {H : Hp} {K : PySem.W.Frag} : ∀ {ps : List Addr} {ts : List (Str × Int)}, Paired (fun p (t : Str × Int) => H p = some (.tup [.str t.1, .int t.2])) ps ts → Paired (fun p kv => SqT K H p [kV kv.1, kv.2]) ps (keysOf ts)
  | _, _, .nil => .nil
  | _, _, .cons h t => .cons (SqT.of h) (paired_keys t)
theorem flat_strs (ns : List Str) : (ns.map V.str).all flatV = true := by
  rw [List.all_eq_true]
  intro x hx
  obtain ⟨n, _, rfl⟩ := List.mem_map.mp hx
  rfl
theorem inV_strs {n : Str} {ns : List Str} : inV (.str n) (ns.map V.str) = decide (n ∈ ns) := by
  unfold inV
  induction ns with
  | nil => simp
  | cons m ns ih =>
    rw [List.map_cons, List.any_cons, ih]
    by_cases e : m = n
    · subst e; simp [eqV]
    · have e2 : ¬ n = m := fun h => e h.symm
      simp [eqV, e, e2]
section
variable {K : PySem.W.Frag} {C CR : Addr} {te ta tb tc td tl : TE} {σ : L2.St} {H : Hp} {E : XK} {D : Ends} {tz tbd : TS} {g : TG}
/-- Ratio(e) -/
theorem fq_mk1 {n : Int} (ha : Ev ta σ H (.int n)) : EvQ C (tMake C (spInit C) [.int 1] E (tCons ta tNil)) σ H (n : Rat) := fun H1 e Q k => ha H1 e _ fun H2 e2 => by
  intro x dx nx ndx nex
  refine ⟨x, dx, n, 1, rfl, upd_same, by decide, Nat.one_lt_two_pow (by decide), fun H' e => ⟨rfl, ?_⟩⟩
  rw [divInt_one] at e
  subst e
  exact k _ _ (e2.trans (made nx ndx).1) (made nx ndx).2
/-- d.get(name, 0) of the terms' dict -/
theorem ev_coef {ts : List (Str × Int)} {n : Str} {d : Addr} {i j : Nat} (h : H d = some (.dK (mergeK [] (keysOf ts)))) (hi : σ[i]? = some (some (.ref d))) (hj : σ[j]? = some (some (.str n))) : Ev (tDGet2 (tVar i) (tVar j) (tC (.int 0))) σ H (.int (coefI ts n)) := fun H1 e Q k =>
  ⟨_, hi, d, rfl, .inl ⟨_, .inl (e _ _ h)⟩, _, hj, valV (mergeK [] (keysOf ts)) (.inr n : Key), DGet.k (k := (.inr n : Key)) (e _ _ h), by rw [coef_of]; exact k _ (Ex.refl _)⟩
/-- over a tuple that SqT tells -/
theorem s_forQ {a : Addr} {vs : List V} (hv : Ev ta σ H (.ref a)) (Pv : Nat → L2.St → Hp → Prop) (hG : ∀ i σ' H', Pv i σ' H' → SqT K H' a vs) (h0 : ∀ H1, Ex H H1 → Pv 0 σ H1)
    (hs : ∀ (i : Nat) (v : V) σ' H', vs[i]? = some v → Pv i σ' H' → g v σ' H' fun σ2 H2 => tbd { D with nx := Pv (i + 1), ct := Pv (i + 1), bk := D.nx } σ2 H2) (hd : ∀ σ' H', Pv vs.length σ' H' → D.nx σ' H') :
    tFor (iTup K ta) g tbd D σ H := by
  unfold tFor iTup
  refine hv H (Ex.refl _) _ fun H1 e1 => ⟨a, rfl, ⟨vs, hG _ _ _ (h0 H1 e1)⟩, ?_⟩
  exact for_it (walk_tup (K := K) (a := a) (xs := vs)) (g := g) (tb := tbd) (D := D) (σ := σ) (H := H1) Pv (h0 H1 e1) (fun i σ' H' _ p => hG i σ' H' p) (fun i v σ' H' H'' hi p y => by
    obtain ⟨y1, y2⟩ := y
    subst y1
    exact hs i v σ' _ y2 p) (fun σ' H' p => hd σ' H' p)
/-- (*rows, row), rows a list -/
theorem evp_starL1 {α : Type} {R : α → V → Hp → Prop} {xs : List α} {y : α} (m : MonoR R) (ha : EvP ta σ H (LstAt R xs)) (hb : EvP tb σ H (R y)) (hz : xs.length ≤ 10000) : EvP (tTup (StX.tStar K ta (tCons tb tNil))) σ H (TupAt R (xs ++ [y])) := fun H1 e Q k =>
  ha H1 e _ fun v H2 e2 ⟨a, vs, ev, h, A⟩ => by
    subst ev
    refine ⟨a, vs, rfl, .inr (SqL.of h), ?_⟩
    refine hb H2 (e.trans e2) _ fun u H3 e3 r => ?_
    have l := A.1
    refine ⟨by rw [List.length_append, List.length_singleton]; show _ ≤ sizeLine; exact Nat.le_trans (by omega : vs.length + 1 ≤ 10001) (by decide), fun p hp => ?_⟩
    exact k _ _ ((e2.trans e3).trans (Ex.new hp)) ⟨p, _, rfl, upd_same, (allR_app (A.mono m e3) (allR_one r)).mono m (Ex.new hp)⟩
/-- o.name of a reading -/
theorem ev_rname {r : Rdg} (cl : Cls K CR) (no : NoAttr K CR "name") (h : EvP ta σ H (RdAt C CR r)) : Ev (tFld K ta "name") σ H (.str r.name) := fun H1 e Q k => h H1 e _ fun v H2 e2 ⟨a, dx, vt, vv, vw, ev, ha, h1, h2, h3⟩ => by
  subst ev
  exact ⟨a, _, dx, _, _, rfl, ha, cl, no, rdF_name, k H2 e2⟩
theorem evp_rterms {r : Rdg} (cl : Cls K CR) (no : NoAttr K CR "terms") (h : EvP ta σ H (RdAt C CR r)) : EvP (tFld K ta "terms") σ H (TmAt r.terms) := fun H1 e Q k => h H1 e _ fun v H2 e2 ⟨a, dx, vt, vv, vw, ev, ha, h1, h2, h3⟩ => by
  subst ev
  exact ⟨a, _, dx, _, _, rfl, ha, cl, no, rdF_terms, k _ H2 e2 h1⟩
theorem evp_rvalue {r : Rdg} (cl : Cls K CR) (no : NoAttr K CR "value") (h : EvP ta σ H (RdAt C CR r)) : EvP (tFld K ta "value") σ H (fun v H => RatAt C H v r.value) := fun H1 e Q k => h H1 e _ fun v H2 e2 ⟨a, dx, vt, vv, vw, ev, ha, h1, h2, h3⟩ => by
  subst ev
  exact ⟨a, _, dx, _, _, rfl, ha, cl, no, rdF_value, k _ H2 e2 h2⟩
theorem evp_rweight {r : Rdg} (cl : Cls K CR) (no : NoAttr K CR "weight") (h : EvP ta σ H (RdAt C CR r)) : EvP (tFld K ta "weight") σ H (fun v H => RatAt C H v r.weight) := fun H1 e Q k => h H1 e _ fun v H2 e2 ⟨a, dx, vt, vv, vw, ev, ha, h1, h2, h3⟩ => by
  subst ev
  exact ⟨a, _, dx, _, _, rfl, ha, cl, no, rdF_weight, k _ H2 e2 h3⟩
def RB : Bool → V → Hp → Prop := fun b v _ => v = .bl b
theorem mono_rb : MonoR RB := fun _ _ _ _ _ h => h
/-- any(xs) of a list of bools -/
theorem ev_anyL {bs : List Bool} (h : EvP tl σ H (LstAt RB bs)) : Ev (tCB (rAny K) (tCons tl tNil)) σ H (.bl (bs.any id)) := fun H1 e Q k => h H1 e _ fun v H2 e2 ⟨a, vs, ev, ha, A⟩ => by
  subst ev
  have ev : vs = bs.map V.bl := List.ext_getElem? fun i => by
    rw [List.getElem?_map]
    cases hb : bs[i]? with
    | none => rw [List.getElem?_eq_none (by rw [A.1]; exact List.getElem?_eq_none_iff.mp hb)]; rfl
    | some b =>
      have hi : i < vs.length := by rw [A.1]; exact (List.getElem?_eq_some_iff.mp hb).1
      have z := A.2 i b _ hb (List.getElem?_eq_getElem hi)
      rw [List.getElem?_eq_getElem hi, z]; rfl
  subst ev
  exact ⟨a, bs, rfl, SqL.of ha, k H2 e2⟩
theorem paired_at {α β : Type} {P : α → β → Prop} : ∀ {xs : List α} {ys : List β} {i : Nat} {x : α}, Paired P xs ys → xs[i]? = some x → ∃ y, ys[i]? = some y ∧ P x y
  | _, _, i, x, .nil, h => by simp at h
  | _, _, 0, x, .cons p t, h => ⟨_, rfl, by cases h; exact p⟩
  | _, _, i + 1, x, .cons p t, h => by
    obtain ⟨y, h1, h2⟩ := paired_at t (i := i) (by simpa using h)
    exact ⟨y, by simpa using h1, h2⟩
theorem paired_len {α β : Type} {P : α → β → Prop} : ∀ {xs : List α} {ys : List β}, Paired P xs ys → xs.length = ys.length
  | _, _, .nil => rfl
  | _, _, .cons p t => by rw [List.length_cons, List.length_cons, paired_len t]
theorem ev_p {b : Bool} (h : Ev te σ H (.bl b)) : EvP te σ H (RB b) := fun H1 e Q k => h H1 e _ fun H2 e2 => k _ H2 e2 rfl
end
/-! ### what the methods of a net promise -/
/-- the three objects of a net -/
def NB (a pl rl : Addr) : Addr → Prop := fun b => b = a ∨ b = pl ∨ b = rl
def NetNew : NetV := ⟨[], [], [], [], [], [], 0⟩
def spNetInit (C CR CN : Addr) : Sp := fun vs H Q _ => ∃ (a dx : Addr), vs = [.ref a] ∧ H a = some (.ins CN dx []) ∧ ∀ pl rl H', H pl = none → H rl = none → pl ≠ rl → NetAt C CR CN a pl rl NetNew H' → FrB (fun b => b = a) H H' → Q .non H'
def spNetRow (C CR CN : Addr) : Sp := fun vs H Q _ => ∃ (a pl rl : Addr) (N : NetV) (r : Rdg) (y : V), vs = [.ref a, y] ∧ NetAt C CR CN a pl rl N H ∧ RdAt C CR r y H ∧ N.ns.length ≤ 10000 ∧ NewV (VecAt C (rowQ N.ns r.terms)) H Q
theorem putn_pts {v : V} : putF "points" v [] = [(("points" : Str), v)] := rfl
theorem flds_new {pl rl : Addr} {va vM vP vr vt : V} : Flds (putF "total" vt (putF "right" vr (putF "inverse" vP (putF "normal" vM (putF "readings" (.ref rl) (putF "approximations" va (putF "points" (.ref pl) []))))))) pl rl va vM vP vr vt := by
  refine ⟨?_, ?_, ?_, ?_, ?_, ?_, put_same, ?_, fun f hf => ?_⟩
  · rw [put_ne (by decide +kernel), put_ne (by decide +kernel), put_ne (by decide +kernel), put_ne (by decide +kernel), put_ne (by decide +kernel), put_ne (by decide +kernel)]; exact put_same
  · rw [put_ne (by decide +kernel), put_ne (by decide +kernel), put_ne (by decide +kernel), put_ne (by decide +kernel), put_ne (by decide +kernel)]; exact put_same
  · rw [put_ne (by decide +kernel), put_ne (by decide +kernel), put_ne (by decide +kernel), put_ne (by decide +kernel)]; exact put_same
  · rw [put_ne (by decide +kernel), put_ne (by decide +kernel), put_ne (by decide +kernel)]; exact put_same
  · rw [put_ne (by decide +kernel), put_ne (by decide +kernel)]; exact put_same
  · rw [put_ne (by decide +kernel)]; exact put_same
  · have h : ∀ (f : Str) (v : V) (fs : List (Str × V)), (putF f v fs).length ≤ fs.length + 1 := fun f v fs => by
      induction fs with
      | nil => exact Nat.le_refl _
      | cons a r ih =>
        obtain ⟨g, x⟩ := a
        show (if g = f then (g, v) :: r else (g, x) :: putF f v r).length ≤ _
        split
        · simp
        · simp; omega
    have h1 := h "points" (.ref pl) []
    have h2 := h "approximations" va (putF "points" (.ref pl) [])
    have h3 := h "readings" (.ref rl) (putF "approximations" va (putF "points" (.ref pl) []))
    have h4 := h "normal" vM (putF "readings" (.ref rl) (putF "approximations" va (putF "points" (.ref pl) [])))
    have h5 := h "inverse" vP (putF "normal" vM (putF "readings" (.ref rl) (putF "approximations" va (putF "points" (.ref pl) []))))
    have h6 := h "right" vr (putF "inverse" vP (putF "normal" vM (putF "readings" (.ref rl) (putF "approximations" va (putF "points" (.ref pl) [])))))
    have h7 := h "total" vt (putF "right" vr (putF "inverse" vP (putF "normal" vM (putF "readings" (.ref rl) (putF "approximations" va (putF "points" (.ref pl) []))))))
    simp only [List.length_nil] at h1
    omega
  · have ne : ∀ g, g ∈ NFs → f ≠ g := fun g hg e => hf (by rw [e]; exact hg)
    rw [put_ne (ne _ (by decide +kernel)), put_ne (ne _ (by decide +kernel)), put_ne (ne _ (by decide +kernel)), put_ne (ne _ (by decide +kernel)), put_ne (ne _ (by decide +kernel)), put_ne (ne _ (by decide +kernel)), put_ne (ne _ (by decide +kernel))]
    rfl
theorem put_len (f : Str) (v : V) (fs : List (Str × V)) : (putF f v fs).length ≤ fs.length + 1 := by
  induction fs with
  | nil => exact Nat.le_refl _
  | cons a r ih =>
    obtain ⟨g, x⟩ := a
    show (if g = f then (g, v) :: r else (g, x) :: putF f v r).length ≤ _
    split
    · simp
    · simp; omega
/-- one field of a new instance: its value made at p, then the field set -/
theorem new_fld {CN dx a p : Addr} {fs fs' : List (Str × V)} {o : HO} {H : Hp} (ha : H a = some (.ins CN dx fs)) (hp : H p = none) : (upd H p o) a = some (.ins CN dx fs) ∧ (upd (upd H p o) a (.ins CN dx fs')) a = some (.ins CN dx fs') ∧ (upd (upd H p o) a (.ins CN dx fs')) p = some o ∧ p ≠ a ∧ FrB (fun b => b = a) H (upd (upd H p o) a (.ins CN dx fs')) := by
  have np : p ≠ a := fun e => by rw [e, ha] at hp; cases hp
  exact ⟨(upd_ne np.symm).trans ha, upd_same, (upd_ne np).trans upd_same, np, fun x u nx hx => (upd_ne nx).trans ((upd_ne (ne_of_none hx hp)).trans hx)⟩
theorem allMut_one {a CN dx : Addr} {fs : List (Str × V)} {w : V} {H : Hp} (h : H a = some (.ins CN dx fs)) (hl : fs.lookup ("points" : Str) = some w) : AllMut (fun b => b = a) H := fun b hb => by
  have hb : b = a := hb
  subst hb
  exact ⟨_, h, .inr ⟨_, _, _, _, rfl, hl⟩⟩
section
variable {K : PySem.W.Frag} {C CR CN a pl rl : Addr} {te ta tb : TE} {σ : L2.St} {H : Hp} {D : Ends} {N : NetV}
theorem n_setR {z : List Rat} (cl : Cls K CN) (no : NoAttr K CN "right") (hN : NetAt C CR CN a pl rl N H) (hv : EvP te σ H (fun v H => VecAt C z v H)) (h0 : σ[0]? = some (some (.ref a))) (k : ∀ H2, NetAt C CR CN a pl rl { N with r := z } H2 → FrB (fun b => b = a) H H2 → D.nx σ H2) : sFld K (tVar 0) te "right" D σ H := by
  obtain ⟨dx, fs, va, vM, vP, vr, vt, us, h1, h2, h3, h4, h5, h6, h7, h8, h9, h10⟩ := hN
  refine hv H (Ex.refl _) _ fun v H1 e1 m1 => ⟨_, h0, a, _, dx, fs, rfl, e1 _ _ h1, cl, no, by have := h2.n; omega, ?_⟩
  have mu : AllMut (fun b => b = a) H1 := allMut_one (e1 _ _ h1) h2.p
  have f1 : FrB (fun b => b = a) H1 (upd H1 a (.ins CN dx (putF "right" v fs))) := FrB.upd rfl
  have np : pl ≠ a := fun e => by rw [e, h1] at h3; cases h3
  have nr : rl ≠ a := fun e => by rw [e, h1] at h4; cases h4
  exact k _ ⟨dx, _, va, vM, vP, v, vt, us, upd_same, h2.setR v, f1 _ _ np (e1 _ _ h3), f1 _ _ nr (e1 _ _ h4), keptN_tup keptN_rq _ _ _ _ _ mu f1 (mono_vec _ _ _ e1 h5), (h6.mono mono_rd e1).keptN keptN_rd mu f1, keptN_tup (keptN_tup keptN_rq) _ _ _ _ _ mu f1 (mono_mat _ _ _ e1 h7), keptN_tup (keptN_tup keptN_rq) _ _ _ _ _ mu f1 (mono_mat _ _ _ e1 h8), keptN_tup keptN_rq _ _ _ _ _ mu f1 (m1), keptN_rq _ _ _ _ _ mu f1 (h10.mono e1)⟩ ((FrB.of e1).trans f1)
theorem n_setT {z : Rat} (cl : Cls K CN) (no : NoAttr K CN "total") (hN : NetAt C CR CN a pl rl N H) (hv : EvP te σ H (fun v H => RatAt C H v z)) (h0 : σ[0]? = some (some (.ref a))) (k : ∀ H2, NetAt C CR CN a pl rl { N with t := z } H2 → FrB (fun b => b = a) H H2 → D.nx σ H2) : sFld K (tVar 0) te "total" D σ H := by
  obtain ⟨dx, fs, va, vM, vP, vr, vt, us, h1, h2, h3, h4, h5, h6, h7, h8, h9, h10⟩ := hN
  refine hv H (Ex.refl _) _ fun v H1 e1 m1 => ⟨_, h0, a, _, dx, fs, rfl, e1 _ _ h1, cl, no, by have := h2.n; omega, ?_⟩
  have mu : AllMut (fun b => b = a) H1 := allMut_one (e1 _ _ h1) h2.p
  have f1 : FrB (fun b => b = a) H1 (upd H1 a (.ins CN dx (putF "total" v fs))) := FrB.upd rfl
  have np : pl ≠ a := fun e => by rw [e, h1] at h3; cases h3
  have nr : rl ≠ a := fun e => by rw [e, h1] at h4; cases h4
  exact k _ ⟨dx, _, va, vM, vP, vr, v, us, upd_same, h2.setT v, f1 _ _ np (e1 _ _ h3), f1 _ _ nr (e1 _ _ h4), keptN_tup keptN_rq _ _ _ _ _ mu f1 (mono_vec _ _ _ e1 h5), (h6.mono mono_rd e1).keptN keptN_rd mu f1, keptN_tup (keptN_tup keptN_rq) _ _ _ _ _ mu f1 (mono_mat _ _ _ e1 h7), keptN_tup (keptN_tup keptN_rq) _ _ _ _ _ mu f1 (mono_mat _ _ _ e1 h8), keptN_tup keptN_rq _ _ _ _ _ mu f1 (mono_vec _ _ _ e1 h9), keptN_rq _ _ _ _ _ mu f1 (m1)⟩ ((FrB.of e1).trans f1)
theorem n_setM {z : List (List Rat)} (cl : Cls K CN) (no : NoAttr K CN "normal") (hN : NetAt C CR CN a pl rl N H) (hv : EvP te σ H (fun v H => MatAt C z v H)) (h0 : σ[0]? = some (some (.ref a))) (k : ∀ H2, NetAt C CR CN a pl rl { N with M := z } H2 → FrB (fun b => b = a) H H2 → D.nx σ H2) : sFld K (tVar 0) te "normal" D σ H := by
  obtain ⟨dx, fs, va, vM, vP, vr, vt, us, h1, h2, h3, h4, h5, h6, h7, h8, h9, h10⟩ := hN
  refine hv H (Ex.refl _) _ fun v H1 e1 m1 => ⟨_, h0, a, _, dx, fs, rfl, e1 _ _ h1, cl, no, by have := h2.n; omega, ?_⟩
  have mu : AllMut (fun b => b = a) H1 := allMut_one (e1 _ _ h1) h2.p
  have f1 : FrB (fun b => b = a) H1 (upd H1 a (.ins CN dx (putF "normal" v fs))) := FrB.upd rfl
  have np : pl ≠ a := fun e => by rw [e, h1] at h3; cases h3
  have nr : rl ≠ a := fun e => by rw [e, h1] at h4; cases h4
  exact k _ ⟨dx, _, va, v, vP, vr, vt, us, upd_same, h2.setM v, f1 _ _ np (e1 _ _ h3), f1 _ _ nr (e1 _ _ h4), keptN_tup keptN_rq _ _ _ _ _ mu f1 (mono_vec _ _ _ e1 h5), (h6.mono mono_rd e1).keptN keptN_rd mu f1, keptN_tup (keptN_tup keptN_rq) _ _ _ _ _ mu f1 (m1), keptN_tup (keptN_tup keptN_rq) _ _ _ _ _ mu f1 (mono_mat _ _ _ e1 h8), keptN_tup keptN_rq _ _ _ _ _ mu f1 (mono_vec _ _ _ e1 h9), keptN_rq _ _ _ _ _ mu f1 (h10.mono e1)⟩ ((FrB.of e1).trans f1)
theorem n_setP {z : List (List Rat)} (cl : Cls K CN) (no : NoAttr K CN "inverse") (hN : NetAt C CR CN a pl rl N H) (hv : EvP te σ H (fun v H => MatAt C z v H)) (h0 : σ[0]? = some (some (.ref a))) (k : ∀ H2, NetAt C CR CN a pl rl { N with P := z } H2 → FrB (fun b => b = a) H H2 → D.nx σ H2) : sFld K (tVar 0) te "inverse" D σ H := by
  obtain ⟨dx, fs, va, vM, vP, vr, vt, us, h1, h2, h3, h4, h5, h6, h7, h8, h9, h10⟩ := hN
  refine hv H (Ex.refl _) _ fun v H1 e1 m1 => ⟨_, h0, a, _, dx, fs, rfl, e1 _ _ h1, cl, no, by have := h2.n; omega, ?_⟩
  have mu : AllMut (fun b => b = a) H1 := allMut_one (e1 _ _ h1) h2.p
  have f1 : FrB (fun b => b = a) H1 (upd H1 a (.ins CN dx (putF "inverse" v fs))) := FrB.upd rfl
  have np : pl ≠ a := fun e => by rw [e, h1] at h3; cases h3
  have nr : rl ≠ a := fun e => by rw [e, h1] at h4; cases h4
  exact k _ ⟨dx, _, va, vM, v, vr, vt, us, upd_same, h2.setP v, f1 _ _ np (e1 _ _ h3), f1 _ _ nr (e1 _ _ h4), keptN_tup keptN_rq _ _ _ _ _ mu f1 (mono_vec _ _ _ e1 h5), (h6.mono mono_rd e1).keptN keptN_rd mu f1, keptN_tup (keptN_tup keptN_rq) _ _ _ _ _ mu f1 (mono_mat _ _ _ e1 h7), keptN_tup (keptN_tup keptN_rq) _ _ _ _ _ mu f1 (m1), keptN_tup keptN_rq _ _ _ _ _ mu f1 (mono_vec _ _ _ e1 h9), keptN_rq _ _ _ _ _ mu f1 (h10.mono e1)⟩ ((FrB.of e1).trans f1)
theorem n_setA {z : List Rat} (cl : Cls K CN) (no : NoAttr K CN "approximations") (hN : NetAt C CR CN a pl rl N H) (hv : EvP te σ H (fun v H => VecAt C z v H)) (h0 : σ[0]? = some (some (.ref a))) (k : ∀ H2, NetAt C CR CN a pl rl { N with xs := z } H2 → FrB (fun b => b = a) H H2 → D.nx σ H2) : sFld K (tVar 0) te "approximations" D σ H := by
  obtain ⟨dx, fs, va, vM, vP, vr, vt, us, h1, h2, h3, h4, h5, h6, h7, h8, h9, h10⟩ := hN
  refine hv H (Ex.refl _) _ fun v H1 e1 m1 => ⟨_, h0, a, _, dx, fs, rfl, e1 _ _ h1, cl, no, by have := h2.n; omega, ?_⟩
  have mu : AllMut (fun b => b = a) H1 := allMut_one (e1 _ _ h1) h2.p
  have f1 : FrB (fun b => b = a) H1 (upd H1 a (.ins CN dx (putF "approximations" v fs))) := FrB.upd rfl
  have np : pl ≠ a := fun e => by rw [e, h1] at h3; cases h3
  have nr : rl ≠ a := fun e => by rw [e, h1] at h4; cases h4
  exact k _ ⟨dx, _, v, vM, vP, vr, vt, us, upd_same, h2.setA v, f1 _ _ np (e1 _ _ h3), f1 _ _ nr (e1 _ _ h4), keptN_tup keptN_rq _ _ _ _ _ mu f1 (m1), (h6.mono mono_rd e1).keptN keptN_rd mu f1, keptN_tup (keptN_tup keptN_rq) _ _ _ _ _ mu f1 (mono_mat _ _ _ e1 h7), keptN_tup (keptN_tup keptN_rq) _ _ _ _ _ mu f1 (mono_mat _ _ _ e1 h8), keptN_tup keptN_rq _ _ _ _ _ mu f1 (mono_vec _ _ _ e1 h9), keptN_rq _ _ _ _ _ mu f1 (h10.mono e1)⟩ ((FrB.of e1).trans f1)
theorem evp_nR (cl : Cls K CN) (no : NoAttr K CN "right") (hN : NetAt C CR CN a pl rl N H) (hv : Ev ta σ H (.ref a)) : EvP (tFld K ta "right") σ H (fun v H => VecAt C N.r v H) := fun H1 e Q k => hv H1 e _ fun H2 e2 => by
  obtain ⟨dx, fs, va, vM, vP, vr, vt, us, h1, h2, h3, h4, h5, h6, h7, h8, h9, h10⟩ := hN
  exact ⟨a, _, dx, fs, _, rfl, (e.trans e2) _ _ h1, cl, no, h2.r, k _ H2 e2 (mono_vec _ _ _ (e.trans e2) h9)⟩
theorem evp_nT (cl : Cls K CN) (no : NoAttr K CN "total") (hN : NetAt C CR CN a pl rl N H) (hv : Ev ta σ H (.ref a)) : EvP (tFld K ta "total") σ H (fun v H => RatAt C H v N.t) := fun H1 e Q k => hv H1 e _ fun H2 e2 => by
  obtain ⟨dx, fs, va, vM, vP, vr, vt, us, h1, h2, h3, h4, h5, h6, h7, h8, h9, h10⟩ := hN
  exact ⟨a, _, dx, fs, _, rfl, (e.trans e2) _ _ h1, cl, no, h2.t, k _ H2 e2 (RatAt.mono h10 (e.trans e2))⟩
theorem evp_nM (cl : Cls K CN) (no : NoAttr K CN "normal") (hN : NetAt C CR CN a pl rl N H) (hv : Ev ta σ H (.ref a)) : EvP (tFld K ta "normal") σ H (fun v H => MatAt C N.M v H) := fun H1 e Q k => hv H1 e _ fun H2 e2 => by
  obtain ⟨dx, fs, va, vM, vP, vr, vt, us, h1, h2, h3, h4, h5, h6, h7, h8, h9, h10⟩ := hN
  exact ⟨a, _, dx, fs, _, rfl, (e.trans e2) _ _ h1, cl, no, h2.M, k _ H2 e2 (mono_mat _ _ _ (e.trans e2) h7)⟩
theorem evp_nP (cl : Cls K CN) (no : NoAttr K CN "inverse") (hN : NetAt C CR CN a pl rl N H) (hv : Ev ta σ H (.ref a)) : EvP (tFld K ta "inverse") σ H (fun v H => MatAt C N.P v H) := fun H1 e Q k => hv H1 e _ fun H2 e2 => by
  obtain ⟨dx, fs, va, vM, vP, vr, vt, us, h1, h2, h3, h4, h5, h6, h7, h8, h9, h10⟩ := hN
  exact ⟨a, _, dx, fs, _, rfl, (e.trans e2) _ _ h1, cl, no, h2.P, k _ H2 e2 (mono_mat _ _ _ (e.trans e2) h8)⟩
theorem evp_nA (cl : Cls K CN) (no : NoAttr K CN "approximations") (hN : NetAt C CR CN a pl rl N H) (hv : Ev ta σ H (.ref a)) : EvP (tFld K ta "approximations") σ H (fun v H => VecAt C N.xs v H) := fun H1 e Q k => hv H1 e _ fun H2 e2 => by
  obtain ⟨dx, fs, va, vM, vP, vr, vt, us, h1, h2, h3, h4, h5, h6, h7, h8, h9, h10⟩ := hN
  exact ⟨a, _, dx, fs, _, rfl, (e.trans e2) _ _ h1, cl, no, h2.a, k _ H2 e2 (mono_vec _ _ _ (e.trans e2) h5)⟩
theorem evp_nrow {r : Rdg} (hN : NetAt C CR CN a pl rl N H) (ha : Ev ta σ H (.ref a)) (hb : EvP tb σ H (RdAt C CR r)) (hn : N.ns.length ≤ 10000) (hrow : ("row" : Str) ∉ NFs := by decide +kernel) : EvP (tMeth CN "row" (spNetRow C CR CN) [] E0 ta (tCons tb tNil)) σ H (VecAt C (rowQ N.ns r.terms)) := fun H1 e Q k => ha H1 e _ fun H2 e2 => by
  have hN2 := hN.ex (e.trans e2)
  obtain ⟨dx, fs, va, vM, vP, vr, vt, us, h1, h2, _⟩ := id hN2
  refine ⟨a, dx, fs, rfl, h1, h2.q _ hrow, ?_⟩
  refine hb H2 (e.trans e2) _ fun y H3 e3 m3 => ?_
  exact ⟨a, pl, rl, N, r, y, rfl, hN2.ex e3, m3, hn, fun v H4 e4 m4 => k v H4 ((e2.trans e3).trans e4) m4⟩
theorem NetAt.mut1 (hN : NetAt C CR CN a pl rl N H) : AllMut (fun b => b = a) H := by
  obtain ⟨dx, fs, va, vM, vP, vr, vt, us, h1, h2, _⟩ := hN
  exact allMut_one h1 h2.p
end
def restRd (N : NetV) (r : Rdg) : Rat := r.value - dotQ (rowQ N.ns r.terms) N.xs
def addSums (N : NetV) (r : Rdg) (w : Rat) : NetV := { N with r := List.zipWith (fun p q => p + q) N.r (scaleQ (w * restRd N r) (rowQ N.ns r.terms)), t := N.t + w * restRd N r * restRd N r }
/-- the sizes for one reading more or less in the sums -/
def SumOk (N : NetV) (r : Rdg) (w : Rat) : Prop := N.xs.length = N.ns.length ∧ N.r.length = N.ns.length ∧ N.ns.length ≤ 12 ∧ AllS 10 (rowQ N.ns r.terms) ∧ AllS 400 N.xs ∧ SmB 400 r.value ∧ SmB 400 w ∧ AllS 20000 N.r ∧ SmB 20000 N.t
def spAddSums (C CR CN : Addr) : Sp := fun vs H Q _ => ∃ (a pl rl : Addr) (N : NetV) (r : Rdg) (y u : V) (w : Rat), vs = [.ref a, y, u] ∧ NetAt C CR CN a pl rl N H ∧ RdAt C CR r y H ∧ RatAt C H u w ∧ SumOk N r w ∧ ∀ H', NetAt C CR CN a pl rl (addSums N r w) H' → FrB (fun b => b = a) H H' → Q .non H'
theorem row_len (ns : List Str) (ts : List (Str × Int)) : (rowQ ns ts).length = ns.length := by unfold rowQ; rw [List.length_map]
theorem rest_sm {N : NetV} {r : Rdg} {w : Rat} (h : SumOk N r w) : SmB 6000 (restRd N r) := by
  obtain ⟨h1, h2, h3, h4, h5, h6, h7, h8, h9⟩ := h
  have z := dot_smW (n := 10) (m := 400) (k := 12) h4 h5 (by rw [row_len]; exact h3)
  exact (smB_sub h6 z).mono (by decide)
def takeIn (N : NetV) (r : Rdg) : NetV := addSums { N with P := wAddQ N.M N.P (rowQ N.ns r.terms) r.weight, M := addTermQ N.M (rowQ N.ns r.terms) r.weight } r r.weight
/-- the sizes for a reading taken in -/
def TakeOk (N : NetV) (r : Rdg) (m p q k : Nat) : Prop := ((N.M.length = N.ns.length ∧ Wide N.ns.length N.M) ∧ (N.P.length = N.ns.length ∧ Wide N.ns.length N.P)) ∧ (CDB m (at2 N.M) ∧ CDB p (at2 N.P) ∧ VB q (rowQ N.ns r.terms) ∧ QB k r.weight) ∧ (UpdOk m p q k N.ns.length ∧ m ≤ 800000) ∧ (r.weight ≠ 0 ∧ ((restQ N.M N.P (rowQ N.ns r.terms)).all (fun q => decide (q = 0)) = true → 1 + r.weight * sizeQ N.P (rowQ N.ns r.terms) ≠ 0)) ∧ SumOk N r r.weight
def spTakeIn (C CR CN : Addr) : Sp := fun vs H Q _ => ∃ (a pl rl : Addr) (N : NetV) (r : Rdg) (y : V) (m p q k : Nat), vs = [.ref a, y] ∧ NetAt C CR CN a pl rl N H ∧ RdAt C CR r y H ∧ TakeOk N r m p q k ∧ ∀ H', NetAt C CR CN a pl rl (takeIn N r) H' → FrB (fun b => b = a) H H' → Q .non H'
def spNetAdd (C CR CN : Addr) : Sp := fun vs H Q _ => ∃ (a pl rl : Addr) (N : NetV) (r : Rdg) (y : V) (m p q k : Nat), vs = [.ref a, y] ∧ NetAt C CR CN a pl rl N H ∧ RdAt C CR r y H ∧ pl ≠ rl ∧ ((∀ s ∈ N.rds, s.name ≠ r.name) ∧ (∀ t ∈ r.terms, t.1 ∈ N.ns) ∧ N.rds.length < 24) ∧ TakeOk N r m p q k ∧
  ∀ H', NetAt C CR CN a pl rl { takeIn N r with rds := N.rds ++ [r] } H' → FrB (NB a pl rl) H H' → Q .non H'
def withPoint (N : NetV) (n : Str) (x : Rat) : NetV := { N with ns := N.ns ++ [n], xs := N.xs ++ [x], M := widQ N.M, P := widQ N.P, r := N.r ++ [((0 : Int) : Rat)] }
def spAddPoint (C CR CN : Addr) : Sp := fun vs H Q _ => ∃ (a pl rl : Addr) (N : NetV) (n : Str) (u : V) (x : Rat), vs = [.ref a, .str n, u] ∧ NetAt C CR CN a pl rl N H ∧ RatAt C H u x ∧ pl ≠ rl ∧ n ∉ N.ns ∧ N.ns.length < 12 ∧ (N.xs.length = N.ns.length ∧ N.r.length = N.ns.length ∧ (N.M.length = N.ns.length ∧ Wide N.ns.length N.M) ∧ (N.P.length = N.ns.length ∧ Wide N.ns.length N.P)) ∧
  ∀ H', NetAt C CR CN a pl rl (withPoint N n x) H' → FrB (NB a pl rl) H H' → Q .non H'
def heightsQ (N : NetV) : List Rat := List.zipWith (fun p q => p + q) N.xs (applyQ N.P N.r)
def squaresQ (N : NetV) : Rat := N.t - dotQ N.r (applyQ N.P N.r)
def HtOk (N : NetV) (p q : Nat) : Prop := (N.xs.length = N.ns.length ∧ N.r.length = N.ns.length ∧ (N.P.length = N.ns.length ∧ Wide N.ns.length N.P)) ∧ (CDB p (at2 N.P) ∧ VB q N.r) ∧ (AllS 400 N.xs ∧ SmB 20000 N.t) ∧ N.ns.length ≤ 12 ∧ p + q ≤ 30000
def spHeights (C CR CN : Addr) : Sp := fun vs H Q _ => ∃ (a pl rl : Addr) (N : NetV) (p q : Nat), vs = [.ref a] ∧ NetAt C CR CN a pl rl N H ∧ HtOk N p q ∧ NewV (VecAt C (heightsQ N)) H Q
def spSquares (C CR CN : Addr) : Sp := fun vs H Q _ => ∃ (a pl rl : Addr) (N : NetV) (p q : Nat), vs = [.ref a] ∧ NetAt C CR CN a pl rl N H ∧ HtOk N p q ∧ NewV (fun v H => RatAt C H v (squaresQ N)) H Q
section
variable {K : PySem.W.Frag} {C CR CN a pl rl : Addr} {te ta tb tc : TE} {σ : L2.St} {H : Hp} {D : Ends} {tz : TS} {N : NetV}
/-- the readings get one more -/
theorem NetAt.addRd {r : Rdg} {y : V} (hN : NetAt C CR CN a pl rl N H) (hy : RdAt C CR r y H) (ne : pl ≠ rl) : ∃ us, H rl = some (.lst us) ∧ us.length = N.rds.length ∧ NetAt C CR CN a pl rl { N with rds := N.rds ++ [r] } (upd H rl (.lst (us ++ [y]))) := by
  have mu := hN.mut
  obtain ⟨dx, fs, va, vM, vP, vr, vt, us, h1, h2, h3, h4, h5, h6, h7, h8, h9, h10⟩ := hN
  have f1 : FrB (NB a pl rl) H (upd H rl (.lst (us ++ [y]))) := FrB.upd (.inr (.inr rfl))
  have na : a ≠ rl := fun e => by rw [← e, h1] at h4; cases h4
  exact ⟨us, h4, h6.1, dx, fs, va, vM, vP, vr, vt, _, (upd_ne na).trans h1, h2, (upd_ne ne).trans h3, upd_same, keptN_tup keptN_rq _ _ _ _ _ mu f1 h5, (allR_snoc h6 hy).keptN keptN_rd mu f1, keptN_tup (keptN_tup keptN_rq) _ _ _ _ _ mu f1 h7, keptN_tup (keptN_tup keptN_rq) _ _ _ _ _ mu f1 h8, keptN_tup keptN_rq _ _ _ _ _ mu f1 h9, keptN_rq _ _ _ _ _ mu f1 h10⟩
/-- the points get one more -/
theorem NetAt.addPt {n : Str} (hN : NetAt C CR CN a pl rl N H) (ne : pl ≠ rl) : H pl = some (.lst (N.ns.map V.str)) ∧ NetAt C CR CN a pl rl { N with ns := N.ns ++ [n] } (upd H pl (.lst (N.ns.map V.str ++ [.str n]))) := by
  have mu := hN.mut
  obtain ⟨dx, fs, va, vM, vP, vr, vt, us, h1, h2, h3, h4, h5, h6, h7, h8, h9, h10⟩ := hN
  have f1 : FrB (NB a pl rl) H (upd H pl (.lst (N.ns.map V.str ++ [.str n]))) := FrB.upd (.inr (.inl rfl))
  have na : a ≠ pl := fun e => by rw [← e, h1] at h3; cases h3
  exact ⟨h3, dx, fs, va, vM, vP, vr, vt, us, (upd_ne na).trans h1, h2, by rw [upd_same]; simp, (upd_ne ne.symm).trans h4, keptN_tup keptN_rq _ _ _ _ _ mu f1 h5, h6.keptN keptN_rd mu f1, keptN_tup (keptN_tup keptN_rq) _ _ _ _ _ mu f1 h7, keptN_tup (keptN_tup keptN_rq) _ _ _ _ _ mu f1 h8, keptN_tup keptN_rq _ _ _ _ _ mu f1 h9, keptN_rq _ _ _ _ _ mu f1 h10⟩
theorem ev_npts (cl : Cls K CN) (no : NoAttr K CN "points") (hN : NetAt C CR CN a pl rl N H) (hv : Ev ta σ H (.ref a)) : Ev (tFld K ta "points") σ H (.ref pl) := fun H1 e Q k => hv H1 e _ fun H2 e2 => by
  obtain ⟨dx, fs, va, vM, vP, vr, vt, us, h1, h2, _⟩ := hN
  exact ⟨a, _, dx, fs, _, rfl, (e.trans e2) _ _ h1, cl, no, h2.p, k H2 e2⟩
theorem ev_nrds (cl : Cls K CN) (no : NoAttr K CN "readings") (hN : NetAt C CR CN a pl rl N H) (hv : Ev ta σ H (.ref a)) : Ev (tFld K ta "readings") σ H (.ref rl) := fun H1 e Q k => hv H1 e _ fun H2 e2 => by
  obtain ⟨dx, fs, va, vM, vP, vr, vt, us, h1, h2, _⟩ := hN
  exact ⟨a, _, dx, fs, _, rfl, (e.trans e2) _ _ h1, cl, no, h2.rd, k H2 e2⟩
theorem NetAt.pts (hN : NetAt C CR CN a pl rl N H) : PtAt N.ns (.ref pl) H := by
  obtain ⟨dx, fs, va, vM, vP, vr, vt, us, h1, h2, h3, h4, _⟩ := hN
  exact ⟨pl, rfl, h3⟩
theorem NetAt.rdl (hN : NetAt C CR CN a pl rl N H) : LstAt (RdAt C CR) N.rds (.ref rl) H := by
  obtain ⟨dx, fs, va, vM, vP, vr, vt, us, h1, h2, h3, h4, h5, h6, _⟩ := hN
  exact ⟨rl, us, rfl, h4, h6⟩
theorem NetAt.nom {m : Str} (hN : NetAt C CR CN a pl rl N H) (hm : m ∉ NFs) : ∃ dx fs, H a = some (.ins CN dx fs) ∧ fs.lookup m = none := by
  obtain ⟨dx, fs, va, vM, vP, vr, vt, us, h1, h2, _⟩ := hN
  exact ⟨dx, fs, h1, h2.q _ hm⟩
end
/-! ### what the law's own helpers draw -/
/-- some of the names, in their order -/
def TsIn (ns : List Str) (ts : List (Str × Int)) : Prop := (ts.map fun t => t.1).Sublist ns ∧ (∀ t ∈ ts, t.2 ≠ 0 ∧ t.2.natAbs ≤ 9) ∧ ts.length ≤ 4
def TsOk (ns : List Str) (ts : List (Str × Int)) : Prop := TsIn ns ts ∧ ts ≠ []
theorem tsIn_nil {ns : List Str} : TsIn ns [] := ⟨List.nil_sublist _, fun t h => (nomatch h), Nat.zero_le _⟩
theorem TsIn.skip {ns : List Str} {ts : List (Str × Int)} {i : Nat} (h : TsIn (ns.take i) ts) : TsIn (ns.take (i + 1)) ts := ⟨h.1.trans (List.take_sublist_take_left (Nat.le_succ i)), h.2⟩
theorem TsIn.snoc {ns : List Str} {ts : List (Str × Int)} {i : Nat} {n : Str} {c : Int} (h : TsIn (ns.take i) ts) (hn : ns[i]? = some n) (h0 : c ≠ 0) (h9 : c.natAbs ≤ 9) (h4 : ts.length < 4) : TsIn (ns.take (i + 1)) (ts ++ [(n, c)]) := by
  refine ⟨?_, fun t ht => ?_, by simp; omega⟩
  · rw [List.take_add_one, hn, List.map_append]
    exact List.Sublist.append h.1 (List.Sublist.refl _)
  · rcases List.mem_append.mp ht with e | e
    · exact h.2.1 t e
    · rw [List.mem_singleton.mp e]; exact ⟨h0, h9⟩
theorem TsIn.mem {ns : List Str} {ts : List (Str × Int)} (h : TsIn ns ts) {t : Str × Int} (ht : t ∈ ts) : t.1 ∈ ns := h.1.subset (List.mem_map_of_mem ht)
theorem TsIn.le {ns : List Str} {ts : List (Str × Int)} (h : TsIn ns ts) {t : Str × Int} (ht : t ∈ ts) : t.2.natAbs ≤ 9 := (h.2.1 t ht).2
theorem tsIn_one {ns : List Str} {n : Str} (hn : ns[0]? = some n) : TsIn ns [(n, 1)] := by
  refine ⟨?_, fun t ht => ?_, by simp⟩
  · cases ns with
    | nil => cases hn
    | cons a l =>
      cases hn
      exact List.Sublist.cons_cons _ (List.nil_sublist _)
  · rw [List.mem_singleton.mp ht]; exact ⟨show (1 : Int) ≠ 0 by decide, show (1 : Int).natAbs ≤ 9 by decide⟩
def spTerms : Sp := fun vs H Q _ => ∃ (st : Addr × Addr) (c : Nat) (x : V) (ns : List Str), vs = [.ref st.1, x] ∧ St3 st c H ∧ c + 100 < cMax ∧ PtAt ns x H ∧ ns.length ≤ 24 ∧ ns ≠ [] ∧
  ∀ ts v H', TmAt ts v H' → TsOk ns ts → St3 st (c + 2 * ns.length) H' → FrS st H H' → Q v H'
def namesQ (n : Nat) : List Str := (List.range n).map fun (k : Nat) => ("p" : Str) ++ ((toString (k : Int) : String) : Str)
def spNames : Sp := fun vs H Q _ => ∃ (st : Addr × Addr) (c : Nat) (most : Int), vs = [.ref st.1, .int most] ∧ St3 st c H ∧ c + 100 < cMax ∧ 0 < most ∧ most ≤ 24 ∧
  ∀ (n : Nat) D H', 1 ≤ n → (n : Int) ≤ most → H D = none → H' D = some (.lst ((namesQ n).map V.str)) → St3 st (c + 1) H' → FrS st H H' → Q (.ref D) H'
theorem names_small : ∀ k, k < 24 → ((k : Nat) : Int).natAbs.log2 < 1920 ∧ ("p" : Str).length + (((toString ((k : Nat) : Int) : String) : Str)).length ≤ 1000 := by decide +kernel
theorem namesQ_len (n : Nat) : (namesQ n).length = n := by unfold namesQ; rw [List.length_map, List.length_range]
theorem lst_rs {ns : List Str} {a : Addr} {H : Hp} (h : LstAt RS ns (.ref a) H) : H a = some (.lst (ns.map V.str)) := by
  obtain ⟨b, vs, e, h, A⟩ := h
  injection e with e
  subst e
  have ev : vs = ns.map V.str := List.ext_getElem? fun i => by
    rw [List.getElem?_map]
    cases hb : ns[i]? with
    | none => rw [List.getElem?_eq_none (by rw [A.1]; exact List.getElem?_eq_none_iff.mp hb)]; rfl
    | some b =>
      have hi : i < vs.length := by rw [A.1]; exact (List.getElem?_eq_some_iff.mp hb).1
      have z := A.2 i b _ hb (List.getElem?_eq_getElem hi)
      rw [List.getElem?_eq_getElem hi, z]; rfl
  rw [← ev]
  exact h
/-- what is new behind a draw was not there before -/
theorem fresh_st {st : Addr × Addr} {c : Nat} {H H1 : Hp} {p : Addr} (f : FrS st H H1) (s : St3 st c H1) (hp : H1 p = none) : H p = none := by
  cases hz : H p with
  | none => rfl
  | some o =>
    have n : p ≠ st.1 := s.fresh hp
    have z := f p o n hz
    rw [hp] at z
    cases z
theorem paired_snoc {α β : Type} {P : α → β → Prop} {x : α} {y : β} {xs : List α} {ys : List β} (t : Paired P xs ys) (h : P x y) : Paired P (xs ++ [x]) (ys ++ [y]) := by
  induction t with
  | nil => exact .cons h .nil
  | cons p t ih => exact .cons p ih
theorem st_mut {st : Addr × Addr} {c : Nat} {H : Hp} (s : St3 st c H) : AllMut (fun b => b = st.1) H := fun b hb => by
  have hb : b = st.1 := hb
  subst hb
  obtain ⟨xs, h⟩ := s.lst
  exact ⟨_, h, .inl ⟨_, rfl⟩⟩
theorem KeptN.fr3 {α : Type} {R : α → V → Hp → Prop} (k : KeptN R) {st : Addr × Addr} {c : Nat} {x : α} {v : V} {H H' : Hp} (h : R x v H) (s : St3 st c H) (f : FrS st H H') : R x v H' := k (fun b => b = st.1) x v H H' (st_mut s) (fun a o n e => f a o n e) h
def rname (k : Nat) : Str := ("r" : Str) ++ ((toString (k : Int) : String) : Str)
theorem rname_small : ∀ k, k < 100 → ((k : Nat) : Int).natAbs.log2 < 1920 ∧ ("r" : Str).length + (((toString ((k : Nat) : Int) : String) : Str)).length ≤ 1000 := by decide +kernel
def spReading (C CR : Addr) : Sp := fun vs H Q _ => ∃ (st : Addr × Addr) (c : Nat) (x : V) (ns : List Str) (i : Nat), vs = [.ref st.1, x, .int (i : Int)] ∧ St3 st c H ∧ c + 200 < cMax ∧ PtAt ns x H ∧ ns.length ≤ 24 ∧ ns ≠ [] ∧ i < 100 ∧
  ∀ r v H', RdAt C CR r v H' → r.name = rname i → TsOk ns r.terms → (SmB 20 r.value ∧ r.value.den ∣ dd) → WOk r.weight → St3 st (c + 60) H' → FrS st H H' → Q v H'
end Pn

namespace Pn
open PySem L2 Evl
/-! ### what a net's matrices and sums are -/
def sumL : List Rat → Rat
  | [] => 0
  | x :: xs => x + sumL xs
theorem sumL_app (xs ys : List Rat) : sumL (xs ++ ys) = sumL xs + sumL ys := by
  induction xs with
  | nil => show sumL ys = 0 + sumL ys; grind
  | cons x xs ih => show x + sumL (xs ++ ys) = x + sumL xs + sumL ys; rw [ih]; grind
theorem sumL_one (x : Rat) : sumL [x] = x := by show x + 0 = x; grind
theorem sumL_perm {xs ys : List Rat} (h : xs.Perm ys) : sumL xs = sumL ys := by
  induction h with
  | nil => rfl
  | cons x _ ih => show x + _ = x + _; rw [ih]
  | swap x y l => show y + (x + sumL l) = x + (y + sumL l); grind
  | trans _ _ h1 h2 => exact h1.trans h2
theorem sumL_mul (c : Rat) (xs : List Rat) : sumL (xs.map fun x => c * x) = c * sumL xs := by
  induction xs with
  | nil => show (0 : Rat) = c * 0; grind
  | cons x xs ih => show c * x + sumL (xs.map fun x => c * x) = c * (x + sumL xs); rw [ih]; grind
def termsOf (N : NetV) : List (Rat × List Rat) := N.rds.map fun r => (r.weight, rowQ N.ns r.terms)
structure NetOk (N : NetV) : Prop where
  lx : N.xs.length = N.ns.length
  lr : N.r.length = N.ns.length
  k : KOk N.ns.length (termsOf N) N.M N.P
  r : ∀ i, vf N.r i = sumL (N.rds.map fun r => r.weight * restRd N r * vf (rowQ N.ns r.terms) i)
  t : N.t = sumL (N.rds.map fun r => r.weight * restRd N r * restRd N r)
theorem vf_zip {a b : List Rat} (h : a.length = b.length) (i : Nat) : vf (List.zipWith (fun p q => p + q) a b) i = vf a i + vf b i := by
  unfold vf
  by_cases hi : i < a.length
  · simp [List.getD_eq_getElem?_getD, List.getElem?_zipWith, List.getElem?_eq_getElem hi, List.getElem?_eq_getElem (h ▸ hi)]
  · have hb : ¬ i < b.length := by omega
    simp [List.getD_eq_getElem?_getD, List.getElem?_zipWith, List.getElem?_eq_none (Nat.not_lt.mp hi), List.getElem?_eq_none (Nat.not_lt.mp hb)]
    grind
theorem vf_snoc0 (a : List Rat) (i : Nat) : vf (a ++ [((0 : Int) : Rat)]) i = vf a i := by
  unfold vf
  by_cases hi : i < a.length
  · simp [List.getD_eq_getElem?_getD, List.getElem?_append_left hi]
  · by_cases e : i = a.length
    · subst e
      simp [List.getD_eq_getElem?_getD]
    · show vf (a ++ [((0 : Int) : Rat)]) i = vf a i
      rw [vf_ge (Nat.not_lt.mp hi), vf_ge (by simp; omega)]
theorem zeroQ_vf (n i : Nat) : vf (zeroQ n) i = 0 := by
  unfold vf zeroQ
  by_cases h : i < n <;> simp [List.getD_eq_getElem?_getD, List.getElem?_replicate, h]
theorem at2_wid (M : List (List Rat)) : at2 (widQ M) = at2 M := by
  funext i j
  by_cases hi : i < M.length
  · have e : (widQ M).getD i [] = M.getD i [] ++ [((0 : Int) : Rat)] := by
      unfold widQ
      rw [List.getD_eq_getElem?_getD, List.getElem?_append_left (by rw [List.length_map]; exact hi), List.getElem?_map, List.getD_eq_getElem?_getD, List.getElem?_eq_getElem hi]
      rfl
    show ((widQ M).getD i []).getD j 0 = (M.getD i []).getD j 0
    rw [e]
    exact vf_snoc0 _ j
  · have z : at2 M i j = 0 := at2_ge (Nat.not_lt.mp hi)
    rw [z]
    by_cases e : i = M.length
    · subst e
      have e : (widQ M).getD M.length [] = zeroQ (M.length + 1) := by
        unfold widQ
        rw [List.getD_eq_getElem?_getD, List.getElem?_append_right (by rw [List.length_map]; exact Nat.le_refl _), List.length_map, Nat.sub_self]
        rfl
      show ((widQ M).getD M.length []).getD j 0 = 0
      rw [e]
      exact zeroQ_vf _ j
    · exact at2_ge (by unfold widQ; rw [List.length_append, List.length_map]; simp; omega)
theorem wid_len (M : List (List Rat)) : (widQ M).length = M.length + 1 := by unfold widQ; simp
theorem wid_wide {M : List (List Rat)} {n : Nat} (h : Wide n M) (hl : M.length = n) : Wide (n + 1) (widQ M) := fun r hr => by
  unfold widQ at hr
  rcases List.mem_append.mp hr with h1 | h1
  · obtain ⟨s, hs, rfl⟩ := List.mem_map.mp h1
    rw [List.length_append, h s hs]; rfl
  · rw [List.mem_singleton.mp h1, hl]
    unfold zeroQ
    simp
theorem netOk_new : NetOk NetNew := ⟨rfl, rfl, kok_zero rfl (fun r h => nomatch h) (funext fun i => funext fun j => at2_ge (Nat.zero_le _)), fun i => vf_ge (Nat.zero_le _), rfl⟩
theorem netOk_point {N : NetV} (h : NetOk N) (e : N.rds = []) (n : Str) (x : Rat) : NetOk (withPoint N n x) := by
  obtain ⟨lx, lr, ⟨⟨lM, wM⟩, ⟨lP, wP⟩, eM, pen⟩, hr, ht⟩ := h
  have e0 : termsOf N = [] := by unfold termsOf; rw [e]; rfl
  have eM0 : at2 N.M = fun _ _ => 0 := by rw [eM, e0, norm_nil]
  have eP0 : at2 N.P = fun _ _ => 0 := by
    rw [eM0] at pen
    exact pen.uniq (pen_z _)
  have ln : (N.ns ++ [n]).length = N.ns.length + 1 := by simp
  refine ⟨by show (N.xs ++ [x]).length = (N.ns ++ [n]).length; simp [lx], by show (N.r ++ [_]).length = (N.ns ++ [n]).length; simp [lr], ?_, fun i => ?_, ?_⟩
  · have e1 : termsOf (withPoint N n x) = [] := by unfold termsOf withPoint; rw [e]; rfl
    show KOk (N.ns ++ [n]).length _ (widQ N.M) (widQ N.P)
    rw [e1, ln]
    refine ⟨⟨by rw [wid_len, lM], wid_wide wM lM⟩, ⟨by rw [wid_len, lP], wid_wide wP lP⟩, by rw [at2_wid, eM0, norm_nil], ?_⟩
    rw [at2_wid, at2_wid, eM0, eP0]
    exact pen_z _
  · show vf (N.r ++ [_]) i = sumL (N.rds.map _)
    rw [vf_snoc0, hr i, e]
    rfl
  · show N.t = sumL (N.rds.map _)
    rw [ht, e]
    rfl
theorem netOk_add {N : NetV} {r : Rdg} (h : NetOk N) (hp : ∀ s ∈ N.rds, 0 < s.weight) (hw : 0 < r.weight) : NetOk { takeIn N r with rds := N.rds ++ [r] } := by
  obtain ⟨lx, lr, hk, hr, ht⟩ := h
  have lrow := row_len N.ns r.terms
  have pos : PosW N.ns.length (termsOf N) := fun t h => by
    unfold termsOf at h
    obtain ⟨s, hs, rfl⟩ := List.mem_map.mp h
    exact ⟨hp s hs, row_len _ _⟩
  have ok2 := kok_add hk pos hw lrow
  refine ⟨lx, ?_, ?_, fun i => ?_, ?_⟩
  · show (List.zipWith _ N.r (scaleQ _ _)).length = N.ns.length
    rw [List.length_zipWith, scaleQ_len, lr, lrow, Nat.min_self]
  · have e : termsOf { takeIn N r with rds := N.rds ++ [r] } = termsOf N ++ [(r.weight, rowQ N.ns r.terms)] := by
      unfold termsOf takeIn addSums
      simp
    rw [e]
    exact ok2
  · show vf (List.zipWith (fun p q => p + q) N.r (scaleQ (r.weight * restRd N r) (rowQ N.ns r.terms))) i = sumL ((N.rds ++ [r]).map fun s => s.weight * restRd N s * vf (rowQ N.ns s.terms) i)
    rw [vf_zip (by rw [scaleQ_len, lr, lrow]), vf_scale, hr i, List.map_append, sumL_app]
    show _ = _ + sumL [_]
    rw [sumL_one]
  · show N.t + r.weight * restRd N r * restRd N r = sumL ((N.rds ++ [r]).map fun s => s.weight * restRd N s * restRd N s)
    rw [ht, List.map_append, sumL_app]
    show _ = _ + sumL [_]
    rw [sumL_one]
end Pn

namespace Pn
open PySem L2 Evl
/-! ### sizes of drawn nets -/
theorem putK_all {P : Int → Prop} {kvs : List (Key × V)} {k : Key} {c : Int} (hc : P c) (h : ∀ kv ∈ kvs, ∃ c : Int, kv.2 = .int c ∧ P c) : ∀ kv ∈ putK kvs k (.int c), ∃ c : Int, kv.2 = .int c ∧ P c := fun kv hk => by
  unfold putK at hk
  split at hk
  · obtain ⟨u, hu, e⟩ := List.mem_map.mp hk
    split at e
    · exact ⟨c, by rw [← e], hc⟩
    · rw [← e]; exact h u hu
  · rcases List.mem_append.mp hk with h1 | h1
    · exact h kv h1
    · rw [List.mem_singleton.mp h1]; exact ⟨c, rfl, hc⟩
theorem merge_all {P : Int → Prop} : ∀ (ts : List (Str × Int)) (acc : List (Key × V)), (∀ t ∈ ts, P t.2) → (∀ kv ∈ acc, ∃ c : Int, kv.2 = .int c ∧ P c) → ∀ kv ∈ mergeK acc (keysOf ts), ∃ c : Int, kv.2 = .int c ∧ P c
  | [], acc, _, h => h
  | t :: ts, acc, ht, h => merge_all ts (putK acc (.inr t.1) (.int t.2)) (fun x hx => ht x (List.mem_cons_of_mem _ hx)) (putK_all (ht t List.mem_cons_self) h)
theorem coef_le {ts : List (Str × Int)} (h : ∀ t ∈ ts, t.2.natAbs ≤ 9) (n : Str) : (coefI ts n).natAbs ≤ 9 := by
  unfold coefI
  cases e : valV (mergeK [] (keysOf ts)) (.inr n : Key) with
  | none => decide
  | some v =>
    unfold valV at e
    cases e2 : (mergeK [] (keysOf ts)).find? fun kv => decide (kv.1 = (.inr n : Key)) with
    | none => rw [e2] at e; cases e
    | some kv =>
      rw [e2] at e
      obtain ⟨c, hc, hp⟩ := merge_all (P := fun c => c.natAbs ≤ 9) ts [] h (fun kv h => nomatch h) kv (List.mem_of_find?_eq_some e2)
      have ev : kv.2 = v := Option.some.inj e
      rw [← ev, hc]
      exact hp
def XsOk (xs : List Rat) : Prop := ∀ q ∈ xs, SmB 20 q ∧ q.den ∣ dd
/-- a weight, or a product of two -/
def WN (q : Rat) : Prop := SmB 40 q ∧ 0 < q ∧ NumB 28 784 q
theorem wn_of {q : Rat} (h : WOk q) : WN q := ⟨h.1.mono (by decide), h.2.1, (numB_up (e := 28) (b := 5) (wok_num h) (by decide)).mono (by decide)⟩
theorem wn_mul {p q : Rat} (h : WOk p) (g : WOk q) : WN (p * q) := ⟨(smB_mul h.1 g.1).mono (by decide), Rat.mul_pos h.2.1 g.2.1, (numB_mul (wok_num h) (wok_num g)).mono (by decide)⟩
theorem wn_qb {q : Rat} (h : WN q) : QB 40 q := ⟨784, by decide, by decide, IntB.mono h.2.2 (by decide)⟩
def TermsW (n d w : Nat) (ts : List (Rat × List Rat)) : Prop := ∀ t ∈ ts, WN t.1 ∧ (∀ q ∈ t.2, NumB n d q) ∧ t.2.length = w
theorem vf_numB {n d : Nat} {x : List Rat} (h : ∀ q ∈ x, NumB n d q) (i : Nat) : NumB n d (vf x i) := by
  by_cases hi : i < x.length
  · exact h _ (List.mem_of_getElem? (getD_get (d := 0) hi))
  · rw [vf_ge (Nat.not_lt.mp hi)]
    exact ⟨0, by rw [Rat.mul_zero]; rfl, by simp⟩
theorem norm_cdbW {n d s w b : Nat} {ts : List (Rat × List Rat)} (h : TermsW n d w ts) (d0 : 0 < d) (hd : d ≤ 2 ^ s) (h1 : 10 + s + s ≤ b) (h2 : 28 + n + n + ts.length ≤ b) : CDB b (at2 (normQ ts w)) := by
  refine ⟨784 * d * d, Nat.mul_pos (Nat.mul_pos (by decide) d0) d0, ?_, fun i j => ?_⟩
  · refine Nat.le_trans (Nat.mul_le_mul (Nat.mul_le_mul (show 784 ≤ 2 ^ 10 by decide) hd) hd) ?_
    rw [← Nat.pow_add, ← Nat.pow_add]
    exact pow_le h1
  · by_cases hi : i < w
    · by_cases hj : j < w
      · rw [norm_at hi hj]
        exact (fold_numB (c := 28 + n + n) (Nat.le_refl _) ⟨0, by rw [Rat.mul_zero]; rfl, by simp⟩ fun t ht => numB_mul (numB_mul (h t ht).1.2.2 (vf_numB (h t ht).2.1 i)) (vf_numB (h t ht).2.1 j)).mono h2
      · rw [at2_wide (norm_wide _ _) (Nat.not_lt.mp hj), Rat.mul_zero]
        exact intB_z _
    · rw [at2_ge (by rw [norm_len]; omega), Rat.mul_zero]
      exact intB_z _
/-- a value, or a sum of two -/
def VOk (q : Rat) : Prop := SmB 50 q ∧ NumB 40 dd q
def RdgOk (r : Rdg) : Prop := (∀ t ∈ r.terms, t.2.natAbs ≤ 9) ∧ VOk r.value ∧ WN r.weight
theorem row_numB {r : Rdg} (h : RdgOk r) (ns : List Str) : ∀ q ∈ rowQ ns r.terms, NumB 4 1 q := fun q hq => by
  unfold rowQ at hq
  obtain ⟨n, hn, rfl⟩ := List.mem_map.mp hq
  exact ⟨coefI r.terms n, Rat.one_mul _, Nat.le_trans (coef_le h.1 n) (by decide)⟩
theorem drawn_numB {q : Rat} (h : SmB 20 q ∧ q.den ∣ dd) : NumB 35 dd q := int_of (b := 15) (n := 20) h.1.1 h.2 (by decide) (by decide)
theorem vok_of {q : Rat} (h : SmB 20 q ∧ q.den ∣ dd) : VOk q := ⟨h.1.mono (by decide), (drawn_numB h).mono (by decide)⟩
theorem vok_add {p q : Rat} (h : SmB 20 p ∧ p.den ∣ dd) (g : SmB 20 q ∧ q.den ∣ dd) : VOk (p + q) := ⟨(smB_add h.1 g.1).mono (by decide), (numB_add (drawn_numB h) (drawn_numB g)).mono (by decide)⟩
theorem rest_numB {N : NetV} {r : Rdg} (hx : XsOk N.xs) (h : RdgOk r) (hn : N.ns.length ≤ 12) : NumB 54 dd (restRd N r) := by
  have z := dot_int (a := ((1 : Nat) : Rat)) (b := ((dd : Nat) : Rat)) (m := 4) (n := 35) (fun q hq => row_numB h N.ns q hq) (fun q hq => drawn_numB (hx q hq))
  rw [row_len] at z
  have z2 : NumB 53 dd (dotQ (rowQ N.ns r.terms) N.xs) := by
    have e : ((1 : Nat) : Rat) * ((dd : Nat) : Rat) = ((dd : Nat) : Rat) := Rat.one_mul _
    rw [e] at z
    exact IntB.mono z (by omega)
  exact numB_sub (h.2.1.2.mono (by decide)) z2
theorem sum_numB {d c : Nat} : ∀ {xs : List Rat}, (∀ x ∈ xs, NumB c d x) → NumB (c + xs.length) d (sumL xs)
  | [], _ => ⟨0, by show (d : Rat) * 0 = _; rw [Rat.mul_zero]; rfl, by simp⟩
  | x :: xs, h => by
    have z := numB_add ((h x List.mem_cons_self).mono (show c ≤ c + xs.length by omega)) (sum_numB (xs := xs) fun y hy => h y (List.mem_cons_of_mem _ hy))
    exact z.mono (by rw [List.length_cons]; omega)
theorem row_vfB {r : Rdg} (h : RdgOk r) (ns : List Str) (i : Nat) : NumB 4 1 (vf (rowQ ns r.terms) i) := by
  by_cases hi : i < (rowQ ns r.terms).length
  · exact row_numB h ns _ (List.mem_of_getElem? (getD_get (d := 0) hi))
  · rw [vf_ge (Nat.not_lt.mp hi)]
    exact ⟨0, by rw [Rat.mul_zero]; rfl, by simp⟩
def DrawnOk (N : NetV) : Prop := XsOk N.xs ∧ (∀ r ∈ N.rds, RdgOk r) ∧ N.ns.length ≤ 12 ∧ N.rds.length ≤ 24
theorem net_r {N : NetV} (h : NetOk N) (d : DrawnOk N) (i : Nat) : NumB 122 (784 * dd) (vf N.r i) := by
  rw [h.r i]
  refine NumB.mono (sum_numB (c := 86) (xs := N.rds.map _) fun x hx => ?_) (by rw [List.length_map]; have := d.2.2.2; omega)
  obtain ⟨r, hr, rfl⟩ := List.mem_map.mp hx
  have z := numB_mul (numB_mul (d.2.1 r hr).2.2.2.2 (rest_numB d.1 (d.2.1 r hr) (by have := d.2.2.1; omega))) (row_vfB (d.2.1 r hr) N.ns i)
  rw [Nat.mul_one] at z
  exact z
theorem net_t {N : NetV} (h : NetOk N) (d : DrawnOk N) : NumB 172 (784 * dd * dd) N.t := by
  rw [h.t]
  refine NumB.mono (sum_numB (c := 136) (xs := N.rds.map _) fun x hx => ?_) (by rw [List.length_map]; have := d.2.2.2; omega)
  obtain ⟨r, hr, rfl⟩ := List.mem_map.mp hx
  have z := rest_numB d.1 (d.2.1 r hr) (by have := d.2.2.1; omega)
  exact numB_mul (numB_mul (d.2.1 r hr).2.2.2.2 z) z
theorem net_terms {N : NetV} (d : DrawnOk N) : TermsW 4 1 N.ns.length (termsOf N) := fun t ht => by
  unfold termsOf at ht
  obtain ⟨r, hr, rfl⟩ := List.mem_map.mp ht
  exact ⟨(d.2.1 r hr).2.2, row_numB (d.2.1 r hr) N.ns, row_len _ _⟩
theorem pB60 : pB 60 12 ≤ 21300 := by decide
theorem net_cdb {N : NetV} (h : NetOk N) (d : DrawnOk N) : CDB 60 (at2 N.M) ∧ CDB 21300 (at2 N.P) := by
  obtain ⟨⟨lM, wM⟩, ⟨lP, wP⟩, eM, pen⟩ := h.k
  have c1 : CDB 60 (at2 N.M) := by
    rw [eM]
    exact norm_cdbW (s := 0) (net_terms d) (by decide) (by decide) (by decide) (by unfold termsOf; rw [List.length_map]; have := d.2.2.2; omega)
  refine ⟨c1, ?_⟩
  have p2 := pinv_pen wM
  rw [lM] at p2
  rw [pen.uniq p2]
  exact (cdb_pinv wM c1 (m := 12) (.inr d.2.2.1) (by decide) (by have := d.2.2.1; omega) (by have := d.2.2.1; omega)).mono pB60
theorem updOk60 {n : Nat} (h : n ≤ 12) : UpdOk 60 21300 20 40 n := ⟨by omega, Nat.le_trans (Nat.add_le_add_right (Nat.mul_le_mul_left _ h) 1) (by decide), by decide⟩
theorem takeOk_of {N : NetV} {r : Rdg} (h : NetOk N) (d : DrawnOk N) (hr : RdgOk r) : TakeOk N r 60 21300 20 40 := by
  have c := net_cdb h d
  have lr := row_len N.ns r.terms
  have ps : Psd N.ns.length (at2 N.M) := by rw [h.k.2.2.1]; exact norm_psd _ _ rfl fun t ht => ⟨(net_terms d t ht).1.2.1, (net_terms d t ht).2.2⟩
  have q0 : r.weight ≠ 0 := fun e => by have z := hr.2.2.2.1; rw [e] at z; exact absurd z (by decide)
  refine ⟨⟨h.k.1, h.k.2.1⟩, ⟨c.1, c.2, row_vb1 (row_numB hr N.ns) (by decide), wn_qb hr.2.2⟩, ⟨updOk60 d.2.2.1, by decide⟩, ⟨q0, wAdd_ne h.k.1.1 h.k.1.2 h.k.2.1.1 h.k.2.1.2 lr ps hr.2.2.2.1⟩, ?_⟩
  refine ⟨h.lx, h.lr, by have := d.2.2.1; omega, fun q hq => numB_sm (row_numB hr N.ns q hq) (by decide) (by decide) (by decide), fun q hq => (d.1 q hq).1.mono (by decide), hr.2.1.1.mono (by decide), hr.2.2.1.mono (by decide), allS_of fun i => ?_, ?_⟩
  · exact (numB_sm (m := 130) (net_r h d i) (by decide) (by decide) (by decide)).mono (by decide)
  · exact (numB_sm (m := 180) (net_t h d) (by decide) (by decide) (by decide)).mono (by decide)
theorem htOk_of {N : NetV} (h : NetOk N) (d : DrawnOk N) : HtOk N 21300 130 := by
  have c := net_cdb h d
  refine ⟨⟨h.lx, h.lr, h.k.2.1⟩, ⟨c.2, ⟨784 * dd, by decide, by decide, fun k => IntB.mono (net_r h d k) (by decide)⟩⟩, ⟨fun q hq => (d.1 q hq).1.mono (by decide), ?_⟩, by have := d.2.2.1; omega, by decide⟩
  exact (numB_sm (m := 180) (net_t h d) (by decide) (by decide) (by decide)).mono (by decide)
end Pn

namespace Pn
open PySem L2 Evl
/-! ### a drawn net -/
theorem names24 : (namesQ 24).Nodup := by decide +kernel
theorem rnames : ((List.range 100).map rname).Nodup := by decide +kernel
theorem names_take {n m : Nat} (h : n ≤ m) : namesQ n = (namesQ m).take n := by
  unfold namesQ
  rw [← List.map_take, List.take_range, Nat.min_eq_left h]
theorem names_new {n i : Nat} {nm : Str} (hn : n ≤ 24) (h : (namesQ n)[i]? = some nm) : nm ∉ (namesQ n).take i := by
  have nd : (namesQ n).Nodup := by
    rw [names_take hn]
    exact names24.sublist (List.take_sublist _ _)
  intro hm
  obtain ⟨j, hj, e⟩ := List.mem_iff_getElem.mp hm
  have hj2 : j < i := by rw [List.length_take] at hj; omega
  rw [List.getElem_take] at e
  obtain ⟨hi, ei⟩ := List.getElem?_eq_some_iff.mp h
  exact List.pairwise_iff_getElem.mp nd j i (by omega) hi hj2 (by rw [e, ei])
theorem rname_ne {i j : Nat} (hi : i < 100) (hj : j < 100) (h : i ≠ j) : rname i ≠ rname j := fun e => by
  have g : ∀ i j, i < 100 → j < 100 → i < j → rname i ≠ rname j := fun i j hi hj hij => by
    have z := List.pairwise_iff_getElem.mp rnames i j (by simp; exact hi) (by simp; exact hj) hij
    simpa using z
  rcases Nat.lt_or_gt_of_ne h with k | k
  · exact g i j hi hj k e
  · exact g j i hj hi k e.symm
theorem St3.frB {B : Addr → Prop} {st : Addr × Addr} {c : Nat} {H H' : Hp} (s : St3 st c H) (f : FrB B H H') (n1 : ¬ B st.1) (n2 : ¬ B st.2) : St3 st c H' := by
  obtain ⟨items, n, sd, h1, h2, h3⟩ := s
  exact ⟨items, n, sd, f _ _ n1 h1, f _ _ n2 h2, h3⟩
/-- what stood before stays where only new things change -/
theorem FrS.frB {B : Addr → Prop} {st : Addr × Addr} {H H1 H2 : Hp} (f : FrS st H H1) (g : FrB B H1 H2) (n : ∀ b, B b → H b = none) : FrS st H H2 := fun a o na h => g a o (fun b => by rw [n a b] at h; cases h) (f a o na h)
/-- the net's objects are no state and no two of them one -/
structure NAway (st : Addr × Addr) (a pl rl : Addr) : Prop where
  a1 : a ≠ st.1
  a2 : a ≠ st.2
  p1 : pl ≠ st.1
  p2 : pl ≠ st.2
  r1 : rl ≠ st.1
  r2 : rl ≠ st.2
  pr : pl ≠ rl
theorem NAway.nb1 {st : Addr × Addr} {a pl rl : Addr} (w : NAway st a pl rl) : ¬ NB a pl rl st.1 := fun h => h.elim (fun e => w.a1 e.symm) fun h => h.elim (fun e => w.p1 e.symm) fun e => w.r1 e.symm
theorem NAway.nb2 {st : Addr × Addr} {a pl rl : Addr} (w : NAway st a pl rl) : ¬ NB a pl rl st.2 := fun h => h.elim (fun e => w.a2 e.symm) fun h => h.elim (fun e => w.p2 e.symm) fun e => w.r2 e.symm
theorem NetAt.st {C CR CN a pl rl : Addr} {N : NetV} {H H' : Hp} {st : Addr × Addr} {c : Nat} (h : NetAt C CR CN a pl rl N H) (w : NAway st a pl rl) (s : St3 st c H) (f : FrS st H H') : NetAt C CR CN a pl rl N H' :=
  h.fr (B := fun b => b = st.1) (st_mut s) (fun a o n e => f a o n e) w.a1 w.p1 w.r1
def spNet (C CR CN : Addr) : Sp := fun vs H Q _ => ∃ (st : Addr × Addr) (c : Nat) (most many : Int), vs = [.ref st.1, .int most, .int many] ∧ St3 st c H ∧ c + 10000 < cMax ∧ (0 < most ∧ most ≤ 5) ∧ (0 < many ∧ many ≤ 9) ∧
  ∀ a pl rl nl ql out (N : NetV) H', NAway st a pl rl → (H a = none ∧ H pl = none ∧ H rl = none ∧ H nl = none ∧ H ql = none ∧ H out = none) → (nl ≠ pl ∧ nl ≠ rl ∧ nl ≠ ql ∧ ql ≠ pl ∧ ql ≠ rl ∧ nl ≠ a ∧ ql ≠ a) → H' out = some (.lst [.ref a, .ref nl, .ref ql]) → NetAt C CR CN a pl rl N H' → H' nl = some (.lst (N.ns.map V.str)) → LstAt (RdAt C CR) N.rds (.ref ql) H' → NetOk N → DrawnOk N → (∀ r ∈ N.rds, TsOk N.ns r.terms) → N.ns ≠ [] → (∀ (i : Nat) r, N.rds[i]? = some r → r.name = rname i) → ((N.rds.length : Int) < many ∧ (N.ns.length : Int) ≤ most ∧ N.ns = namesQ N.ns.length ∧ ∀ r ∈ N.rds, (SmB 20 r.value ∧ r.value.den ∣ dd) ∧ WOk r.weight) → St3 st (c + 5000) H' → FrS st H H' → Q (.ref out) H'
end Pn

namespace Pn
open PySem L2 Evl
/-! ### worlds: things that stand side by side, each with the objects that may change -/
def Disj (A B : Addr → Prop) : Prop := ∀ a, A a → B a → False
/-- R is told by what stays, but for the objects B, which are there -/
structure Rs (B : Addr → Prop) (R : Hp → Prop) : Prop where
  al : ∀ H, R H → AllMut B H
  fr : ∀ H H' (C : Addr → Prop), R H → AllMut C H → FrB C H H' → Disj C B → R H'
abbrev Th := (Addr → Prop) × (Hp → Prop)
structure Wd (L : List Th) (H : Hp) : Prop where
  th : ∀ (i : Nat) p, L[i]? = some p → p.2 H ∧ Rs p.1 p.2
  dj : ∀ (i j : Nat) p q, i < j → L[i]? = some p → L[j]? = some q → Disj p.1 q.1
theorem Disj.symm {A B : Addr → Prop} (h : Disj A B) : Disj B A := fun a x y => h a y x
def No : Addr → Prop := fun _ => False
theorem allMut_no {H : Hp} : AllMut No H := fun _ h => h.elim
theorem disj_no {A : Addr → Prop} : Disj A No := fun _ _ h => h
theorem disj_no' {A : Addr → Prop} : Disj No A := fun _ h _ => h
theorem wd_nil {H : Hp} : Wd [] H := ⟨fun i p h => (nomatch h), fun i j p q _ h => (nomatch h)⟩
section
variable {L L' : List Th} {H H' H0 : Hp} {B C : Addr → Prop} {R R' : Hp → Prop}
theorem Wd.get (w : Wd L H) (i : Nat) (h : L[i]? = some (B, R)) : R H := (w.th i _ h).1
theorem Wd.al (w : Wd L H) (i : Nat) (h : L[i]? = some (B, R)) : AllMut B H := (w.th i _ h).2.al H (w.th i _ h).1
theorem Wd.dij (w : Wd L H) {i j : Nat} {p q : Th} (n : i ≠ j) (h : L[i]? = some p) (g : L[j]? = some q) : Disj p.1 q.1 := by
  rcases Nat.lt_or_gt_of_ne n with k | k
  · exact w.dj i j p q k h g
  · exact (w.dj j i q p k g h).symm
theorem Wd.fr (w : Wd L H) (hC : AllMut C H) (f : FrB C H H') (d : ∀ (i : Nat) p, L[i]? = some p → Disj C p.1) : Wd L H' :=
  ⟨fun i p h => ⟨(w.th i p h).2.fr H H' C (w.th i p h).1 hC f (d i p h), (w.th i p h).2⟩, w.dj⟩
theorem Wd.ex (w : Wd L H) (e : Ex H H') : Wd L H' := w.fr allMut_no (FrB.of e) fun _ _ _ => disj_no'
/-- one thing changes -/
theorem Wd.step (w : Wd L H) (i : Nat) (h : L[i]? = some (B, R)) (f : FrB B H H') (rs : Rs B R') (r : R' H') : Wd (L.set i (B, R')) H' := by
  have hi : i < L.length := (List.getElem?_eq_some_iff.mp h).1
  have get : ∀ (j : Nat) p, (L.set i (B, R'))[j]? = some p → (j = i ∧ p = (B, R')) ∨ (j ≠ i ∧ L[j]? = some p) := fun j p hp => by
    rw [List.getElem?_set] at hp
    by_cases e : i = j
    · subst e
      rw [if_pos rfl, if_pos hi] at hp
      exact .inl ⟨rfl, (Option.some.inj hp).symm⟩
    · rw [if_neg e] at hp
      exact .inr ⟨fun z => e z.symm, hp⟩
  refine ⟨fun j p hp => ?_, fun j k p q n hp hq => ?_⟩
  · rcases get j p hp with ⟨_, rfl⟩ | ⟨n, g⟩
    · exact ⟨r, rs⟩
    · exact ⟨(w.th j p g).2.fr H H' B (w.th j p g).1 (w.al i h) f (w.dij n.symm h g), (w.th j p g).2⟩
  · rcases get j p hp with ⟨ej, rfl⟩ | ⟨nj, gj⟩
    · rcases get k q hq with ⟨ek, rfl⟩ | ⟨nk, gk⟩
      · omega
      · exact (w.dij (i := i) (j := k) nk.symm h gk :)
    · rcases get k q hq with ⟨ek, rfl⟩ | ⟨nk, gk⟩
      · exact (w.dij (i := j) (j := i) nj gj h :)
      · exact w.dj j k p q n gj gk
/-- what is new stands apart -/
theorem Wd.away (w : Wd L H) (n : ∀ b, B b → H b = none) : ∀ (i : Nat) p, L[i]? = some p → Disj p.1 B := fun i p h a ha hb => by
  obtain ⟨o, ho, _⟩ := (w.th i p h).2.al H (w.th i p h).1 a ha
  rw [n a hb] at ho
  cases ho
theorem Wd.snoc (w : Wd L H) (d : ∀ (i : Nat) p, L[i]? = some p → Disj p.1 B) (rs : Rs B R) (r : R H) : Wd (L ++ [(B, R)]) H := by
  have get : ∀ (j : Nat) p, (L ++ [(B, R)])[j]? = some p → (j = L.length ∧ p = (B, R)) ∨ (j < L.length ∧ L[j]? = some p) := fun j p hp => by
    by_cases hj : j < L.length
    · rw [List.getElem?_append_left hj] at hp
      exact .inr ⟨hj, hp⟩
    · rw [List.getElem?_append_right (by omega)] at hp
      have hl := (List.getElem?_eq_some_iff.mp hp).1
      have e : j = L.length := by simp at hl; omega
      subst e
      rw [Nat.sub_self] at hp
      exact .inl ⟨rfl, (Option.some.inj hp).symm⟩
  refine ⟨fun j p hp => ?_, fun j k p q n hp hq => ?_⟩
  · rcases get j p hp with ⟨_, rfl⟩ | ⟨_, g⟩
    · exact ⟨r, rs⟩
    · exact w.th j p g
  · rcases get j p hp with ⟨ej, rfl⟩ | ⟨nj, gj⟩
    · rcases get k q hq with ⟨ek, rfl⟩ | ⟨nk, gk⟩ <;> omega
    · rcases get k q hq with ⟨ek, rfl⟩ | ⟨nk, gk⟩
      · exact d j p gj
      · exact w.dj j k p q n gj gk
/-- the same places, another heap -/
theorem away_of (e : L.map (fun p => p.1) = L'.map (fun p => p.1)) (d : ∀ (i : Nat) p, L[i]? = some p → Disj p.1 B) : ∀ (i : Nat) p, L'[i]? = some p → Disj p.1 B := fun i p h => by
  have z : (L'.map (fun p => p.1))[i]? = some p.1 := by rw [List.getElem?_map, h]; rfl
  rw [← e, List.getElem?_map] at z
  obtain ⟨q, hq, eq⟩ := Option.map_eq_some_iff.mp z
  rw [← eq]
  exact d i q hq
/-- something new, made on the way from w0 to w -/
theorem Wd.add (w : Wd L' H') (w0 : Wd L H) (n : ∀ b, B b → H b = none) (rs : Rs B R) (r : R H') (e : L.map (fun p => p.1) = L'.map (fun p => p.1) := by rfl) : Wd (L' ++ [(B, R)]) H' := w.snoc (away_of e (w0.away n)) rs r
/-- what never changes -/
theorem Wd.imm (w : Wd L H) (rs : Rs No R) (r : R H) : Wd (L ++ [(No, R)]) H := w.snoc (fun _ _ _ => disj_no) rs r
theorem eraseIdx_get (L : List Th) (i j : Nat) : (L.eraseIdx i)[j]? = L[if j < i then j else j + 1]? := by
  rw [List.getElem?_eraseIdx]
  split <;> rfl
theorem Wd.drop (w : Wd L H) (i : Nat) : Wd (L.eraseIdx i) H := by
  refine ⟨fun j p hp => ?_, fun j k p q n hp hq => ?_⟩
  · rw [eraseIdx_get] at hp
    exact w.th _ p hp
  · rw [eraseIdx_get] at hp hq
    exact w.dj _ _ p q (by split <;> split <;> omega) hp hq
theorem Wd.imp (w : Wd L H) (i : Nat) (h : L[i]? = some (B, R)) (rs : Rs B R') (k : R H → R' H) : Wd (L.set i (B, R')) H := w.step i h FrB.refl rs (k (w.get i h))
/-- an object of one's own -/
def Me (p : Addr) : Addr → Prop := fun b => b = p
def BS (st : Addr × Addr) : Addr → Prop := fun b => b = st.1 ∨ b = st.2
theorem rs_kept {α : Type} {R : α → V → Hp → Prop} (k : KeptN R) (x : α) (v : V) : Rs No (R x v) := ⟨fun _ _ => allMut_no, fun H H' C r hC f _ => k C x v H H' hC f r⟩
theorem rs_st {st : Addr × Addr} {c : Nat} : Rs (BS st) (St3 st c) := ⟨fun H ⟨items, n, sd, h1, h2, _⟩ b hb => by
  rcases hb with e | e
  · exact ⟨_, by rw [e]; exact h1, .inl ⟨_, rfl⟩⟩
  · exact ⟨_, by rw [e]; exact h2, .inl ⟨_, rfl⟩⟩, fun H H' C r hC f d => r.frB f (fun x => d _ x (.inl rfl)) (fun x => d _ x (.inr rfl))⟩
theorem rs_net {C CR CN a pl rl : Addr} {N : NetV} : Rs (NB a pl rl) (NetAt C CR CN a pl rl N) := ⟨fun H h => h.mut, fun H H' D r hC f d => r.fr hC f (fun x => d _ x (.inl rfl)) (fun x => d _ x (.inr (.inl rfl))) (fun x => d _ x (.inr (.inr rfl)))⟩
theorem rs_is {p : Addr} {xs : List V} : Rs (Me p) (fun H => H p = some (.lst xs)) := ⟨fun H h b hb => by
  have hb : b = p := hb
  rw [hb]
  exact ⟨_, h, .inl ⟨_, rfl⟩⟩, fun H H' C r hC f d => f _ _ (fun x => d _ x rfl) r⟩
/-- a list at p of things that stay -/
def LsAt {α : Type} (R : α → V → Hp → Prop) (xs : List α) (p : Addr) (H : Hp) : Prop := ∃ vs, H p = some (.lst vs) ∧ AllR R xs vs H
theorem LsAt.lst {α : Type} {R : α → V → Hp → Prop} {xs : List α} {p : Addr} {H : Hp} (h : LsAt R xs p H) : LstAt R xs (.ref p) H := by
  obtain ⟨vs, h1, h2⟩ := h
  exact ⟨p, vs, rfl, h1, h2⟩
theorem lsAt_of {α : Type} {R : α → V → Hp → Prop} {xs : List α} {p : Addr} {H : Hp} (h : LstAt R xs (.ref p) H) : LsAt R xs p H := by
  obtain ⟨q, vs, e, h1, h2⟩ := h
  injection e with e
  subst e
  exact ⟨vs, h1, h2⟩
theorem rs_ls {α : Type} {R : α → V → Hp → Prop} (k : KeptN R) {xs : List α} {p : Addr} : Rs (Me p) (LsAt R xs p) := ⟨fun H ⟨vs, h, _⟩ b hb => by
  have hb : b = p := hb
  rw [hb]
  exact ⟨_, h, .inl ⟨_, rfl⟩⟩, fun H H' C ⟨vs, h1, h2⟩ hC f d => ⟨vs, f _ _ (fun x => d _ x rfl) h1, h2.keptN k hC f⟩⟩
theorem fr_bs {st : Addr × Addr} {H H' : Hp} (f : FrS st H H') : FrB (BS st) H H' := FrB.st f (.inl rfl)
end
end Pn

namespace Pn
open PySem L2 Evl
/-! ### nets of the same readings in another order -/
theorem foldl_sumL (g : Rat × List Rat → Rat) : ∀ (ts : List (Rat × List Rat)) (s : Rat), ts.foldl (fun s t => s + g t) s = s + sumL (ts.map g)
  | [], s => by show s = s + 0; grind
  | t :: ts, s => by
    show ts.foldl (fun s t => s + g t) (s + g t) = s + (g t + sumL (ts.map g))
    rw [foldl_sumL g ts]
    grind
theorem entry_sumL (ts : List (Rat × List Rat)) (i j : Nat) : entryQ ts i j = sumL (ts.map (termQ i j)) := by
  unfold entryQ
  rw [foldl_sumL (termQ i j)]
  show (0 : Rat) + _ = _
  grind
theorem norm_ext {w : Nat} {ts us : List (Rat × List Rat)} (h : ∀ i j, entryQ ts i j = entryQ us i j) : at2 (normQ ts w) = at2 (normQ us w) := by
  funext i j
  by_cases hi : i < w
  · by_cases hj : j < w
    · rw [norm_at hi hj, norm_at hi hj, h]
    · rw [at2_wide (norm_wide _ _) (Nat.not_lt.mp hj), at2_wide (norm_wide _ _) (Nat.not_lt.mp hj)]
  · rw [at2_ge (by rw [norm_len]; omega), at2_ge (by rw [norm_len]; omega)]
theorem norm_perm {w : Nat} {ts us : List (Rat × List Rat)} (h : ts.Perm us) : at2 (normQ ts w) = at2 (normQ us w) :=
  norm_ext fun i j => by rw [entry_sumL, entry_sumL]; exact sumL_perm (h.map _)
/-- nets over the same points whose matrices and sums are equal tell the same heights and squares -/
theorem heights_eq {N L : NetV} (h : NetOk N) (g : NetOk L) (en : N.ns = L.ns) (ex : N.xs = L.xs) (eM : at2 N.M = at2 L.M) (er : ∀ i, vf N.r i = vf L.r i) : heightsQ N = heightsQ L ∧ (N.t = L.t → squaresQ N = squaresQ L) := by
  have eP : N.P = L.P := by
    have p1 := h.k.2.2.2
    have p2 := g.k.2.2.2
    rw [eM, en] at p1
    exact mat_fun (w := L.ns.length) (by rw [h.k.2.1.1, g.k.2.1.1, en]) (by have z := h.k.2.1.2; rw [en] at z; exact z) g.k.2.1.2 (p1.uniq p2)
  have eR : N.r = L.r := getD_ext (d := 0) (by rw [h.lr, g.lr, en]) fun i _ => er i
  unfold heightsQ squaresQ
  rw [eP, eR, ex]
  exact ⟨rfl, fun e => by rw [e]⟩
theorem heights_perm {N L : NetV} (h : NetOk N) (g : NetOk L) (en : N.ns = L.ns) (ex : N.xs = L.xs) (hp : N.rds.Perm L.rds) : heightsQ N = heightsQ L ∧ squaresQ N = squaresQ L := by
  have et : (termsOf N).Perm (termsOf L) := by
    unfold termsOf
    rw [en]
    exact hp.map _
  have eM : at2 N.M = at2 L.M := by
    rw [h.k.2.2.1, g.k.2.2.1, en]
    exact norm_perm et
  have eq : ∀ r, restRd N r = restRd L r := fun r => by unfold restRd; rw [en, ex]
  have z := heights_eq h g en ex eM fun i => by
    rw [h.r i, g.r i]
    have e : (fun r : Rdg => r.weight * restRd N r * vf (rowQ N.ns r.terms) i) = fun r => r.weight * restRd L r * vf (rowQ L.ns r.terms) i := funext fun r => by rw [eq, en]
    rw [e]
    exact sumL_perm (hp.map _)
  refine ⟨z.1, z.2 ?_⟩
  rw [h.t, g.t]
  have e : (fun r : Rdg => r.weight * restRd N r * restRd N r) = fun r => r.weight * restRd L r * restRd L r := funext fun r => by rw [eq]
  rw [e]
  exact sumL_perm (hp.map _)
end Pn

namespace Pn
open PySem L2 Evl
def sclF (f : Rat) (A : M2) : M2 := fun i j => f * A i j
theorem mul_sclR (n : Nat) (f : Rat) (A B : M2) : mulF n A (sclF f B) = sclF f (mulF n A B) := by
  funext i j
  show sumN n (fun k => A i k * (f * B k j)) = f * sumN n (fun k => A i k * B k j)
  rw [← sumN_mul]
  exact sumN_congr fun k _ => by grind
theorem mul_sclL (n : Nat) (f : Rat) (A B : M2) : mulF n (sclF f A) B = sclF f (mulF n A B) := by
  funext i j
  show sumN n (fun k => (f * A i k) * B k j) = f * sumN n (fun k => A i k * B k j)
  rw [← sumN_mul]
  exact sumN_congr fun k _ => by grind
theorem scl_scl {f g : Rat} (h : f * g = 1) (A : M2) : sclF f (sclF g A) = A := by
  funext i j
  show f * (g * A i j) = A i j
  rw [← Rat.mul_assoc, h, Rat.one_mul]
theorem pen_scale {n : Nat} {M P : M2} {f g : Rat} (p : Pen n n M P) (h : f * g = 1) : Pen n n (sclF f M) (sclF g P) := by
  have h2 : g * f = 1 := by rw [Rat.mul_comm]; exact h
  have e1 : mulF n (sclF f M) (sclF g P) = mulF n M P := by rw [mul_sclL, mul_sclR, scl_scl h]
  have e2 : mulF n (sclF g P) (sclF f M) = mulF n P M := by rw [mul_sclL, mul_sclR, scl_scl h2]
  exact ⟨by rw [e1, mul_sclR, p.a], by rw [e2, mul_sclR, p.b], by rw [e1]; exact p.c, by rw [e2]; exact p.d⟩
theorem heights_scale {N L : NetV} {f : Rat} (h : NetOk N) (g : NetOk L) (en : N.ns = L.ns) (ex : N.xs = L.xs) (f0 : f ≠ 0) (eM : at2 L.M = sclF f (at2 N.M)) (er : ∀ i, vf L.r i = f * vf N.r i) : heightsQ L = heightsQ N ∧ (L.t = f * N.t → squaresQ L = squaresQ N * f) := by
  have hf : f * (1 / f) = 1 := by rw [Rat.div_def, Rat.one_mul]; exact Rat.mul_inv_cancel f f0
  have lPN := h.k.2.1.1
  have wPN := h.k.2.1.2
  have lPL := g.k.2.1.1
  have wPL := g.k.2.1.2
  have lrN := h.lr
  have lrL := g.lr
  rw [← en] at lPL wPL lrL
  have eP : at2 L.P = sclF (1 / f) (at2 N.P) := by
    have p1 := g.k.2.2.2
    rw [eM, ← en] at p1
    exact p1.uniq (pen_scale h.k.2.2.2 hf)
  have ea : applyQ L.P L.r = applyQ N.P N.r := getD_ext (d := 0) (by rw [applyQ_len, applyQ_len, lPL, lPN]) fun i _ => by
    show vf (applyQ L.P L.r) i = vf (applyQ N.P N.r) i
    rw [vf_apply wPL lrL, vf_apply wPN lrN, eP]
    refine sumN_congr fun k _ => ?_
    show (1 / f * at2 N.P i k) * vf L.r k = at2 N.P i k * vf N.r k
    rw [er k]
    grind
  unfold heightsQ squaresQ
  rw [ea, ← ex]
  refine ⟨rfl, fun et => ?_⟩
  have li : (applyQ N.P N.r).length = N.ns.length := by rw [applyQ_len, lPN]
  rw [vf_dot lrL li, vf_dot lrN li, et]
  have e : dotF N.ns.length (vf L.r) (vf (applyQ N.P N.r)) = f * dotF N.ns.length (vf N.r) (vf (applyQ N.P N.r)) := by
    rw [← dotF_smul]
    exact sumN_congr fun k _ => by rw [er k]
  rw [e]
  grind
def sclR (f : Rat) (r : Rdg) : Rdg := { r with weight := r.weight * f }
theorem heights_scaled {N L : NetV} {f : Rat} (h : NetOk N) (g : NetOk L) (en : N.ns = L.ns) (ex : N.xs = L.xs) (f0 : f ≠ 0) (hp : L.rds.Perm (N.rds.map (sclR f))) : heightsQ L = heightsQ N ∧ squaresQ L = squaresQ N * f := by
  have eq : ∀ r, restRd L (sclR f r) = restRd N r := fun r => by unfold restRd sclR; rw [en, ex]
  have eM : at2 L.M = sclF f (at2 N.M) := by
    rw [h.k.2.2.1, g.k.2.2.1, ← en]
    funext i j
    show _ = f * _
    by_cases hi : i < N.ns.length
    · by_cases hj : j < N.ns.length
      · rw [norm_at hi hj, norm_at hi hj, entry_sumL, entry_sumL, ← sumL_mul]
        unfold termsOf
        rw [List.map_map, List.map_map, List.map_map]
        rw [sumL_perm (hp.map _), List.map_map]
        congr 1
        refine List.map_congr_left fun r _ => ?_
        show termQ i j (r.weight * f, rowQ L.ns r.terms) = f * termQ i j (r.weight, rowQ N.ns r.terms)
        rw [en]
        unfold termQ
        grind
      · rw [at2_wide (norm_wide _ _) (Nat.not_lt.mp hj), at2_wide (norm_wide _ _) (Nat.not_lt.mp hj), Rat.mul_zero]
    · rw [at2_ge (by rw [norm_len]; omega), at2_ge (by rw [norm_len]; omega), Rat.mul_zero]
  have z := heights_scale h g en ex f0 eM fun i => by
    rw [h.r i, g.r i, ← sumL_mul, sumL_perm (hp.map _), List.map_map, List.map_map]
    congr 1
    refine List.map_congr_left fun r _ => ?_
    show (r.weight * f) * restRd L (sclR f r) * vf (rowQ L.ns r.terms) i = f * (r.weight * restRd N r * vf (rowQ N.ns r.terms) i)
    rw [eq, en]
    grind
  refine ⟨z.1, z.2 ?_⟩
  rw [h.t, g.t, ← sumL_mul, sumL_perm (hp.map _), List.map_map, List.map_map]
  congr 1
  refine List.map_congr_left fun r _ => ?_
  show (r.weight * f) * restRd L (sclR f r) * restRd L (sclR f r) = f * (r.weight * restRd N r * restRd N r)
  rw [eq]
  grind
theorem sumL_flat {α : Type} (g : α → Rat) (a b : Rdg → α) : ∀ rs : List Rdg, sumL ((rs.flatMap fun r => [a r, b r]).map g) = sumL (rs.map fun r => g (a r) + g (b r))
  | [] => rfl
  | r :: rs => by
    rw [List.flatMap_cons, List.map_append, sumL_app, sumL_flat g a b rs, List.map_cons]
    show (g (a r) + (g (b r) + 0)) + _ = (g (a r) + g (b r)) + _
    grind
def partR (q : Rat) (nm : Str → Str) (r : Rdg) : Rdg := { r with name := nm r.name, weight := r.weight * q }
theorem heights_twice {N L : NetV} {q : Rat} {na nb : Str → Str} (h : NetOk N) (g : NetOk L) (en : N.ns = L.ns) (ex : N.xs = L.xs) (hq : q + q = 1) (hp : L.rds.Perm (N.rds.flatMap fun r => [partR q na r, partR q nb r])) : heightsQ L = heightsQ N ∧ squaresQ L = squaresQ N := by
  have eq : ∀ nm r, restRd L (partR q nm r) = restRd N r := fun nm r => by unfold restRd partR; rw [en, ex]
  have eM : at2 L.M = at2 N.M := by
    rw [h.k.2.2.1, g.k.2.2.1, ← en]
    refine norm_ext fun i j => ?_
    rw [entry_sumL, entry_sumL]
    unfold termsOf
    rw [List.map_map, List.map_map, sumL_perm (hp.map _), sumL_flat]
    congr 1
    refine List.map_congr_left fun r _ => ?_
    show termQ i j (r.weight * q, rowQ L.ns r.terms) + termQ i j (r.weight * q, rowQ L.ns r.terms) = termQ i j (r.weight, rowQ N.ns r.terms)
    rw [en]
    unfold termQ
    grind
  have z := heights_eq g h en.symm ex.symm eM fun i => by
    rw [h.r i, g.r i, sumL_perm (hp.map _), sumL_flat]
    congr 1
    refine List.map_congr_left fun r _ => ?_
    show (r.weight * q) * restRd L (partR q na r) * vf (rowQ L.ns r.terms) i + (r.weight * q) * restRd L (partR q nb r) * vf (rowQ L.ns r.terms) i = r.weight * restRd N r * vf (rowQ N.ns r.terms) i
    rw [eq, eq, en]
    grind
  refine ⟨z.1, z.2 ?_⟩
  rw [h.t, g.t, sumL_perm (hp.map _), sumL_flat]
  congr 1
  refine List.map_congr_left fun r _ => ?_
  show (r.weight * q) * restRd L (partR q na r) * restRd L (partR q na r) + (r.weight * q) * restRd L (partR q nb r) * restRd L (partR q nb r) = r.weight * restRd N r * restRd N r
  rw [eq, eq]
  grind
end Pn

namespace Pn
open PySem L2 Evl
section
variable {K : PySem.W.Frag} {C CR CN a pl rl : Addr} {ta : TE} {σ : L2.St} {H : Hp} {N : NetV}
/-- net.heights(), net.squares() -/
theorem evp_heights {p q : Nat} (hN : NetAt C CR CN a pl rl N H) (ha : Ev ta σ H (.ref a)) (ok : HtOk N p q) (hm : ("heights" : Str) ∉ NFs := by decide +kernel) : EvP (tMeth CN "heights" (spHeights C CR CN) [] E0 ta tNil) σ H (VecAt C (heightsQ N)) := fun H1 e Q k => ha H1 e _ fun H2 e2 => by
  have hN2 := hN.ex (e.trans e2)
  obtain ⟨dx, fs, h1, h2⟩ := hN2.nom hm
  exact ⟨a, dx, fs, rfl, h1, h2, a, pl, rl, N, p, q, rfl, hN2, ok, fun v H4 e4 m4 => k v H4 (e2.trans e4) m4⟩
theorem evp_squares {p q : Nat} (hN : NetAt C CR CN a pl rl N H) (ha : Ev ta σ H (.ref a)) (ok : HtOk N p q) (hm : ("squares" : Str) ∉ NFs := by decide +kernel) : EvP (tMeth CN "squares" (spSquares C CR CN) [] E0 ta tNil) σ H (fun v H => RatAt C H v (squaresQ N)) := fun H1 e Q k => ha H1 e _ fun H2 e2 => by
  have hN2 := hN.ex (e.trans e2)
  obtain ⟨dx, fs, h1, h2⟩ := hN2.nom hm
  exact ⟨a, dx, fs, rfl, h1, h2, a, pl, rl, N, p, q, rfl, hN2, ok, fun v H4 e4 m4 => k v H4 (e2.trans e4) m4⟩
end
theorem ranames : ((List.range 24).map fun k => rname k ++ ("a" : Str)).Nodup ∧ ((List.range 24).map fun k => rname k ++ ("b" : Str)).Nodup := by decide +kernel
theorem rab : ∀ i, i < 24 → ∀ j, j < 24 → rname i ++ ("a" : Str) ≠ rname j ++ ("b" : Str) := by decide +kernel
end Pn

namespace Pn
open PySem L2 Evl
/-! ### steps of nets in a world -/
section
variable {K : PySem.W.Frag} {C CR CN a pl rl : Addr} {te t0 t1 t2 t3 t4 : TE} {σ : L2.St} {H H0 : Hp} {D : Ends} {tz : TS} {N : NetV} {L : List Th} {st : Addr × Addr} {c : Nat} {E : XK}
abbrev ThSt (st : Addr × Addr) (c : Nat) : Th := (BS st, St3 st c)
abbrev ThNet (C CR CN a pl rl : Addr) (N : NetV) : Th := (NB a pl rl, NetAt C CR CN a pl rl N)
abbrev ThLs {α : Type} (R : α → V → Hp → Prop) (xs : List α) (p : Addr) : Th := (Me p, LsAt R xs p)
theorem wd_one {B : Addr → Prop} {R : Hp → Prop} (rs : Rs B R) (r : R H) : Wd [(B, R)] H := wd_nil.snoc (fun i p h => (nomatch h)) rs r
/-- the start: a drawn net, its names, its readings -/
theorem wd_net {c0 : Nat} {nl ql out : Addr} (s0 : St3 st c0 H0) (s : St3 st c H) (f : FrS st H0 H) (aw : NAway st a pl rl) (fsh : H0 a = none ∧ H0 pl = none ∧ H0 rl = none ∧ H0 nl = none ∧ H0 ql = none ∧ H0 out = none) (dis : nl ≠ pl ∧ nl ≠ rl ∧ nl ≠ ql ∧ ql ≠ pl ∧ ql ≠ rl ∧ nl ≠ a ∧ ql ≠ a)
    (hN : NetAt C CR CN a pl rl N H) (hn : H nl = some (.lst (N.ns.map V.str))) (hq : LstAt (RdAt C CR) N.rds (.ref ql) H) : Wd [ThSt st c, ThNet C CR CN a pl rl N, ThLs RS N.ns nl, ThLs (RdAt C CR) N.rds ql] H := by
  obtain ⟨z1, z2, z3, z4, z5, _⟩ := fsh
  obtain ⟨y1, y2, y3, y4, y5, y6, y7⟩ := dis
  have w1 : Wd [ThSt st c] H := wd_one rs_st s
  have w2 : Wd [ThSt st c, ThNet C CR CN a pl rl N] H := w1.snoc (B := NB a pl rl) (fun i p h x hx hy => by
    match i, h with
    | 0, h =>
      cases h
      rcases hy with e | e | e <;> rcases hx with g | g <;> subst e
      · exact aw.a1 g
      · exact aw.a2 g
      · exact aw.p1 g
      · exact aw.p2 g
      · exact aw.r1 g
      · exact aw.r2 g) rs_net hN
  have kS : KeptN RS := fun _ _ _ _ _ _ _ h => h
  have w3 : Wd [ThSt st c, ThNet C CR CN a pl rl N, ThLs RS N.ns nl] H := w2.snoc (B := Me nl) (fun i p h x hx hy => by
    have hy : x = nl := hy
    subst hy
    match i, h with
    | 0, h =>
      cases h
      rcases hx with g | g
      · exact s0.fresh z4 g
      · exact s0.fresh2 z4 g
    | 1, h =>
      cases h
      rcases hx with g | g | g
      · exact y6 g
      · exact y1 g
      · exact y2 g) (rs_ls kS) (lsAt_of (ptAt_lst ⟨nl, rfl, hn⟩))
  exact w3.snoc (B := Me ql) (fun i p h x hx hy => by
    have hy : x = ql := hy
    subst hy
    match i, h with
    | 0, h =>
      cases h
      rcases hx with g | g
      · exact s0.fresh z5 g
      · exact s0.fresh2 z5 g
    | 1, h =>
      cases h
      rcases hx with g | g | g
      · exact y7 g
      · exact y4 g
      · exact y5 g
    | 2, h =>
      cases h
      exact y3 hx.symm) (rs_ls keptN_rd) (lsAt_of hq)
/-- Net() -/
theorem q_newNet {i : Nat} (W : Wd L H) (k : ∀ a pl rl H2, pl ≠ rl → Ex H H2 → Wd (L ++ [ThNet C CR CN a pl rl NetNew]) H2 → tz D (σ.set i (some (.ref a))) H2) : tSeq (tAsg (tMake CN (spNetInit C CR CN) [] E tNil) (gName i)) tz D σ H := by
  intro a dx na ndx nex
  refine ⟨a, dx, rfl, upd_same, fun pl rl H2 hpl hrl hne hN fB => ⟨rfl, ?_⟩⟩
  have e2 : Ex H H2 := fun x o h => fB x o (ne_of_none h na) ((upd_ne (ne_of_none h na)).trans ((upd_ne (ne_of_none h ndx)).trans h))
  have up : ∀ {x : Addr}, upd (upd H dx (.own a)) a (.ins CN dx []) x = none → H x = none := fun {x} h => by
    cases hz : H x with
    | none => rfl
    | some o => rw [upd_ne (ne_of_none hz na), upd_ne (ne_of_none hz ndx), hz] at h; cases h
  refine k a pl rl H2 hne e2 ((W.ex e2).add W (B := NB a pl rl) (fun b hb => ?_) rs_net hN)
  rcases hb with e | e | e
  · rw [e]; exact na
  · rw [e]; exact up hpl
  · rw [e]; exact up hrl
/-- net.add_point(name, x) -/
theorem s_addPt {i : Nat} {n : Str} {x : Rat} (W : Wd L H) (h : L[i]? = some (ThNet C CR CN a pl rl N)) (h0 : Ev t0 σ H (.ref a)) (h1 : Ev t1 σ H (.str n)) (h2 : EvP t2 σ H (RQ C x)) (ok : NetOk N) (ne : pl ≠ rl) (hn : n ∉ N.ns) (hl : N.ns.length < 12)
    (k : ∀ H2, Wd (L.set i (ThNet C CR CN a pl rl (withPoint N n x))) H2 → D.nx σ H2) (hm : ("add_point" : Str) ∉ NFs := by decide +kernel) : tDrop (tMeth CN "add_point" (spAddPoint C CR CN) [] E t0 (tCons t1 (tCons t2 tNil))) D σ H := by
  refine h0 H (Ex.refl _) _ fun H1 e1 => ?_
  have hN : NetAt C CR CN a pl rl N H1 := (W.ex e1).get i h
  obtain ⟨dx, fs, g1, g2⟩ := hN.nom hm
  refine ⟨a, dx, fs, rfl, g1, g2, ?_⟩
  refine h1 H1 e1 _ fun H2 e2 => ?_
  refine h2 H2 (e1.trans e2) _ fun u H3 e3 m3 => ?_
  have W3 := W.ex ((e1.trans e2).trans e3)
  exact ⟨a, pl, rl, N, n, u, x, rfl, W3.get i h, m3, ne, hn, hl, ⟨ok.lx, ok.lr, ok.k.1, ok.k.2.1⟩, fun H4 hN4 f4 => k H4 (W3.step i h f4 rs_net hN4)⟩
/-- net.add(reading) -/
theorem s_addRd {i m p q k0 : Nat} {r : Rdg} (W : Wd L H) (h : L[i]? = some (ThNet C CR CN a pl rl N)) (h0 : Ev t0 σ H (.ref a)) (h1 : EvP t1 σ H (RdAt C CR r)) (ne : pl ≠ rl) (cnd : (∀ s ∈ N.rds, s.name ≠ r.name) ∧ (∀ t ∈ r.terms, t.1 ∈ N.ns) ∧ N.rds.length < 24) (ok : TakeOk N r m p q k0)
    (k : ∀ H2, Wd (L.set i (ThNet C CR CN a pl rl { takeIn N r with rds := N.rds ++ [r] })) H2 → D.nx σ H2) (hm : ("add" : Str) ∉ NFs := by decide +kernel) : tDrop (tMeth CN "add" (spNetAdd C CR CN) [] E t0 (tCons t1 tNil)) D σ H := by
  refine h0 H (Ex.refl _) _ fun H1 e1 => ?_
  have hN : NetAt C CR CN a pl rl N H1 := (W.ex e1).get i h
  obtain ⟨dx, fs, g1, g2⟩ := hN.nom hm
  refine ⟨a, dx, fs, rfl, g1, g2, ?_⟩
  refine h1 H1 e1 _ fun u H3 e3 m3 => ?_
  have W3 := W.ex (e1.trans e3)
  exact ⟨a, pl, rl, N, r, u, m, p, q, k0, rfl, W3.get i h, m3, ne, cnd, ok, fun H4 hN4 f4 => k H4 (W3.step i h f4 rs_net hN4)⟩
/-- Reading(..) -/
theorem evp_newRd {n : Str} {ts : List (Str × Int)} {v w : Rat} (h1 : Ev t1 σ H (.str n)) (h2 : EvP t2 σ H (TmAt ts)) (h3 : EvP t3 σ H (RQ C v)) (h4 : EvP t4 σ H (RQ C w)) : EvP (tMake CR (spRdInit CR) [] E (tCons t1 (tCons t2 (tCons t3 (tCons t4 tNil))))) σ H (RdAt C CR ⟨n, ts, v, w⟩) := fun H1 e Q k =>
  h1 H1 e _ fun H2 e2 => h2 H2 (e.trans e2) _ fun vt H3 e3 mt => h3 H3 ((e.trans e2).trans e3) _ fun vq H4 e4 mq => h4 H4 (((e.trans e2).trans e3).trans e4) _ fun vw H5 e5 mw => by
    intro p dx np ndx nex
    refine ⟨p, dx, n, vt, vq, vw, rfl, upd_same, fun H' eq => ⟨rfl, ?_⟩⟩
    have e6 : Ex H5 H' := by
      rw [eq, upd_upd]
      exact (Ex.new ndx).trans (Ex.new ((upd_ne nex.symm).trans np))
    have hp : H' p = some (.ins CR dx (RdF ⟨n, ts, v, w⟩ vt vq vw)) := by
      rw [eq]
      exact upd_same
    exact k _ H' ((((e2.trans e3).trans e4).trans e5).trans e6) ⟨p, dx, vt, vq, vw, rfl, hp, mono_tm _ _ _ _ ((e4.trans e5).trans e6) mt, mq.mono (e5.trans e6), mw.mono e6⟩
/-- one = left.pop(_law_draw(state, len(left))) -/
theorem q_popDraw {α : Type} {R : α → V → Hp → Prop} {xs : List α} {p : Addr} {j i m is ip : Nat} (W : Wd L H) (hs : L[is]? = some (ThSt st c)) (hp : L[ip]? = some (ThLs R xs p)) (n : is ≠ ip) (kR : KeptN R) (mR : MonoR R) (σj : σ[j]? = some (some (.ref p))) (σi : σ[i]? = some (some (.ref st.1))) (hc : c < cMax) (h0 : 0 < xs.length) (hl : xs.length ≤ 10000)
    (k : ∀ (n : Nat) x v H2, xs[n]? = some x → R x v H2 → Wd ((L.set is (ThSt st (c + 1))).set ip (ThLs R (xs.eraseIdx n) p)) H2 → tz D (σ.set m (some v)) H2) : tSeq (tAsg (tBM K "list" rPopAt (tVar j) (tCons (tCall spDraw3 [] E (tCons (tVar i) (tCons (tCB (rLen2 K) (tCons (tVar j) tNil)) tNil))) tNil)) (gName m)) tz D σ H := by
  obtain ⟨vs, hv, A⟩ := id (W.get ip hp : LsAt R xs p H)
  refine ⟨_, σj, .inl ⟨rfl, _, SqL.of hv⟩, ?_⟩
  refine ⟨_, σi, ?_⟩
  refine ev_lenL (vP (fun v H H' e h => mono_lst mR _ v H H' e h) (W.get ip hp : LsAt R xs p H).lst _ _ j (Ex.refl _) σj) H (Ex.refl _) _ fun H1 e1 => ?_
  have W1 := W.ex e1
  refine ⟨st, c, (xs.length : Int), rfl, W1.get is hs, hc, by omega, fun d H2 d0 d1 s2 f2 => ?_⟩
  have W2 := W1.step is hs (fr_bs f2) rs_st s2
  have hp2 : (L.set is (ThSt st (c + 1)))[ip]? = some (ThLs R xs p) := by rw [List.getElem?_set_ne n]; exact hp
  obtain ⟨i, rfl⟩ : ∃ i : Nat, d = (i : Int) := ⟨d.toNat, (Int.toNat_of_nonneg d0).symm⟩
  have hi : i < xs.length := by omega
  obtain ⟨us, hu, A2⟩ := id (W2.get ip hp2 : LsAt R xs p H2)
  obtain ⟨x, gx⟩ : ∃ x, xs[i]? = some x := ⟨_, List.getElem?_eq_getElem hi⟩
  obtain ⟨v, gv, rv⟩ := A2.get gx
  have hlu := A2.1
  refine ⟨p, us, (i : Int), i, v, rfl, rfl, hu, by omega, by omega, seqIx (by omega), gv, ?_⟩
  have mu : AllMut (Me p) H2 := W2.al ip hp2
  have f3 : FrB (Me p) H2 (upd H2 p (.lst (us.eraseIdx i))) := FrB.upd rfl
  have A6 : AllR R (xs.eraseIdx i) (us.eraseIdx i) H2 := by
    rw [List.eraseIdx_eq_take_drop_succ, List.eraseIdx_eq_take_drop_succ]
    exact allR_app (allR_take i A2) (allR_drop (i + 1) A2)
  exact k i x v _ gx (kR _ _ _ _ _ mu f3 rv) (W2.step ip hp2 f3 (rs_ls kR) ⟨_, upd_same, A6.keptN kR mu f3⟩)
/-- list(xs) of a list -/
theorem q_listL {α : Type} {R : α → V → Hp → Prop} {xs : List α} {p : Addr} {j m ip : Nat} (W : Wd L H) (hp : L[ip]? = some (ThLs R xs p)) (kR : KeptN R) (mR : MonoR R) (σj : σ[j]? = some (some (.ref p)))
    (k : ∀ q H2, Ex H H2 → Wd (L ++ [ThLs R xs q]) H2 → tz D (σ.set m (some (.ref q))) H2) : tSeq (tAsg (tCB (rListS K) (tCons (tVar j) tNil)) (gName m)) tz D σ H := by
  obtain ⟨vs, hv, A⟩ := id (W.get ip hp : LsAt R xs p H)
  refine ⟨_, σj, p, vs, rfl, .inl (SqL.of hv), fun q hq => ?_⟩
  have e := Ex.new (o := .lst vs) hq
  exact k q _ e ((W.ex e).add W (fun b hb => by have hb : b = q := hb; rw [hb]; exact hq) (rs_ls kR) ⟨vs, upd_same, A.mono mR e⟩)
end
end Pn

namespace Pn
open PySem L2 Evl
theorem mono_ls' {α : Type} {R : α → V → Hp → Prop} (m : MonoR R) (xs : List α) : Mono (LstAt R xs) := fun v H H' e h => mono_lst m xs v H H' e h
theorem mono_rd' {C CR : Addr} (r : Rdg) : Mono (RdAt C CR r) := fun v H H' e h => mono_rd r v H H' e h
theorem mono_tm' (ts : List (Str × Int)) : Mono (TmAt ts) := fun v H H' e h => mono_tm ts v H H' e h
theorem ev_addS {s t : Str} {ta tb : TE} {σ : L2.St} {H : Hp} (ha : Ev ta σ H (.str s)) (hb : Ev tb σ H (.str t)) (h : s.length + t.length ≤ sizeLine) : Ev (tOp (fun x y H Q => ∃ i j, x = .str i ∧ y = .str j ∧ i.length + j.length ≤ sizeLine ∧ Q (.str (i ++ j)) H) ta tb) σ H (.str (s ++ t)) := fun H1 e Q k =>
  ha H1 e _ fun H2 e2 => hb H2 (e.trans e2) _ fun H3 e3 => ⟨s, t, rfl, rfl, h, k H3 (e2.trans e3)⟩
theorem erase_perm {α : Type} {xs : List α} {n : Nat} {x : α} (h : xs[n]? = some x) : xs.Perm (x :: xs.eraseIdx n) := by
  rw [List.eraseIdx_eq_take_drop_succ]
  have e := split_at h
  have z : (xs.take n ++ x :: xs.drop (n + 1)).Perm (x :: (xs.take n ++ xs.drop (n + 1))) := List.perm_middle
  rw [← e] at z
  exact z
theorem rds_nodup {rds : List Rdg} (h : ∀ (i : Nat) r, rds[i]? = some r → r.name = rname i) (hl : rds.length ≤ 100) : (rds.map fun r => r.name).Nodup := by
  have e : (rds.map fun r => r.name) = ((List.range 100).map rname).take rds.length := by
    refine List.ext_getElem? fun i => ?_
    rw [List.getElem?_map, List.getElem?_take, List.getElem?_map]
    by_cases hi : i < rds.length
    · rw [if_pos hi, List.getElem?_range (by omega), List.getElem?_eq_getElem hi]
      exact congrArg some (h i _ (List.getElem?_eq_getElem hi))
    · rw [if_neg hi, List.getElem?_eq_none (by omega)]
      rfl
  rw [e]
  exact rnames.sublist (List.take_sublist _ _)
theorem rd_name {rds : List Rdg} (h : ∀ (i : Nat) r, rds[i]? = some r → r.name = rname i) {r : Rdg} (hr : r ∈ rds) : ∃ i, i < rds.length ∧ r.name = rname i := by
  obtain ⟨i, hi, e⟩ := List.mem_iff_getElem.mp hr
  exact ⟨i, hi, h i r (by rw [List.getElem?_eq_getElem hi, e])⟩
theorem rna_ne {i j : Nat} (hi : i < 24) (hj : j < 24) (h : i ≠ j) : rname i ++ ("a" : Str) ≠ rname j ++ ("a" : Str) ∧ rname i ++ ("b" : Str) ≠ rname j ++ ("b" : Str) := by
  have g : ∀ (t : Str), ((List.range 24).map fun k => rname k ++ t).Nodup → ∀ i j, i < 24 → j < 24 → i < j → rname i ++ t ≠ rname j ++ t := fun t nd i j hi hj hij => by
    have z := List.pairwise_iff_getElem.mp nd i j (by simp; exact hi) (by simp; exact hj) hij
    simpa using z
  rcases Nat.lt_or_gt_of_ne h with k | k
  · exact ⟨g _ ranames.1 i j hi hj k, g _ ranames.2 i j hi hj k⟩
  · exact ⟨fun e => g _ ranames.1 j i hj hi k e.symm, fun e => g _ ranames.2 j i hj hi k e.symm⟩
theorem rname_len : ∀ i, i < 24 → (rname i).length + 1 ≤ 100 := by decide +kernel
theorem squares_sm {N : NetV} {p q : Nat} (h : HtOk N p q) : SmB 120000 (squaresQ N) := by
  obtain ⟨⟨l1, l2, l3, w3⟩, ⟨cP, vr⟩, ⟨sx, st⟩, n12, pq⟩ := h
  have vi : VB (p + q + 5) (applyQ N.P N.r) := VB.mv cP vr w3 l2 (by omega)
  have li : (applyQ N.P N.r).length = N.ns.length := by rw [applyQ_len, l3]
  have sd := (VB.dot vr vi l2 li (by omega)).sm
  exact (smB_sub st sd).mono (by omega)
def nmA (s : Str) : Str := s ++ ("a" : Str)
def nmB (s : Str) : Str := s ++ ("b" : Str)
def half : Rat := Rat.divInt 1 2
theorem wok_half : WOk half := ⟨by unfold half; exact smB_divN (by decide) (by decide) (by decide), by unfold half; decide +kernel, by unfold half; decide +kernel⟩
theorem half_two : half + half = 1 := by unfold half; decide +kernel
def twoR (r : Rdg) : List Rdg := [partR half nmA r, partR half nmB r]
theorem two_len : ∀ (rs : List Rdg), (rs.flatMap twoR).length = 2 * rs.length
  | [] => rfl
  | r :: rs => by
    rw [List.flatMap_cons, List.length_append, two_len rs]
    show 2 + _ = _
    rw [List.length_cons]
    omega
end Pn

namespace Pn
open PySem PySem.Spec PyProof.Rows L2
/-! ### // of ints of any size -/
/-- the dict at a has texts as keys alone -/
def nsB (K : PySem.W.Frag) (a : Addr) : Bool := match K.lookup a with
  | some ⟨_, _, .dict es _, _⟩ => es.toList.all fun e => match e.key with | .str _ _ => true | _ => false
  | _ => false
theorem ns_of {K : PySem.W.Frag} {h : Heap} {a : Addr} (X : K.In h) (e : nsB K a = true) : ∃ m, h.Ns a m ∧ ∀ n r, PySem.W.nsIn K a n = some r → m n = r := by
  unfold nsB at e
  split at e
  · rename_i c d es n sl q
    have ho := X _ _ q
    have sk : StrKeys es := fun x hx => by
      have z := List.all_eq_true.mp e x (Array.mem_toList_iff.mpr hx)
      cases hk : x.key with
      | str a b => exact ⟨a, b, rfl⟩
      | _ => rw [hk] at z; cases z
    refine ⟨nsFind es, ⟨_, es, n, ho, rfl, sk, fun _ => rfl⟩, fun nm r e2 => ?_⟩
    unfold PySem.W.nsIn at e2
    rw [q] at e2
    dsimp only at e2
    show (es.find? fun e => e.key.isStr nm).map (·.val) = r
    rw [← Array.find?_toList]
    split at e2
    · rename_i en he
      rw [he]
      cases e2
      rfl
    · rename_i he
      rw [he]
      split at e2
      · cases e2
      · cases e2
        rfl
  · cases e
def pylB (K : PySem.W.Frag) : Bool :=
  nsB K cStatics && (decide (PySem.W.nsIn K cStatics "sys.audit-hooks" = some none) && (decide (PySem.W.nsIn K cStatics "sys.dict" = some none) && (nsB K sysModules && (decide (PySem.W.nsIn K sysModules "_pylong" = some none) &&
  (match PySem.W.nsIn K mainGlobals "__builtins__" with
    | some (some (.ref bm)) => (match K.lookup bm with
      | some o => decide (o.cls = .type "module") && decide (o.dict = some builtinsNs)
      | none => false)
    | _ => false)))))
theorem noSeer_of {K : PySem.W.Frag} {mg : Str → Option Value} {base : Heap} (m : Mod K mg base) (h : pylB K = true) : base.NoSeer := by
  obtain ⟨h1, h⟩ := He.ba h
  obtain ⟨h2, h⟩ := He.ba h
  obtain ⟨h3, h⟩ := He.ba h
  obtain ⟨h4, h⟩ := He.ba h
  obtain ⟨h5, h⟩ := He.ba h
  obtain ⟨mc, n1, f1⟩ := ns_of m.kin h1
  obtain ⟨mm, n2, f2⟩ := ns_of m.kin h4
  refine ⟨⟨mc, n1, f1 _ _ (of_decide_eq_true h2), f1 _ _ (of_decide_eq_true h3)⟩, ⟨mm, n2, f2 _ _ (of_decide_eq_true h5)⟩, m.blt, ?_⟩
  split at h
  · rename_i bm e
    split at h
    · rename_i o q
      obtain ⟨c1, c2⟩ := He.ba h
      exact ⟨mg, bm, o, m.glob, PySem.W.mg_of m.kin m.glob e, m.kin _ _ q, of_decide_eq_true c1, of_decide_eq_true c2⟩
    · cases h
  · cases h
def CNz (_ j : Int) : Prop := j ≠ 0
/-- what the rule asks of the place -/
structure Pl (X : Cx) : Prop where
  pl : pylB X.K = true
  tree : X.prog.given.tree = none
  st : ∃ env l, X.stack = env :: l ∧ env.scope.isGenerator = false ∧ env.scope.isCoroutine = false ∧ env.builtins = builtinsNs ∧ env.globals = mainGlobals
  dp : X.A.depth + Builtin.pylongFrames < recursionLimit
theorem op_fdivP {X : Cx} (p : Pl X) : OpR X (binaryOp .FloorDiv) (rI CNz fun i j => .int (i.fdiv j)) := by
  intro pins s σ H x y v u Q I rx ry h
  obtain ⟨i, j, rfl, rfl, hc, q⟩ := h
  obtain ⟨t, rfl⟩ := rx
  obtain ⟨t', rfl⟩ := ry
  obtain ⟨env, l, es, g1, g2, g3, g4⟩ := p.st
  refine floordiv_int hc ⟨.int (i.fdiv j), H, I.tok _, ⟨_, rfl⟩, q⟩ (.inr ?_)
  exact PySem.PylongRoom.of I.nolimit p.dp (PySem.SeerAt.of ((noSeer_of I.mod p.pl).keeps I.bk) p.tree (by rw [I.ok.frames, es]) g1 g2 g3 g4)
end Pn

namespace PnX
open PySem PySem.W PySem.Calls PyProof.Rows
open PySem.HandSPX (excO)
section
variable {P : Program} {w : World} {K : Frag} {A : Around} {h : Heap} {g : Array GenState} {d : Drawn} {t : Nat} {os : OsState}
/-- ValueError.__init__ bound to an exception, called -/
theorem call_mw {u e C t0 N : Addr} {nm q : Str} {bs bm : List Value} {hdct : Bool} {sn : List Str} {sub : List Value} {ab : Bool} {col : Option Bool} {dd : Option Addr} {k0 k1 k2 k3 k5 : Option Value} {rest : List Value} {Q : Value → Shared → Prop} {E : Value → Shared → Prop}
    (hC : h.get? C = some (excClassObj nm q C N bs bm hdct sn sub ab col dd k0 k1 k2 k3 k5 "ValueError.__new__")) (he : h.get? e = some (excO C t0)) (hu : h.get? u = some (kxs_mw "ValueError.__init__" e)) (hrest : rest.length ≤ sizeLine)
    (hq : ∀ h' t1, (∀ b o, b ≠ e → h.get? b = some o → h'.get? b = some o) → h'.get? e = some (excO C t1) → Q .none ⟨h', g, d, t, os⟩) :
    wpAny (model P w) A (call (.ref u) rest) Q E ⟨h, g, d, t, os⟩ := by
  refine wpAny_call (codeAny_of_tree ?_)
  show wpAny _ A.in1 (callAny (.ref u) ⟨rest, []⟩) _ _ _
  simp only [callAny]
  refine wpAny_bind (wpAny_load hu ?_)
  simp only [kxs_mw, show (Value.type "method-wrapper" == Value.type "method" || Value.type "method-wrapper" == Value.type "builtin_function_or_method" || Value.type "method-wrapper" == Value.type "method-wrapper") = true by decide, if_true]
  refine W.KFB.if_so (by decide) ?_
  refine wpAny_bind (check_bound_init F.excBase_ValueError.toExcCallFacts hC he rfl ?_)
  refine wpAny_bind (wpAny_pure (wpAny_pure ?_))
  refine ⟨Code.quiet_builtin _ (by decide +kernel), codeAny_builtin F.excBase_ValueError.initEntry ?_⟩
  rw [Around.under_plainId F.excBase_ValueError.init.plain _]
  wp_walk
  refine hq _ h.objs.size (fun b o hb ho => ?_) ?_
  · rw [Heap.get?_update_other _ _ (Ne.symm hb)]
    exact Heap.get?_push_of_some _ ho
  · rw [Heap.get?_update_self _ (Heap.get?_push_of_some _ he) rfl]
    rfl
end
section
variable {P : Program} {w : World} {A : Around} {E : Value → Shared → Prop} {s : Shared} {env : Env} {c : Code}
theorem wpAt_supcall {o : Expr} {name : Str} {apos pos : Pos} {args : List Expr} {Q : Value → Shared → Prop} (hform : methodCallForm (args.length + ([] : List Keyword).length) (backTo pos (starEach args env)) (backToKw pos (keywordEach [] env)) = true) (hline : (apos.endLine == pos.line) = true)
    (h : _root_.PySem.wpAt (model P w) A c (attributeBase o name env (eval o env)) (fun ov s₁ => ∀ pl, wpAny (model P w) A (getMethod ov name pl) (fun fx s₂ => wpAny (model P w) A (callWith pos fx.1 fx.2 (backTo pos (starEach args env)) []) Q E s₂) E s₁) E s) :
    _root_.PySem.wpAt (model P w) A c (eval (.Call (.Attribute o name apos) args [] pos) env) Q E s := by
  rw [arm_eval_Call]
  refine _root_.PySem.wpAt_bind (_root_.PySem.wpAt_mono h (fun ov s₁ h₁ => _root_.PySem.wpAt_of_wpAny ?_) fun _ _ x => x)
  refine wpAny_bind (wpAny_standAt ?_)
  have hpos : methodCallPos true o env apos pos = pure pos := by unfold methodCallPos; simp [hline]
  unfold methodCall
  rw [hform]
  refine wpAny_bind (wpAny_holding (wpAny_mono (h₁ _) (fun fx s₂ h₂ => ?_) fun _ _ x => x))
  exact wpAny_bind (wpAny_of_eq hpos h₂)
end
/-- what a def of the shape `def __init__(self): super().__init__("..")` in the class at C is, by the written part -/
structure SupI (P : Program) (K : Frag) (C f : Addr) : Prop where
  ex : ∃ (oc : Value) (od : Option Addr) (osl : Array (Option Value)) (fd : FuncData) (cc cda : Addr) (scope : Scope) (m : Str) (j : Nat) (p0 p1 p2 p3 p4 p5 : Pos) (cl : Value) (cld : Option Addr) (csl : Array (Option Value)) (occ : Value) (cdd : Option Addr) (vs : Array Value) (ccs : Array (Option Value)) (file : Str) (tf : Tok) (cd : ClassData) (ar : Arg),
    K.lookup f = some ⟨oc, od, .func fd, osl⟩ ∧ fd.body = .stmts [.Expr (.Call (.Attribute (.Call (.Name "super" p0) [] [] p1) "__init__" p2) [.Constant (.str m) j p3] [] p4) p5] ∧ fd.scope = scope ∧ fd.globals = mainGlobals ∧ fd.builtins = builtinsNs ∧ fd.closure = [(("__class__" : Str), cc)] ∧
    fd.code = .ref cda ∧ codeIn K fd.code fd.qualname = true ∧ (∀ v, bindArgs fd ⟨[v], []⟩ = pure [(("self" : Str), v)]) ∧ (fd.params.posonlyargs ++ fd.params.args).head? = some ar ∧ ar.arg = "self" ∧
    K.lookup cc = some ⟨cl, cld, .cell (some (.ref C)), csl⟩ ∧ K.lookup cda = some ⟨occ, cdd, .fields vs, ccs⟩ ∧ vs[2]? = some (.str file tf) ∧ ((P.main.file : Str) == file) = true ∧
    clsIn K C = some cd ∧ alongIn K "__init__" ((cd.mro.dropWhile (· != .ref C)).drop 1) = some (some (.builtin "ValueError.__init__")) ∧
    (p2.endLine == p4.line) = true ∧ scope.kind = .function ∧ scope.isCoroutine = false ∧ scope.isGenerator = false ∧ scope.names.lookup ("super" : Str) = some .globalImplicit ∧ scope.names.lookup ("__class__" : Str) = some .free ∧ scope.names.lookup ("self" : Str) = some .local ∧ (∀ x ∈ scope.names, x.2 ≠ .cell)
  sup : (P.main.scope.names.lookup ("super" : Str)).isSome = false
  opq : nsIn K cStatics "thirdparty.any" = some none
  mro : mroIn K C (.ref C) = some true
  sbe : subIn K (.ref C) (.type "ValueError") = some true
section
variable {P : Program} {w : World} {K : Frag} {A : Around} {h : Heap} {g : Array GenState} {d : Drawn} {t : Nat} {os : OsState} {R : Result → Shared → Prop} {mg mb : Str → Option Value}
theorem init_sup {C f e t0 N : Addr} {nm q : Str} {bs bm : List Value} {hdct : Bool} {sn : List Str} {sub : List Value} {ab : Bool} {col : Option Bool} {dd : Option Addr} {k0 k1 k2 k3 k5 : Option Value}
    (S : SupI P K C f) (X : K.In h) (G : h.Ns mainGlobals mg) (hm : mg "super" = none) (B : h.Ns builtinsNs mb) (hb : mb "super" = some (.type "super")) (lim : h.NoLimit) (hroom : A.depth < recursionLimit)
    (hC : h.get? C = some (excClassObj nm q C N bs bm hdct sn sub ab col dd k0 k1 k2 k3 k5 "ValueError.__new__")) (he : h.get? e = some (excO C t0))
    (hq : ∀ h' t1 tk, (∀ b o, b ≠ e → h.get? b = some o → h'.get? b = some o) → h'.get? e = some (excO C t1) → R (.ok (.ret .none)) ⟨h', g, d, tk, os⟩) :
    codeAny (model P w) A (.call (.ref f) ⟨[.ref e], []⟩) R ⟨h, g, d, t, os⟩ := by
  obtain ⟨oc, od, osl, fd, cc, cda, scope, m, j, p0, p1, p2, p3, p4, p5, cl, cld, csl, occ, cdd, vs, ccs, file, tf, cd, ar, lk, hbody, hsc, hgl, hbl, hcl, hcode, hcd, hbind, hp, har, hcell, hcda, hvs, hfile, hcls, hal, hline, hk, hco, hgen, hks, hkc, hka, hnc⟩ := S.ex
  have hself := har
  have hD : ∃ oD, h.get? C = some oD ∧ oD.data = .cls cd := by
    unfold clsIn at hcls
    split at hcls
    · rename_i c d cd' sl ho
      cases hcls
      exact ⟨_, X _ _ ho, rfl⟩
    · cases hcls
  obtain ⟨oD, hD1, hD2⟩ := hD
  refine ks_codeAny_call_defAt (fd := fd) (binds := [(("self" : Str), Value.ref e)]) hroom (X _ _ lk) rfl lim (codeRec_of X hcd) hbody (.of_eq (hbind _)) (by rw [hsc]; exact hnc) (by rw [hsc]; intro x hx; rw [List.mem_singleton.mp hx]; exact hka) (fun h₀ hns hk₁ => ?_) (by rw [hsc]; exact hco) (by rw [hsc]; exact hgen) (by rw [hsc]; exact hk)
  have henv : callEnv fd h.objs.size f = ksEnv fd.qualname scope h.objs.size f (.ref cda) cc := by
    unfold callEnv newEnv
    rw [hsc, hgl, hcl, hbl, hcode]
  show _root_.PySem.wpAt _ (A.deeper (callEnv fd h.objs.size f)) (.func _ (callEnv fd h.objs.size f)) (execs _ (callEnv fd h.objs.size f)) _ _ _
  rw [henv]
  have X0 : K.In h₀ := X.keeps hk₁
  have he0 := hk₁ _ _ he
  have hself2 : (fun x => ([(("self" : Str), Value.ref e)] : List (Str × Value)).reverse.lookup x) ar.arg = some (.ref e) := by
    rw [har]
    rfl
  have hint : interactive (ksEnv fd.qualname scope h.objs.size f (.ref cda) cc) = false := by
    show (scope.kind == .module && _) = false
    rw [hk]
    rfl
  refine ks_wpAt_execs_cons (ks_wpAt_Expr_any (wpAt_supcall (args := [.Constant (.str m) j p3]) (env := ksEnv fd.qualname scope h.objs.size f (.ref cda) cc) (pos := p4) rfl hline ?_) hint)
  refine ks_wpAt_super_base (env := ksEnv fd.qualname scope h.objs.size f (.ref cda) cc) hks hkc (by decide +kernel) rfl (X0 _ _ lk) rfl hp rfl (X0 _ _ hcda) rfl hvs hfile S.sup ?_
  refine ks_loadName_global hk hks (loadGlobal_builtin (env := ksEnv fd.qualname scope h.objs.size f (.ref cda) cc) (G.keeps hk₁) hm (B.keeps hk₁) hb ⟨rfl, ?_⟩)
  refine wpAny_loadName_free hk hkc rfl ⟨_, X0 _ _ hcell, rfl⟩ ?_
  refine wpAny_loadName_local hk (by rw [har]; exact hka) hns hself2 ?_
  refine ks_wpAny_isType_cls (hk₁ _ _ hD1) hD2 ⟨rfl, ?_⟩
  refine ks_wpAny_call_super (hk₁ _ _ hD1) hD2 he0 rfl (fun c e => nomatch e) (looks_mroIn X0 S.mro) (fun h1 e1 k1 pl => ?_)
  have X1 : K.In h1 := X0.keeps k1
  have he1 := k1 _ _ he0
  have hCe : e ≠ C := fun z => by
    rw [z, hD1] at he
    cases he
    exact nomatch hD2
  have I1 : InstAt h1 e (excO C t0) C none := ⟨he1, rfl, rfl, trivial⟩
  refine kxs_getMethod kxs_ValueError e1 (looks_opaque X1 S.opq) (l₀ := cd.mro) (fun A Q E s k q => wpAny_bind ((looks_clsIn X1 hcls) A _ E s k (wpAny_pure q))) rfl X1 hal (I1.type.andThen (looks_subIn X1 S.sbe)) hCe (by decide +kernel) ?_
  have k2 : ∀ b o, h1.get? b = some o → (h1.push (kxs_mw "ValueError.__init__" e)).get? b = some o := fun b o z => Heap.get?_push_of_some _ z
  refine kxs_callWith (i := "ValueError.__init__") (x := e) rfl (evalArgs_plain (spliced_cons (Constant_str (k := j) (pos := p3) (spliced_nil ⟨Heap.get?_push_size _ rfl, ?_⟩))))
  refine call_mw (k2 _ _ (k1 _ _ (hk₁ _ _ hC))) (k2 _ _ he1) (Heap.get?_push_size _ rfl) (by show 1 ≤ sizeLine; rw [sizeLine_eq]; omega) (fun h2 t1 k3 e3 => ?_)
  show _root_.PySem.wpAt _ _ _ (execs [] _) _ _ _
  exact _root_.PySem.wpAt_of_wpAny (wpAny_execs_nil (hq _ _ _ (fun b o hb z => k3 b o hb (k2 _ _ (k1 _ _ (hk₁ _ _ z)))) e3))
end
end PnX
namespace Pn
open PySem PySem.Spec PyProof.Rows L2 Evl PnX
section
variable {X : Cx} {x : Str} {C f : Addr} {p pos : Pos}
/-- an own exception made of nothing, its __init__ saying super().__init__("..") -/
theorem pmk_sup (T : OexC X.K C) (S : SupI X.prog X.K C f) (iC : PySem.W.findIn X.K (.ref C) "__init__" = some (some (.ref f))) (tI : PySem.W.typeIn X.K (.ref f) = some (.type "function")) (hr : Room 1 X.A) (hm : X.mg x = some (.ref C)) (hsup : X.mg "super" = none) (hg : Gl X x := by rfl)
    (hdb : (x == ("__debug__" : Str)) = false := by decide) : PMk X (.Call (.Name x p) [] [] pos) (fun _ H Q => Q (.ref C) none H) := by
  intro pins s σ H Q I h
  obtain ⟨nm, q, N, bs, bm, sn, sub, ab, col, dd, k0, k1, k2, k3, k5, hC, hbm⟩ := T.cls
  refine wpAny_Call_Name_kw (ld_glob I hg hm ?_ hdb)
  refine PySem.W.callWith_K0 I.kIn T.kC ?_
  show wpAny _ _ (call (.ref C) []) _ _ _
  have bk := I.bk
  obtain ⟨mb, hb1, hb2⟩ := I.ok.mod.blt
  have hb1 := hb1.keeps bk
  have hgl := I.ok.mod.glob.keeps bk
  have lim := I.nolimit
  have kin := I.kIn
  have fr := I.hok.fresh (a := s.heap.objs.size + 1) (Nat.le_succ _)
  have hb3 : mb "super" = some (.type "super") := (hb2 _ (by decide +kernel)).trans (by rfl)
  obtain ⟨hp, g, dr, tk, os⟩ := s
  have k1' : ∀ b o, hp.get? b = some o → ((hp.push (PySem.W.kdv_tup [])).push (PySem.HandSPX.excO C hp.objs.size)).get? b = some o := fun b o e => Heap.get?_push_of_some _ (Heap.get?_push_of_some _ e)
  have hget : ((hp.push (PySem.W.kdv_tup [])).push (PySem.HandSPX.excO C hp.objs.size)).get? (hp.objs.size + 1) = some (PySem.HandSPX.excO C hp.objs.size) := by heap_get
  have hn : hp.get? (hp.objs.size + 1) = none := by
    cases z : hp.get? (hp.objs.size + 1) with
    | none => rfl
    | some o =>
      exact absurd (Heap.lt_size z) (Nat.not_lt.mpr (Nat.le_succ _))
  refine wpAny_call (PySem.HandSPX.call_own F.excBase_ValueError (fun Y => PySem.HandSPX.refsVE_contains Y bm hbm) (kin _ _ hC) (PySem.W.looks_findIn kin iC) (fun self => PySem.W.bind_fn kin self tI) (Nat.zero_le _) ?_)
  refine init_sup S (kin.keeps k1') (hgl.keeps k1') hsup (hb1.keeps k1') hb3 (lim.keeps k1') (hr.make C [] []).depth (k1' _ _ (kin _ _ hC)) hget (fun h' t1 tk' k2' e2 => ?_)
  refine ⟨rfl, hp.objs.size + 1, _, _, ⟨hp, g, dr, tk, os⟩, H, .ref C, none, rfl, I, fun b o z => k2' b o (fun y => ?_) (k1' b o z), hn, e2, ⟨rfl, rfl⟩, rfl, rfl, fr, rfl, I.bare, raises_own T.exC T.tyC, h⟩
  rw [y, hn] at z
  cases z
end
/-- a def that may raise -/
structure FnX (P : Program) (w : World) (K : PySem.W.Frag) (mg : Str → Option Value) (base : Heap) (k : Nat) (f : Addr) (ps : List Str) (sp : Sp) : Prop where
  ex : ∃ fd, FnOk P w K mg base (L2.CX P w) k f fd ps sp ∧ Binds K fd ps []
  kp : PySem.W.keepIn K (.ref f) = true
def tMakeS (C : Addr) (sp : Sp) (E : L2.St → XK) (t : TA) : TE := fun σ H Q => t σ H fun vs H1 => ∀ x dx, H1 x = none → H1 dx = none → dx ≠ x → sp (.ref x :: vs) (upd (upd H1 dx (.own x)) x (.ins C dx [])) (fun v H2 => v = .non ∧ Q (.ref x) H2) (E σ)
def tMethS (C : Addr) (m : Str) (sp : Sp) (E : L2.St → XK) (ta : TE) (t : TA) : TE := fun σ H Q => ta σ H fun x H1 => ∃ a dx fs, x = .ref a ∧ H1 a = some (.ins C dx fs) ∧ fs.lookup m = none ∧ t σ H1 fun vs H2 => sp (x :: vs) H2 Q (E σ)
section
variable {X : Cx} {W : WX} {k : Nat} {f C : Addr} {ps : List Str} {sp : Sp} {x m : Str} {p pos apos : Pos} {e o : Expr} {es : List Expr} {ta : TE} {t : TA}
theorem run_makeS {CX : CXT} {E : XK} {fd : FuncData} {pins : List (Addr × Obj)} {σ : L2.St} {H : Hp} {s : Shared} {Q : VK} {us : List Value} {vs : List V} (M : Mk X.K C f) (F : FnOk X.prog X.w X.K X.mg X.base CX k f fd ps sp) (hr : Room (k + 1) X.A) (hb : Binds X.K fd ps [])
    (hx : PassesAt CX X σ E) (I : Inv X pins σ H s) (r : Vals vs us)
    (h : ∀ x dx, H x = none → H dx = none → dx ≠ x → sp (.ref x :: vs) (upd (upd H dx (.own x)) x (.ins C dx [])) (fun v H2 => v = .non ∧ Q (.ref x) H2) E) :
    wpAny (model X.prog X.w) X.A (call (.ref C) us) (EP X pins σ Q) X.xe s := by
  have hq := h (s.heap.objs.size + 1) s.heap.objs.size (I.hok.fresh (Nat.le_succ _)) (I.hok.fresh (Nat.le_refl _)) (Nat.ne_of_lt (Nat.lt_succ_self _))
  have I2 := Inv.made (C := C) I
  have r2 : Vals (V.ref (s.heap.objs.size + 1) :: vs) (Value.ref (s.heap.objs.size + 1) :: us) := .cons rfl r
  have hl : (Value.ref (s.heap.objs.size + 1) :: us).length = ps.length := by
    have e := r2.length
    rw [F.len _ _ _ _ hq] at e
    exact e.symm
  have b := hb _ (Value.ref (s.heap.objs.size + 1) :: us) I2.kIn (by rw [List.append_nil]; exact hl)
  rw [List.append_nil] at b
  refine wpAny_call (make_map (f := f) I.kIn M.makes M.init (beq_iff_eq.mp M.fn) (codeAny_mono (F.run _ X.stack _ _ ⟨Value.ref (s.heap.objs.size + 1) :: us, []⟩ (Value.ref (s.heap.objs.size + 1) :: us) _ _ E (hr.make C us [])
    (I2.env0.make C us []) b r2 hq) fun r s' hq' => ?_))
  cases r with
  | error e => exact hx pins _ _ e s' I2 hq'
  | ok fl =>
    cases fl with
    | ret u =>
      obtain ⟨v, H', I3, rv, ev, q3⟩ := I2.after hq'
      subst ev
      exact ⟨rv, ⟨V.ref (s.heap.objs.size + 1), H', I3, rfl, q3⟩⟩
    | next => exact False.elim hq'
    | brk => exact False.elim hq'
    | cont => exact False.elim hq'
theorem pe_makeS (M : Mk X.K C f) (F : FnX X.prog X.w X.K X.mg X.base k f ps sp) (hr : Room (k + 1) X.A) (hm : X.mg x = some (.ref C)) (tk : Takes X W) (ha : PA X (e :: es) t) (hg : Gl X x := by rfl)
    (hdb : (x == ("__debug__" : Str)) = false := by decide) (he : starEach (e :: es) X.env = (false, eval e X.env) :: starEach es X.env := by rfl) (hpl : (backTo pos (starEach es X.env)).any (·.1) = false := by rfl) :
    PE X (.Call (.Name x p) (e :: es) [] pos) (tMakeS C sp (WE W) t) := by
  obtain ⟨fd, F1, b⟩ := F.ex
  refine ⟨fun pins s σ H Q I h => ?_⟩
  refine wpAny_Call_Name_kw (ld_glob I hg hm ?_ hdb)
  refine PySem.W.callWith_K (h₀ := X.base) I.ok.mod.kin M.kp (thn (ha.run pos pins s σ H _ I h) fun us s1 ⟨vs, H1, I1, r, q⟩ => ⟨I1.kIn, ?_⟩) he hpl
  exact run_makeS M F1 hr b (passAt tk σ) I1 r q
theorem pe_methS {pl : Sem Bool} (he : PE X o ta) (c : Cls X.K C) (hm : Meth X.K C m f) (F : FnX X.prog X.w X.K X.mg X.base k f ps sp) (hr : Room k X.A) (tk : Takes X W) (ha : PA X (e :: es) t)
    (hst : starEach (e :: es) X.env = (false, eval e X.env) :: starEach es X.env := by rfl) (hpl : (backTo pos (starEach es X.env)).any (·.1) = false := by rfl)
    (ht : eval (.Call (.Attribute o m apos) (e :: es) [] pos) X.env = (do
      let ov ← eval o X.env
      standAt apos.atName
      let (f, first) ← holding [ov] (getMethod ov m pl)
      callWith pos f first (backTo pos (starEach (e :: es) X.env)) (backToKw pos (keywordEach [] X.env))) := by rfl) :
    PE X (.Call (.Attribute o m apos) (e :: es) [] pos) (tMethS C m sp (WE W) ta t) := by
  obtain ⟨fd, F1, b⟩ := F.ex
  refine ⟨fun pins s σ H Q I h => ?_⟩
  refine PySem.W.methodCall_KW (pl := pl) (thn (he.run pins s σ H _ I h) fun u s1 ⟨x, H1, I1, rx, a, dx, fs, ex, ea, l, q⟩ => ?_) ht
  subst ex
  obtain rfl : u = Value.ref a := rx
  refine getmeth_ok I1 ea c hm l ?_
  refine PySem.W.callWith_K (first := [.ref a]) (h₀ := X.base) I.ok.mod.kin hm.kp (thn (ha.run pos pins s1 σ H1 _ I1 q) fun us s2 ⟨vs, H2, I2, r, q2⟩ => ⟨I2.kIn, ?_⟩) hst hpl
  exact run_fnS (E := WE W) (us := .ref a :: us) (vs := .ref a :: vs) F1 hr b (passAt tk σ) I2 (.cons rfl r) q2
end
/-- Ratio(t, 0): the exception of the class at Z -/
def spInitZ (C Z : Addr) : Sp := fun vs H _ E => ∃ (p dx : Addr) (t : Int), vs = [.ref p, .int t, .int 0] ∧ H p = some (.ins C dx []) ∧ E (.ref Z) none H
/-- a fraction divided by 0 -/
def spOverZ (C Z : Addr) : Sp := fun vs H _ E => ∃ (x y : V) (p : Rat), vs = [x, y] ∧ RatAt C H x p ∧ RatAt C H y 0 ∧ Ok2 p 0 ∧ ∀ H', Ex H H' → E (.ref Z) none H'
end Pn

namespace Pn
open PySem PySem.Spec PyProof.Rows L2 PnX
/-! ### defs with a closure, as the head leaves them -/
abbrev InW : Type := Option (Str × Arguments × FuncBody × Scope × Addr × List Str × Addr)
structure InD where
  at_ : Str × Option Str
  qual : Str
  params : Arguments
  body : List Stmt
  scope : Scope
  sta : Bool := false
/-- the function within a static method -/
def smA (K : PySem.W.Frag) (p : Addr) : Addr := match PySem.W.recIn K p "staticmethod" with
  | some (.ref g :: _) => g
  | _ => 0
def adW (K : PySem.W.Frag) (d : InD) : Addr := if d.sta then smA K (He.fAd K d.at_) else He.fAd K d.at_
def inW (K : PySem.W.Frag) (d : InD) : InW := match K.lookup (adW K d) with
  | some ⟨_, _, .func fd, _⟩ => some (fd.qualname, fd.params, fd.body, fd.scope, fd.globals, fd.closure.map (·.1), fd.builtins)
  | _ => none
def InD.val (d : InD) : InW := some (d.qual, d.params, .stmts d.body, d.scope, mainGlobals, if d.sta then [] else [("__class__" : Str)], builtinsNs)
/-- the module of the builtins, as the program's own names tell it -/
def bmOf (g : Addr → Option Obj) : Addr := match g mainGlobals with
  | some ⟨_, _, .dict es _, _⟩ => (match es.toList.find? (·.key.isStr "__builtins__") with
    | some e => (match e.val with
      | .ref a => a
      | _ => 0)
    | none => 0)
  | _ => 0
/-- the written part, and the namespaces that super() and a division of great ints look into -/
def asY (g : Addr → Option Obj) (n : Nat) : List Addr := cStatics :: sysModules :: bmOf g :: He.asD g n
def obsY (n : Nat) (fa : List He.Fa) (fn : List He.DefD) (ex : PySem.W.Frag → Bool) (ins : List InD) (g : Addr → Option Obj) : He.AlX × List InW := ((He.obsT fa fn [] (He.frT g (asY g n)), ex (He.frT g (asY g n))), ins.map fun d => inW (He.frT g (asY g n)) d)
def hookY (n : Nat) (fa : List He.Fa) (fn : List He.DefD) (ex : PySem.W.Frag → Bool) (ins : List InD) : PySem.W.Hook where
  α := He.AlX × List InW
  obs := fun s => obsY n fa fn ex ins s.heap.get?
  val := fun w => (He.valX fn [] w, ins.map InD.val)
  says := fun w h => ∃ K : PySem.W.Frag, K.In h ∧ He.SaysX fa fn [] [] ex w h K ∧ (ins.map fun d => inW K d) = ins.map InD.val
  of := fun _ _ e => ⟨_, He.frT_in, ⟨congrArg (fun z : He.AlX × List InW => z.1.1) e, congrArg (fun z : He.AlX × List InW => z.1.2) e, (fun _ h => nomatch h), (fun _ h => nomatch h), (fun _ h => nomatch h)⟩, congrArg (fun z : He.AlX × List InW => z.2) e⟩
  keeps := fun _ _ _ ⟨K, hK, c, e⟩ k => ⟨K, PySem.W.Frag.In.keeps hK k, ⟨c.t, c.more, c.hd, c.out, fun p hp => k _ _ (c.empty p hp)⟩, e⟩
theorem obsY_eq {n : Nat} {fa : List He.Fa} {fn : List He.DefD} {ex : PySem.W.Frag → Bool} {ins : List InD} {g : Addr → Option Obj} {s : Shared} (h : ∀ a, g a = s.heap.get? a) : obsY n fa fn ex ins g = (hookY n fa fn ex ins).obs s := by
  have e : g = s.heap.get? := funext h
  rw [e] <;> rfl
/-! ### an own exception class -/
def oexB (K : PySem.W.Frag) (C : Addr) : Bool := match K.lookup C with
  | some ⟨.type "type", _, .cls cd, sl⟩ => (match cd.mro, sl.toList with
    | .ref C' :: bm, [_, _, _, _, some (.builtin n), _] => C' == C && n == "ValueError.__new__" && !cd.hasDel && cd.hasDict && PySem.HandSPX.refsVE bm
    | _, _ => false)
  | _ => false
theorem oex_of {K : PySem.W.Frag} {C : Addr} (q : oexB K C = true) : ∃ nm q N bs bm sn sub ab col dd k0 k1 k2 k3 k5, K.lookup C = some (excClassObj nm q C N bs bm true sn sub ab col dd k0 k1 k2 k3 k5 "ValueError.__new__") ∧ PySem.HandSPX.refsVE bm = true := by
  unfold oexB at q
  split at q
  · rename_i dd cd sl ho
    split at q
    · rename_i C' bm k0 k1 k2 k3 n k5 hm hs
      simp only [Bool.and_eq_true, beq_iff_eq, Bool.not_eq_true'] at q
      obtain ⟨⟨⟨⟨rfl, rfl⟩, hdel⟩, hdict⟩, ht⟩ := q
      obtain ⟨nm, bs, mro, ns, qn, hd, sn, sub, ab, col, del⟩ := cd
      dsimp only at hm hdel hdict
      subst hm hdel hdict
      have hsl : sl = #[k0, k1, k2, k3, some (.builtin "ValueError.__new__"), k5] := by
        obtain ⟨l⟩ := sl
        simp only at hs
        rw [hs]
      subst hsl
      exact ⟨nm, qn, ns, bs, bm, sn, sub, ab, col, dd, k0, k1, k2, k3, k5, ho, ht⟩
    · cases q
  · cases q
/-- all that is asked of the class at C, f its __init__ -/
def supB (K : PySem.W.Frag) (FILE : Str) (C f : Addr) : Bool :=
  (match K.lookup f with
  | some ⟨_, _, .func fd, _⟩ => decide (fd.defaults = .none) && (PySem.W.codeIn K fd.code fd.qualname && ((match fd.closure with
      | [(_, cc)] => (match K.lookup cc with
        | some ⟨_, _, .cell (some (.ref D)), _⟩ => D == C
        | _ => false)
      | _ => false) && (match fd.code with
      | .ref c => (match K.lookup c with
        | some ⟨_, _, .fields vs, _⟩ => (match (vs[2]? : Option Value) with
          | some (Value.str file _) => FILE == file
          | _ => false)
        | _ => false)
      | _ => false)))
  | _ => false) && (decide (PySem.W.nsIn K cStatics "thirdparty.any" = some none) && (decide (PySem.W.mroIn K C (.ref C) = some true) && (decide (PySem.W.subIn K (.ref C) (.type "ValueError") = some true) &&
  (decide (PySem.W.ks_superIn K C C "__init__" = some (some (.builtin "ValueError.__init__"))) && (decide (PySem.W.findIn K (.ref C) "__init__" = some (some (.ref f))) && (decide (PySem.W.typeIn K (.ref f) = some (.type "function")) &&
  (oexB K C && (decide (PySem.W.findIn K (.ref C) "__setattr__" = some (some (.builtin "object.__setattr__"))) && (decide (PySem.W.subIn K (.ref C) (.type "BaseException") = some true) && (decide (PySem.W.typeIn K (.ref C) = some (.type "type")) && PySem.W.keepIn K (.ref C)))))))))))
structure ZDX (P : Program) (K : PySem.W.Frag) (C f : Addr) : Prop where
  ox : OexC K C
  su : SupI P K C f
  ic : PySem.W.findIn K (.ref C) "__init__" = some (some (.ref f))
  ti : PySem.W.typeIn K (.ref f) = some (.type "function")
theorem zdx_of {P : Program} {K : PySem.W.Frag} {FILE : Str} {x : Str} {d : InD} {m : Str} {j : Nat} {p0 p1 p2 p3 p4 p5 : Pos} {ar : Arg} (hat : d.at_ = (x, some ("__init__" : Str))) (hst : d.sta = false) (hI : inW K d = d.val) (q : supB K FILE (He.ga K x) (He.ma K (He.ga K x) "__init__") = true)
    (hb : d.body = [.Expr (.Call (.Attribute (.Call (.Name "super" p0) [] [] p1) "__init__" p2) [.Constant (.str m) j p3] [] p4) p5]) (hl : (p2.endLine == p4.line) = true)
    (hbd : ∀ (fd : FuncData) (v : Value), fd.params = d.params → fd.defaults = .none → bindArgs fd ⟨[v], []⟩ = pure [(("self" : Str), v)]) (hp : (d.params.posonlyargs ++ d.params.args).head? = some ar) (har : ar.arg = "self")
    (hk : d.scope.kind = .function) (hco : d.scope.isCoroutine = false) (hgen : d.scope.isGenerator = false) (hks : d.scope.names.lookup ("super" : Str) = some .globalImplicit) (hkc : d.scope.names.lookup ("__class__" : Str) = some .free) (hka : d.scope.names.lookup ("self" : Str) = some .local) (hnc : ∀ x ∈ d.scope.names, x.2 ≠ .cell)
    (hP1 : ((P.main.file : Str) == FILE) = true) (hP2 : (P.main.scope.names.lookup ("super" : Str)).isSome = false) : ZDX P K (He.ga K x) (He.ma K (He.ga K x) "__init__") := by
  have hf : adW K d = He.ma K (He.ga K x) "__init__" := by unfold adW; rw [hst, hat]; rfl
  unfold inW InD.val at hI
  rw [hf, hst] at hI
  generalize He.ga K x = C at q hI ⊢
  generalize He.ma K C "__init__" = f at q hI ⊢
  unfold supB at q
  obtain ⟨q1, q⟩ := He.ba q
  obtain ⟨q2, q⟩ := He.ba q
  obtain ⟨q3, q⟩ := He.ba q
  obtain ⟨q4, q⟩ := He.ba q
  obtain ⟨q5, q⟩ := He.ba q
  obtain ⟨q6, q⟩ := He.ba q
  obtain ⟨q7, q⟩ := He.ba q
  obtain ⟨q8, q⟩ := He.ba q
  obtain ⟨q9, q⟩ := He.ba q
  obtain ⟨q10, q⟩ := He.ba q
  obtain ⟨q11, q12⟩ := He.ba q
  refine ⟨⟨oex_of q8, of_decide_eq_true q9, of_decide_eq_true q10, of_decide_eq_true q11, q12⟩, ⟨?_, hP2, of_decide_eq_true q2, of_decide_eq_true q3, of_decide_eq_true q4⟩, of_decide_eq_true q6, of_decide_eq_true q7⟩
  cases hlk : K.lookup f with
  | none => rw [hlk] at q1; cases q1
  | some o =>
    obtain ⟨oc, od, dt, osl⟩ := o
    rw [hlk] at q1 hI
    cases dt with
    | func fd =>
      have e := Option.some.inj hI
      have a1 : fd.params = d.params := congrArg (fun z => z.2.1) e
      have a2 : fd.body = .stmts d.body := congrArg (fun z => z.2.2.1) e
      have a3 : fd.scope = d.scope := congrArg (fun z => z.2.2.2.1) e
      have a4 : fd.globals = mainGlobals := congrArg (fun z => z.2.2.2.2.1) e
      have a5 : fd.closure.map (·.1) = [("__class__" : Str)] := congrArg (fun z => z.2.2.2.2.2.1) e
      have a6 : fd.builtins = builtinsNs := congrArg (fun z => z.2.2.2.2.2.2) e
      dsimp only at q1
      obtain ⟨r1, r⟩ := He.ba q1
      obtain ⟨r2, r⟩ := He.ba r
      obtain ⟨r3, r4⟩ := He.ba r
      have r1 := of_decide_eq_true r1
      have q5 := of_decide_eq_true q5
      unfold PySem.W.ks_superIn at q5
      cases hcd : PySem.W.clsIn K C with
      | none => rw [hcd] at q5; cases q5
      | some cd =>
        rw [hcd] at q5
        cases hcl : fd.closure with
        | nil => rw [hcl] at a5; cases a5
        | cons a l =>
          cases l with
          | cons b l => rw [hcl] at a5; exact absurd (congrArg List.length a5) (by simp)
          | nil =>
            obtain ⟨nm, cc⟩ := a
            rw [hcl] at a5 r3
            have en : nm = ("__class__" : Str) := List.cons.inj a5 |>.1
            subst en
            dsimp only at r3
            cases hcc : K.lookup cc with
            | none => rw [hcc] at r3; cases r3
            | some oc2 =>
              obtain ⟨cl, cld, cdt, csl⟩ := oc2
              rw [hcc] at r3
              cases cdt with
              | cell v =>
                cases v with
                | none => cases r3
                | some v =>
                  cases v with
                  | ref D =>
                    have eD : D = C := beq_iff_eq.mp r3
                    subst eD
                    cases hco2 : fd.code with
                    | ref cda =>
                      rw [hco2] at r4
                      dsimp only at r4
                      cases hca : K.lookup cda with
                      | none => rw [hca] at r4; cases r4
                      | some oc3 =>
                        obtain ⟨occ, cdd, fdt, ccs⟩ := oc3
                        rw [hca] at r4
                        cases fdt with
                        | fields vs =>
                          dsimp only at r4
                          cases hv : vs[2]? with
                          | none => rw [hv] at r4; cases r4
                          | some u =>
                            rw [hv] at r4
                            cases u with
                            | str file tf =>
                              have e1 : FILE = file := beq_iff_eq.mp r4
                              rw [e1] at hP1
                              exact ⟨oc, od, osl, fd, cc, cda, d.scope, m, j, p0, p1, p2, p3, p4, p5, cl, cld, csl, occ, cdd, vs, ccs, file, tf, cd, ar, rfl, by rw [a2, hb], a3, a4, a6, hcl, hco2, r2, fun v => hbd fd v a1 r1, by rw [a1]; exact hp, har, hcc, hca, hv, hP1, rfl, q5, hl, hk, hco, hgen, hks, hkc, hka, hnc⟩
                            | _ => cases r4
                        | _ => cases r4
                    | _ => rw [hco2] at r4; cases r4
                  | _ => cases r3
              | _ => cases r3
    | _ => cases q1
end Pn
namespace Pn
open PySem PySem.Spec PyProof.Rows L2 PnX
theorem pss_and {X : Cx} {l : List Stmt} {t : TS} {p : Prop} (h : p → PSs X l t) : PSs X l (fun D σ H => p ∧ t D σ H) := ⟨fun pins s σ H D I q => (h q.1).run pins s σ H D I q.2⟩
def excCB (K : PySem.W.Frag) (D : Addr) : Bool := decide (PySem.W.findIn K (.ref D) "__getattribute__" = some (some (.builtin "BaseException.__getattribute__"))) && (decide (PySem.W.findIn K (.ref D) "__getattr__" = some none) && (decide (PySem.W.subIn K (.ref D) (.type "BaseException") = some true) && (PySem.W.hasDictIn K D &&
  (decide (PySem.W.findIn K (.ref D) "__class__" = some (some (.builtin "object.__class__"))) && (decide (PySem.W.specialIn K (.builtin "object.__class__") "__get__" = some (some (.builtin "getset_descriptor.__get__"))) && (decide (PySem.W.takesIn K (.builtin "object.__class__") = some true) && decide (PySem.W.mroIn K D (.type "object") = some true)))))))
theorem excC_of {K : PySem.W.Frag} {D : Addr} (q : excCB K D = true) : ExcC K D := by
  unfold excCB at q
  obtain ⟨q1, q⟩ := He.ba q
  obtain ⟨q2, q⟩ := He.ba q
  obtain ⟨q3, q⟩ := He.ba q
  obtain ⟨q4, q⟩ := He.ba q
  obtain ⟨q5, q⟩ := He.ba q
  obtain ⟨q6, q⟩ := He.ba q
  obtain ⟨q7, q8⟩ := He.ba q
  exact ⟨of_decide_eq_true q1, of_decide_eq_true q2, of_decide_eq_true q3, q4, of_decide_eq_true q5, of_decide_eq_true q6, of_decide_eq_true q7, of_decide_eq_true q8⟩
end Pn


namespace Row
open PySem PySem.Spec PyProof.Rows L2 Evl Pn
def top (i : Nat) : Stmt := PySem.Challenge.pw_plumbnet_k81_whole_any_order.main.body.getD i (.Pass ⟨0, 0, 0, 0⟩)
abbrev s__wall : Stmt := top 1
abbrev s_BadNumber_init : Stmt := inClass (top 4) 0
abbrev s_ZeroDivisor_init : Stmt := inClass (top 5) 0
abbrev s_UnknownPoint_init : Stmt := inClass (top 6) 0
abbrev s_DuplicateName_init : Stmt := inClass (top 7) 0
abbrev s_LimitReached_init : Stmt := inClass (top 8) 0
abbrev s_Ratio_init : Stmt := inClass (top 11) 0
abbrev s_Ratio_of : Stmt := inClass (top 11) 1
abbrev s_Ratio_over : Stmt := inClass (top 11) 2
abbrev s_Ratio_add : Stmt := inClass (top 11) 3
abbrev s_Ratio_sub : Stmt := inClass (top 11) 4
abbrev s_Ratio_mul : Stmt := inClass (top 11) 5
abbrev s_Ratio_neg : Stmt := inClass (top 11) 6
abbrev s_Ratio_abs : Stmt := inClass (top 11) 7
abbrev s_Ratio_eq : Stmt := inClass (top 11) 8
abbrev s_Ratio_ne : Stmt := inClass (top 11) 9
abbrev s_Ratio_lt : Stmt := inClass (top 11) 10
abbrev s_Ratio_le : Stmt := inClass (top 11) 11
abbrev s_Ratio_gt : Stmt := inClass (top 11) 12
abbrev s_Ratio_ge : Stmt := inClass (top 11) 13
abbrev s_Ratio_str : Stmt := inClass (top 11) 14
abbrev s_is_short : Stmt := top 12
abbrev s_Reading_init : Stmt := inClass (top 16) 0
abbrev s_row_among : Stmt := top 17
abbrev s_check_new_point : Stmt := top 18
abbrev s_check_new_reading : Stmt := top 19
abbrev s_check_room : Stmt := top 20
abbrev s_check_point : Stmt := top 21
abbrev s_check_points : Stmt := top 22
abbrev s_dot : Stmt := top 24
abbrev s_scale : Stmt := top 25
abbrev s_plus : Stmt := top 26
abbrev s_minus : Stmt := top 27
abbrev s_zero : Stmt := top 28
abbrev s_is_zero : Stmt := top 29
abbrev s_apply : Stmt := top 31
abbrev s_outer : Stmt := top 32
abbrev s_sum_of : Stmt := top 33
abbrev s_scaled : Stmt := top 34
abbrev s_add_term : Stmt := top 36
abbrev s_with_added : Stmt := top 37
abbrev s_divided : Stmt := top 38
abbrev s_without_both : Stmt := top 39
abbrev s_Net_init : Stmt := inClass (top 41) 0
abbrev s_Net_add_point : Stmt := inClass (top 41) 1
abbrev s_Net_add : Stmt := inClass (top 41) 2
abbrev s_Net_withdraw : Stmt := inClass (top 41) 3
abbrev s_Net_change_value : Stmt := inClass (top 41) 4
abbrev s_Net_change_weight : Stmt := inClass (top 41) 5
abbrev s_Net_row : Stmt := inClass (top 41) 6
abbrev s_Net_heights : Stmt := inClass (top 41) 7
abbrev s_Net_misfits : Stmt := inClass (top 41) 8
abbrev s_Net_squares : Stmt := inClass (top 41) 9
abbrev s_Net_rank : Stmt := inClass (top 41) 10
abbrev s_Net_movements : Stmt := inClass (top 41) 11
abbrev s_Net_shares : Stmt := inClass (top 41) 12
abbrev s_Net_paper : Stmt := inClass (top 41) 13
abbrev s_Net_rows : Stmt := inClass (top 41) 14
abbrev s_Net_share : Stmt := inClass (top 41) 15
abbrev s_Net_take_in : Stmt := inClass (top 41) 16
abbrev s_Net_take_out : Stmt := inClass (top 41) 17
abbrev s_Net_add_to_sums : Stmt := inClass (top 41) 18
abbrev s_widened : Stmt := top 42
abbrev s__law_state : Stmt := top 44
abbrev s__law_draw : Stmt := top 45
abbrev s__law_whole : Stmt := top 46
abbrev s__law_ratio : Stmt := top 47
abbrev s__law_same : Stmt := top 48
abbrev s__law_same_vectors : Stmt := top 49
abbrev s__law_terms : Stmt := top 50
abbrev s__law_weight : Stmt := top 51
abbrev s__law_reading : Stmt := top 52
abbrev s__law_names : Stmt := top 53
abbrev s__law_net : Stmt := top 54
abbrev s_law : Stmt := top 55
def d__law_state : He.DefD := ⟨("_law_state", none), "_law_state", "_law_state", defArgs s__law_state, defBody s__law_state, defScope s__law_state, [], []⟩
def d__law_draw : He.DefD := ⟨("_law_draw", none), "_law_draw", "_law_draw", defArgs s__law_draw, defBody s__law_draw, defScope s__law_draw, [], []⟩
def d__law_names : He.DefD := ⟨("_law_names", none), "_law_names", "_law_names", defArgs s__law_names, defBody s__law_names, defScope s__law_names, [], []⟩
def d_Ratio_init : He.DefD := ⟨("Ratio", some "__init__"), "__init__", "Ratio.__init__", defArgs s_Ratio_init, defBody s_Ratio_init, defScope s_Ratio_init, [.int 1], []⟩
def d_Net_init : He.DefD := ⟨("Net", some "__init__"), "__init__", "Net.__init__", defArgs s_Net_init, defBody s_Net_init, defScope s_Net_init, [], []⟩
def d_check_new_point : He.DefD := ⟨("check_new_point", none), "check_new_point", "check_new_point", defArgs s_check_new_point, defBody s_check_new_point, defScope s_check_new_point, [], []⟩
def d_zero : He.DefD := ⟨("zero", none), "zero", "zero", defArgs s_zero, defBody s_zero, defScope s_zero, [], []⟩
def d_widened : He.DefD := ⟨("widened", none), "widened", "widened", defArgs s_widened, defBody s_widened, defScope s_widened, [], []⟩
def d_Net_add_point : He.DefD := ⟨("Net", some "add_point"), "add_point", "Net.add_point", defArgs s_Net_add_point, defBody s_Net_add_point, defScope s_Net_add_point, [], []⟩
def d__law_whole : He.DefD := ⟨("_law_whole", none), "_law_whole", "_law_whole", defArgs s__law_whole, defBody s__law_whole, defScope s__law_whole, [], []⟩
def d__law_ratio : He.DefD := ⟨("_law_ratio", none), "_law_ratio", "_law_ratio", defArgs s__law_ratio, defBody s__law_ratio, defScope s__law_ratio, [], []⟩
def d_Reading_init : He.DefD := ⟨("Reading", some "__init__"), "__init__", "Reading.__init__", defArgs s_Reading_init, defBody s_Reading_init, defScope s_Reading_init, [], []⟩
def d__law_weight : He.DefD := ⟨("_law_weight", none), "_law_weight", "_law_weight", defArgs s__law_weight, defBody s__law_weight, defScope s__law_weight, [], []⟩
def d__law_terms : He.DefD := ⟨("_law_terms", none), "_law_terms", "_law_terms", defArgs s__law_terms, defBody s__law_terms, defScope s__law_terms, [], []⟩
def d__law_reading : He.DefD := ⟨("_law_reading", none), "_law_reading", "_law_reading", defArgs s__law_reading, defBody s__law_reading, defScope s__law_reading, [], []⟩
def d_check_new_reading : He.DefD := ⟨("check_new_reading", none), "check_new_reading", "check_new_reading", defArgs s_check_new_reading, defBody s_check_new_reading, defScope s_check_new_reading, [], []⟩
def d_check_point : He.DefD := ⟨("check_point", none), "check_point", "check_point", defArgs s_check_point, defBody s_check_point, defScope s_check_point, [], []⟩
def d_check_points : He.DefD := ⟨("check_points", none), "check_points", "check_points", defArgs s_check_points, defBody s_check_points, defScope s_check_points, [], []⟩
def d_check_room : He.DefD := ⟨("check_room", none), "check_room", "check_room", defArgs s_check_room, defBody s_check_room, defScope s_check_room, [], []⟩
def d_row_among : He.DefD := ⟨("row_among", none), "row_among", "row_among", defArgs s_row_among, defBody s_row_among, defScope s_row_among, [], []⟩
def d_Net_row : He.DefD := ⟨("Net", some "row"), "row", "Net.row", defArgs s_Net_row, defBody s_Net_row, defScope s_Net_row, [], []⟩
def d_Ratio_add : He.DefD := ⟨("Ratio", some "__add__"), "__add__", "Ratio.__add__", defArgs s_Ratio_add, defBody s_Ratio_add, defScope s_Ratio_add, [], []⟩
def d_Ratio_mul : He.DefD := ⟨("Ratio", some "__mul__"), "__mul__", "Ratio.__mul__", defArgs s_Ratio_mul, defBody s_Ratio_mul, defScope s_Ratio_mul, [], []⟩
def d_dot : He.DefD := ⟨("dot", none), "dot", "dot", defArgs s_dot, defBody s_dot, defScope s_dot, [], []⟩
def d_apply : He.DefD := ⟨("apply", none), "apply", "apply", defArgs s_apply, defBody s_apply, defScope s_apply, [], []⟩
def d_Ratio_sub : He.DefD := ⟨("Ratio", some "__sub__"), "__sub__", "Ratio.__sub__", defArgs s_Ratio_sub, defBody s_Ratio_sub, defScope s_Ratio_sub, [], []⟩
def d_minus : He.DefD := ⟨("minus", none), "minus", "minus", defArgs s_minus, defBody s_minus, defScope s_minus, [], []⟩
def d_is_zero : He.DefD := ⟨("is_zero", none), "is_zero", "is_zero", defArgs s_is_zero, defBody s_is_zero, defScope s_is_zero, [], []⟩
def d_plus : He.DefD := ⟨("plus", none), "plus", "plus", defArgs s_plus, defBody s_plus, defScope s_plus, [], []⟩
def d_sum_of : He.DefD := ⟨("sum_of", none), "sum_of", "sum_of", defArgs s_sum_of, defBody s_sum_of, defScope s_sum_of, [], []⟩
def d_scale : He.DefD := ⟨("scale", none), "scale", "scale", defArgs s_scale, defBody s_scale, defScope s_scale, [], []⟩
def d_scaled : He.DefD := ⟨("scaled", none), "scaled", "scaled", defArgs s_scaled, defBody s_scaled, defScope s_scaled, [], []⟩
def d_outer : He.DefD := ⟨("outer", none), "outer", "outer", defArgs s_outer, defBody s_outer, defScope s_outer, [], []⟩
def d_add_term : He.DefD := ⟨("add_term", none), "add_term", "add_term", defArgs s_add_term, defBody s_add_term, defScope s_add_term, [], []⟩
def d_Ratio_neg : He.DefD := ⟨("Ratio", some "__neg__"), "__neg__", "Ratio.__neg__", defArgs s_Ratio_neg, defBody s_Ratio_neg, defScope s_Ratio_neg, [], []⟩
def d_Ratio_over : He.DefD := ⟨("Ratio", some "over"), "over", "Ratio.over", defArgs s_Ratio_over, defBody s_Ratio_over, defScope s_Ratio_over, [], []⟩
def d_divided : He.DefD := ⟨("divided", none), "divided", "divided", defArgs s_divided, defBody s_divided, defScope s_divided, [], []⟩
def d_without_both : He.DefD := ⟨("without_both", none), "without_both", "without_both", defArgs s_without_both, defBody s_without_both, defScope s_without_both, [], []⟩
def d_with_added : He.DefD := ⟨("with_added", none), "with_added", "with_added", defArgs s_with_added, defBody s_with_added, defScope s_with_added, [], []⟩
def d_Net_add_to_sums : He.DefD := ⟨("Net", some "_add_to_sums"), "_add_to_sums", "Net._add_to_sums", defArgs s_Net_add_to_sums, defBody s_Net_add_to_sums, defScope s_Net_add_to_sums, [], []⟩
def d_Net_take_in : He.DefD := ⟨("Net", some "_take_in"), "_take_in", "Net._take_in", defArgs s_Net_take_in, defBody s_Net_take_in, defScope s_Net_take_in, [], []⟩
def d_Net_add : He.DefD := ⟨("Net", some "add"), "add", "Net.add", defArgs s_Net_add, defBody s_Net_add, defScope s_Net_add, [], []⟩
def d__law_net : He.DefD := ⟨("_law_net", none), "_law_net", "_law_net", defArgs s__law_net, defBody s__law_net, defScope s__law_net, [], []⟩
def d__law_same : He.DefD := ⟨("_law_same", none), "_law_same", "_law_same", defArgs s__law_same, defBody s__law_same, defScope s__law_same, [], []⟩
def d__law_same_vectors : He.DefD := ⟨("_law_same_vectors", none), "_law_same_vectors", "_law_same_vectors", defArgs s__law_same_vectors, defBody s__law_same_vectors, defScope s__law_same_vectors, [], []⟩
def d_Net_heights : He.DefD := ⟨("Net", some "heights"), "heights", "Net.heights", defArgs s_Net_heights, defBody s_Net_heights, defScope s_Net_heights, [], []⟩
def d_Net_squares : He.DefD := ⟨("Net", some "squares"), "squares", "Net.squares", defArgs s_Net_squares, defBody s_Net_squares, defScope s_Net_squares, [], []⟩
def d_law : He.DefD := ⟨("law", none), "law", "law", defArgs s_law, defBody s_law, defScope s_law, [], []⟩
def fn : List He.DefD := [d__law_state, d__law_draw, d__law_names, d_Ratio_init, d_Net_init, d_check_new_point, d_zero, d_widened, d_Net_add_point, d__law_whole, d__law_ratio, d_Reading_init, d__law_weight, d__law_terms, d__law_reading, d_check_new_reading, d_check_point, d_check_points, d_check_room, d_row_among, d_Net_row, d_Ratio_add, d_Ratio_mul, d_dot, d_apply, d_Ratio_sub, d_minus, d_is_zero, d_plus, d_sum_of, d_scale, d_scaled, d_outer, d_add_term, d_Ratio_neg, d_Ratio_over, d_divided, d_without_both, d_with_added, d_Net_add_to_sums, d_Net_take_in, d_Net_add, d__law_net, d__law_same, d__law_same_vectors, d_Net_heights, d_Net_squares, d_law]
def fa : List He.Fa := [.glo "_law_state", .glo "_law_net", .glo "_law_weight", .free "list", .mkr "Net", .glo "Net", .free "range", .free "len", .cls "Net", .meth "Net" "add_point", .glo "_law_draw", .meth "Net" "add", .mkr "Reading", .glo "Reading", .meth "Ratio" "__mul__", .mkr "Ratio", .glo "Ratio", .glo "_law_same_vectors", .meth "Net" "heights", .glo "_law_same", .meth "Net" "squares", .free "abs", .free "int", .glo "_law_names", .glo "_law_ratio", .glo "_law_reading", .free "str", .glo "check_new_point", .glo "widened", .int "MOST_POINTS" 12, .glo "zero", .free "tuple", .glo "_law_whole", .glo "_law_terms", .glo "check_new_reading", .glo "check_points", .glo "check_room", .meth "Net" "_take_in", .free "any", .glo "check_point", .int "MOST_READINGS" 24, .meth "Net" "row", .glo "with_added", .glo "add_term", .meth "Net" "_add_to_sums", .glo "row_among", .free "dict", .glo "apply", .glo "minus", .glo "dot", .glo "is_zero", .meth "Ratio" "__neg__", .cls "Ratio", .meth "Ratio" "over", .meth "Ratio" "__add__", .glo "divided", .glo "without_both", .free "zip", .meth "Ratio" "__sub__", .free "all", .glo "sum_of", .glo "scaled", .glo "outer", .glo "plus", .glo "scale", .free "isinstance", .glo "law", .noat "Ratio" "top", .noat "Ratio" "bottom", .cls "Reading", .noat "Reading" "name", .noat "Reading" "terms", .noat "Reading" "value", .noat "Reading" "weight", .noat "Net" "points", .noat "Net" "approximations", .noat "Net" "readings", .noat "Net" "normal", .noat "Net" "inverse", .noat "Net" "right", .noat "Net" "total"]
def ex (K : PySem.W.Frag) : Bool := PySem.W.selfFirst K (He.ga K "Ratio") && (decide (PySem.W.nsIn K mainGlobals "gcd" = some (some (.builtin "math.gcd"))) && (riB K (He.ga K "Ratio") && pylB K))
theorem tself {K : PySem.W.Frag} {mg : Str → Option Value} (T : Tx fa fn ex K mg) : PySem.W.selfFirst K (He.ga K "Ratio") = true := (He.ba T.e).1
theorem tgcd {K : PySem.W.Frag} {mg : Str → Option Value} (T : Tx fa fn ex K mg) : mg "gcd" = some (.builtin "math.gcd") := by
  obtain ⟨h, X, G⟩ := T.h
  exact PySem.W.mg_of X G (of_decide_eq_true (He.ba (He.ba T.e).2).1)
theorem tcl {K : PySem.W.Frag} {mg : Str → Option Value} (T : Tx fa fn ex K mg) : Cls K (He.ga K "Ratio") := T.cls 52 rfl
theorem tri {K : PySem.W.Frag} {mg : Str → Option Value} (T : Tx fa fn ex K mg) : Ri K (He.ga K "Ratio") := ri_of (tcl T) (He.ba (He.ba (He.ba T.e).2).2).1
theorem ttop {K : PySem.W.Frag} {mg : Str → Option Value} (T : Tx fa fn ex K mg) : NoAttr K (He.ga K "Ratio") "top" := T.noat 67 rfl
theorem tbot {K : PySem.W.Frag} {mg : Str → Option Value} (T : Tx fa fn ex K mg) : NoAttr K (He.ga K "Ratio") "bottom" := T.noat 68 rfl
theorem tplx {K : PySem.W.Frag} {mg : Str → Option Value} (T : Tx fa fn ex K mg) {P : Program} (hT : P.given.tree = none) {N ps : List Str} {scope : Scope} (S : FnScope N ps scope) {CX : CXT} {w : World} {base : Heap} {qual : Str} {f : Addr} {cd : Value} {A : Around} {outer : List Env} {s : Shared} {H : Hp} {E : XK} {k : Nat} (hr : Room (k + 32) (A.deeper (envOfC qual scope s.heap.objs.size f cd))) :
    Pl (cxOf CX P w K mg base N qual scope f cd A outer s H E).nox := ⟨(He.ba (He.ba (He.ba T.e).2).2).2, hT, ⟨_, _, rfl, S.gen, S.co, rfl, rfl⟩, by
  have := hr.dp
  show (A.deeper (envOfC qual scope s.heap.objs.size f cd)).depth + 100 < _
  omega⟩

theorem tcl_Reading {K : PySem.W.Frag} {mg : Str → Option Value} (T : Tx fa fn ex K mg) : Cls K (He.ga K "Reading") := T.cls 69 rfl
theorem tno_Reading_name {K : PySem.W.Frag} {mg : Str → Option Value} (T : Tx fa fn ex K mg) : NoAttr K (He.ga K "Reading") "name" := T.noat 70 rfl
theorem tno_Reading_terms {K : PySem.W.Frag} {mg : Str → Option Value} (T : Tx fa fn ex K mg) : NoAttr K (He.ga K "Reading") "terms" := T.noat 71 rfl
theorem tno_Reading_value {K : PySem.W.Frag} {mg : Str → Option Value} (T : Tx fa fn ex K mg) : NoAttr K (He.ga K "Reading") "value" := T.noat 72 rfl
theorem tno_Reading_weight {K : PySem.W.Frag} {mg : Str → Option Value} (T : Tx fa fn ex K mg) : NoAttr K (He.ga K "Reading") "weight" := T.noat 73 rfl
theorem tcl_Net {K : PySem.W.Frag} {mg : Str → Option Value} (T : Tx fa fn ex K mg) : Cls K (He.ga K "Net") := T.cls 8 rfl
theorem tno_Net_points {K : PySem.W.Frag} {mg : Str → Option Value} (T : Tx fa fn ex K mg) : NoAttr K (He.ga K "Net") "points" := T.noat 74 rfl
theorem tno_Net_approximations {K : PySem.W.Frag} {mg : Str → Option Value} (T : Tx fa fn ex K mg) : NoAttr K (He.ga K "Net") "approximations" := T.noat 75 rfl
theorem tno_Net_readings {K : PySem.W.Frag} {mg : Str → Option Value} (T : Tx fa fn ex K mg) : NoAttr K (He.ga K "Net") "readings" := T.noat 76 rfl
theorem tno_Net_normal {K : PySem.W.Frag} {mg : Str → Option Value} (T : Tx fa fn ex K mg) : NoAttr K (He.ga K "Net") "normal" := T.noat 77 rfl
theorem tno_Net_inverse {K : PySem.W.Frag} {mg : Str → Option Value} (T : Tx fa fn ex K mg) : NoAttr K (He.ga K "Net") "inverse" := T.noat 78 rfl
theorem tno_Net_right {K : PySem.W.Frag} {mg : Str → Option Value} (T : Tx fa fn ex K mg) : NoAttr K (He.ga K "Net") "right" := T.noat 79 rfl
theorem tno_Net_total {K : PySem.W.Frag} {mg : Str → Option Value} (T : Tx fa fn ex K mg) : NoAttr K (He.ga K "Net") "total" := T.noat 80 rfl
section
variable {P : Program} {K : PySem.W.Frag} {mg : Str → Option Value} {base : Heap}
abbrev N__law_state : List Str := ["script", "digits", "seed", "cell", "rest", "k"]
theorem sc__law_state : FnScope N__law_state ["script"] (defScope s__law_state) := ⟨rfl, rfl, rfl, by decide +kernel, rfl, by decide +kernel, by decide +kernel⟩
theorem okF__law_state {w : World} (T : Tx fa fn ex K mg) {fd : FuncData} (F : FunD K d__law_state.name d__law_state.qual d__law_state.params d__law_state.body d__law_state.scope (d__law_state.dvs K) (d__law_state.kws K) (He.fAd K d__law_state.at_) fd)  : FnOk P w K mg base CX0 1 (He.ga K "_law_state") fd ["script"] (spState3 K) := by
  have nd : (N__law_state).Nodup := sc__law_state.nd
  refine F.ok sc__law_state (fun vs H Q E h => ?_) (fun cdv A outer s H vs Q E hr h => ?_)
  · obtain ⟨_, _, rfl, _⟩ := h
    rfl
  · obtain ⟨a, ns, rfl, hS, hn, k⟩ := h
    refine ⟨_, PSs.nox (pss_cons (ps_set (i := 1) nd rfl (by first | exact Or.inl rfl | exact Or.inr rfl) (pe_lst pa_nil))
      (pss_cons (ps_set (i := 2) nd rfl (by first | exact Or.inl rfl | exact Or.inr rfl) pe_int)
      (pss_cons (ps_for PassesOwn.never rfl (pi_listK (K := K) rfl (pv 0)) (pg_name (i := 3) nd rfl (by first | exact Or.inl rfl | exact Or.inr rfl))
      (pss_cons (ps_set (i := 4) nd rfl (by first | exact Or.inl rfl | exact Or.inr rfl) (pe_callB call_abs (by rfl) (T.free 21 rfl) (by decide +kernel) (pa_cons (pv 3) pa_nil)))
      (pss_cons (ps_set (i := 2) nd rfl (by first | exact Or.inl rfl | exact Or.inr rfl) (pe_op op_mod (pe_callTy call_intI (by rfl) (T.free 22 rfl) (by decide +kernel) (pa_cons (pe_op op_add (pe_op op_add (pe_op op_mul (pv 2) pe_int) (pv 4)) pe_int) pa_nil)) pe_int))
      (pss_one (ps_for PassesOwn.never rfl (pi_range1 rfl (T.free 6 rfl) (pa_cons pe_int pa_nil)) (pg_name (i := 5) nd rfl (by first | exact Or.inl rfl | exact Or.inr rfl))
      (pss_one (ps_if (PW.pt (pw_or (pt_cmpR op_gt (pv 4) pe_int (nomark _)) (pw_or1 (pt_cmpR op_eq (pv 5) pe_int (nomark _))))) (pss_cons (ps_expr (pe_bm PySem.F.plainAttrs_list PySem.F.slot_list_append PySem.F.type_list_append mt_append (pv 1) (pa_cons (pe_op op_mod (pe_callTy call_intI (by rfl) (T.free 22 rfl) (by decide +kernel) (pa_cons (pv 4) pa_nil)) pe_int) pa_nil)))
      (pss_one (ps_set (i := 4) nd rfl (by first | exact Or.inl rfl | exact Or.inr rfl) (pe_op op_fdiv (pv 4) pe_int))))
      pss_nil)))))))
      (pss_one (ps_ret (pe_lst (pa_cons (pv 1) (pa_cons pe_int (pa_cons (pv 2) pa_nil))))))))), ?_⟩
    refine ⟨Nat.zero_le _, fun p hp => ?_⟩
    refine ⟨_, rfl, a, rfl, ⟨_, ex_sq hS (Ex.new hp)⟩, for_list (K := K) (a := a) (xs := ns.map V.int) (fun i σ H' => ∃ (sd : Int) (v3 v4 v5 : Option V) (items : List Int), σ = [some (.ref a), some (.ref p), some (.int sd), v3, v4, v5] ∧ TapeI p H H' items ∧ items.length ≤ 60 * i)
      ⟨_, _, _, _, [], rfl, ⟨hp, Ex.new hp, upd_same, fun x hx => nomatch hx⟩, Nat.le_refl _⟩ (fun i σ H' _ ⟨_, _, _, _, _, _, t, _⟩ => ex_sq hS t.2.1) ?_ ?_⟩
    · rintro i y σ H' hi ⟨sd, v3, v4, v5, items, rfl, hI, hlen⟩
      have hi63 : i < ns.length := by
        have q := (List.getElem?_eq_some_iff.mp hi).1
        rw [List.length_map] at q
        exact q
      obtain ⟨u, rfl, _⟩ := mapInt hi
      refine ⟨_, rfl, _, rfl, ?_⟩
      refine ⟨_, rfl, _, _, rfl, rfl, .inr ⟨by decide, by decide⟩, _, rfl, _, _, rfl, rfl, _, _, rfl, rfl, _, rfl, _, _, rfl, rfl, (by decide : (0 : Int) < 2147483647), ?_⟩
      refine ⟨_, rfl, by decide, by decide, for_range (lo := 0) (n := 60) (fun j σ H' => ∃ (sd : Int) (v5 : Option V) (n : Int) (items : List Int), σ = [some (.ref a), some (.ref p), some (.int sd), some (.int u), some (.int n), v5] ∧ TapeI p H H' items ∧ items.length ≤ 60 * i + j)
        ⟨_, _, _, items, rfl, hI, hlen⟩ ?_ ?_⟩
      · rintro j σ H2 hj ⟨sd, v5, n, items, rfl, hI, hlen⟩
        refine s_when (et_or (et_test (ev_op (ev_var rfl) ev_c rv_I0)) fun _ => et_test (ev_op (ev_var rfl) ev_c (rv_eq rfl))) (fun _ H3 e3 => ?_) (fun _ H3 e3 => ?_)
        · have hI := hI.ex e3
          refine ⟨_, rfl, .inl ⟨rfl, _, SqL.of hI.2.2.1⟩, _, rfl, _, rfl, _, _, rfl, rfl, (by decide : (0 : Int) < 1000), _, _, _, rfl, rfl, hI.2.2.1, (by rw [List.length_map]; exact sz_lt (by omega)), ?_⟩
          refine ⟨_, rfl, _, _, rfl, rfl, ⟨by decide, by decide⟩, ?_⟩
          have m0 := Int.emod_nonneg n (by decide : (1000 : Int) ≠ 0)
          have m1 := Int.emod_lt_of_pos n (by decide : (0 : Int) < 1000)
          refine ⟨_, _, _, _, rfl, hI.push m0 (Int.lt_trans m1 (by decide)), ?_⟩
          rw [List.length_append, List.length_singleton]
          omega
        · exact ⟨_, _, n, items, rfl, hI.ex e3, by omega⟩
      · rintro σ H2 ⟨sd, v5, n, items, rfl, hI, hlen⟩
        exact ⟨_, _, _, _, items, rfl, hI, by omega⟩
    · rintro σ H' ⟨sd, v3, v4, v5, items, rfl, hI, hlen⟩
      rw [List.length_map] at hlen
      refine ⟨_, rfl, _, rfl, (by show 3 ≤ sizeLine; decide), fun st hst => ?_⟩
      have ne : st ≠ p := (ne_of_none hI.2.2.1 hst).symm
      exact k (st, p) _ (hI.2.1.trans (Ex.new hst)) ⟨items, 0, sd, upd_same, (upd_ne ne.symm).trans hI.2.2.1, ne, by omega, Nat.le_refl _⟩
theorem ok__law_state {w : World} (T : Tx fa fn ex K mg)  : FnG P w K mg base 1 (He.ga K "_law_state") ["script"] (spState3 K) := by
  obtain ⟨fd, F⟩ := T.c.def_ 0 (d := d__law_state) rfl
  exact ⟨⟨fd, okF__law_state T F , FunD.bindsN F fun _ _ _ _ _ _ us hl => match us, hl with | [_], _ => rfl⟩, F.kp⟩

abbrev N__law_draw : List Str := ["state", "many", "at", "digits"]
theorem sc__law_draw : FnScope N__law_draw ["state", "many"] (defScope s__law_draw) := ⟨rfl, rfl, rfl, by decide +kernel, rfl, by decide +kernel, by decide +kernel⟩
theorem okF__law_draw {w : World} (T : Tx fa fn ex K mg) {fd : FuncData} (F : FunD K d__law_draw.name d__law_draw.qual d__law_draw.params d__law_draw.body d__law_draw.scope (d__law_draw.dvs K) (d__law_draw.kws K) (He.fAd K d__law_draw.at_) fd)  : FnOk P w K mg base CX0 1 (He.ga K "_law_draw") fd ["state", "many"] (spDraw3) := by
  have nd : (N__law_draw).Nodup := sc__law_draw.nd
  refine F.ok sc__law_draw (fun vs H Q E h => ?_) (fun cdv A outer s H vs Q E hr h => ?_)
  · obtain ⟨_, _, _, rfl, _⟩ := h
    rfl
  · obtain ⟨st, c, many, rfl, hs, hc, h0, k⟩ := h
    refine ⟨_, PSs.nox (pss_cons (ps_set (i := 2) nd rfl (by first | exact Or.inl rfl | exact Or.inr rfl) (pe_ix (ix_listK (K := K) rfl) (pv 0) pe_int (fun _ _ => rfl)))
      (pss_cons (ps_asg (pe_op op_add (pv 2) pe_int) (pg_sub (pv 0) pe_int set_list))
      (pss_cons (ps_set (i := 3) nd rfl (by first | exact Or.inl rfl | exact Or.inr rfl) (pe_ix (ix_listK (K := K) rfl) (pv 0) pe_int (fun _ _ => rfl)))
      (pss_cons (ps_if (pt_cmpR op_lt (pv 2) (pe_callB (call_lenK (K := K) rfl) (by rfl) (T.free 7 rfl) (by decide +kernel) (pa_cons (pv 3) pa_nil)) (nomark _)) (pss_one (ps_ret (pe_op op_mod (pe_callTy call_intI (by rfl) (T.free 22 rfl) (by decide +kernel) (pa_cons (pe_ix (ix_listK (K := K) rfl) (pv 3) (pv 2) (fun _ _ => rfl)) pa_nil)) (pv 1))))
      pss_nil)
      (pss_cons (ps_asg (pe_op op_mod (pe_callTy call_intI (by rfl) (T.free 22 rfl) (by decide +kernel) (pa_cons (pe_op op_add (pe_op op_add (pe_op op_mul (pe_ix (ix_listK (K := K) rfl) (pv 0) pe_int (fun _ _ => rfl)) pe_int) (pe_op op_mul (pv 2) pe_int)) pe_int) pa_nil)) pe_int) (pg_sub (pv 0) pe_int set_list))
      (pss_one (ps_ret (pe_op op_mod (pe_callTy call_intI (by rfl) (T.free 22 rfl) (by decide +kernel) (pa_cons (pe_op op_fdiv (pe_ix (ix_listK (K := K) rfl) (pv 0) pe_int (fun _ _ => rfl)) pe_int) pa_nil)) (pv 1))))))))), ?_⟩
    have cM : cMax = 1000000000 := rfl
    obtain ⟨items, n, sd, h1, h2, h3, h4, h5⟩ := id hs
    refine ⟨_, rfl, st.1, _, _, _, rfl, rfl, SqL.of h1, atI_nat (j := 1) rfl, ?_⟩
    refine ⟨_, rfl, _, _, rfl, rfl, _, rfl, st.1, _, _, 1, rfl, rfl, h1, rfl, ?_⟩
    refine ⟨_, rfl, st.1, _, _, _, rfl, rfl, SqL.of upd_same, atI_nat (j := 0) rfl, ?_⟩
    show tSeq _ _ _ [some (.ref st.1), some (.int many), some (.int (n : Int)), some (.ref st.2)] _
    have g1 : upd H st.1 (.lst [.ref st.2, .int ((n : Int) + 1), .int sd]) st.1 = some (.lst [.ref st.2, .int ((n + 1 : Nat) : Int), .int sd]) := upd_same
    have g2 : upd H st.1 (.lst [.ref st.2, .int ((n : Int) + 1), .int sd]) st.2 = some (.lst (items.map V.int)) := (upd_ne h3.symm).trans h2
    have f1 : FrS st H (upd H st.1 (.lst [.ref st.2, .int ((n : Int) + 1), .int sd])) := (FrS.refl st H).upd
    show tSeq _ _ _ _ (upd H st.1 (.lst [.ref st.2, .int ((n : Int) + 1), .int sd]))
    generalize upd H st.1 (.lst [.ref st.2, .int ((n : Int) + 1), .int sd]) = H1 at g1 g2 f1 ⊢
    refine ⟨_, rfl, _, rfl, st.2, _, rfl, .inl (SqL.of g2), _, _, rfl, rfl, _, rfl, ?_⟩
    rw [List.length_map]
    refine ifB (fun hc => ?_) (fun hc => ?_)
    · have c : n < items.length := by have := of_decide_eq_true hc; omega
      refine ⟨_, rfl, _, rfl, st.2, _, _, _, rfl, rfl, SqL.of g2, at_map c, _, rfl, _, rfl, _, _, rfl, rfl, h0, ?_⟩
      exact k _ _ (Int.emod_nonneg _ (by omega)) (Int.emod_lt_of_pos _ h0) ⟨items, n + 1, sd, g1, g2, h3, h4, by omega⟩ f1
    · refine ⟨_, rfl, st.1, _, _, _, rfl, rfl, SqL.of g1, atI_nat (j := 2) rfl, _, _, rfl, rfl, .inr ⟨by decide, by decide⟩, _, rfl, _, _, rfl, rfl, .inr ⟨by decide, by decide⟩, _, _, rfl, rfl, _, _, rfl, rfl, _, rfl, _, _, rfl, rfl, (by decide : (0 : Int) < 2147483647), _, rfl, st.1, _, _, 2, rfl, rfl, g1, rfl, ?_⟩
      refine ⟨_, rfl, st.1, _, _, _, rfl, rfl, SqL.of upd_same, atI_nat (j := 2) rfl, _, _, rfl, rfl, ⟨by decide, by decide⟩, _, rfl, _, rfl, _, _, rfl, rfl, h0, ?_⟩
      exact k _ _ (Int.emod_nonneg _ (by omega)) (Int.emod_lt_of_pos _ h0) ⟨items, n + 1, _, upd_same, (upd_ne h3.symm).trans g2, h3, h4, by omega⟩ f1.upd
theorem ok__law_draw {w : World} (T : Tx fa fn ex K mg)  : FnG P w K mg base 1 (He.ga K "_law_draw") ["state", "many"] (spDraw3) := by
  obtain ⟨fd, F⟩ := T.c.def_ 1 (d := d__law_draw) rfl
  exact ⟨⟨fd, okF__law_draw T F , FunD.bindsN F fun _ _ _ _ _ _ us hl => match us, hl with | [_, _], _ => rfl⟩, F.kp⟩

abbrev N__law_names : List Str := ["state", "most", "k"]
theorem sc__law_names : FnScope N__law_names ["state", "most"] (defScope s__law_names) := ⟨rfl, rfl, rfl, by decide +kernel, rfl, by decide +kernel, by decide +kernel⟩
theorem okF__law_names {w : World} (T : Tx fa fn ex K mg) {fd : FuncData} (F : FunD K d__law_names.name d__law_names.qual d__law_names.params d__law_names.body d__law_names.scope (d__law_names.dvs K) (d__law_names.kws K) (He.fAd K d__law_names.at_) fd) (G__law_draw : FnG P w K mg base 1 (He.ga K "_law_draw") ["state", "many"] (spDraw3)) : FnOk P w K mg base CX0 2 (He.ga K "_law_names") fd ["state", "most"] (spNames) := by
  have nd : (N__law_names).Nodup := sc__law_names.nd
  refine F.ok sc__law_names (fun vs H Q E h => ?_) (fun cdv A outer s H vs Q E hr h => ?_)
  · obtain ⟨_, _, _, rfl, _⟩ := h
    rfl
  · obtain ⟨st, c, most, rfl, hs, hc, m0, m1, k⟩ := h
    refine ⟨_, PSs.nox (pss_one (ps_ret (pe_lc (own := [("k", 2)]) (g := gName 2) rfl nd (pi_range1 rfl (T.free 6 rfl) (pa_cons (pe_op op_add pe_int (pe_callF G__law_draw (hr.mono (by decide)) (T.glo 10 rfl) (pa_cons (pv 0) (pa_cons (pv 1) pa_nil)))) pa_nil)) (blkOk_by (own := [("k", 2)]) (N := N__law_names) (sc := defScope s__law_names) (by decide +kernel)) (fun _ _ _ _ _ => by exact (pg_name (i := 2) nd rfl (by first | exact Or.inl rfl | exact Or.inr rfl))) (fun _ _ _ _ _ => by exact (pts_nil)) (fun _ _ _ _ _ => by exact ((pe_op op_add_str pe_str (pe_callTy call_str_int (by rfl) (T.free 26 rfl) (by decide +kernel) (pa_cons (pv 2) pa_nil)))))))), ?_⟩
    refine ⟨_, rfl, _, rfl, st, c, most, rfl, hs, (by omega), m0, fun d H1 d0 d1 s1 f1 => ?_⟩
    refine ⟨_, _, rfl, rfl, ?_⟩
    obtain ⟨n, hn⟩ : ∃ n : Nat, 1 + d = (n : Int) := ⟨(1 + d).toNat, (Int.toNat_of_nonneg (by omega)).symm⟩
    dsimp only
    rw [hn]
    show tLc (iRng1 (tCons (tC (.int (n : Int))) tNil)) _ _ _ _ _ H1 _
    refine evp_mapRn (f := fun (k : Nat) => ("p" : Str) ++ ((toString (k : Int) : String) : Str)) mono_rs (fun _ _ _ _ _ _ _ _ h => h) (ea_cons ev_c ea_nil) (by omega) (fun _ => rfl) (fun i H2 e2 hi H3 e3 Q2 k2 => ?_) H1 (Ex.refl _) _ fun v H2 e2 r2 => ?_
    · have z := names_small i (by omega)
      exact ⟨_, rfl, (i : Int), rfl, z.1, _, _, rfl, rfl, Nat.le_trans z.2 (by decide), k2 _ _ (Ex.refl _) rfl⟩
    · obtain ⟨hl, p, rfl, hp, _⟩ := r2
      exact k n p H2 (by omega) (by omega) (fresh_st f1 s1 hp) (lst_rs hl) (s1.ex e2) (f1.trans (.of e2))
theorem ok__law_names {w : World} (T : Tx fa fn ex K mg) (G__law_draw : FnG P w K mg base 1 (He.ga K "_law_draw") ["state", "many"] (spDraw3)) : FnG P w K mg base 2 (He.ga K "_law_names") ["state", "most"] (spNames) := by
  obtain ⟨fd, F⟩ := T.c.def_ 2 (d := d__law_names) rfl
  exact ⟨⟨fd, okF__law_names T F G__law_draw, FunD.bindsN F fun _ _ _ _ _ _ us hl => match us, hl with | [_, _], _ => rfl⟩, F.kp⟩

abbrev N_Ratio_init : List Str := ["self", "top", "bottom", "common"]
theorem sc_Ratio_init : FnScope N_Ratio_init ["self", "top", "bottom"] (defScope s_Ratio_init) := ⟨rfl, rfl, rfl, by decide +kernel, rfl, by decide +kernel, by decide +kernel⟩
theorem okF_Ratio_init {w : World} (T : Tx fa fn ex K mg) (hT : P.given.tree = none) {fd : FuncData} (F : FunD K d_Ratio_init.name d_Ratio_init.qual d_Ratio_init.params d_Ratio_init.body d_Ratio_init.scope (d_Ratio_init.dvs K) (d_Ratio_init.kws K) (He.fAd K d_Ratio_init.at_) fd)  : FnOk P w K mg base CX0 34 (He.ma K (He.ga K "Ratio") "__init__") fd ["self", "top", "bottom"] (spInit (He.ga K "Ratio")) := by
  have nd : (N_Ratio_init).Nodup := sc_Ratio_init.nd
  refine F.ok sc_Ratio_init (fun vs H Q E h => ?_) (fun cdv A outer s H vs Q E hr h => ?_)
  · obtain ⟨_, _, _, _, rfl, _⟩ := h
    rfl
  · obtain ⟨p, dx, t, b, rfl, hp, hb, hl, k⟩ := h
    refine ⟨_, PSs.nox (pss_cons (ps_if (pt_cmpR op_eq (pv 2) pe_int (nomark _)) (pss_one ps_never)
      pss_nil)
      (pss_cons (ps_set (i := 3) nd rfl (by first | exact Or.inl rfl | exact Or.inr rfl) (pe_callBfun cr_gcd rfl (tgcd T) (pa_cons (pv 1) (pa_cons (pv 2) pa_nil))))
      (pss_cons (ps_if (pt_cmpR op_lt (pv 2) pe_int (nomark _)) (pss_one (ps_set (i := 3) nd rfl (by first | exact Or.inl rfl | exact Or.inr rfl) (pe_un un_neg (pv 3))))
      pss_nil)
      (pss_cons (ps_fld (pv 0) (pe_op (op_fdivP (tplx T hT sc_Ratio_init hr)) (pv 1) (pv 3)) rfl)
      (pss_one (ps_fld (pv 0) (pe_op (op_fdivP (tplx T hT sc_Ratio_init hr)) (pv 2) (pv 3)) rfl)))))), ?_⟩
    obtain ⟨g1, g2⟩ := gcd_log (t := t) hb hl
    refine ⟨_, rfl, rfl, _, rfl, ?_⟩
    refine ifF (dec_ne hb) ?_
    refine ⟨_, rfl, _, rfl, _, _, rfl, ?_⟩
    refine ⟨_, rfl, _, _, rfl, rfl, _, rfl, ?_⟩
    refine ifB (fun hc => ?_) (fun hc => ?_)
    · obtain ⟨e1, e2⟩ := init_neg (t := t) (of_decide_eq_true hc)
      refine ⟨_, rfl, _, rfl, ?_⟩
      refine ⟨_, rfl, _, rfl, _, _, rfl, rfl, (gcd_logN hb hl).1, _, rfl, p, _, dx, _, rfl, hp, tcl T, ttop T, by show 0 < 1000; decide, ?_⟩
      refine ⟨_, rfl, _, rfl, _, _, rfl, rfl, (gcd_logN hb hl).1, _, rfl, p, _, dx, _, rfl, upd_same, tcl T, tbot T, by show 1 < 1000; decide, ?_⟩
      refine k _ ?_
      rw [upd_upd, putF_top, putF_bot, e1, e2]
      rfl
    · obtain ⟨e1, e2⟩ := init_pos (t := t) (b := b) (by have := of_decide_eq_false hc; omega)
      refine ⟨_, rfl, _, rfl, _, _, rfl, rfl, (gcd_log hb hl).1, _, rfl, p, _, dx, _, rfl, hp, tcl T, ttop T, by show 0 < 1000; decide, ?_⟩
      refine ⟨_, rfl, _, rfl, _, _, rfl, rfl, (gcd_log hb hl).1, _, rfl, p, _, dx, _, rfl, upd_same, tcl T, tbot T, by show 1 < 1000; decide, ?_⟩
      refine k _ ?_
      rw [upd_upd, putF_top, putF_bot, e1, e2]
      rfl
theorem ok_Ratio_init {w : World} (T : Tx fa fn ex K mg) (hT : P.given.tree = none)  : FnG P w K mg base 34 (He.ma K (He.ga K "Ratio") "__init__") ["self", "top", "bottom"] (spInit (He.ga K "Ratio")) := by
  obtain ⟨fd, F⟩ := T.c.def_ 3 (d := d_Ratio_init) rfl
  exact ⟨⟨fd, okF_Ratio_init T hT F , (by obtain ⟨ds, v, b⟩ := FunD.binds1 (ps := ["self", "top", "bottom"]) F 3 1 (List.cons_ne_nil _ _) rfl (fun _ _ _ _ _ _ _ us its hu hi => match us, its, hu, hi with | [_, _, _], [_], _, _ => ⟨_, rfl, rfl⟩); cases v; exact b)⟩, F.kp⟩
theorem ok_Ratio_init1 {w : World} (T : Tx fa fn ex K mg) (hT : P.given.tree = none) : FnD1 P w K mg base 34 (He.ma K (He.ga K "Ratio") "__init__") ["self", "top", "bottom"] [.int 1] (spInit (He.ga K "Ratio")) := by
  obtain ⟨fd, F⟩ := T.c.def_ 3 (d := d_Ratio_init) rfl
  obtain ⟨ds, v, b⟩ := FunD.binds1 (ps := ["self", "top", "bottom"]) F 2 0 (List.cons_ne_nil _ _) rfl (fun _ _ _ _ _ _ _ us its hu hi => match us, its, hu, hi with | [_, _], [_], _, _ => ⟨_, rfl, rfl⟩)
  exact ⟨⟨fd, ds, okF_Ratio_init T hT F, v, b⟩, F.kp⟩

abbrev N_Net_init : List Str := ["self"]
theorem sc_Net_init : FnScope N_Net_init ["self"] (defScope s_Net_init) := ⟨rfl, rfl, rfl, by decide +kernel, rfl, by decide +kernel, by decide +kernel⟩
theorem okF_Net_init {w : World} (T : Tx fa fn ex K mg) {fd : FuncData} (F : FunD K d_Net_init.name d_Net_init.qual d_Net_init.params d_Net_init.body d_Net_init.scope (d_Net_init.dvs K) (d_Net_init.kws K) (He.fAd K d_Net_init.at_) fd) (G_Ratio_init1 : FnD1 P w K mg base 34 (He.ma K (He.ga K "Ratio") "__init__") ["self", "top", "bottom"] [.int 1] (spInit (He.ga K "Ratio"))) : FnOk P w K mg base CX0 36 (He.ma K (He.ga K "Net") "__init__") fd ["self"] (spNetInit (He.ga K "Ratio") (He.ga K "Reading") (He.ga K "Net")) := by
  have nd : (N_Net_init).Nodup := sc_Net_init.nd
  refine F.ok sc_Net_init (fun vs H Q E h => ?_) (fun cdv A outer s H vs Q E hr h => ?_)
  · obtain ⟨_, _, rfl, _⟩ := h
    rfl
  · obtain ⟨a, dx, rfl, ha, k⟩ := h
    refine ⟨_, PSs.nox (pss_cons (ps_fld (pv 0) (pe_lst pa_nil) rfl)
      (pss_cons (ps_fld (pv 0) (pe_tup pa_nil) rfl)
      (pss_cons (ps_fld (pv 0) (pe_lst pa_nil) rfl)
      (pss_cons (ps_fld (pv 0) (pe_tup pa_nil) rfl)
      (pss_cons (ps_fld (pv 0) (pe_tup pa_nil) rfl)
      (pss_cons (ps_fld (pv 0) (pe_tup pa_nil) rfl)
      (pss_one (ps_fld (pv 0) (pe_makeD (T.mkr 15 rfl) G_Ratio_init1 (hr.mono (by decide)) (T.glo 16 rfl) (pa_cons pe_int pa_nil)) rfl)))))))), ?_⟩
    have l0 : ([] : List (Str × V)).length ≤ 0 := Nat.le_refl _
    refine ⟨(by show 0 ≤ sizeLine; decide), fun p0 h0 => ?_⟩
    obtain ⟨g0, a0, o0, n0, f0⟩ := new_fld (fs' := (putF "points" (.ref p0) [])) (o := .lst []) ha h0
    refine ⟨_, rfl, a, _, dx, _, rfl, g0, tcl_Net T, tno_Net_points T, by omega, ?_⟩
    have l1 : (putF "points" (.ref p0) []).length ≤ 1 := Nat.le_trans (put_len _ _ _) (Nat.succ_le_succ l0)
    have F0 : FrB (fun b => b = a) H _ := f0
    generalize upd (upd H p0 (.lst [])) a (.ins (He.ga K "Net") dx (putF "points" (.ref p0) [])) = H1 at *
    have o0x := o0
    refine ⟨(by show 0 ≤ sizeLine; decide), fun p1 h1 => ?_⟩
    obtain ⟨g1, a1, o1, n1, f1⟩ := new_fld (fs' := (putF "approximations" (.ref p1) (putF "points" (.ref p0) []))) (o := .tup []) a0 h1
    refine ⟨_, rfl, a, _, dx, _, rfl, g1, tcl_Net T, tno_Net_approximations T, by omega, ?_⟩
    have l2 : (putF "approximations" (.ref p1) (putF "points" (.ref p0) [])).length ≤ 2 := Nat.le_trans (put_len _ _ _) (Nat.succ_le_succ l1)
    have o0 := f1 _ _ n0 o0
    have F1 : FrB (fun b => b = a) H _ := F0.trans f1
    generalize upd (upd H1 p1 (.tup [])) a (.ins (He.ga K "Net") dx (putF "approximations" (.ref p1) (putF "points" (.ref p0) []))) = H2 at *
    have o0x := o0
    refine ⟨(by show 0 ≤ sizeLine; decide), fun p2 h2 => ?_⟩
    obtain ⟨g2, a2, o2, n2, f2⟩ := new_fld (fs' := (putF "readings" (.ref p2) (putF "approximations" (.ref p1) (putF "points" (.ref p0) [])))) (o := .lst []) a1 h2
    refine ⟨_, rfl, a, _, dx, _, rfl, g2, tcl_Net T, tno_Net_readings T, by omega, ?_⟩
    have l3 : (putF "readings" (.ref p2) (putF "approximations" (.ref p1) (putF "points" (.ref p0) []))).length ≤ 3 := Nat.le_trans (put_len _ _ _) (Nat.succ_le_succ l2)
    have o0 := f2 _ _ n0 o0
    have o1 := f2 _ _ n1 o1
    have F2 : FrB (fun b => b = a) H _ := F1.trans f2
    have n02 : p0 ≠ p2 := ne_of_none o0x h2
    generalize upd (upd H2 p2 (.lst [])) a (.ins (He.ga K "Net") dx (putF "readings" (.ref p2) (putF "approximations" (.ref p1) (putF "points" (.ref p0) [])))) = H3 at *
    refine ⟨(by show 0 ≤ sizeLine; decide), fun p3 h3 => ?_⟩
    obtain ⟨g3, a3, o3, n3, f3⟩ := new_fld (fs' := (putF "normal" (.ref p3) (putF "readings" (.ref p2) (putF "approximations" (.ref p1) (putF "points" (.ref p0) []))))) (o := .tup []) a2 h3
    refine ⟨_, rfl, a, _, dx, _, rfl, g3, tcl_Net T, tno_Net_normal T, by omega, ?_⟩
    have l4 : (putF "normal" (.ref p3) (putF "readings" (.ref p2) (putF "approximations" (.ref p1) (putF "points" (.ref p0) [])))).length ≤ 4 := Nat.le_trans (put_len _ _ _) (Nat.succ_le_succ l3)
    have o0 := f3 _ _ n0 o0
    have o1 := f3 _ _ n1 o1
    have o2 := f3 _ _ n2 o2
    have F3 : FrB (fun b => b = a) H _ := F2.trans f3
    generalize upd (upd H3 p3 (.tup [])) a (.ins (He.ga K "Net") dx (putF "normal" (.ref p3) (putF "readings" (.ref p2) (putF "approximations" (.ref p1) (putF "points" (.ref p0) []))))) = H4 at *
    refine ⟨(by show 0 ≤ sizeLine; decide), fun p4 h4 => ?_⟩
    obtain ⟨g4, a4, o4, n4, f4⟩ := new_fld (fs' := (putF "inverse" (.ref p4) (putF "normal" (.ref p3) (putF "readings" (.ref p2) (putF "approximations" (.ref p1) (putF "points" (.ref p0) [])))))) (o := .tup []) a3 h4
    refine ⟨_, rfl, a, _, dx, _, rfl, g4, tcl_Net T, tno_Net_inverse T, by omega, ?_⟩
    have l5 : (putF "inverse" (.ref p4) (putF "normal" (.ref p3) (putF "readings" (.ref p2) (putF "approximations" (.ref p1) (putF "points" (.ref p0) []))))).length ≤ 5 := Nat.le_trans (put_len _ _ _) (Nat.succ_le_succ l4)
    have o0 := f4 _ _ n0 o0
    have o1 := f4 _ _ n1 o1
    have o2 := f4 _ _ n2 o2
    have o3 := f4 _ _ n3 o3
    have F4 : FrB (fun b => b = a) H _ := F3.trans f4
    generalize upd (upd H4 p4 (.tup [])) a (.ins (He.ga K "Net") dx (putF "inverse" (.ref p4) (putF "normal" (.ref p3) (putF "readings" (.ref p2) (putF "approximations" (.ref p1) (putF "points" (.ref p0) [])))))) = H5 at *
    refine ⟨(by show 0 ≤ sizeLine; decide), fun p5 h5 => ?_⟩
    obtain ⟨g5, a5, o5, n5, f5⟩ := new_fld (fs' := (putF "right" (.ref p5) (putF "inverse" (.ref p4) (putF "normal" (.ref p3) (putF "readings" (.ref p2) (putF "approximations" (.ref p1) (putF "points" (.ref p0) []))))))) (o := .tup []) a4 h5
    refine ⟨_, rfl, a, _, dx, _, rfl, g5, tcl_Net T, tno_Net_right T, by omega, ?_⟩
    have l6 : (putF "right" (.ref p5) (putF "inverse" (.ref p4) (putF "normal" (.ref p3) (putF "readings" (.ref p2) (putF "approximations" (.ref p1) (putF "points" (.ref p0) [])))))).length ≤ 6 := Nat.le_trans (put_len _ _ _) (Nat.succ_le_succ l5)
    have o0 := f5 _ _ n0 o0
    have o1 := f5 _ _ n1 o1
    have o2 := f5 _ _ n2 o2
    have o3 := f5 _ _ n3 o3
    have o4 := f5 _ _ n4 o4
    have F5 : FrB (fun b => b = a) H _ := F4.trans f5
    generalize upd (upd H5 p5 (.tup [])) a (.ins (He.ga K "Net") dx (putF "right" (.ref p5) (putF "inverse" (.ref p4) (putF "normal" (.ref p3) (putF "readings" (.ref p2) (putF "approximations" (.ref p1) (putF "points" (.ref p0) []))))))) = H6 at *
    unfold sFld
    dsimp only
    refine fq_int (n := 0) H6 (Ex.refl _) _ fun v6 H7 e7 r7 => ?_
    refine ⟨_, rfl, a, _, dx, _, rfl, e7 _ _ a5, tcl_Net T, tno_Net_total T, by omega, ?_⟩
    have hpts : (putF "right" (.ref p5) (putF "inverse" (.ref p4) (putF "normal" (.ref p3) (putF "readings" (.ref p2) (putF "approximations" (.ref p1) (putF "points" (.ref p0) [])))))).lookup ("points" : Str) = some (.ref p0) := by rw [put_ne (by decide +kernel), put_ne (by decide +kernel), put_ne (by decide +kernel), put_ne (by decide +kernel), put_ne (by decide +kernel)]; exact put_same
    have mut7 : AllMut (fun b => b = a) H7 := allMut_one (e7 _ _ a5) hpts
    have f7 : FrB (fun b => b = a) H7 (upd H7 a (.ins (He.ga K "Net") dx (putF "total" v6 (putF "right" (.ref p5) (putF "inverse" (.ref p4) (putF "normal" (.ref p3) (putF "readings" (.ref p2) (putF "approximations" (.ref p1) (putF "points" (.ref p0) []))))))))) := FrB.upd rfl
    have r7 := keptN_rq _ _ _ _ _ mut7 f7 r7
    have hr0 : H p2 = none := by
      cases hz : H p2 with
      | none => rfl
      | some u => exact absurd (F1 _ _ n2 hz) (by rw [h2]; exact fun e => nomatch e)
    have o0 := f7 _ _ n0 (e7 _ _ o0)
    have o1 := f7 _ _ n1 (e7 _ _ o1)
    have o2 := f7 _ _ n2 (e7 _ _ o2)
    have o3 := f7 _ _ n3 (e7 _ _ o3)
    have o4 := f7 _ _ n4 (e7 _ _ o4)
    have o5 := f7 _ _ n5 (e7 _ _ o5)
    exact k p0 p2 _ h0 hr0 n02 ⟨dx, _, .ref p1, .ref p3, .ref p4, .ref p5, v6, [], upd_same, flds_new, o0, o2, ⟨p1, [], rfl, o1, rfl, fun i x v h => nomatch h⟩, ⟨rfl, fun i x v h => nomatch h⟩, ⟨p3, [], rfl, o3, rfl, fun i x v h => nomatch h⟩, ⟨p4, [], rfl, o4, rfl, fun i x v h => nomatch h⟩, ⟨p5, [], rfl, o5, rfl, fun i x v h => nomatch h⟩, r7⟩ (F5.trans ((FrB.of e7).trans f7))
theorem ok_Net_init {w : World} (T : Tx fa fn ex K mg) (G_Ratio_init1 : FnD1 P w K mg base 34 (He.ma K (He.ga K "Ratio") "__init__") ["self", "top", "bottom"] [.int 1] (spInit (He.ga K "Ratio"))) : FnG P w K mg base 36 (He.ma K (He.ga K "Net") "__init__") ["self"] (spNetInit (He.ga K "Ratio") (He.ga K "Reading") (He.ga K "Net")) := by
  obtain ⟨fd, F⟩ := T.c.def_ 4 (d := d_Net_init) rfl
  exact ⟨⟨fd, okF_Net_init T F G_Ratio_init1, FunD.bindsN F fun _ _ _ _ _ _ us hl => match us, hl with | [_], _ => rfl⟩, F.kp⟩

abbrev N_check_new_point : List Str := ["points", "name"]
theorem sc_check_new_point : FnScope N_check_new_point ["points", "name"] (defScope s_check_new_point) := ⟨rfl, rfl, rfl, by decide +kernel, rfl, by decide +kernel, by decide +kernel⟩
theorem okF_check_new_point {w : World} (T : Tx fa fn ex K mg) {fd : FuncData} (F : FunD K d_check_new_point.name d_check_new_point.qual d_check_new_point.params d_check_new_point.body d_check_new_point.scope (d_check_new_point.dvs K) (d_check_new_point.kws K) (He.fAd K d_check_new_point.at_) fd)  : FnOk P w K mg base CX0 1 (He.ga K "check_new_point") fd ["points", "name"] (spChkNew) := by
  have nd : (N_check_new_point).Nodup := sc_check_new_point.nd
  refine F.ok sc_check_new_point (fun vs H Q E h => ?_) (fun cdv A outer s H vs Q E hr h => ?_)
  · obtain ⟨_, _, _, rfl, _⟩ := h
    rfl
  · obtain ⟨x, n, ns, rfl, hx, hn, hl, k⟩ := h
    refine ⟨_, PSs.nox (pss_cons (ps_if (pt_cmpR (op_inK (K := K) rfl) (pv 1) (pv 0) (by with_unfolding_all rfl)) (pss_one ps_never)
      pss_nil)
      (pss_one (ps_if (pt_cmpR op_ge (pe_callB (call_lenK (K := K) rfl) (by rfl) (T.free 7 rfl) (by decide +kernel) (pa_cons (pv 0) pa_nil)) (pe_glob (v := .int 12) rfl (T.int 29 rfl).choose_spec ⟨_, rfl⟩) (nomark _)) (pss_one ps_never)
      pss_nil))), ?_⟩
    have hx0 := hx
    obtain ⟨a, rfl, ha⟩ := hx
    refine ⟨_, rfl, _, rfl, a, _, rfl, .inl (SqL.of ha), rfl, flat_strs ns, _, rfl, ?_⟩
    refine ifF (by rw [inV_strs]; simp [hn]) ?_
    refine et_test (ev_op (ev_lenL (vP (fun v H H' e h => mono_lst mono_rs _ v H H' e h) (ptAt_lst hx0) _ _ 0 (Ex.refl _) rfl)) ev_c rv_I0) H (Ex.refl _) _ fun H1 e1 => ?_
    refine ifF (by simp; omega) (k _ e1)
theorem ok_check_new_point {w : World} (T : Tx fa fn ex K mg)  : FnG P w K mg base 1 (He.ga K "check_new_point") ["points", "name"] (spChkNew) := by
  obtain ⟨fd, F⟩ := T.c.def_ 5 (d := d_check_new_point) rfl
  exact ⟨⟨fd, okF_check_new_point T F , FunD.bindsN F fun _ _ _ _ _ _ us hl => match us, hl with | [_, _], _ => rfl⟩, F.kp⟩

abbrev N_zero : List Str := ["width", "_"]
theorem sc_zero : FnScope N_zero ["width"] (defScope s_zero) := ⟨rfl, rfl, rfl, by decide +kernel, rfl, by decide +kernel, by decide +kernel⟩
theorem okF_zero {w : World} (T : Tx fa fn ex K mg) {fd : FuncData} (F : FunD K d_zero.name d_zero.qual d_zero.params d_zero.body d_zero.scope (d_zero.dvs K) (d_zero.kws K) (He.fAd K d_zero.at_) fd) (G_Ratio_init1 : FnD1 P w K mg base 34 (He.ma K (He.ga K "Ratio") "__init__") ["self", "top", "bottom"] [.int 1] (spInit (He.ga K "Ratio"))) : FnOk P w K mg base CX0 36 (He.ga K "zero") fd ["width"] (spZero (He.ga K "Ratio")) := by
  have nd : (N_zero).Nodup := sc_zero.nd
  refine F.ok sc_zero (fun vs H Q E h => ?_) (fun cdv A outer s H vs Q E hr h => ?_)
  · obtain ⟨_, rfl, _⟩ := h
    rfl
  · obtain ⟨n, rfl, hz, k⟩ := h
    refine ⟨_, PSs.nox (pss_one (ps_ret (pe_callTy (call_tupL (K := K) rfl) (by rfl) (T.free 31 rfl) (by decide +kernel) (pa_cons (pe_lc (own := [("_", 1)]) (g := gName 1) rfl nd (pi_range1 rfl (T.free 6 rfl) (pa_cons (pv 0) pa_nil)) (blkOk_by (own := [("_", 1)]) (N := N_zero) (sc := defScope s_zero) (by decide +kernel)) (fun _ _ _ _ _ => by exact (pg_name (i := 1) nd rfl (by first | exact Or.inl rfl | exact Or.inr rfl))) (fun _ _ _ _ _ => by exact (pts_nil)) (fun _ _ _ _ _ => by exact ((pe_makeD (T.mkr 15 rfl) G_Ratio_init1 (hr.mono (by decide)) (T.glo 16 rfl) (pa_cons pe_int pa_nil))))) pa_nil)))), ?_⟩
    have src := src_rng (σ := [some (.int (n : Int)), none]) (H := H) (ta := tCons (tVar 0) tNil) (n := n) (ea_cons (ev_var rfl) ea_nil) hz
    have lc := evp_lc (g := gName 1) (te := tMake (He.ga K "Ratio") (spInit (He.ga K "Ratio")) [.int 1] E0 (tCons (tC (.int 0)) tNil)) (vs := [1])
      (P := fun i σi H1 => σi = [some (.int (n : Int)), some (.int (i : Int))])
      (S := fun i v H1 => RatAt (He.ga K "Ratio") H1 v (0)) hz src
      (fun i v H1 H2 e h2 => h2.mono e) (fun i v H1 H2 D xs fr hD h2 => stab_rat v H1 H2 D xs fr hD h2)
      (fun i H1 v H2 kk hi e ⟨e2, ev⟩ kz => by subst e2 ev; exact kz _ _ (Ex.refl _) rfl rfl)
      (fun i σi H1 hi e e1 => by
        subst e1
        exact EvP.imp fq_int fun v H' _ r => r)
    refine s_retP (evp_tup (R := RQ (He.ga K "Ratio")) (xs := zeroQ n) lc (by unfold zeroQ; rw [List.length_map, List.length_range]) mono_rq ?_) fun v H1 e r => k v H1 e r
    rintro i x v H' h h3
    obtain ⟨j, h4, rfl⟩ := map_get h
    obtain ⟨rfl, _⟩ := range_get h4
    exact h3
theorem ok_zero {w : World} (T : Tx fa fn ex K mg) (G_Ratio_init1 : FnD1 P w K mg base 34 (He.ma K (He.ga K "Ratio") "__init__") ["self", "top", "bottom"] [.int 1] (spInit (He.ga K "Ratio"))) : FnG P w K mg base 36 (He.ga K "zero") ["width"] (spZero (He.ga K "Ratio")) := by
  obtain ⟨fd, F⟩ := T.c.def_ 6 (d := d_zero) rfl
  exact ⟨⟨fd, okF_zero T F G_Ratio_init1, FunD.bindsN F fun _ _ _ _ _ _ us hl => match us, hl with | [_], _ => rfl⟩, F.kp⟩

abbrev N_widened : List Str := ["matrix", "rows", "row"]
theorem sc_widened : FnScope N_widened ["matrix"] (defScope s_widened) := ⟨rfl, rfl, rfl, by decide +kernel, rfl, by decide +kernel, by decide +kernel⟩
theorem okF_widened {w : World} (T : Tx fa fn ex K mg) {fd : FuncData} (F : FunD K d_widened.name d_widened.qual d_widened.params d_widened.body d_widened.scope (d_widened.dvs K) (d_widened.kws K) (He.fAd K d_widened.at_) fd) (G_Ratio_init1 : FnD1 P w K mg base 34 (He.ma K (He.ga K "Ratio") "__init__") ["self", "top", "bottom"] [.int 1] (spInit (He.ga K "Ratio"))) (G_zero : FnG P w K mg base 36 (He.ga K "zero") ["width"] (spZero (He.ga K "Ratio"))) : FnOk P w K mg base CX0 37 (He.ga K "widened") fd ["matrix"] (spWid (He.ga K "Ratio")) := by
  have nd : (N_widened).Nodup := sc_widened.nd
  refine F.ok sc_widened (fun vs H Q E h => ?_) (fun cdv A outer s H vs Q E hr h => ?_)
  · obtain ⟨_, _, rfl, _⟩ := h
    rfl
  · obtain ⟨x, M, rfl, hx, hM, hw, k⟩ := h
    refine ⟨_, PSs.nox (pss_cons (ps_setLc (i := 1) (own := [("row", 2)]) (g := gName 2) rfl nd rfl rfl (sw_true rfl rfl rfl (by decide +kernel)) (pi_tupK (K := K) rfl (pv 0)) (blkOk_by (own := [("row", 2)]) (N := N_widened) (sc := defScope s_widened) (by decide +kernel)) (fun _ _ _ _ _ => by exact (pg_name (i := 2) nd rfl (by first | exact Or.inl rfl | exact Or.inr rfl))) (fun _ _ _ _ _ => by exact (pts_nil)) (fun _ _ _ _ _ => by exact ((pe_tup (pa_starK (K := K) rfl (pv 2) (pa_cons (pe_makeD (T.mkr 15 rfl) G_Ratio_init1 (hr.mono (by decide)) (T.glo 16 rfl) (pa_cons pe_int pa_nil)) pa_nil))))))
      (pss_one (ps_ret (pe_tup (pa_starK (K := K) rfl (pv 1) (pa_cons (pe_callF G_zero (hr.mono (by decide)) (T.glo 30 rfl) (pa_cons (pe_op op_add (pe_callB (call_lenK (K := K) rfl) (by rfl) (T.free 7 rfl) (by decide +kernel) (pa_cons (pv 0) pa_nil)) pe_int) pa_nil)) pa_nil)))))), ?_⟩
    refine q_asgT (evp_mapT (R := RV (He.ga K "Ratio")) (S := RV (He.ga K "Ratio")) (f := fun r => r ++ [((0 : Int) : Rat)]) mono_rv mono_rv stab_rv (vP mono_mat hx _ _ 0 (Ex.refl _) rfl) (by omega) (fun _ => rfl) (fun v r H2 e2 hr2 hv =>
      evp_star1 mono_rq (evp_var mono_vec hv) (fq_int (n := 0)) (by have := hw r hr2; omega)) H (Ex.refl _) _ fun v1 H1 e1 m1 => ?_)
    have hx := mono_mat _ _ _ e1 hx
    refine s_retP (evp_starL1 mono_rv (vP (fun v H H' e h => mono_lst mono_rv _ v H H' e h) m1 _ _ 1 (Ex.refl _) rfl) (evp_zero (n := M.length + 1) (ev_is (ev_op (ev_lenT (vP mono_mat hx _ _ 0 (Ex.refl _) rfl)) ev_c rv_I0) rfl) (by omega)) (by rw [List.length_map]; omega)) fun v H2 e2 r => k v H2 (e1.trans e2) r
theorem ok_widened {w : World} (T : Tx fa fn ex K mg) (G_Ratio_init1 : FnD1 P w K mg base 34 (He.ma K (He.ga K "Ratio") "__init__") ["self", "top", "bottom"] [.int 1] (spInit (He.ga K "Ratio"))) (G_zero : FnG P w K mg base 36 (He.ga K "zero") ["width"] (spZero (He.ga K "Ratio"))) : FnG P w K mg base 37 (He.ga K "widened") ["matrix"] (spWid (He.ga K "Ratio")) := by
  obtain ⟨fd, F⟩ := T.c.def_ 7 (d := d_widened) rfl
  exact ⟨⟨fd, okF_widened T F G_Ratio_init1 G_zero, FunD.bindsN F fun _ _ _ _ _ _ us hl => match us, hl with | [_], _ => rfl⟩, F.kp⟩

abbrev N_Net_add_point : List Str := ["self", "name", "approximation"]
theorem sc_Net_add_point : FnScope N_Net_add_point ["self", "name", "approximation"] (defScope s_Net_add_point) := ⟨rfl, rfl, rfl, by decide +kernel, rfl, by decide +kernel, by decide +kernel⟩
theorem okF_Net_add_point {w : World} (T : Tx fa fn ex K mg) {fd : FuncData} (F : FunD K d_Net_add_point.name d_Net_add_point.qual d_Net_add_point.params d_Net_add_point.body d_Net_add_point.scope (d_Net_add_point.dvs K) (d_Net_add_point.kws K) (He.fAd K d_Net_add_point.at_) fd) (G_check_new_point : FnG P w K mg base 1 (He.ga K "check_new_point") ["points", "name"] (spChkNew)) (G_widened : FnG P w K mg base 37 (He.ga K "widened") ["matrix"] (spWid (He.ga K "Ratio"))) (G_Ratio_init1 : FnD1 P w K mg base 34 (He.ma K (He.ga K "Ratio") "__init__") ["self", "top", "bottom"] [.int 1] (spInit (He.ga K "Ratio"))) : FnOk P w K mg base CX0 38 (He.ma K (He.ga K "Net") "add_point") fd ["self", "name", "approximation"] (spAddPoint (He.ga K "Ratio") (He.ga K "Reading") (He.ga K "Net")) := by
  have nd : (N_Net_add_point).Nodup := sc_Net_add_point.nd
  refine F.ok sc_Net_add_point (fun vs H Q E h => ?_) (fun cdv A outer s H vs Q E hr h => ?_)
  · obtain ⟨_, _, _, _, _, _, _, rfl, _⟩ := h
    rfl
  · obtain ⟨a, pl, rl, N, n, u, x, rfl, hN, hu, ne, hn, n12, ⟨l1, l2, ⟨lM, wM⟩, ⟨lP, wP⟩⟩, k⟩ := h
    refine ⟨_, PSs.nox (pss_cons (ps_expr (pe_callF G_check_new_point (hr.mono (by decide)) (T.glo 27 rfl) (pa_cons (pe_fldK (K := K) rfl (pv 0) rfl) (pa_cons (pv 1) pa_nil))))
      (pss_cons (ps_expr (pe_bm PySem.F.plainAttrs_list PySem.F.slot_list_append PySem.F.type_list_append mt_append (pe_fldK (K := K) rfl (pv 0) rfl) (pa_cons (pv 1) pa_nil)))
      (pss_cons (ps_fld (pv 0) (pe_tup (pa_starK (K := K) rfl (pe_fldK (K := K) rfl (pv 0) rfl) (pa_cons (pv 2) pa_nil))) rfl)
      (pss_cons (ps_fld (pv 0) (pe_callF G_widened (hr.mono (by decide)) (T.glo 28 rfl) (pa_cons (pe_fldK (K := K) rfl (pv 0) rfl) pa_nil)) rfl)
      (pss_cons (ps_fld (pv 0) (pe_callF G_widened (hr.mono (by decide)) (T.glo 28 rfl) (pa_cons (pe_fldK (K := K) rfl (pv 0) rfl) pa_nil)) rfl)
      (pss_one (ps_fld (pv 0) (pe_tup (pa_starK (K := K) rfl (pe_fldK (K := K) rfl (pv 0) rfl) (pa_cons (pe_makeD (T.mkr 15 rfl) G_Ratio_init1 (hr.mono (by decide)) (T.glo 16 rfl) (pa_cons pe_int pa_nil)) pa_nil))) rfl))))))), ?_⟩
    show tFld _ _ _ _ _ _
    refine ev_npts (tcl_Net T) (tno_Net_points T) hN (ev_var rfl) H (Ex.refl _) _ fun H1 e1 => ?_
    have hN := hN.ex e1
    refine ⟨_, rfl, _, n, N.ns, rfl, hN.pts, hn, n12, fun H2 e2 => ?_⟩
    have hN := hN.ex e2
    have hu := (hu.mono e1).mono e2
    have e2 := e1.trans e2
    dsimp only
    show tFld _ _ _ _ _ _
    refine ev_npts (tcl_Net T) (tno_Net_points T) hN (ev_var rfl) H2 (Ex.refl _) _ fun H3 e3 => ?_
    have hN := hN.ex e3
    have hu := hu.mono e3
    have e3 := e2.trans e3
    obtain ⟨g1, hN2⟩ := hN.addPt (n := n) ne
    refine ⟨.inl ⟨rfl, _, SqL.of g1⟩, ?_⟩
    refine ⟨_, rfl, ?_⟩
    refine ⟨pl, _, .str n, rfl, rfl, g1, (sz_lt (by rw [List.length_map]; omega)), ?_⟩
    have f1 : FrB (NB a pl rl) H3 (upd H3 pl (.lst (N.ns.map V.str ++ [.str n]))) := FrB.upd (.inr (.inl rfl))
    have hu := keptN_rq _ _ _ _ _ hN.mut f1 hu
    have f1 := (FrB.of e3).trans f1
    generalize upd H3 pl (.lst (N.ns.map V.str ++ [.str n])) = H4 at *
    dsimp only
    show tSeq (sFld _ _ _ _) _ _ [some (.ref a), some (.str n), some u] H4
    refine n_setA (tcl_Net T) (tno_Net_approximations T) hN2 (evp_star1 mono_rq (evp_nA (tcl_Net T) (tno_Net_approximations T) hN2 (ev_var rfl)) (vP mono_rat hu _ _ 2 (Ex.refl _) rfl) (by show N.xs.length ≤ _; omega)) rfl fun H5 hN5 f5 => ?_
    dsimp only
    show tSeq (sFld _ _ _ _) _ _ [some (.ref a), some (.str n), some u] H5
    refine n_setM (tcl_Net T) (tno_Net_normal T) hN5 (evp_call1 (evp_nM (tcl_Net T) (tno_Net_normal T) hN5 (ev_var rfl)) fun v H6 e6 r6 Q2 E2 k2 => ⟨v, N.M, rfl, r6, by omega, fun r hr => by rw [wM r hr]; omega, k2⟩) rfl fun H6 hN6 f6 => ?_
    dsimp only
    show tSeq (sFld _ _ _ _) _ _ [some (.ref a), some (.str n), some u] H6
    refine n_setP (tcl_Net T) (tno_Net_inverse T) hN6 (evp_call1 (evp_nP (tcl_Net T) (tno_Net_inverse T) hN6 (ev_var rfl)) fun v H7 e7 r7 Q2 E2 k2 => ⟨v, N.P, rfl, r7, by omega, fun r hr => by rw [wP r hr]; omega, k2⟩) rfl fun H7 hN7 f7 => ?_
    dsimp only
    refine n_setR (tcl_Net T) (tno_Net_right T) hN7 (evp_star1 mono_rq (evp_nR (tcl_Net T) (tno_Net_right T) hN7 (ev_var rfl)) (fq_int (n := 0)) (by show N.r.length ≤ _; omega)) rfl fun H8 hN8 f8 => ?_
    exact k _ hN8 (f1.trans ((f5.trans (f6.trans (f7.trans f8))).weak fun _ e => .inl e))
theorem ok_Net_add_point {w : World} (T : Tx fa fn ex K mg) (G_check_new_point : FnG P w K mg base 1 (He.ga K "check_new_point") ["points", "name"] (spChkNew)) (G_widened : FnG P w K mg base 37 (He.ga K "widened") ["matrix"] (spWid (He.ga K "Ratio"))) (G_Ratio_init1 : FnD1 P w K mg base 34 (He.ma K (He.ga K "Ratio") "__init__") ["self", "top", "bottom"] [.int 1] (spInit (He.ga K "Ratio"))) : FnG P w K mg base 38 (He.ma K (He.ga K "Net") "add_point") ["self", "name", "approximation"] (spAddPoint (He.ga K "Ratio") (He.ga K "Reading") (He.ga K "Net")) := by
  obtain ⟨fd, F⟩ := T.c.def_ 8 (d := d_Net_add_point) rfl
  exact ⟨⟨fd, okF_Net_add_point T F G_check_new_point G_widened G_Ratio_init1, FunD.bindsN F fun _ _ _ _ _ _ us hl => match us, hl with | [_, _, _], _ => rfl⟩, F.kp⟩

abbrev N__law_whole : List Str := ["state", "pick"]
theorem sc__law_whole : FnScope N__law_whole ["state"] (defScope s__law_whole) := ⟨rfl, rfl, rfl, by decide +kernel, rfl, by decide +kernel, by decide +kernel⟩
theorem okF__law_whole {w : World} (T : Tx fa fn ex K mg) {fd : FuncData} (F : FunD K d__law_whole.name d__law_whole.qual d__law_whole.params d__law_whole.body d__law_whole.scope (d__law_whole.dvs K) (d__law_whole.kws K) (He.fAd K d__law_whole.at_) fd) (G__law_draw : FnG P w K mg base 1 (He.ga K "_law_draw") ["state", "many"] (spDraw3)) : FnOk P w K mg base CX0 2 (He.ga K "_law_whole") fd ["state"] (spWhole3) := by
  have nd : (N__law_whole).Nodup := sc__law_whole.nd
  refine F.ok sc__law_whole (fun vs H Q E h => ?_) (fun cdv A outer s H vs Q E hr h => ?_)
  · obtain ⟨_, _, rfl, _⟩ := h
    rfl
  · obtain ⟨st, c, rfl, hs, hc, k⟩ := h
    refine ⟨_, PSs.nox (pss_cons (ps_set (i := 1) nd rfl (by first | exact Or.inl rfl | exact Or.inr rfl) (pe_callF G__law_draw (hr.mono (by decide)) (T.glo 10 rfl) (pa_cons (pv 0) (pa_cons pe_int pa_nil))))
      (pss_cons (ps_if (pt_cmpR op_lt (pv 1) pe_int (nomark _)) (pss_one (ps_ret (pe_op op_sub (pe_callF G__law_draw (hr.mono (by decide)) (T.glo 10 rfl) (pa_cons (pv 0) (pa_cons pe_int pa_nil))) pe_int)))
      pss_nil)
      (pss_cons (ps_if (pt_cmpR op_eq (pv 1) pe_int (nomark _)) (pss_one (ps_ret pe_int))
      pss_nil)
      (pss_cons (ps_if (pt_cmpR op_eq (pv 1) pe_int (nomark _)) (pss_one (ps_ret (pe_op op_sub (pe_op op_add (pe_op op_mul (pe_callF G__law_draw (hr.mono (by decide)) (T.glo 10 rfl) (pa_cons (pv 0) (pa_cons pe_int pa_nil))) pe_int) (pe_callF G__law_draw (hr.mono (by decide)) (T.glo 10 rfl) (pa_cons (pv 0) (pa_cons pe_int pa_nil)))) pe_int)))
      pss_nil)
      (pss_one (ps_ret (pe_op op_sub (pe_callF G__law_draw (hr.mono (by decide)) (T.glo 10 rfl) (pa_cons (pv 0) (pa_cons pe_int pa_nil))) pe_int))))))), ?_⟩
    refine ⟨_, rfl, st, c, 6, rfl, hs, (by omega), by decide, fun d H1 d0 d1 s1 f1 => ?_⟩
    refine ⟨_, rfl, _, _, rfl, rfl, _, rfl, ?_⟩
    refine ifB (fun _ => ?_) (fun _ => ?_)
    · refine ⟨_, rfl, st, c + 1, 7, rfl, s1, (by omega), by decide, fun e H2 e0 e1 s2 f2 => ?_⟩
      refine ⟨_, _, rfl, rfl, ?_⟩
      exact k _ _ (by omega) (s2.mono (by omega)) (f1.trans f2)
    refine ⟨_, rfl, rfl, _, rfl, ?_⟩
    refine ifB (fun _ => ?_) (fun _ => ?_)
    · exact k _ _ (by decide) (s1.mono (by omega)) f1
    refine ⟨_, rfl, rfl, _, rfl, ?_⟩
    refine ifB (fun _ => ?_) (fun _ => ?_)
    · refine ⟨_, rfl, st, c + 1, 1000, rfl, s1, (by omega), by decide, fun e H2 e0 e1 s2 f2 => ?_⟩
      refine ⟨_, _, rfl, rfl, .inr ⟨by decide, by decide⟩, _, rfl, st, c + 2, 1000, rfl, s2, (by omega), by decide, fun g H3 g0 g1 s3 f3 => ?_⟩
      refine ⟨_, _, rfl, rfl, _, _, rfl, rfl, ?_⟩
      exact k _ _ (by omega) (s3.mono (by omega)) ((f1.trans f2).trans f3)
    · refine ⟨_, rfl, st, c + 1, 199, rfl, s1, (by omega), by decide, fun e H2 e0 e1 s2 f2 => ?_⟩
      refine ⟨_, _, rfl, rfl, ?_⟩
      exact k _ _ (by omega) (s2.mono (by omega)) (f1.trans f2)
theorem ok__law_whole {w : World} (T : Tx fa fn ex K mg) (G__law_draw : FnG P w K mg base 1 (He.ga K "_law_draw") ["state", "many"] (spDraw3)) : FnG P w K mg base 2 (He.ga K "_law_whole") ["state"] (spWhole3) := by
  obtain ⟨fd, F⟩ := T.c.def_ 9 (d := d__law_whole) rfl
  exact ⟨⟨fd, okF__law_whole T F G__law_draw, FunD.bindsN F fun _ _ _ _ _ _ us hl => match us, hl with | [_], _ => rfl⟩, F.kp⟩

abbrev N__law_ratio : List Str := ["state", "top"]
theorem sc__law_ratio : FnScope N__law_ratio ["state"] (defScope s__law_ratio) := ⟨rfl, rfl, rfl, by decide +kernel, rfl, by decide +kernel, by decide +kernel⟩
theorem okF__law_ratio {w : World} (T : Tx fa fn ex K mg) {fd : FuncData} (F : FunD K d__law_ratio.name d__law_ratio.qual d__law_ratio.params d__law_ratio.body d__law_ratio.scope (d__law_ratio.dvs K) (d__law_ratio.kws K) (He.fAd K d__law_ratio.at_) fd) (G__law_whole : FnG P w K mg base 2 (He.ga K "_law_whole") ["state"] (spWhole3)) (G__law_draw : FnG P w K mg base 1 (He.ga K "_law_draw") ["state", "many"] (spDraw3)) (G_Ratio_init1 : FnD1 P w K mg base 34 (He.ma K (He.ga K "Ratio") "__init__") ["self", "top", "bottom"] [.int 1] (spInit (He.ga K "Ratio"))) (G_Ratio_init : FnG P w K mg base 34 (He.ma K (He.ga K "Ratio") "__init__") ["self", "top", "bottom"] (spInit (He.ga K "Ratio"))) : FnOk P w K mg base CX0 36 (He.ga K "_law_ratio") fd ["state"] (spRatio4 (He.ga K "Ratio")) := by
  have nd : (N__law_ratio).Nodup := sc__law_ratio.nd
  refine F.ok sc__law_ratio (fun vs H Q E h => ?_) (fun cdv A outer s H vs Q E hr h => ?_)
  · obtain ⟨_, _, rfl, _⟩ := h
    rfl
  · obtain ⟨st, c, rfl, hs, hc, k⟩ := h
    refine ⟨_, PSs.nox (pss_cons (ps_set (i := 1) nd rfl (by first | exact Or.inl rfl | exact Or.inr rfl) (pe_callF G__law_whole (hr.mono (by decide)) (T.glo 32 rfl) (pa_cons (pv 0) pa_nil)))
      (pss_cons (ps_if (pt_cmpR op_eq (pe_callF G__law_draw (hr.mono (by decide)) (T.glo 10 rfl) (pa_cons (pv 0) (pa_cons pe_int pa_nil))) pe_int (nomark _)) (pss_one (ps_ret (pe_makeD (T.mkr 15 rfl) G_Ratio_init1 (hr.mono (by decide)) (T.glo 16 rfl) (pa_cons (pv 1) pa_nil))))
      pss_nil)
      (pss_one (ps_ret (pe_makeF (T.mkr 15 rfl) G_Ratio_init (hr.mono (by decide)) (T.glo 16 rfl) (pa_cons (pv 1) (pa_cons (pe_op op_add pe_int (pe_callF G__law_draw (hr.mono (by decide)) (T.glo 10 rfl) (pa_cons (pv 0) (pa_cons pe_int pa_nil)))) pa_nil))))))), ?_⟩
    refine ⟨_, rfl, st, c, rfl, hs, (by omega), fun t H1 ht s1 f1 => ?_⟩
    refine ⟨_, rfl, st, c + 4, 2, rfl, s1, (by omega), by decide, fun d H2 _ _ s2 f2 => ?_⟩
    refine ⟨rfl, _, rfl, ?_⟩
    refine ifB (fun _ => ?_) (fun _ => ?_)
    · refine fq_iv (ev_var rfl) H2 (Ex.refl _) _ fun v H3 e3 r => ?_
      exact k _ v H3 (smB_int ht (by decide)) (by rw [Rat.den_intCast]; exact Nat.one_dvd _) r ((s2.ex e3).mono (by omega)) ((f1.trans f2).trans (.of e3))
    · refine ⟨_, rfl, _, rfl, st, c + 5, 12, rfl, s2, (by omega), by decide, fun e H3 e0 e1 s3 f3 => ?_⟩
      refine ⟨_, _, rfl, rfl, ?_⟩
      refine fq_mk (σ := []) (t := t) (b := 1 + e) ev_c ev_c (by omega) (Nat.lt_of_lt_of_le (m := 2 ^ 20) (by omega) (Nat.pow_le_pow_right (by decide) (by decide))) H3 (Ex.refl _) _ fun v H4 e4 r => ?_
      exact k _ v H4 (smB_divN (by omega) ht (by omega)) (Nat.dvd_trans (den_divInt_dvd _ (by omega)) (dd_small e0 e1)) r ((s3.ex e4).mono (by omega)) (((f1.trans f2).trans f3).trans (.of e4))
theorem ok__law_ratio {w : World} (T : Tx fa fn ex K mg) (G__law_whole : FnG P w K mg base 2 (He.ga K "_law_whole") ["state"] (spWhole3)) (G__law_draw : FnG P w K mg base 1 (He.ga K "_law_draw") ["state", "many"] (spDraw3)) (G_Ratio_init1 : FnD1 P w K mg base 34 (He.ma K (He.ga K "Ratio") "__init__") ["self", "top", "bottom"] [.int 1] (spInit (He.ga K "Ratio"))) (G_Ratio_init : FnG P w K mg base 34 (He.ma K (He.ga K "Ratio") "__init__") ["self", "top", "bottom"] (spInit (He.ga K "Ratio"))) : FnG P w K mg base 36 (He.ga K "_law_ratio") ["state"] (spRatio4 (He.ga K "Ratio")) := by
  obtain ⟨fd, F⟩ := T.c.def_ 10 (d := d__law_ratio) rfl
  exact ⟨⟨fd, okF__law_ratio T F G__law_whole G__law_draw G_Ratio_init1 G_Ratio_init, FunD.bindsN F fun _ _ _ _ _ _ us hl => match us, hl with | [_], _ => rfl⟩, F.kp⟩

abbrev N_Reading_init : List Str := ["self", "name", "terms", "value", "weight"]
theorem sc_Reading_init : FnScope N_Reading_init ["self", "name", "terms", "value", "weight"] (defScope s_Reading_init) := ⟨rfl, rfl, rfl, by decide +kernel, rfl, by decide +kernel, by decide +kernel⟩
theorem okF_Reading_init {w : World} (T : Tx fa fn ex K mg) {fd : FuncData} (F : FunD K d_Reading_init.name d_Reading_init.qual d_Reading_init.params d_Reading_init.body d_Reading_init.scope (d_Reading_init.dvs K) (d_Reading_init.kws K) (He.fAd K d_Reading_init.at_) fd)  : FnOk P w K mg base CX0 1 (He.ma K (He.ga K "Reading") "__init__") fd ["self", "name", "terms", "value", "weight"] (spRdInit (He.ga K "Reading")) := by
  have nd : (N_Reading_init).Nodup := sc_Reading_init.nd
  refine F.ok sc_Reading_init (fun vs H Q E h => ?_) (fun cdv A outer s H vs Q E hr h => ?_)
  · obtain ⟨_, _, _, _, _, _, rfl, _⟩ := h
    rfl
  · obtain ⟨p, dx, n, vt, vv, vw, rfl, hp, k⟩ := h
    refine ⟨_, PSs.nox (pss_cons (ps_fld (pv 0) (pv 1) rfl)
      (pss_cons (ps_fld (pv 0) (pv 2) rfl)
      (pss_cons (ps_fld (pv 0) (pv 3) rfl)
      (pss_one (ps_fld (pv 0) (pv 4) rfl))))), ?_⟩
    refine ⟨_, rfl, _, rfl, p, _, dx, _, rfl, hp, tcl_Reading T, tno_Reading_name T, by show 0 < 1000; decide, ?_⟩
    refine ⟨_, rfl, _, rfl, p, _, dx, _, rfl, upd_same, tcl_Reading T, tno_Reading_terms T, by rw [put_name]; show 1 < 1000; decide, ?_⟩
    refine ⟨_, rfl, _, rfl, p, _, dx, _, rfl, upd_same, tcl_Reading T, tno_Reading_value T, by rw [put_name, put_terms]; show 2 < 1000; decide, ?_⟩
    refine ⟨_, rfl, _, rfl, p, _, dx, _, rfl, upd_same, tcl_Reading T, tno_Reading_weight T, by rw [put_name, put_terms, put_value]; show 3 < 1000; decide, ?_⟩
    refine k _ ?_
    rw [upd_upd, upd_upd, upd_upd, put_name, put_terms, put_value, put_weight]
theorem ok_Reading_init {w : World} (T : Tx fa fn ex K mg)  : FnG P w K mg base 1 (He.ma K (He.ga K "Reading") "__init__") ["self", "name", "terms", "value", "weight"] (spRdInit (He.ga K "Reading")) := by
  obtain ⟨fd, F⟩ := T.c.def_ 11 (d := d_Reading_init) rfl
  exact ⟨⟨fd, okF_Reading_init T F , FunD.bindsN F fun _ _ _ _ _ _ us hl => match us, hl with | [_, _, _, _, _], _ => rfl⟩, F.kp⟩

abbrev N__law_weight : List Str := ["state"]
theorem sc__law_weight : FnScope N__law_weight ["state"] (defScope s__law_weight) := ⟨rfl, rfl, rfl, by decide +kernel, rfl, by decide +kernel, by decide +kernel⟩
theorem okF__law_weight {w : World} (T : Tx fa fn ex K mg) {fd : FuncData} (F : FunD K d__law_weight.name d__law_weight.qual d__law_weight.params d__law_weight.body d__law_weight.scope (d__law_weight.dvs K) (d__law_weight.kws K) (He.fAd K d__law_weight.at_) fd) (G_Ratio_init : FnG P w K mg base 34 (He.ma K (He.ga K "Ratio") "__init__") ["self", "top", "bottom"] (spInit (He.ga K "Ratio"))) (G__law_draw : FnG P w K mg base 1 (He.ga K "_law_draw") ["state", "many"] (spDraw3)) (G_Ratio_init1 : FnD1 P w K mg base 34 (He.ma K (He.ga K "Ratio") "__init__") ["self", "top", "bottom"] [.int 1] (spInit (He.ga K "Ratio"))) : FnOk P w K mg base CX0 36 (He.ga K "_law_weight") fd ["state"] (spWeight4 (He.ga K "Ratio")) := by
  have nd : (N__law_weight).Nodup := sc__law_weight.nd
  refine F.ok sc__law_weight (fun vs H Q E h => ?_) (fun cdv A outer s H vs Q E hr h => ?_)
  · obtain ⟨_, _, rfl, _⟩ := h
    rfl
  · obtain ⟨st, c, rfl, hs, hc, k⟩ := h
    refine ⟨_, PSs.nox (pss_one (ps_ret (pe_ix (ix_tupK (K := K) rfl) (pe_tup (pa_cons (pe_makeD (T.mkr 15 rfl) G_Ratio_init1 (hr.mono (by decide)) (T.glo 16 rfl) (pa_cons pe_int pa_nil)) (pa_cons (pe_makeD (T.mkr 15 rfl) G_Ratio_init1 (hr.mono (by decide)) (T.glo 16 rfl) (pa_cons pe_int pa_nil)) (pa_cons (pe_makeF (T.mkr 15 rfl) G_Ratio_init (hr.mono (by decide)) (T.glo 16 rfl) (pa_cons pe_int (pa_cons pe_int pa_nil))) (pa_cons (pe_makeF (T.mkr 15 rfl) G_Ratio_init (hr.mono (by decide)) (T.glo 16 rfl) (pa_cons pe_int (pa_cons pe_int pa_nil))) (pa_cons (pe_makeF (T.mkr 15 rfl) G_Ratio_init (hr.mono (by decide)) (T.glo 16 rfl) (pa_cons (pe_op op_add pe_int (pe_callF G__law_draw (hr.mono (by decide)) (T.glo 10 rfl) (pa_cons (pv 0) (pa_cons pe_int pa_nil)))) (pa_cons pe_int pa_nil))) pa_nil)))))) (pe_callF G__law_draw (hr.mono (by decide)) (T.glo 10 rfl) (pa_cons (pv 0) (pa_cons pe_int pa_nil))) (fun _ _ => rfl)))), ?_⟩
    intro x1 dx1 nx1 ndx1 _
    refine ⟨x1, dx1, 1, 1, rfl, upd_same, by decide, Nat.one_lt_two_pow (by decide), fun G1 eq => ⟨rfl, ?_⟩⟩
    obtain ⟨e1, r1⟩ : Ex H G1 ∧ RatAt (He.ga K "Ratio") G1 (.ref x1) (Rat.divInt 1 1) := by
      rw [eq]
      exact made nx1 ndx1
    clear eq
    intro x2 dx2 nx2 ndx2 _
    refine ⟨x2, dx2, 2, 1, rfl, upd_same, by decide, Nat.one_lt_two_pow (by decide), fun G2 eq => ⟨rfl, ?_⟩⟩
    obtain ⟨e2, r2⟩ : Ex G1 G2 ∧ RatAt (He.ga K "Ratio") G2 (.ref x2) (Rat.divInt 2 1) := by
      rw [eq]
      exact made nx2 ndx2
    clear eq
    intro x3 dx3 nx3 ndx3 _
    refine ⟨x3, dx3, 1, 2, rfl, upd_same, by decide, Nat.lt_of_lt_of_le (show _ < 2 ^ 10 by decide) (Nat.pow_le_pow_right (by decide) (by decide)), fun G3 eq => ⟨rfl, ?_⟩⟩
    obtain ⟨e3, r3⟩ : Ex G2 G3 ∧ RatAt (He.ga K "Ratio") G3 (.ref x3) (Rat.divInt 1 2) := by
      rw [eq]
      exact made nx3 ndx3
    clear eq
    intro x4 dx4 nx4 ndx4 _
    refine ⟨x4, dx4, 3, 4, rfl, upd_same, by decide, Nat.lt_of_lt_of_le (show _ < 2 ^ 10 by decide) (Nat.pow_le_pow_right (by decide) (by decide)), fun G4 eq => ⟨rfl, ?_⟩⟩
    obtain ⟨e4, r4⟩ : Ex G3 G4 ∧ RatAt (He.ga K "Ratio") G4 (.ref x4) (Rat.divInt 3 4) := by
      rw [eq]
      exact made nx4 ndx4
    clear eq
    have e0 := ((e1.trans e2).trans e3).trans e4
    refine ⟨_, rfl, st, c, 500, rfl, hs.ex e0, (by omega), by decide, fun d H1 d0 d1 s1 f1 => ?_⟩
    refine ⟨_, _, rfl, rfl, ?_⟩
    intro x5 dx5 nx5 ndx5 _
    refine ⟨x5, dx5, 1 + d, 7, rfl, upd_same, by decide, Nat.lt_of_lt_of_le (show _ < 2 ^ 10 by decide) (Nat.pow_le_pow_right (by decide) (by decide)), fun G5 eq => ⟨rfl, ?_⟩⟩
    obtain ⟨e5, r5⟩ : Ex H1 G5 ∧ RatAt (He.ga K "Ratio") G5 (.ref x5) (Rat.divInt (1 + d) 7) := by
      rw [eq]
      exact made nx5 ndx5
    clear eq
    refine ⟨(by show 5 ≤ sizeLine; decide), fun t ht => ?_⟩
    have e6 := Ex.new (o := .tup [.ref x1, .ref x2, .ref x3, .ref x4, .ref x5]) ht
    have ht : upd G5 t (.tup [.ref x1, .ref x2, .ref x3, .ref x4, .ref x5]) t = some (.tup [.ref x1, .ref x2, .ref x3, .ref x4, .ref x5]) := upd_same
    generalize upd G5 t (.tup [.ref x1, .ref x2, .ref x3, .ref x4, .ref x5]) = G6 at e6 ht ⊢
    have f6 : FrS st H1 G6 := .of (e5.trans e6)
    refine ⟨_, rfl, st, c + 1, 5, rfl, (s1.ex e5).ex e6, (by omega), by decide, fun g H2 g0 g1 s2 f2 => ?_⟩
    have ff : FrS st H H2 := (((FrS.of e0).trans f1).trans f6).trans f2
    have ht2 := f2 _ _ (((s1.ex e5).ex e6).ne ht fun xs z => nomatch z) ht
    have up : ∀ {G : Hp} {v : V} {q : Rat}, Ex G G4 → RatAt (He.ga K "Ratio") G v q → RatAt (He.ga K "Ratio") H2 v q := fun e r => (((r.mono e).mono3 (hs.ex e0) (f1.trans f6)).mono3 ((s1.ex e5).ex e6) f2)
    obtain ⟨m, rfl⟩ : ∃ m : Nat, g = (m : Int) := ⟨g.toNat, (Int.toNat_of_nonneg g0).symm⟩
    have hm : m < 5 := by omega
    have fin : ∀ (v : V) (q : Rat), [V.ref x1, .ref x2, .ref x3, .ref x4, .ref x5][m]? = some v → SmB 9 q → 0 < q → q.den ∣ 28 → RatAt (He.ga K "Ratio") H2 v q → rIxT K (.ref t) (.int (m : Int)) H2 Q := fun v q h1 h2 h3 h5 h4 =>
      ⟨t, _, _, v, rfl, rfl, SqT.of ht2, atI_nat h1, k q v H2 ⟨h2, h3, h5⟩ h4 s2 ff⟩
    match m, hm, fin with
    | 0, _, fin => exact fin _ _ rfl (smB_divN (by decide) (by decide) (by decide)) (by decide +kernel) (den28 _ (by decide) (by decide)) (up ((e2.trans e3).trans e4) r1)
    | 1, _, fin => exact fin _ _ rfl (smB_divN (by decide) (by decide) (by decide)) (by decide +kernel) (den28 _ (by decide) (by decide)) (up (e3.trans e4) r2)
    | 2, _, fin => exact fin _ _ rfl (smB_divN (by decide) (by decide) (by decide)) (by decide +kernel) (den28 _ (by decide) (by decide)) (up e4 r3)
    | 3, _, fin => exact fin _ _ rfl (smB_divN (by decide) (by decide) (by decide)) (by decide +kernel) (den28 _ (by decide) (by decide)) (up (Ex.refl _) r4)
    | 4, _, fin => exact fin _ _ rfl (smB_divN (by decide) (by omega) (by decide)) (divInt_pos (by omega) (by decide)) (den28 (b := 7) _ (by decide) (by decide)) ((r5.mono e6).mono3 ((s1.ex e5).ex e6) f2)
theorem ok__law_weight {w : World} (T : Tx fa fn ex K mg) (G_Ratio_init : FnG P w K mg base 34 (He.ma K (He.ga K "Ratio") "__init__") ["self", "top", "bottom"] (spInit (He.ga K "Ratio"))) (G__law_draw : FnG P w K mg base 1 (He.ga K "_law_draw") ["state", "many"] (spDraw3)) (G_Ratio_init1 : FnD1 P w K mg base 34 (He.ma K (He.ga K "Ratio") "__init__") ["self", "top", "bottom"] [.int 1] (spInit (He.ga K "Ratio"))) : FnG P w K mg base 36 (He.ga K "_law_weight") ["state"] (spWeight4 (He.ga K "Ratio")) := by
  obtain ⟨fd, F⟩ := T.c.def_ 12 (d := d__law_weight) rfl
  exact ⟨⟨fd, okF__law_weight T F G_Ratio_init G__law_draw G_Ratio_init1, FunD.bindsN F fun _ _ _ _ _ _ us hl => match us, hl with | [_], _ => rfl⟩, F.kp⟩

abbrev N__law_terms : List Str := ["state", "names", "chosen", "name", "coefficient"]
theorem sc__law_terms : FnScope N__law_terms ["state", "names"] (defScope s__law_terms) := ⟨rfl, rfl, rfl, by decide +kernel, rfl, by decide +kernel, by decide +kernel⟩
theorem okF__law_terms {w : World} (T : Tx fa fn ex K mg) {fd : FuncData} (F : FunD K d__law_terms.name d__law_terms.qual d__law_terms.params d__law_terms.body d__law_terms.scope (d__law_terms.dvs K) (d__law_terms.kws K) (He.fAd K d__law_terms.at_) fd) (G__law_draw : FnG P w K mg base 1 (He.ga K "_law_draw") ["state", "many"] (spDraw3)) : FnOk P w K mg base CX0 2 (He.ga K "_law_terms") fd ["state", "names"] (spTerms) := by
  have nd : (N__law_terms).Nodup := sc__law_terms.nd
  refine F.ok sc__law_terms (fun vs H Q E h => ?_) (fun cdv A outer s H vs Q E hr h => ?_)
  · obtain ⟨_, _, _, _, rfl, _⟩ := h
    rfl
  · obtain ⟨st, c, x, ns, rfl, hs, hc, hx, hn, h0, k⟩ := h
    refine ⟨_, PSs.nox (pss_cons (ps_set (i := 2) nd rfl (by first | exact Or.inl rfl | exact Or.inr rfl) (pe_lst pa_nil))
      (pss_cons (ps_for PassesOwn.never rfl (pi_listK (K := K) rfl (pv 1)) (pg_name (i := 3) nd rfl (by first | exact Or.inl rfl | exact Or.inr rfl))
      (pss_one (ps_if (PW.pt (pw_and (pt_cmpR op_gt (pe_callF G__law_draw (hr.mono (by decide)) (T.glo 10 rfl) (pa_cons (pv 0) (pa_cons pe_int pa_nil))) pe_int (nomark _)) (pw_and1 (pt_cmpR op_lt (pe_callB (call_lenK (K := K) rfl) (by rfl) (T.free 7 rfl) (by decide +kernel) (pa_cons (pv 2) pa_nil)) pe_int (nomark _))))) (pss_cons (ps_set (i := 4) nd rfl (by first | exact Or.inl rfl | exact Or.inr rfl) (pe_ix (ix_tupK (K := K) rfl) (pe_tup (pa_cons pe_int (pa_cons (pe_un un_neg pe_int) (pa_cons pe_int (pa_cons (pe_un un_neg pe_int) (pa_cons pe_int (pa_cons (pe_un un_neg pe_int) (pa_cons pe_int (pa_cons (pe_un un_neg pe_int) pa_nil))))))))) (pe_callF G__law_draw (hr.mono (by decide)) (T.glo 10 rfl) (pa_cons (pv 0) (pa_cons pe_int pa_nil))) (fun _ _ => rfl)))
      (pss_one (ps_expr (pe_bm PySem.F.plainAttrs_list PySem.F.slot_list_append PySem.F.type_list_append mt_append (pv 2) (pa_cons (pe_tup (pa_cons (pv 3) (pa_cons (pv 4) pa_nil))) pa_nil)))))
      pss_nil)))
      (Evl.pss_cut (ps_if (pt_cmpR op_eq (pe_callB (call_lenK (K := K) rfl) (by rfl) (T.free 7 rfl) (by decide +kernel) (pa_cons (pv 2) pa_nil)) pe_int (nomark _)) (pss_one (ps_expr (pe_bm PySem.F.plainAttrs_list PySem.F.slot_list_append PySem.F.type_list_append mt_append (pv 2) (pa_cons (pe_tup (pa_cons (pe_ix (ix_listK (K := K) rfl) (pv 1) pe_int (fun _ _ => rfl)) (pa_cons pe_int pa_nil))) pa_nil))))
      pss_nil)
      (pss_one (ps_ret (pe_callTy (call_tupFK (K := K) rfl) (by rfl) (T.free 31 rfl) (by decide +kernel) (pa_cons (pv 2) pa_nil))))))), ?_⟩
    have cM : cMax = 1000000000 := rfl
    obtain ⟨pl, rfl, hpl⟩ := hx
    refine ⟨(by show 0 ≤ sizeLine; decide), fun D hD => ?_⟩
    have e0 := Ex.new (o := .lst []) hD
    have nD1 : D ≠ st.1 := hs.fresh hD
    have nD2 : D ≠ st.2 := hs.fresh2 hD
    have nDp : pl ≠ D := ne_of_none hpl hD
    have npl : pl ≠ st.1 := fun e => by
      obtain ⟨items, n, sd, z1, z2, _⟩ := hs
      rw [← e, hpl] at z1
      injection z1 with z1
      injection z1 with z1
      cases ns with
      | nil => cases z1
      | cons a l => rw [List.map_cons] at z1; injection z1 with z1 _; cases z1
    have s0 := hs.ex e0
    have g0 : upd H D (.lst []) D = some (.lst []) := upd_same
    have hpl0 := e0 _ _ hpl
    have f0 : FrS st H (upd H D (.lst [])) := .of e0
    generalize upd H D (.lst []) = H0 at *
    dsimp only
    have mr : MonoR (fun (p : Addr) (v : V) (_ : Hp) => v = .ref p) := fun _ _ _ _ _ h => h
    have LL : ∀ {H' : Hp} {ps : List Addr}, H' D = some (.lst (ps.map V.ref)) → LstAt (fun (p : Addr) (v : V) (_ : Hp) => v = .ref p) ps (.ref D) H' := fun h => ⟨D, _, rfl, h, by simp, fun i x v h1 h2 => by rw [List.getElem?_map, h1] at h2; exact (Option.some.inj h2).symm⟩
    show tSeq (tFor _ _ _) _ _ [some (.ref st.1), some (.ref pl), some (.ref D), none, none] H0
    refine ⟨_, rfl, pl, rfl, ⟨_, SqL.of hpl0⟩, for_list (K := K) (a := pl) (xs := ns.map V.str) (fun i σ H' => ∃ v3 v4 ts ps, σ = [some (.ref st.1), some (.ref pl), some (.ref D), v3, v4] ∧ H' D = some (.lst (ps.map V.ref)) ∧ Paired (fun p (t : Str × Int) => H' p = some (.tup [.str t.1, .int t.2])) ps ts ∧ TsIn (ns.take (i)) ts ∧ St3 st (c + 2 * (i)) H' ∧ FrS st H H' ∧ H' pl = some (.lst (ns.map V.str))) ⟨_, _, [], [], rfl, g0, .nil, tsIn_nil, s0.mono (by omega), f0, hpl0⟩ (fun i σ H' _ ⟨_, _, _, _, _, _, _, _, _, _, h⟩ => SqL.of h) ?_ ?_⟩
    · rintro i y σ H2 hy ⟨v3, v4, ts, ps, rfl, hD2, hp, ht, s2, f2, hpl2⟩
      rw [List.getElem?_map] at hy
      obtain ⟨nm, hnm, rfl⟩ := Option.map_eq_some_iff.mp hy
      have hi : i < ns.length := (List.getElem?_eq_some_iff.mp hnm).1
      have tp : ∀ {Ha Hb : Hp} {cc : Nat}, St3 st cc Ha → FrS st Ha Hb → Paired (fun p (t : Str × Int) => Ha p = some (.tup [.str t.1, .int t.2])) ps ts → Paired (fun p (t : Str × Int) => Hb p = some (.tup [.str t.1, .int t.2])) ps ts := fun s f h => paired_imp (fun p t g => f _ _ (s.ne g (by intro xs z; cases z)) g) h
      have te : ∀ {Ha Hb : Hp}, Ex Ha Hb → Paired (fun p (t : Str × Int) => Ha p = some (.tup [.str t.1, .int t.2])) ps ts → Paired (fun p (t : Str × Int) => Hb p = some (.tup [.str t.1, .int t.2])) ps ts := fun e h => paired_imp (fun p t g => e _ _ g) h
      dsimp only [gName]
      refine ⟨_, rfl, st, c + 2 * i, 3, rfl, s2, (by omega), by decide, fun d H3 d0 d1 s3 f3 => ?_⟩
      refine ⟨_, _, rfl, rfl, _, rfl, ?_⟩
      have hD3 := f3 _ _ nD1 hD2
      have hpl3 := f3 _ _ npl hpl2
      have hp3 := tp s2 f3 hp
      refine ifB (fun _ => ?_) (fun _ => ?_)
      · refine et_test (ev_op (ev_lenL (vP (fun v H H' e h => mono_lst mr _ v H H' e h) (LL hD3) _ _ 2 (Ex.refl _) rfl)) ev_c rv_I0) H3 (Ex.refl _) _ fun H4 e4 => ?_
        have hD4 := e4 _ _ hD3
        have hpl4 := e4 _ _ hpl3
        have hp4 := te e4 hp3
        have s4 := s3.ex e4
        have f4 := (f2.trans f3).trans (.of e4)
        refine ifB (fun hl => ?_) (fun _ => ⟨_, _, ts, ps, rfl, hD4, hp4, ht.skip, s4.mono (by omega), f4, hpl4⟩)
        have hl := of_decide_eq_true hl
        refine ⟨_, rfl, _, rfl, _, rfl, _, rfl, (by show 8 ≤ sizeLine; decide), fun t ht5 => ?_⟩
        have e5 := Ex.new (o := .tup [.int 1, .int (-1), .int 1, .int (-1), .int 2, .int (-3), .int 9, .int (-9)]) ht5
        have g5 : upd H4 t (.tup [.int 1, .int (-1), .int 1, .int (-1), .int 2, .int (-3), .int 9, .int (-9)]) t = some (.tup [.int 1, .int (-1), .int 1, .int (-1), .int 2, .int (-3), .int 9, .int (-9)]) := upd_same
        have hD5 := e5 _ _ hD4
        have hpl5 := e5 _ _ hpl4
        have hp5 := te e5 hp4
        have s5 := s4.ex e5
        have f5 := f4.trans (.of e5)
        refine ⟨_, rfl, st, c + 2 * i + 1, 8, rfl, s5, (by omega), by decide, fun g H6 b0 b1 s6 f6 => ?_⟩
        have g6 := f6 _ _ (s5.ne g5 fun xs z => nomatch z) g5
        have hD6 := f6 _ _ nD1 hD5
        have hpl6 := f6 _ _ npl hpl5
        have hp6 := tp s5 f6 hp5
        have f6 := f5.trans f6
        obtain ⟨m, rfl⟩ : ∃ m : Nat, g = (m : Int) := ⟨g.toNat, (Int.toNat_of_nonneg b0).symm⟩
        obtain ⟨cf, hcf, h9⟩ : ∃ cf : Int, [V.int 1, .int (-1), .int 1, .int (-1), .int 2, .int (-3), .int 9, .int (-9)][m]? = some (.int cf) ∧ cf ≠ 0 ∧ cf.natAbs ≤ 9 := by
          have hm : m < 8 := by omega
          match m, hm with
          | 0, _ => exact ⟨_, rfl, by decide, by decide⟩
          | 1, _ => exact ⟨_, rfl, by decide, by decide⟩
          | 2, _ => exact ⟨_, rfl, by decide, by decide⟩
          | 3, _ => exact ⟨_, rfl, by decide, by decide⟩
          | 4, _ => exact ⟨_, rfl, by decide, by decide⟩
          | 5, _ => exact ⟨_, rfl, by decide, by decide⟩
          | 6, _ => exact ⟨_, rfl, by decide, by decide⟩
          | 7, _ => exact ⟨_, rfl, by decide, by decide⟩
        refine ⟨t, _, _, _, rfl, rfl, SqT.of g6, atI_nat hcf, ?_⟩
        dsimp only [gName]
        refine ⟨_, rfl, .inl ⟨rfl, _, SqL.of hD6⟩, ?_⟩
        refine ⟨_, rfl, _, rfl, (by show 2 ≤ sizeLine; decide), fun t2 ht2 => ?_⟩
        have e7 := Ex.new (o := .tup [.str nm, .int cf]) ht2
        have g7 : upd H6 t2 (.tup [.str nm, .int cf]) t2 = some (.tup [.str nm, .int cf]) := upd_same
        have hD7 := e7 _ _ hD6
        have hpl7 := e7 _ _ hpl6
        have hp7 := te e7 hp6
        have s7 := s6.ex e7
        have f7 := f6.trans (.of e7)
        generalize upd H6 t2 (.tup [.str nm, .int cf]) = H7 at *
        refine ⟨D, _, .ref t2, rfl, rfl, hD7, (sz_lt (by rw [List.length_map]; omega)), ?_⟩
        have tD : t2 ≠ D := ne_of g7 hD7 (by simp)
        have pD : ∀ {p : Addr} {t : Str × Int}, H7 p = some (.tup [.str t.1, .int t.2]) → upd H7 D (.lst (ps.map V.ref ++ [.ref t2])) p = some (.tup [.str t.1, .int t.2]) := fun h => (upd_ne (ne_of h hD7 (by simp))).trans h
        exact ⟨_, _, ts ++ [(nm, cf)], ps ++ [t2], rfl, by rw [upd_same]; simp, paired_snoc (paired_imp (fun p t g => pD g) hp7) ((upd_ne tD).trans g7), ht.snoc hnm h9.1 h9.2 (by have := paired_len hp; omega), (s7.upd nD1 nD2).mono (by omega), f7.updN hD, (upd_ne nDp).trans hpl7⟩
      · refine ifF rfl ?_
        exact ⟨_, _, ts, ps, rfl, hD3, hp3, ht.skip, s3.mono (by omega), f2.trans f3, hpl3⟩
    · rintro σ H2 ⟨v3, v4, ts, ps, rfl, hD2, hp, ht, s2, f2, hpl2⟩
      rw [List.length_map] at s2 ht
      dsimp only
      refine ⟨fun σ' H' => ∃ v3 v4 ts ps, σ' = [some (.ref st.1), some (.ref pl), some (.ref D), v3, v4] ∧ ts ≠ [] ∧ H' D = some (.lst (ps.map V.ref)) ∧ Paired (fun p (t : Str × Int) => H' p = some (.tup [.str t.1, .int t.2])) ps ts ∧ TsIn (ns.take (ns.length)) ts ∧ St3 st (c + 2 * (ns.length)) H' ∧ FrS st H H' ∧ H' pl = some (.lst (ns.map V.str)), ?_, ?_⟩
      · refine et_test (ev_op (ev_lenL (vP (fun v H H' e h => mono_lst mr _ v H H' e h) (LL hD2) _ _ 2 (Ex.refl _) rfl)) ev_c (rv_eq rfl)) H2 (Ex.refl _) _ fun H3 e3 => ?_
        have hD3 := e3 _ _ hD2
        have hpl3 := e3 _ _ hpl2
        have hp3 := paired_imp (fun p (t : Str × Int) (g : H2 p = some (.tup [.str t.1, .int t.2])) => e3 _ _ g) hp
        have s3 := s2.ex e3
        have f3 := f2.trans (.of e3)
        refine ifB (fun hc => ?_) (fun hc => ⟨_, _, ts, ps, rfl, (fun e => by subst e; cases hp; simp [eqV] at hc), hD3, hp3, ht, s3, f3, hpl3⟩)
        have hp0 : ps.length ≤ 24 := by
          have hc : ((ps.length : Int)) = 0 := by simpa [eqV] using hc
          omega
        obtain ⟨nm, hnm⟩ : ∃ n, ns[0]? = some n := ⟨_, List.getElem?_eq_getElem (List.length_pos_iff.mpr h0)⟩
        refine ⟨_, rfl, .inl ⟨rfl, _, SqL.of hD3⟩, ?_⟩
        refine ⟨_, rfl, pl, _, _, _, rfl, rfl, SqL.of hpl3, atI_nat (j := 0) (by rw [List.getElem?_map, hnm]; rfl), (by show 2 ≤ sizeLine; decide), fun t2 ht2 => ?_⟩
        have e7 := Ex.new (o := .tup [.str nm, .int 1]) ht2
        have g7 : upd H3 t2 (.tup [.str nm, .int 1]) t2 = some (.tup [.str nm, .int 1]) := upd_same
        have hD7 := e7 _ _ hD3
        have hpl7 := e7 _ _ hpl3
        have hp7 := paired_imp (fun p (t : Str × Int) (g : H3 p = some (.tup [.str t.1, .int t.2])) => e7 _ _ g) hp3
        have s7 := s3.ex e7
        have f7 := f3.trans (.of e7)
        generalize upd H3 t2 (.tup [.str nm, .int 1]) = H7 at *
        refine ⟨D, _, .ref t2, rfl, rfl, hD7, (sz_lt (by rw [List.length_map]; omega)), ?_⟩
        have tD : t2 ≠ D := ne_of g7 hD7 (by simp)
        have pD : ∀ {p : Addr} {t : Str × Int}, H7 p = some (.tup [.str t.1, .int t.2]) → upd H7 D (.lst (ps.map V.ref ++ [.ref t2])) p = some (.tup [.str t.1, .int t.2]) := fun h => (upd_ne (ne_of h hD7 (by simp))).trans h
        exact ⟨_, _, ts ++ [(nm, 1)], ps ++ [t2], rfl, (by simp), by rw [upd_same]; simp, paired_snoc (paired_imp (fun p t g => pD g) hp7) ((upd_ne tD).trans g7), (by have z : ts = [] := List.length_eq_zero_iff.mp (by have hc2 : ((ps.length : Int)) = 0 := (by simpa [eqV] using hc); have l := paired_len hp; omega); subst z; rw [List.take_length]; exact tsIn_one hnm), s7.upd nD1 nD2, f7.updN hD, (upd_ne nDp).trans hpl7⟩
      · rintro σ' H3 ⟨v3, v4, ts, ps, rfl, hte, hD3, hp3, ht, s3, f3, hpl3⟩
        rw [List.take_length] at ht
        refine ⟨_, rfl, D, _, rfl, SqL.of hD3, fun l o hl ho1 ho2 => ?_⟩
        have e7 := Ex.new (o := .frz o (.tup (ps.map V.ref))) hl
        exact k ts _ _ ⟨l, o, ps, rfl, upd_same, ho1, ho2, paired_imp (fun p (t : Str × Int) (g : H3 p = some (.tup [.str t.1, .int t.2])) => e7 _ _ g) hp3⟩ ⟨ht, hte⟩ (s3.ex e7) (f3.trans (.of e7))
theorem ok__law_terms {w : World} (T : Tx fa fn ex K mg) (G__law_draw : FnG P w K mg base 1 (He.ga K "_law_draw") ["state", "many"] (spDraw3)) : FnG P w K mg base 2 (He.ga K "_law_terms") ["state", "names"] (spTerms) := by
  obtain ⟨fd, F⟩ := T.c.def_ 13 (d := d__law_terms) rfl
  exact ⟨⟨fd, okF__law_terms T F G__law_draw, FunD.bindsN F fun _ _ _ _ _ _ us hl => match us, hl with | [_, _], _ => rfl⟩, F.kp⟩

abbrev N__law_reading : List Str := ["state", "names", "count"]
theorem sc__law_reading : FnScope N__law_reading ["state", "names", "count"] (defScope s__law_reading) := ⟨rfl, rfl, rfl, by decide +kernel, rfl, by decide +kernel, by decide +kernel⟩
theorem okF__law_reading {w : World} (T : Tx fa fn ex K mg) {fd : FuncData} (F : FunD K d__law_reading.name d__law_reading.qual d__law_reading.params d__law_reading.body d__law_reading.scope (d__law_reading.dvs K) (d__law_reading.kws K) (He.fAd K d__law_reading.at_) fd) (G_Reading_init : FnG P w K mg base 1 (He.ma K (He.ga K "Reading") "__init__") ["self", "name", "terms", "value", "weight"] (spRdInit (He.ga K "Reading"))) (G__law_weight : FnG P w K mg base 36 (He.ga K "_law_weight") ["state"] (spWeight4 (He.ga K "Ratio"))) (G__law_ratio : FnG P w K mg base 36 (He.ga K "_law_ratio") ["state"] (spRatio4 (He.ga K "Ratio"))) (G__law_terms : FnG P w K mg base 2 (He.ga K "_law_terms") ["state", "names"] (spTerms)) : FnOk P w K mg base CX0 37 (He.ga K "_law_reading") fd ["state", "names", "count"] (spReading (He.ga K "Ratio") (He.ga K "Reading")) := by
  have nd : (N__law_reading).Nodup := sc__law_reading.nd
  refine F.ok sc__law_reading (fun vs H Q E h => ?_) (fun cdv A outer s H vs Q E hr h => ?_)
  · obtain ⟨_, _, _, _, _, rfl, _⟩ := h
    rfl
  · obtain ⟨st, c, x, ns, i, rfl, hs, hc, hx, hn, h0, hi, k⟩ := h
    refine ⟨_, PSs.nox (pss_one (ps_ret (pe_makeF (T.mkr 12 rfl) G_Reading_init (hr.mono (by decide)) (T.glo 13 rfl) (pa_cons (pe_op op_add_str pe_str (pe_callTy call_str_int (by rfl) (T.free 26 rfl) (by decide +kernel) (pa_cons (pv 2) pa_nil))) (pa_cons (pe_callF G__law_terms (hr.mono (by decide)) (T.glo 33 rfl) (pa_cons (pv 0) (pa_cons (pv 1) pa_nil))) (pa_cons (pe_callF G__law_ratio (hr.mono (by decide)) (T.glo 24 rfl) (pa_cons (pv 0) pa_nil)) (pa_cons (pe_callF G__law_weight (hr.mono (by decide)) (T.glo 2 rfl) (pa_cons (pv 0) pa_nil)) pa_nil))))))), ?_⟩
    have cM : cMax = 1000000000 := rfl
    have z := rname_small i hi
    refine ⟨_, rfl, (i : Int), rfl, z.1, _, _, rfl, rfl, Nat.le_trans z.2 (by decide), ?_⟩
    refine ⟨_, rfl, _, rfl, st, c, x, ns, rfl, hs, (by omega), hx, hn, h0, fun ts vt H1 mt ht s1 f1 => ?_⟩
    refine ⟨_, rfl, st, c + 2 * ns.length, rfl, s1, (by omega), fun q vq H2 sq dq rq s2 f2 => ?_⟩
    have mt := keptN_tm.fr3 mt s1 f2
    refine ⟨_, rfl, st, c + 2 * ns.length + 6, rfl, s2, (by omega), fun w vw H3 sw rw3 s3 f3 => ?_⟩
    have mt := keptN_tm.fr3 mt s2 f3
    have rq := rq.mono3 s2 f3
    have f13 := (f1.trans f2).trans f3
    intro p dx np ndx nex
    refine ⟨p, dx, rname i, vt, vq, vw, rfl, upd_same, fun H' eq => ⟨rfl, ?_⟩⟩
    have e4 : Ex H3 H' := by
      rw [eq, upd_upd]
      exact (Ex.new ndx).trans (Ex.new ((upd_ne nex.symm).trans np))
    have hp : H' p = some (.ins (He.ga K "Reading") dx (RdF ⟨rname i, ts, q, w⟩ vt vq vw)) := by
      rw [eq]
      exact upd_same
    exact k ⟨rname i, ts, q, w⟩ _ H' ⟨p, dx, vt, vq, vw, rfl, hp, mono_tm _ _ _ _ e4 mt, rq.mono e4, rw3.mono e4⟩ rfl ht ⟨sq, dq⟩ sw ((s3.ex e4).mono (by omega)) (f13.trans (.of e4))
theorem ok__law_reading {w : World} (T : Tx fa fn ex K mg) (G_Reading_init : FnG P w K mg base 1 (He.ma K (He.ga K "Reading") "__init__") ["self", "name", "terms", "value", "weight"] (spRdInit (He.ga K "Reading"))) (G__law_weight : FnG P w K mg base 36 (He.ga K "_law_weight") ["state"] (spWeight4 (He.ga K "Ratio"))) (G__law_ratio : FnG P w K mg base 36 (He.ga K "_law_ratio") ["state"] (spRatio4 (He.ga K "Ratio"))) (G__law_terms : FnG P w K mg base 2 (He.ga K "_law_terms") ["state", "names"] (spTerms)) : FnG P w K mg base 37 (He.ga K "_law_reading") ["state", "names", "count"] (spReading (He.ga K "Ratio") (He.ga K "Reading")) := by
  obtain ⟨fd, F⟩ := T.c.def_ 14 (d := d__law_reading) rfl
  exact ⟨⟨fd, okF__law_reading T F G_Reading_init G__law_weight G__law_ratio G__law_terms, FunD.bindsN F fun _ _ _ _ _ _ us hl => match us, hl with | [_, _, _], _ => rfl⟩, F.kp⟩

abbrev N_check_new_reading : List Str := ["readings", "name", "one"]
theorem sc_check_new_reading : FnScope N_check_new_reading ["readings", "name"] (defScope s_check_new_reading) := ⟨rfl, rfl, rfl, by decide +kernel, rfl, by decide +kernel, by decide +kernel⟩
theorem okF_check_new_reading {w : World} (T : Tx fa fn ex K mg) {fd : FuncData} (F : FunD K d_check_new_reading.name d_check_new_reading.qual d_check_new_reading.params d_check_new_reading.body d_check_new_reading.scope (d_check_new_reading.dvs K) (d_check_new_reading.kws K) (He.fAd K d_check_new_reading.at_) fd)  : FnOk P w K mg base CX0 1 (He.ga K "check_new_reading") fd ["readings", "name"] (spChkRd (He.ga K "Ratio") (He.ga K "Reading")) := by
  have nd : (N_check_new_reading).Nodup := sc_check_new_reading.nd
  refine F.ok sc_check_new_reading (fun vs H Q E h => ?_) (fun cdv A outer s H vs Q E hr h => ?_)
  · obtain ⟨_, _, _, rfl, _⟩ := h
    rfl
  · obtain ⟨x, n, rds, rfl, hx, hn, hl, k⟩ := h
    refine ⟨_, PSs.nox (pss_one (ps_if (pt_val (pe_callB (cr_anyK (K := K) rfl (by rfl)) (by rfl) (T.free 38 rfl) (by decide +kernel) (pa_cons (pe_lc (own := [("one", 2)]) (g := gName 2) rfl nd (pi_listK (K := K) rfl (pv 0)) (blkOk_by (own := [("one", 2)]) (N := N_check_new_reading) (sc := defScope s_check_new_reading) (by decide +kernel)) (fun _ _ _ _ _ => by exact (pg_name (i := 2) nd rfl (by first | exact Or.inl rfl | exact Or.inr rfl))) (fun _ _ _ _ _ => by exact (pts_nil)) (fun _ _ _ _ _ => by exact ((pe_cmpR op_eq (pe_fldK (K := K) rfl (pv 2) rfl) (pv 1) (nomark _))))) pa_nil))) (pss_one ps_never)
      pss_nil)), ?_⟩
    refine et_B (ev_anyL (evp_mapL (S := RB) (f := fun r => decide (r.name = n)) mono_rd mono_rb (fun _ _ _ _ _ _ _ _ h => h) (vP (fun v H H' e h => mono_lst mono_rd _ v H H' e h) hx _ _ 0 (Ex.refl _) rfl) hl (fun _ => rfl) fun v r H2 e2 hm hv => ?_)) H (Ex.refl _) _ fun H1 e1 => ?_
    · exact ev_p (ev_is (ev_op (ev_rname (tcl_Reading T) (tno_Reading_name T) (evp_var (fun v H H' e h => mono_rd _ v H H' e h) hv)) (ev_var rfl) (rv_eq rfl)) (by simp [eqV]))
    · have z : (rds.map fun r => decide (r.name = n)).any id = false := by
        rw [List.any_eq_false]
        intro b hb
        obtain ⟨r, hr, rfl⟩ := List.mem_map.mp hb
        simp [hn r hr]
      rw [z]
      exact k _ e1
theorem ok_check_new_reading {w : World} (T : Tx fa fn ex K mg)  : FnG P w K mg base 1 (He.ga K "check_new_reading") ["readings", "name"] (spChkRd (He.ga K "Ratio") (He.ga K "Reading")) := by
  obtain ⟨fd, F⟩ := T.c.def_ 15 (d := d_check_new_reading) rfl
  exact ⟨⟨fd, okF_check_new_reading T F , FunD.bindsN F fun _ _ _ _ _ _ us hl => match us, hl with | [_, _], _ => rfl⟩, F.kp⟩

abbrev N_check_point : List Str := ["points", "name"]
theorem sc_check_point : FnScope N_check_point ["points", "name"] (defScope s_check_point) := ⟨rfl, rfl, rfl, by decide +kernel, rfl, by decide +kernel, by decide +kernel⟩
theorem okF_check_point {w : World} (T : Tx fa fn ex K mg) {fd : FuncData} (F : FunD K d_check_point.name d_check_point.qual d_check_point.params d_check_point.body d_check_point.scope (d_check_point.dvs K) (d_check_point.kws K) (He.fAd K d_check_point.at_) fd)  : FnOk P w K mg base CX0 1 (He.ga K "check_point") fd ["points", "name"] (spChkPt) := by
  have nd : (N_check_point).Nodup := sc_check_point.nd
  refine F.ok sc_check_point (fun vs H Q E h => ?_) (fun cdv A outer s H vs Q E hr h => ?_)
  · obtain ⟨_, _, _, rfl, _⟩ := h
    rfl
  · obtain ⟨x, n, ns, rfl, hx, hn, k⟩ := h
    refine ⟨_, PSs.nox (pss_one (ps_if (pt_cmpR (op_notInK (K := K) rfl) (pv 1) (pv 0) (by with_unfolding_all rfl)) (pss_one ps_never)
      pss_nil)), ?_⟩
    obtain ⟨a, rfl, ha⟩ := hx
    refine ⟨_, rfl, _, rfl, a, _, rfl, .inl (SqL.of ha), rfl, flat_strs ns, _, rfl, ?_⟩
    refine ifF (by rw [inV_strs]; simp [hn]) (k _ (Ex.refl _))
theorem ok_check_point {w : World} (T : Tx fa fn ex K mg)  : FnG P w K mg base 1 (He.ga K "check_point") ["points", "name"] (spChkPt) := by
  obtain ⟨fd, F⟩ := T.c.def_ 16 (d := d_check_point) rfl
  exact ⟨⟨fd, okF_check_point T F , FunD.bindsN F fun _ _ _ _ _ _ us hl => match us, hl with | [_, _], _ => rfl⟩, F.kp⟩

abbrev N_check_points : List Str := ["points", "terms", "name", "_"]
theorem sc_check_points : FnScope N_check_points ["points", "terms"] (defScope s_check_points) := ⟨rfl, rfl, rfl, by decide +kernel, rfl, by decide +kernel, by decide +kernel⟩
theorem okF_check_points {w : World} (T : Tx fa fn ex K mg) {fd : FuncData} (F : FunD K d_check_points.name d_check_points.qual d_check_points.params d_check_points.body d_check_points.scope (d_check_points.dvs K) (d_check_points.kws K) (He.fAd K d_check_points.at_) fd) (G_check_point : FnG P w K mg base 1 (He.ga K "check_point") ["points", "name"] (spChkPt)) : FnOk P w K mg base CX0 2 (He.ga K "check_points") fd ["points", "terms"] (spChkPts) := by
  have nd : (N_check_points).Nodup := sc_check_points.nd
  refine F.ok sc_check_points (fun vs H Q E h => ?_) (fun cdv A outer s H vs Q E hr h => ?_)
  · obtain ⟨_, _, _, _, rfl, _⟩ := h
    rfl
  · obtain ⟨x, y, ns, ts, rfl, hx, hy, ht, k⟩ := h
    refine ⟨_, PSs.nox (pss_one (ps_for PassesOwn.never rfl (pi_tupK (K := K) rfl (pv 1)) (pg_tup rfl (pgs_cons (pg_name (i := 2) nd rfl (by first | exact Or.inl rfl | exact Or.inr rfl)) (pgs_cons (pg_name (i := 3) nd rfl (by first | exact Or.inl rfl | exact Or.inr rfl)) pgs_nil)))
      (pss_one (ps_expr (pe_callF G_check_point (hr.mono (by decide)) (T.glo 39 rfl) (pa_cons (pv 0) (pa_cons (pv 2) pa_nil))))))), ?_⟩
    obtain ⟨a, o, ps, rfl, ha, h1, h2, h3⟩ := hy
    have hsq : ∀ {H' : Hp}, Ex H H' → SqT K H' a (ps.map V.ref) := fun e => .inl (.inr ⟨o, e _ _ ha⟩)
    refine s_forQ (a := a) (vs := ps.map V.ref) (ev_var rfl) (fun i σ H' => ∃ v2 v3, σ = [some x, some (.ref a), v2, v3] ∧ Ex H H') (fun i σ H' ⟨_, _, _, e⟩ => hsq e) (fun H1 e1 => ⟨_, _, rfl, e1⟩) ?_ ?_
    · rintro i v σ H1 hv ⟨v2, v3, rfl, e1⟩
      rw [List.getElem?_map] at hv
      obtain ⟨pi, hpi, rfl⟩ := Option.map_eq_some_iff.mp hv
      obtain ⟨t, gt, hpt⟩ := paired_at h3 hpi
      refine ⟨pi, _, rfl, SqT.of (e1 _ _ hpt), rfl, _, _, rfl, _, _, rfl, rfl, ?_⟩
      exact ⟨_, rfl, _, rfl, x, t.1, ns, rfl, mono_pt _ _ _ e1 hx, ht t (List.mem_of_getElem? gt), fun H2 e2 => ⟨_, _, rfl, e1.trans e2⟩⟩
    · rintro σ H1 ⟨v2, v3, rfl, e1⟩
      exact k _ e1
theorem ok_check_points {w : World} (T : Tx fa fn ex K mg) (G_check_point : FnG P w K mg base 1 (He.ga K "check_point") ["points", "name"] (spChkPt)) : FnG P w K mg base 2 (He.ga K "check_points") ["points", "terms"] (spChkPts) := by
  obtain ⟨fd, F⟩ := T.c.def_ 17 (d := d_check_points) rfl
  exact ⟨⟨fd, okF_check_points T F G_check_point, FunD.bindsN F fun _ _ _ _ _ _ us hl => match us, hl with | [_, _], _ => rfl⟩, F.kp⟩

abbrev N_check_room : List Str := ["readings"]
theorem sc_check_room : FnScope N_check_room ["readings"] (defScope s_check_room) := ⟨rfl, rfl, rfl, by decide +kernel, rfl, by decide +kernel, by decide +kernel⟩
theorem okF_check_room {w : World} (T : Tx fa fn ex K mg) {fd : FuncData} (F : FunD K d_check_room.name d_check_room.qual d_check_room.params d_check_room.body d_check_room.scope (d_check_room.dvs K) (d_check_room.kws K) (He.fAd K d_check_room.at_) fd)  : FnOk P w K mg base CX0 1 (He.ga K "check_room") fd ["readings"] (spChkRoom (He.ga K "Ratio") (He.ga K "Reading")) := by
  have nd : (N_check_room).Nodup := sc_check_room.nd
  refine F.ok sc_check_room (fun vs H Q E h => ?_) (fun cdv A outer s H vs Q E hr h => ?_)
  · obtain ⟨_, _, rfl, _⟩ := h
    rfl
  · obtain ⟨x, rds, rfl, hx, hl, k⟩ := h
    refine ⟨_, PSs.nox (pss_one (ps_if (pt_cmpR op_ge (pe_callB (call_lenK (K := K) rfl) (by rfl) (T.free 7 rfl) (by decide +kernel) (pa_cons (pv 0) pa_nil)) (pe_glob (v := .int 24) rfl (T.int 40 rfl).choose_spec ⟨_, rfl⟩) (nomark _)) (pss_one ps_never)
      pss_nil)), ?_⟩
    refine et_test (ev_op (ev_lenL (vP (fun v H H' e h => mono_lst mono_rd _ v H H' e h) hx _ _ 0 (Ex.refl _) rfl)) ev_c rv_I0) H (Ex.refl _) _ fun H1 e1 => ?_
    refine ifF (by simp; omega) (k _ e1)
theorem ok_check_room {w : World} (T : Tx fa fn ex K mg)  : FnG P w K mg base 1 (He.ga K "check_room") ["readings"] (spChkRoom (He.ga K "Ratio") (He.ga K "Reading")) := by
  obtain ⟨fd, F⟩ := T.c.def_ 18 (d := d_check_room) rfl
  exact ⟨⟨fd, okF_check_room T F , FunD.bindsN F fun _ _ _ _ _ _ us hl => match us, hl with | [_], _ => rfl⟩, F.kp⟩

abbrev N_row_among : List Str := ["points", "terms", "coefficients", "name"]
theorem sc_row_among : FnScope N_row_among ["points", "terms"] (defScope s_row_among) := ⟨rfl, rfl, rfl, by decide +kernel, rfl, by decide +kernel, by decide +kernel⟩
theorem okF_row_among {w : World} (T : Tx fa fn ex K mg) {fd : FuncData} (F : FunD K d_row_among.name d_row_among.qual d_row_among.params d_row_among.body d_row_among.scope (d_row_among.dvs K) (d_row_among.kws K) (He.fAd K d_row_among.at_) fd) (G_Ratio_init1 : FnD1 P w K mg base 34 (He.ma K (He.ga K "Ratio") "__init__") ["self", "top", "bottom"] [.int 1] (spInit (He.ga K "Ratio"))) : FnOk P w K mg base CX0 36 (He.ga K "row_among") fd ["points", "terms"] (spRowAmong (He.ga K "Ratio")) := by
  have nd : (N_row_among).Nodup := sc_row_among.nd
  refine F.ok sc_row_among (fun vs H Q E h => ?_) (fun cdv A outer s H vs Q E hr h => ?_)
  · obtain ⟨_, _, _, _, rfl, _⟩ := h
    rfl
  · obtain ⟨x, y, ns, ts, rfl, hx, hy, hn, k⟩ := h
    refine ⟨_, PSs.nox (pss_cons (ps_set (i := 2) nd rfl (by first | exact Or.inl rfl | exact Or.inr rfl) (pe_callTy (call_dictTK (K := K) rfl rfl) (by rfl) (T.free 46 rfl) (by decide +kernel) (pa_cons (pv 1) pa_nil)))
      (pss_one (ps_ret (pe_callTy (call_tupL (K := K) rfl) (by rfl) (T.free 31 rfl) (by decide +kernel) (pa_cons (pe_lc (own := [("name", 3)]) (g := gName 3) rfl nd (pi_listK (K := K) rfl (pv 0)) (blkOk_by (own := [("name", 3)]) (N := N_row_among) (sc := defScope s_row_among) (by decide +kernel)) (fun _ _ _ _ _ => by exact (pg_name (i := 3) nd rfl (by first | exact Or.inl rfl | exact Or.inr rfl))) (fun _ _ _ _ _ => by exact (pts_nil)) (fun _ _ _ _ _ => by exact ((pe_makeD (T.mkr 15 rfl) G_Ratio_init1 (hr.mono (by decide)) (T.glo 16 rfl) (pa_cons (pe_get2 (hr.mono (by decide)) (pv 2) (pv 3) pe_int) pa_nil))))) pa_nil))))), ?_⟩
    obtain ⟨a, o, ps, rfl, ha, h1, h2, h3⟩ := hy
    refine ⟨_, rfl, a, o, ps, keysOf ts, rfl, ha, h1, h2, paired_keys h3, fun d hd => ?_⟩
    have e1 := Ex.new (o := .dK (mergeK [] (keysOf ts))) hd
    have hdd : upd H d (.dK (mergeK [] (keysOf ts))) d = some (.dK (mergeK [] (keysOf ts))) := upd_same
    generalize upd H d (.dK (mergeK [] (keysOf ts))) = H1 at e1 hdd ⊢
    have hx := ptAt_lst (mono_pt _ _ _ e1 hx)
    dsimp only
    refine s_retP (evp_tupL mono_rq (evp_mapL (S := RQ (He.ga K "Ratio")) (f := fun n => ((coefI ts n : Int) : Rat)) mono_rs mono_rq (fun _ => stab_rat) (vP (fun v H H' e h => mono_lst mono_rs _ v H H' e h) hx _ _ 0 (Ex.refl _) rfl) hn (fun _ => rfl) fun v n H2 e2 hnm hv => ?_)) fun v H2 e2 r => k v H2 (e1.trans e2) r
    have hv : v = .str n := hv
    subst hv
    exact fq_mk1 (ev_coef (e2 _ _ hdd) rfl rfl)
theorem ok_row_among {w : World} (T : Tx fa fn ex K mg) (G_Ratio_init1 : FnD1 P w K mg base 34 (He.ma K (He.ga K "Ratio") "__init__") ["self", "top", "bottom"] [.int 1] (spInit (He.ga K "Ratio"))) : FnG P w K mg base 36 (He.ga K "row_among") ["points", "terms"] (spRowAmong (He.ga K "Ratio")) := by
  obtain ⟨fd, F⟩ := T.c.def_ 19 (d := d_row_among) rfl
  exact ⟨⟨fd, okF_row_among T F G_Ratio_init1, FunD.bindsN F fun _ _ _ _ _ _ us hl => match us, hl with | [_, _], _ => rfl⟩, F.kp⟩

abbrev N_Net_row : List Str := ["self", "reading"]
theorem sc_Net_row : FnScope N_Net_row ["self", "reading"] (defScope s_Net_row) := ⟨rfl, rfl, rfl, by decide +kernel, rfl, by decide +kernel, by decide +kernel⟩
theorem okF_Net_row {w : World} (T : Tx fa fn ex K mg) {fd : FuncData} (F : FunD K d_Net_row.name d_Net_row.qual d_Net_row.params d_Net_row.body d_Net_row.scope (d_Net_row.dvs K) (d_Net_row.kws K) (He.fAd K d_Net_row.at_) fd) (G_row_among : FnG P w K mg base 36 (He.ga K "row_among") ["points", "terms"] (spRowAmong (He.ga K "Ratio"))) : FnOk P w K mg base CX0 37 (He.ma K (He.ga K "Net") "row") fd ["self", "reading"] (spNetRow (He.ga K "Ratio") (He.ga K "Reading") (He.ga K "Net")) := by
  have nd : (N_Net_row).Nodup := sc_Net_row.nd
  refine F.ok sc_Net_row (fun vs H Q E h => ?_) (fun cdv A outer s H vs Q E hr h => ?_)
  · obtain ⟨_, _, _, _, _, _, rfl, _⟩ := h
    rfl
  · obtain ⟨a, pl, rl, N, r, y, rfl, hN, hy, hn, k⟩ := h
    refine ⟨_, PSs.nox (pss_one (ps_ret (pe_callF G_row_among (hr.mono (by decide)) (T.glo 45 rfl) (pa_cons (pe_fldK (K := K) rfl (pv 0) rfl) (pa_cons (pe_fldK (K := K) rfl (pv 1) rfl) pa_nil))))), ?_⟩
    obtain ⟨dx, fs, va, vM, vP0, vr, vt, us, h1, h2, h3, h4, h5, h6, h7, h8, h9, h10⟩ := hN
    refine ⟨_, rfl, a, _, dx, fs, _, rfl, h1, tcl_Net T, tno_Net_points T, h2.p, ?_⟩
    refine evp_rterms (tcl_Reading T) (tno_Reading_terms T) (vP (fun v H H' e h => mono_rd _ v H H' e h) hy _ _ 1 (Ex.refl _) rfl) H (Ex.refl _) _ fun v H1 e1 m1 => ?_
    exact ⟨_, v, N.ns, r.terms, rfl, ⟨pl, rfl, e1 _ _ h3⟩, m1, hn, fun v H2 e2 r2 => k v H2 (e1.trans e2) r2⟩
theorem ok_Net_row {w : World} (T : Tx fa fn ex K mg) (G_row_among : FnG P w K mg base 36 (He.ga K "row_among") ["points", "terms"] (spRowAmong (He.ga K "Ratio"))) : FnG P w K mg base 37 (He.ma K (He.ga K "Net") "row") ["self", "reading"] (spNetRow (He.ga K "Ratio") (He.ga K "Reading") (He.ga K "Net")) := by
  obtain ⟨fd, F⟩ := T.c.def_ 20 (d := d_Net_row) rfl
  exact ⟨⟨fd, okF_Net_row T F G_row_among, FunD.bindsN F fun _ _ _ _ _ _ us hl => match us, hl with | [_, _], _ => rfl⟩, F.kp⟩

abbrev N_Ratio_add : List Str := ["self", "other"]
theorem sc_Ratio_add : FnScope N_Ratio_add ["self", "other"] (defScope s_Ratio_add) := ⟨rfl, rfl, rfl, by decide +kernel, rfl, by decide +kernel, by decide +kernel⟩
theorem okF_Ratio_add {w : World} (T : Tx fa fn ex K mg) {fd : FuncData} (F : FunD K d_Ratio_add.name d_Ratio_add.qual d_Ratio_add.params d_Ratio_add.body d_Ratio_add.scope (d_Ratio_add.dvs K) (d_Ratio_add.kws K) (He.fAd K d_Ratio_add.at_) fd) (G_Ratio_init : FnG P w K mg base 34 (He.ma K (He.ga K "Ratio") "__init__") ["self", "top", "bottom"] (spInit (He.ga K "Ratio"))) : FnOk P w K mg base CX0 36 (He.ma K (He.ga K "Ratio") "__add__") fd ["self", "other"] (spBin (He.ga K "Ratio") Ok2 fun p q => p + q) := by
  have nd : (N_Ratio_add).Nodup := sc_Ratio_add.nd
  refine F.ok sc_Ratio_add (fun vs H Q E h => ?_) (fun cdv A outer s H vs Q E hr h => ?_)
  · obtain ⟨_, _, _, _, rfl, _⟩ := h
    rfl
  · obtain ⟨x, y, p, q, rfl, ⟨a, da, rfl, ha⟩, ⟨b, db, rfl, hb⟩, ok, k⟩ := h
    refine ⟨_, PSs.nox (pss_one (ps_ret (pe_makeF (T.mkr 15 rfl) G_Ratio_init (hr.mono (by decide)) (T.glo 16 rfl) (pa_cons (pe_op op_add (pe_op op_mulW (pe_fldK (K := K) rfl (pv 0) rfl) (pe_fldK (K := K) rfl (pv 1) rfl)) (pe_op op_mulW (pe_fldK (K := K) rfl (pv 1) rfl) (pe_fldK (K := K) rfl (pv 0) rfl))) (pa_cons (pe_op op_mulW (pe_fldK (K := K) rfl (pv 0) rfl) (pe_fldK (K := K) rfl (pv 1) rfl)) pa_nil))))), ?_⟩
    have m := ok2_mul ok
    refine ⟨_, rfl, _, _, _, _, _, rfl, ha, tcl T, ttop T, ratO_top _, _, rfl, _, _, _, _, _, rfl, hb, tcl T, tbot T, ratO_bot _, _, _, rfl, rfl, m.1, _, rfl, _, _, _, _, _, rfl, hb, tcl T, ttop T, ratO_top _, _, rfl, _, _, _, _, _, rfl, ha, tcl T, tbot T, ratO_bot _, _, _, rfl, rfl, m.2.1, _, _, rfl, rfl, _, rfl, _, _, _, _, _, rfl, ha, tcl T, tbot T, ratO_bot _, _, rfl, _, _, _, _, _, rfl, hb, tcl T, tbot T, ratO_bot _, _, _, rfl, rfl, m.2.2.1, ?_⟩
    intro x dx nx ndx nex
    refine ⟨x, dx, _, _, rfl, upd_same, (ok2_den ok).1, (ok2_den ok).2, fun H' e => ⟨rfl, ?_⟩⟩
    rw [divInt_add] at e
    subst e
    exact k _ _ (made nx ndx).1 ⟨x, rfl, nx⟩ (made nx ndx).2
theorem ok_Ratio_add {w : World} (T : Tx fa fn ex K mg) (G_Ratio_init : FnG P w K mg base 34 (He.ma K (He.ga K "Ratio") "__init__") ["self", "top", "bottom"] (spInit (He.ga K "Ratio"))) : FnG P w K mg base 36 (He.ma K (He.ga K "Ratio") "__add__") ["self", "other"] (spBin (He.ga K "Ratio") Ok2 fun p q => p + q) := by
  obtain ⟨fd, F⟩ := T.c.def_ 21 (d := d_Ratio_add) rfl
  exact ⟨⟨fd, okF_Ratio_add T F G_Ratio_init, FunD.bindsN F fun _ _ _ _ _ _ us hl => match us, hl with | [_, _], _ => rfl⟩, F.kp⟩

abbrev N_Ratio_mul : List Str := ["self", "other"]
theorem sc_Ratio_mul : FnScope N_Ratio_mul ["self", "other"] (defScope s_Ratio_mul) := ⟨rfl, rfl, rfl, by decide +kernel, rfl, by decide +kernel, by decide +kernel⟩
theorem okF_Ratio_mul {w : World} (T : Tx fa fn ex K mg) {fd : FuncData} (F : FunD K d_Ratio_mul.name d_Ratio_mul.qual d_Ratio_mul.params d_Ratio_mul.body d_Ratio_mul.scope (d_Ratio_mul.dvs K) (d_Ratio_mul.kws K) (He.fAd K d_Ratio_mul.at_) fd) (G_Ratio_init : FnG P w K mg base 34 (He.ma K (He.ga K "Ratio") "__init__") ["self", "top", "bottom"] (spInit (He.ga K "Ratio"))) : FnOk P w K mg base CX0 36 (He.ma K (He.ga K "Ratio") "__mul__") fd ["self", "other"] (spBin (He.ga K "Ratio") Ok2 fun p q => p * q) := by
  have nd : (N_Ratio_mul).Nodup := sc_Ratio_mul.nd
  refine F.ok sc_Ratio_mul (fun vs H Q E h => ?_) (fun cdv A outer s H vs Q E hr h => ?_)
  · obtain ⟨_, _, _, _, rfl, _⟩ := h
    rfl
  · obtain ⟨x, y, p, q, rfl, ⟨a, da, rfl, ha⟩, ⟨b, db, rfl, hb⟩, ok, k⟩ := h
    refine ⟨_, PSs.nox (pss_one (ps_ret (pe_makeF (T.mkr 15 rfl) G_Ratio_init (hr.mono (by decide)) (T.glo 16 rfl) (pa_cons (pe_op op_mulW (pe_fldK (K := K) rfl (pv 0) rfl) (pe_fldK (K := K) rfl (pv 1) rfl)) (pa_cons (pe_op op_mulW (pe_fldK (K := K) rfl (pv 0) rfl) (pe_fldK (K := K) rfl (pv 1) rfl)) pa_nil))))), ?_⟩
    have m := ok2_mul ok
    refine ⟨_, rfl, _, _, _, _, _, rfl, ha, tcl T, ttop T, ratO_top _, _, rfl, _, _, _, _, _, rfl, hb, tcl T, ttop T, ratO_top _, _, _, rfl, rfl, m.2.2.2.1, _, rfl, _, _, _, _, _, rfl, ha, tcl T, tbot T, ratO_bot _, _, rfl, _, _, _, _, _, rfl, hb, tcl T, tbot T, ratO_bot _, _, _, rfl, rfl, m.2.2.1, ?_⟩
    intro x dx nx ndx nex
    refine ⟨x, dx, _, _, rfl, upd_same, (ok2_den ok).1, (ok2_den ok).2, fun H' e => ⟨rfl, ?_⟩⟩
    rw [divInt_mul] at e
    subst e
    exact k _ _ (made nx ndx).1 ⟨x, rfl, nx⟩ (made nx ndx).2
theorem ok_Ratio_mul {w : World} (T : Tx fa fn ex K mg) (G_Ratio_init : FnG P w K mg base 34 (He.ma K (He.ga K "Ratio") "__init__") ["self", "top", "bottom"] (spInit (He.ga K "Ratio"))) : FnG P w K mg base 36 (He.ma K (He.ga K "Ratio") "__mul__") ["self", "other"] (spBin (He.ga K "Ratio") Ok2 fun p q => p * q) := by
  obtain ⟨fd, F⟩ := T.c.def_ 22 (d := d_Ratio_mul) rfl
  exact ⟨⟨fd, okF_Ratio_mul T F G_Ratio_init, FunD.bindsN F fun _ _ _ _ _ _ us hl => match us, hl with | [_, _], _ => rfl⟩, F.kp⟩

abbrev N_dot : List Str := ["a", "b", "total", "x", "y"]
theorem sc_dot : FnScope N_dot ["a", "b"] (defScope s_dot) := ⟨rfl, rfl, rfl, by decide +kernel, rfl, by decide +kernel, by decide +kernel⟩
theorem okF_dot {w : World} (T : Tx fa fn ex K mg) {fd : FuncData} (F : FunD K d_dot.name d_dot.qual d_dot.params d_dot.body d_dot.scope (d_dot.dvs K) (d_dot.kws K) (He.fAd K d_dot.at_) fd) (G_Ratio_init1 : FnD1 P w K mg base 34 (He.ma K (He.ga K "Ratio") "__init__") ["self", "top", "bottom"] [.int 1] (spInit (He.ga K "Ratio"))) (G_Ratio_add : FnG P w K mg base 36 (He.ma K (He.ga K "Ratio") "__add__") ["self", "other"] (spBin (He.ga K "Ratio") Ok2 fun p q => p + q)) (G_Ratio_mul : FnG P w K mg base 36 (He.ma K (He.ga K "Ratio") "__mul__") ["self", "other"] (spBin (He.ga K "Ratio") Ok2 fun p q => p * q)) : FnOk P w K mg base CX0 37 (He.ga K "dot") fd ["a", "b"] (spDot (He.ga K "Ratio")) := by
  have nd : (N_dot).Nodup := sc_dot.nd
  refine F.ok sc_dot (fun vs H Q E h => ?_) (fun cdv A outer s H vs Q E hr h => ?_)
  · obtain ⟨_, _, _, _, _, _, rfl, _⟩ := h
    rfl
  · obtain ⟨x, y, ps, qs, n, m, rfl, ⟨ax, vs1, rfl, h1, A1⟩, ⟨ay, vs2, rfl, h2, A2⟩, hl, s1, s2, ⟨n0, m0, hs⟩, k⟩ := h
    refine ⟨_, PSs.nox (pss_cons (ps_set (i := 2) nd rfl (by first | exact Or.inl rfl | exact Or.inr rfl) (pe_makeD (T.mkr 15 rfl) G_Ratio_init1 (hr.mono (by decide)) (T.glo 16 rfl) (pa_cons pe_int pa_nil)))
      (pss_cons (ps_for PassesOwn.never rfl (RZ.pi_zipA rfl (T.free 57 rfl) (pa_cons (pv 0) (pa_cons (pv 1) pa_nil))) (pg_tup rfl (pgs_cons (pg_name (i := 3) nd rfl (by first | exact Or.inl rfl | exact Or.inr rfl)) (pgs_cons (pg_name (i := 4) nd rfl (by first | exact Or.inl rfl | exact Or.inr rfl)) pgs_nil)))
      (pss_one (ps_set (i := 2) nd rfl (by first | exact Or.inl rfl | exact Or.inr rfl) (pe_op (op_ownF (op := .Add) G_Ratio_add (hr.mono (by decide)) (tself T) (T.meth 54 rfl)) (pv 2) (pe_op (op_ownF (op := .Mult) G_Ratio_mul (hr.mono (by decide)) (tself T) (T.meth 14 rfl)) (pv 3) (pv 4))))))
      (pss_one (ps_ret (pv 2))))), ?_⟩
    refine q_asgQ fq_int fun v0 H1 e1 r0 => ?_
    have hv : vs1.length = vs2.length := by rw [A1.1, A2.1]; exact hl
    refine ⟨_, rfl, _, rfl, ax, ay, vs1, vs2, rfl, .inr ⟨SqT.of (e1 _ _ h1), SqT.of (e1 _ _ h2), RZ.for_zipT hv (fun i σ H' => ∃ v v3 v4, σ = [some (.ref ax), some (.ref ay), some v, v3, v4] ∧ Ex H H' ∧ RatAt (He.ga K "Ratio") H' v (dotQ (ps.take i) (qs.take i))) ⟨_, _, _, rfl, e1, r0⟩ (fun i σ H' ⟨_, _, _, _, e, _⟩ => ⟨SqT.of (e _ _ h1), SqT.of (e _ _ h2)⟩) ?_ ?_⟩⟩
    · rintro i x y T σ H' hx hy ⟨v, v3, v4, rfl, e, r⟩ hT
      obtain ⟨p, hp, rp⟩ := A1.getV hx
      obtain ⟨q, hq, rq⟩ := A2.getV hy
      have eT : Ex H' (upd H' T (.tup [x, y])) := Ex.new hT
      refine ⟨T, _, rfl, SqT.of upd_same, rfl, _, _, rfl, _, _, rfl, rfl, ?_⟩
      have hi : i < ps.length := (List.getElem?_eq_some_iff.mp hp).1
      have st := dotQ_sm (s1.take i) (s2.take i)
      rw [List.length_take, Nat.min_eq_left (Nat.le_of_lt hi)] at st
      have hb : (n + m + 1) * (i + 1) ≤ (n + m + 1) * ps.length := Nat.mul_le_mul_left _ hi
      rw [Nat.mul_add] at hb
      refine s_asgQ (fq_bin (fq_var (r.mono eT)) (fq_bin (fq_var (mono_rat _ _ _ (e.trans eT) rp)) (fq_var (mono_rat _ _ _ (e.trans eT) rq)) (ok2_of (s1.get hp) (s2.get hq) n0 m0 (by omega))) (ok2_of st (smB_mul (s1.get hp) (s2.get hq)) (by omega) (by omega) (by omega))) fun v' H2 e2 r' => ?_
      exact ⟨v', _, _, rfl, (e.trans eT).trans e2, by rw [dotQ_take ps qs i p q hp hq]; exact r'⟩
    · rintro σ H' ⟨v, v3, v4, rfl, e, r⟩
      rw [A1.1, List.take_length, hl, List.take_length] at r
      exact ⟨_, rfl, k _ _ e r⟩
theorem ok_dot {w : World} (T : Tx fa fn ex K mg) (G_Ratio_init1 : FnD1 P w K mg base 34 (He.ma K (He.ga K "Ratio") "__init__") ["self", "top", "bottom"] [.int 1] (spInit (He.ga K "Ratio"))) (G_Ratio_add : FnG P w K mg base 36 (He.ma K (He.ga K "Ratio") "__add__") ["self", "other"] (spBin (He.ga K "Ratio") Ok2 fun p q => p + q)) (G_Ratio_mul : FnG P w K mg base 36 (He.ma K (He.ga K "Ratio") "__mul__") ["self", "other"] (spBin (He.ga K "Ratio") Ok2 fun p q => p * q)) : FnG P w K mg base 37 (He.ga K "dot") ["a", "b"] (spDot (He.ga K "Ratio")) := by
  obtain ⟨fd, F⟩ := T.c.def_ 23 (d := d_dot) rfl
  exact ⟨⟨fd, okF_dot T F G_Ratio_init1 G_Ratio_add G_Ratio_mul, FunD.bindsN F fun _ _ _ _ _ _ us hl => match us, hl with | [_, _], _ => rfl⟩, F.kp⟩

abbrev N_apply : List Str := ["matrix", "vector", "row"]
theorem sc_apply : FnScope N_apply ["matrix", "vector"] (defScope s_apply) := ⟨rfl, rfl, rfl, by decide +kernel, rfl, by decide +kernel, by decide +kernel⟩
theorem okF_apply {w : World} (T : Tx fa fn ex K mg) {fd : FuncData} (F : FunD K d_apply.name d_apply.qual d_apply.params d_apply.body d_apply.scope (d_apply.dvs K) (d_apply.kws K) (He.fAd K d_apply.at_) fd) (G_dot : FnG P w K mg base 37 (He.ga K "dot") ["a", "b"] (spDot (He.ga K "Ratio"))) : FnOk P w K mg base CX0 38 (He.ga K "apply") fd ["matrix", "vector"] (spApply (He.ga K "Ratio")) := by
  have nd : (N_apply).Nodup := sc_apply.nd
  refine F.ok sc_apply (fun vs H Q E h => ?_) (fun cdv A outer s H vs Q E hr h => ?_)
  · obtain ⟨_, _, _, _, _, _, rfl, _⟩ := h
    rfl
  · obtain ⟨x, y, rows, v, n, m, rfl, hx, hy, hw, h1, s1, s2, hd, k⟩ := h
    refine ⟨_, PSs.nox (pss_one (ps_ret (pe_callTy (call_tupL (K := K) rfl) (by rfl) (T.free 31 rfl) (by decide +kernel) (pa_cons (pe_lc (own := [("row", 2)]) (g := gName 2) rfl nd (pi_tupK (K := K) rfl (pv 0)) (blkOk_by (own := [("row", 2)]) (N := N_apply) (sc := defScope s_apply) (by decide +kernel)) (fun _ _ _ _ _ => by exact (pg_name (i := 2) nd rfl (by first | exact Or.inl rfl | exact Or.inr rfl))) (fun _ _ _ _ _ => by exact (pts_nil)) (fun _ _ _ _ _ => by exact ((pe_callF G_dot (hr.mono (by decide)) (T.glo 49 rfl) (pa_cons (pv 2) (pa_cons (pv 1) pa_nil)))))) pa_nil)))), ?_⟩
    refine s_retP (evp_tupL mono_rq (evp_mapT (R := RV (He.ga K "Ratio")) (S := RQ (He.ga K "Ratio")) (f := fun row => dotQ row v) mono_rv mono_rq (fun _ => stab_rat) (vP mono_mat hx _ _ _ (Ex.refl _) rfl) h1 (fun _ => rfl) fun u row H2 e2 hr rv =>
        evp_dot (evp_var mono_vec rv) (vP mono_vec hy _ _ _ e2 rfl) (hw row hr) (s1 row hr) s2 hd.1 hd.2.1 (by rw [hw row hr]; exact hd.2.2))) fun v H1 e r => k v H1 e r
theorem ok_apply {w : World} (T : Tx fa fn ex K mg) (G_dot : FnG P w K mg base 37 (He.ga K "dot") ["a", "b"] (spDot (He.ga K "Ratio"))) : FnG P w K mg base 38 (He.ga K "apply") ["matrix", "vector"] (spApply (He.ga K "Ratio")) := by
  obtain ⟨fd, F⟩ := T.c.def_ 24 (d := d_apply) rfl
  exact ⟨⟨fd, okF_apply T F G_dot, FunD.bindsN F fun _ _ _ _ _ _ us hl => match us, hl with | [_, _], _ => rfl⟩, F.kp⟩

abbrev N_Ratio_sub : List Str := ["self", "other"]
theorem sc_Ratio_sub : FnScope N_Ratio_sub ["self", "other"] (defScope s_Ratio_sub) := ⟨rfl, rfl, rfl, by decide +kernel, rfl, by decide +kernel, by decide +kernel⟩
theorem okF_Ratio_sub {w : World} (T : Tx fa fn ex K mg) {fd : FuncData} (F : FunD K d_Ratio_sub.name d_Ratio_sub.qual d_Ratio_sub.params d_Ratio_sub.body d_Ratio_sub.scope (d_Ratio_sub.dvs K) (d_Ratio_sub.kws K) (He.fAd K d_Ratio_sub.at_) fd) (G_Ratio_init : FnG P w K mg base 34 (He.ma K (He.ga K "Ratio") "__init__") ["self", "top", "bottom"] (spInit (He.ga K "Ratio"))) : FnOk P w K mg base CX0 36 (He.ma K (He.ga K "Ratio") "__sub__") fd ["self", "other"] (spBin (He.ga K "Ratio") Ok2 fun p q => p - q) := by
  have nd : (N_Ratio_sub).Nodup := sc_Ratio_sub.nd
  refine F.ok sc_Ratio_sub (fun vs H Q E h => ?_) (fun cdv A outer s H vs Q E hr h => ?_)
  · obtain ⟨_, _, _, _, rfl, _⟩ := h
    rfl
  · obtain ⟨x, y, p, q, rfl, ⟨a, da, rfl, ha⟩, ⟨b, db, rfl, hb⟩, ok, k⟩ := h
    refine ⟨_, PSs.nox (pss_one (ps_ret (pe_makeF (T.mkr 15 rfl) G_Ratio_init (hr.mono (by decide)) (T.glo 16 rfl) (pa_cons (pe_op op_sub (pe_op op_mulW (pe_fldK (K := K) rfl (pv 0) rfl) (pe_fldK (K := K) rfl (pv 1) rfl)) (pe_op op_mulW (pe_fldK (K := K) rfl (pv 1) rfl) (pe_fldK (K := K) rfl (pv 0) rfl))) (pa_cons (pe_op op_mulW (pe_fldK (K := K) rfl (pv 0) rfl) (pe_fldK (K := K) rfl (pv 1) rfl)) pa_nil))))), ?_⟩
    have m := ok2_mul ok
    refine ⟨_, rfl, _, _, _, _, _, rfl, ha, tcl T, ttop T, ratO_top _, _, rfl, _, _, _, _, _, rfl, hb, tcl T, tbot T, ratO_bot _, _, _, rfl, rfl, m.1, _, rfl, _, _, _, _, _, rfl, hb, tcl T, ttop T, ratO_top _, _, rfl, _, _, _, _, _, rfl, ha, tcl T, tbot T, ratO_bot _, _, _, rfl, rfl, m.2.1, _, _, rfl, rfl, _, rfl, _, _, _, _, _, rfl, ha, tcl T, tbot T, ratO_bot _, _, rfl, _, _, _, _, _, rfl, hb, tcl T, tbot T, ratO_bot _, _, _, rfl, rfl, m.2.2.1, ?_⟩
    intro x dx nx ndx nex
    refine ⟨x, dx, _, _, rfl, upd_same, (ok2_den ok).1, (ok2_den ok).2, fun H' e => ⟨rfl, ?_⟩⟩
    rw [divInt_sub] at e
    subst e
    exact k _ _ (made nx ndx).1 ⟨x, rfl, nx⟩ (made nx ndx).2
theorem ok_Ratio_sub {w : World} (T : Tx fa fn ex K mg) (G_Ratio_init : FnG P w K mg base 34 (He.ma K (He.ga K "Ratio") "__init__") ["self", "top", "bottom"] (spInit (He.ga K "Ratio"))) : FnG P w K mg base 36 (He.ma K (He.ga K "Ratio") "__sub__") ["self", "other"] (spBin (He.ga K "Ratio") Ok2 fun p q => p - q) := by
  obtain ⟨fd, F⟩ := T.c.def_ 25 (d := d_Ratio_sub) rfl
  exact ⟨⟨fd, okF_Ratio_sub T F G_Ratio_init, FunD.bindsN F fun _ _ _ _ _ _ us hl => match us, hl with | [_, _], _ => rfl⟩, F.kp⟩

abbrev N_minus : List Str := ["a", "b", "x", "y"]
theorem sc_minus : FnScope N_minus ["a", "b"] (defScope s_minus) := ⟨rfl, rfl, rfl, by decide +kernel, rfl, by decide +kernel, by decide +kernel⟩
theorem okF_minus {w : World} (T : Tx fa fn ex K mg) {fd : FuncData} (F : FunD K d_minus.name d_minus.qual d_minus.params d_minus.body d_minus.scope (d_minus.dvs K) (d_minus.kws K) (He.fAd K d_minus.at_) fd) (G_Ratio_sub : FnG P w K mg base 36 (He.ma K (He.ga K "Ratio") "__sub__") ["self", "other"] (spBin (He.ga K "Ratio") Ok2 fun p q => p - q)) : FnOk P w K mg base CX0 37 (He.ga K "minus") fd ["a", "b"] (spVec2 (He.ga K "Ratio") fun p q => p - q) := by
  have nd : (N_minus).Nodup := sc_minus.nd
  refine F.ok sc_minus (fun vs H Q E h => ?_) (fun cdv A outer s H vs Q E hr h => ?_)
  · obtain ⟨_, _, _, _, rfl, _⟩ := h
    rfl
  · obtain ⟨vx, vy, ps, qs, rfl, hx, hy, hl, hz, ho, k⟩ := h
    refine ⟨_, PSs.nox (pss_one (ps_ret (pe_callTy (call_tupL (K := K) rfl) (by rfl) (T.free 31 rfl) (by decide +kernel) (pa_cons (pe_lc (own := [("x", 2), ("y", 3)]) (g := gTup K 2 (gCons (gName 2) (gCons (gName 3) gNil))) rfl nd (RZ.pi_zipA rfl (T.free 57 rfl) (pa_cons (pv 0) (pa_cons (pv 1) pa_nil))) (blkOk_by (own := [("x", 2), ("y", 3)]) (N := N_minus) (sc := defScope s_minus) (by decide +kernel)) (fun _ _ _ _ _ => by exact (pg_tup rfl (pgs_cons (pg_name (i := 2) nd rfl (by first | exact Or.inl rfl | exact Or.inr rfl)) (pgs_cons (pg_name (i := 3) nd rfl (by first | exact Or.inl rfl | exact Or.inr rfl)) pgs_nil)))) (fun _ _ _ _ _ => by exact (pts_nil)) (fun _ _ _ _ _ => by exact ((pe_op (op_ownF (op := .Sub) G_Ratio_sub (hr.mono (by decide)) (tself T) (T.meth 58 rfl)) (pv 2) (pv 3))))) pa_nil)))), ?_⟩
    have src := src_zip (K := K) (ta := tVar 0) (tb := tVar 1) (σ := [some vx, some vy, none, none]) mono_rq mono_rq hl (evp_var (mono_vec) hx) (evp_var (mono_vec) hy)
    have lc := evp_lc (g := gTup K 2 (gCons (gName 2) (gCons (gName 3) gNil))) (te := tOp (rOwn (He.ga K "Ratio") (spBin (He.ga K "Ratio") Ok2 fun p q => p - q) E0) (tVar 2) (tVar 3)) (vs := [2, 3])
      (P := fun i σi H1 => ∃ v w p q, σi = [some vx, some vy, some v, some w] ∧ ps[i]? = some p ∧ qs[i]? = some q ∧ RatAt (He.ga K "Ratio") H1 v p ∧ RatAt (He.ga K "Ratio") H1 w q)
      (S := fun i v H1 => ∃ p q, ps[i]? = some p ∧ qs[i]? = some q ∧ RatAt (He.ga K "Ratio") H1 v (p - q)) hz src
      (fun i v H1 H2 e ⟨p, q, h1, h2, h3⟩ => ⟨p, q, h1, h2, h3.mono e⟩) (fun i v H1 H2 D xs fr hD ⟨p, q, h1, h2, h3⟩ => ⟨p, q, h1, h2, stab_rat v H1 H2 D xs fr hD h3⟩)
      (fun i H1 v H2 kk hi e ⟨T, x, y, p, q, ev, hT, eH, hp, hq, rp, rq⟩ kz => by
        subst ev eH
        refine ⟨T, _, rfl, SqT.of upd_same, rfl, _, _, rfl, _, _, rfl, rfl, ?_⟩
        exact kz _ _ (Ex.new hT) rfl ⟨x, y, p, q, rfl, hp, hq, RatAt.mono rp (Ex.new hT), RatAt.mono rq (Ex.new hT)⟩)
      (fun i σi H1 hi e ⟨v, w, p, q, e1, hp, hq, rp, rq⟩ => by
        subst e1
        exact EvP.imp (fq_bin (fq_var rp) (fq_var rq) (ho p (List.mem_of_getElem? hp) q (List.mem_of_getElem? hq))) fun v H' _ r => ⟨p, q, hp, hq, r⟩)
    refine s_retP (evp_tup (R := RQ (He.ga K "Ratio")) (xs := List.zipWith (fun p q => p - q) ps qs) lc (by rw [List.length_zipWith, hl, Nat.min_self]) mono_rq ?_) fun v H1 e r => k v H1 e r
    rintro i x v H' h ⟨p, q, h1, h2, h3⟩
    obtain ⟨p', q', h4, h5, rfl⟩ := zipWith_get h
    rw [h1] at h4
    rw [h2] at h5
    cases h4
    cases h5
    exact h3
theorem ok_minus {w : World} (T : Tx fa fn ex K mg) (G_Ratio_sub : FnG P w K mg base 36 (He.ma K (He.ga K "Ratio") "__sub__") ["self", "other"] (spBin (He.ga K "Ratio") Ok2 fun p q => p - q)) : FnG P w K mg base 37 (He.ga K "minus") ["a", "b"] (spVec2 (He.ga K "Ratio") fun p q => p - q) := by
  obtain ⟨fd, F⟩ := T.c.def_ 26 (d := d_minus) rfl
  exact ⟨⟨fd, okF_minus T F G_Ratio_sub, FunD.bindsN F fun _ _ _ _ _ _ us hl => match us, hl with | [_, _], _ => rfl⟩, F.kp⟩

abbrev N_is_zero : List Str := ["a", "x"]
theorem sc_is_zero : FnScope N_is_zero ["a"] (defScope s_is_zero) := ⟨rfl, rfl, rfl, by decide +kernel, rfl, by decide +kernel, by decide +kernel⟩
theorem okF_is_zero {w : World} (T : Tx fa fn ex K mg) {fd : FuncData} (F : FunD K d_is_zero.name d_is_zero.qual d_is_zero.params d_is_zero.body d_is_zero.scope (d_is_zero.dvs K) (d_is_zero.kws K) (He.fAd K d_is_zero.at_) fd)  : FnOk P w K mg base CX0 1 (He.ga K "is_zero") fd ["a"] (spIsZero (He.ga K "Ratio")) := by
  have nd : (N_is_zero).Nodup := sc_is_zero.nd
  refine F.ok sc_is_zero (fun vs H Q E h => ?_) (fun cdv A outer s H vs Q E hr h => ?_)
  · obtain ⟨_, _, rfl, _⟩ := h
    rfl
  · obtain ⟨x, qs, rfl, hx, hz, k⟩ := h
    refine ⟨_, PSs.nox (pss_one (ps_ret (pe_callB (cr_allK (K := K) rfl (by rfl)) (by rfl) (T.free 59 rfl) (by decide +kernel) (pa_cons (pe_lc (own := [("x", 1)]) (g := gName 1) rfl nd (pi_tupK (K := K) rfl (pv 0)) (blkOk_by (own := [("x", 1)]) (N := N_is_zero) (sc := defScope s_is_zero) (by decide +kernel)) (fun _ _ _ _ _ => by exact (pg_name (i := 1) nd rfl (by first | exact Or.inl rfl | exact Or.inr rfl))) (fun _ _ _ _ _ => by exact (pts_nil)) (fun _ _ _ _ _ => by exact ((pe_cmpR op_eq (pe_fldK (K := K) rfl (pv 1) rfl) pe_int (nomark _))))) pa_nil)))), ?_⟩
    have src := src_tup (K := K) (tl := tVar 0) (σ := [some x, none]) mono_rq (evp_var (mono_vec) hx)
    have lc := evp_lc (g := gName 1) (te := tOp rEq (tFld K (tVar 1) "top") (tC (.int 0))) (vs := [1])
      (P := fun i σi H1 => ∃ v q, σi = [some x, some v] ∧ qs[i]? = some q ∧ RatAt (He.ga K "Ratio") H1 v q)
      (S := fun i v H1 => ∃ q, qs[i]? = some q ∧ v = .bl (decide (q = 0))) hz src
      (fun i v H1 H2 e h => h) (fun i v H1 H2 D xs fr hD h => h)
      (fun i H1 v H2 kk hi e ⟨e2, q, hq, hr⟩ kz => by subst e2; exact kz _ _ (Ex.refl _) rfl ⟨v, q, rfl, hq, hr⟩)
      (fun i σi H1 hi e ⟨v, q, e1, hq, hr⟩ => by
        subst e1
        intro H2 e2 Q2 k2
        obtain ⟨a, da, rfl, ha⟩ := hr.mono e2
        refine ⟨_, rfl, _, _, _, _, _, rfl, ha, tcl T, ttop T, ratO_top _, rfl, ?_⟩
        exact k2 _ _ (Ex.refl _) ⟨q, hq, congrArg V.bl (num_dec q)⟩)
    refine s_retP (evp_all (bs := qs.map fun q => decide (q = 0)) lc (by rw [List.length_map]) fun i v H' ⟨q, h1, h2⟩ => ⟨_, by rw [List.getElem?_map, h1]; rfl, h2⟩) fun v H1 e ev => ?_
    subst ev
    rw [List.all_map]
    exact k H1 e
theorem ok_is_zero {w : World} (T : Tx fa fn ex K mg)  : FnG P w K mg base 1 (He.ga K "is_zero") ["a"] (spIsZero (He.ga K "Ratio")) := by
  obtain ⟨fd, F⟩ := T.c.def_ 27 (d := d_is_zero) rfl
  exact ⟨⟨fd, okF_is_zero T F , FunD.bindsN F fun _ _ _ _ _ _ us hl => match us, hl with | [_], _ => rfl⟩, F.kp⟩

abbrev N_plus : List Str := ["a", "b", "x", "y"]
theorem sc_plus : FnScope N_plus ["a", "b"] (defScope s_plus) := ⟨rfl, rfl, rfl, by decide +kernel, rfl, by decide +kernel, by decide +kernel⟩
theorem okF_plus {w : World} (T : Tx fa fn ex K mg) {fd : FuncData} (F : FunD K d_plus.name d_plus.qual d_plus.params d_plus.body d_plus.scope (d_plus.dvs K) (d_plus.kws K) (He.fAd K d_plus.at_) fd) (G_Ratio_add : FnG P w K mg base 36 (He.ma K (He.ga K "Ratio") "__add__") ["self", "other"] (spBin (He.ga K "Ratio") Ok2 fun p q => p + q)) : FnOk P w K mg base CX0 37 (He.ga K "plus") fd ["a", "b"] (spVec2 (He.ga K "Ratio") fun p q => p + q) := by
  have nd : (N_plus).Nodup := sc_plus.nd
  refine F.ok sc_plus (fun vs H Q E h => ?_) (fun cdv A outer s H vs Q E hr h => ?_)
  · obtain ⟨_, _, _, _, rfl, _⟩ := h
    rfl
  · obtain ⟨vx, vy, ps, qs, rfl, hx, hy, hl, hz, ho, k⟩ := h
    refine ⟨_, PSs.nox (pss_one (ps_ret (pe_callTy (call_tupL (K := K) rfl) (by rfl) (T.free 31 rfl) (by decide +kernel) (pa_cons (pe_lc (own := [("x", 2), ("y", 3)]) (g := gTup K 2 (gCons (gName 2) (gCons (gName 3) gNil))) rfl nd (RZ.pi_zipA rfl (T.free 57 rfl) (pa_cons (pv 0) (pa_cons (pv 1) pa_nil))) (blkOk_by (own := [("x", 2), ("y", 3)]) (N := N_plus) (sc := defScope s_plus) (by decide +kernel)) (fun _ _ _ _ _ => by exact (pg_tup rfl (pgs_cons (pg_name (i := 2) nd rfl (by first | exact Or.inl rfl | exact Or.inr rfl)) (pgs_cons (pg_name (i := 3) nd rfl (by first | exact Or.inl rfl | exact Or.inr rfl)) pgs_nil)))) (fun _ _ _ _ _ => by exact (pts_nil)) (fun _ _ _ _ _ => by exact ((pe_op (op_ownF (op := .Add) G_Ratio_add (hr.mono (by decide)) (tself T) (T.meth 54 rfl)) (pv 2) (pv 3))))) pa_nil)))), ?_⟩
    have src := src_zip (K := K) (ta := tVar 0) (tb := tVar 1) (σ := [some vx, some vy, none, none]) mono_rq mono_rq hl (evp_var (mono_vec) hx) (evp_var (mono_vec) hy)
    have lc := evp_lc (g := gTup K 2 (gCons (gName 2) (gCons (gName 3) gNil))) (te := tOp (rOwn (He.ga K "Ratio") (spBin (He.ga K "Ratio") Ok2 fun p q => p + q) E0) (tVar 2) (tVar 3)) (vs := [2, 3])
      (P := fun i σi H1 => ∃ v w p q, σi = [some vx, some vy, some v, some w] ∧ ps[i]? = some p ∧ qs[i]? = some q ∧ RatAt (He.ga K "Ratio") H1 v p ∧ RatAt (He.ga K "Ratio") H1 w q)
      (S := fun i v H1 => ∃ p q, ps[i]? = some p ∧ qs[i]? = some q ∧ RatAt (He.ga K "Ratio") H1 v (p + q)) hz src
      (fun i v H1 H2 e ⟨p, q, h1, h2, h3⟩ => ⟨p, q, h1, h2, h3.mono e⟩) (fun i v H1 H2 D xs fr hD ⟨p, q, h1, h2, h3⟩ => ⟨p, q, h1, h2, stab_rat v H1 H2 D xs fr hD h3⟩)
      (fun i H1 v H2 kk hi e ⟨T, x, y, p, q, ev, hT, eH, hp, hq, rp, rq⟩ kz => by
        subst ev eH
        refine ⟨T, _, rfl, SqT.of upd_same, rfl, _, _, rfl, _, _, rfl, rfl, ?_⟩
        exact kz _ _ (Ex.new hT) rfl ⟨x, y, p, q, rfl, hp, hq, RatAt.mono rp (Ex.new hT), RatAt.mono rq (Ex.new hT)⟩)
      (fun i σi H1 hi e ⟨v, w, p, q, e1, hp, hq, rp, rq⟩ => by
        subst e1
        exact EvP.imp (fq_bin (fq_var rp) (fq_var rq) (ho p (List.mem_of_getElem? hp) q (List.mem_of_getElem? hq))) fun v H' _ r => ⟨p, q, hp, hq, r⟩)
    refine s_retP (evp_tup (R := RQ (He.ga K "Ratio")) (xs := List.zipWith (fun p q => p + q) ps qs) lc (by rw [List.length_zipWith, hl, Nat.min_self]) mono_rq ?_) fun v H1 e r => k v H1 e r
    rintro i x v H' h ⟨p, q, h1, h2, h3⟩
    obtain ⟨p', q', h4, h5, rfl⟩ := zipWith_get h
    rw [h1] at h4
    rw [h2] at h5
    cases h4
    cases h5
    exact h3
theorem ok_plus {w : World} (T : Tx fa fn ex K mg) (G_Ratio_add : FnG P w K mg base 36 (He.ma K (He.ga K "Ratio") "__add__") ["self", "other"] (spBin (He.ga K "Ratio") Ok2 fun p q => p + q)) : FnG P w K mg base 37 (He.ga K "plus") ["a", "b"] (spVec2 (He.ga K "Ratio") fun p q => p + q) := by
  obtain ⟨fd, F⟩ := T.c.def_ 28 (d := d_plus) rfl
  exact ⟨⟨fd, okF_plus T F G_Ratio_add, FunD.bindsN F fun _ _ _ _ _ _ us hl => match us, hl with | [_, _], _ => rfl⟩, F.kp⟩

abbrev N_sum_of : List Str := ["first", "second", "above", "below"]
theorem sc_sum_of : FnScope N_sum_of ["first", "second"] (defScope s_sum_of) := ⟨rfl, rfl, rfl, by decide +kernel, rfl, by decide +kernel, by decide +kernel⟩
theorem okF_sum_of {w : World} (T : Tx fa fn ex K mg) {fd : FuncData} (F : FunD K d_sum_of.name d_sum_of.qual d_sum_of.params d_sum_of.body d_sum_of.scope (d_sum_of.dvs K) (d_sum_of.kws K) (He.fAd K d_sum_of.at_) fd) (G_plus : FnG P w K mg base 37 (He.ga K "plus") ["a", "b"] (spVec2 (He.ga K "Ratio") fun p q => p + q)) : FnOk P w K mg base CX0 38 (He.ga K "sum_of") fd ["first", "second"] (spSumOf (He.ga K "Ratio")) := by
  have nd : (N_sum_of).Nodup := sc_sum_of.nd
  refine F.ok sc_sum_of (fun vs H Q E h => ?_) (fun cdv A outer s H vs Q E hr h => ?_)
  · obtain ⟨_, _, _, _, _, rfl, _⟩ := h
    rfl
  · obtain ⟨x, y, a, b, w, rfl, hx, hy, hl, h1, h2, w1, w2, ho, k⟩ := h
    refine ⟨_, PSs.nox (pss_one (ps_ret (pe_callTy (call_tupL (K := K) rfl) (by rfl) (T.free 31 rfl) (by decide +kernel) (pa_cons (pe_lc (own := [("above", 2), ("below", 3)]) (g := gTup K 2 (gCons (gName 2) (gCons (gName 3) gNil))) rfl nd (RZ.pi_zipA rfl (T.free 57 rfl) (pa_cons (pv 0) (pa_cons (pv 1) pa_nil))) (blkOk_by (own := [("above", 2), ("below", 3)]) (N := N_sum_of) (sc := defScope s_sum_of) (by decide +kernel)) (fun _ _ _ _ _ => by exact (pg_tup rfl (pgs_cons (pg_name (i := 2) nd rfl (by first | exact Or.inl rfl | exact Or.inr rfl)) (pgs_cons (pg_name (i := 3) nd rfl (by first | exact Or.inl rfl | exact Or.inr rfl)) pgs_nil)))) (fun _ _ _ _ _ => by exact (pts_nil)) (fun _ _ _ _ _ => by exact ((pe_callF G_plus (hr.mono (by decide)) (T.glo 63 rfl) (pa_cons (pv 2) (pa_cons (pv 3) pa_nil)))))) pa_nil)))), ?_⟩
    refine s_retP (evp_tupL mono_rv (evp_mapZ (R := RV (He.ga K "Ratio")) (R2 := RV (He.ga K "Ratio")) (S := RV (He.ga K "Ratio")) (f := fun p q => List.zipWith (fun x y => x + y) p q) mono_rv mono_rv mono_rv stab_rv hl (vP mono_mat hx _ _ _ (Ex.refl _) rfl) (vP mono_mat hy _ _ _ (Ex.refl _) rfl) h1 (fun _ _ => rfl) fun u z p q H2 e2 hp hq rp rq =>
        evp_vec2 (evp_var mono_vec rp) (evp_var mono_vec rq) (by rw [w1 p hp, w2 q hq]) (by rw [w1 p hp]; exact h2) (ho p hp q hq))) fun v H1 e r => k v H1 e r
theorem ok_sum_of {w : World} (T : Tx fa fn ex K mg) (G_plus : FnG P w K mg base 37 (He.ga K "plus") ["a", "b"] (spVec2 (He.ga K "Ratio") fun p q => p + q)) : FnG P w K mg base 38 (He.ga K "sum_of") ["first", "second"] (spSumOf (He.ga K "Ratio")) := by
  obtain ⟨fd, F⟩ := T.c.def_ 29 (d := d_sum_of) rfl
  exact ⟨⟨fd, okF_sum_of T F G_plus, FunD.bindsN F fun _ _ _ _ _ _ us hl => match us, hl with | [_, _], _ => rfl⟩, F.kp⟩

abbrev N_scale : List Str := ["factor", "a", "x"]
theorem sc_scale : FnScope N_scale ["factor", "a"] (defScope s_scale) := ⟨rfl, rfl, rfl, by decide +kernel, rfl, by decide +kernel, by decide +kernel⟩
theorem okF_scale {w : World} (T : Tx fa fn ex K mg) {fd : FuncData} (F : FunD K d_scale.name d_scale.qual d_scale.params d_scale.body d_scale.scope (d_scale.dvs K) (d_scale.kws K) (He.fAd K d_scale.at_) fd) (G_Ratio_mul : FnG P w K mg base 36 (He.ma K (He.ga K "Ratio") "__mul__") ["self", "other"] (spBin (He.ga K "Ratio") Ok2 fun p q => p * q)) : FnOk P w K mg base CX0 37 (He.ga K "scale") fd ["factor", "a"] (spScale (He.ga K "Ratio")) := by
  have nd : (N_scale).Nodup := sc_scale.nd
  refine F.ok sc_scale (fun vs H Q E h => ?_) (fun cdv A outer s H vs Q E hr h => ?_)
  · obtain ⟨_, _, _, _, rfl, _⟩ := h
    rfl
  · obtain ⟨x, y, f, qs, rfl, hx, hy, hl, ho, k⟩ := h
    refine ⟨_, PSs.nox (pss_one (ps_ret (pe_callTy (call_tupL (K := K) rfl) (by rfl) (T.free 31 rfl) (by decide +kernel) (pa_cons (pe_lc (own := [("x", 2)]) (g := gName 2) rfl nd (pi_tupK (K := K) rfl (pv 1)) (blkOk_by (own := [("x", 2)]) (N := N_scale) (sc := defScope s_scale) (by decide +kernel)) (fun _ _ _ _ _ => by exact (pg_name (i := 2) nd rfl (by first | exact Or.inl rfl | exact Or.inr rfl))) (fun _ _ _ _ _ => by exact (pts_nil)) (fun _ _ _ _ _ => by exact ((pe_op (op_ownF (op := .Mult) G_Ratio_mul (hr.mono (by decide)) (tself T) (T.meth 14 rfl)) (pv 0) (pv 2))))) pa_nil)))), ?_⟩
    have src := src_tup (K := K) (tl := tVar 1) (σ := [some x, some y, none]) mono_rq (evp_var (mono_vec) hy)
    have lc := evp_lc (g := gName 2) (te := tOp (rOwn (He.ga K "Ratio") (spBin (He.ga K "Ratio") Ok2 fun p q => p * q) E0) (tVar 0) (tVar 2)) (vs := [2])
      (P := fun i σi H1 => ∃ v q, σi = [some x, some y, some v] ∧ qs[i]? = some q ∧ RatAt (He.ga K "Ratio") H1 v q)
      (S := fun i v H1 => ∃ q, qs[i]? = some q ∧ RatAt (He.ga K "Ratio") H1 v (f * q)) hl src
      (fun i v H1 H2 e ⟨q, h1, h2⟩ => ⟨q, h1, h2.mono e⟩) (fun i v H1 H2 D xs fr hD ⟨q, h1, h2⟩ => ⟨q, h1, stab_rat v H1 H2 D xs fr hD h2⟩)
      (fun i H1 v H2 kk hi e ⟨e2, q, hq, hr⟩ kz => by subst e2; exact kz _ _ (Ex.refl _) rfl ⟨v, q, rfl, hq, hr⟩)
      (fun i σi H1 hi e ⟨v, q, e1, hq, hr⟩ => by
        subst e1
        exact EvP.imp (fq_bin (fq_var (hx.mono e)) (fq_var hr) (ho q (List.mem_of_getElem? hq))) fun v H' _ r => ⟨q, hq, r⟩)
    refine s_retP (evp_tup (R := RQ (He.ga K "Ratio")) (xs := scaleQ f qs) lc (by unfold scaleQ; rw [List.length_map]) mono_rq ?_) fun v H1 e r => k v H1 e r
    rintro i x v H' h ⟨q, h1, h2⟩
    obtain ⟨q', h3, rfl⟩ := map_get h
    rw [h1] at h3
    cases h3
    exact h2
theorem ok_scale {w : World} (T : Tx fa fn ex K mg) (G_Ratio_mul : FnG P w K mg base 36 (He.ma K (He.ga K "Ratio") "__mul__") ["self", "other"] (spBin (He.ga K "Ratio") Ok2 fun p q => p * q)) : FnG P w K mg base 37 (He.ga K "scale") ["factor", "a"] (spScale (He.ga K "Ratio")) := by
  obtain ⟨fd, F⟩ := T.c.def_ 30 (d := d_scale) rfl
  exact ⟨⟨fd, okF_scale T F G_Ratio_mul, FunD.bindsN F fun _ _ _ _ _ _ us hl => match us, hl with | [_, _], _ => rfl⟩, F.kp⟩

abbrev N_scaled : List Str := ["factor", "matrix", "row"]
theorem sc_scaled : FnScope N_scaled ["factor", "matrix"] (defScope s_scaled) := ⟨rfl, rfl, rfl, by decide +kernel, rfl, by decide +kernel, by decide +kernel⟩
theorem okF_scaled {w : World} (T : Tx fa fn ex K mg) {fd : FuncData} (F : FunD K d_scaled.name d_scaled.qual d_scaled.params d_scaled.body d_scaled.scope (d_scaled.dvs K) (d_scaled.kws K) (He.fAd K d_scaled.at_) fd) (G_scale : FnG P w K mg base 37 (He.ga K "scale") ["factor", "a"] (spScale (He.ga K "Ratio"))) : FnOk P w K mg base CX0 38 (He.ga K "scaled") fd ["factor", "matrix"] (spScaled (He.ga K "Ratio")) := by
  have nd : (N_scaled).Nodup := sc_scaled.nd
  refine F.ok sc_scaled (fun vs H Q E h => ?_) (fun cdv A outer s H vs Q E hr h => ?_)
  · obtain ⟨_, _, _, _, rfl, _⟩ := h
    rfl
  · obtain ⟨x, y, f, a, rfl, hx, hy, h1, ho, k⟩ := h
    refine ⟨_, PSs.nox (pss_one (ps_ret (pe_callTy (call_tupL (K := K) rfl) (by rfl) (T.free 31 rfl) (by decide +kernel) (pa_cons (pe_lc (own := [("row", 2)]) (g := gName 2) rfl nd (pi_tupK (K := K) rfl (pv 1)) (blkOk_by (own := [("row", 2)]) (N := N_scaled) (sc := defScope s_scaled) (by decide +kernel)) (fun _ _ _ _ _ => by exact (pg_name (i := 2) nd rfl (by first | exact Or.inl rfl | exact Or.inr rfl))) (fun _ _ _ _ _ => by exact (pts_nil)) (fun _ _ _ _ _ => by exact ((pe_callF G_scale (hr.mono (by decide)) (T.glo 64 rfl) (pa_cons (pv 0) (pa_cons (pv 2) pa_nil)))))) pa_nil)))), ?_⟩
    refine s_retP (evp_tupL mono_rv (evp_mapT (R := RV (He.ga K "Ratio")) (S := RV (He.ga K "Ratio")) (f := fun row => scaleQ f row) mono_rv mono_rv stab_rv (vP mono_mat hy _ _ _ (Ex.refl _) rfl) h1 (fun _ => rfl) fun u row H2 e2 hr rv =>
        evp_scale (vP mono_rat hx _ _ _ e2 rfl) (evp_var mono_vec rv) (ho row hr).1 (ho row hr).2)) fun v H1 e r => k v H1 e r
theorem ok_scaled {w : World} (T : Tx fa fn ex K mg) (G_scale : FnG P w K mg base 37 (He.ga K "scale") ["factor", "a"] (spScale (He.ga K "Ratio"))) : FnG P w K mg base 38 (He.ga K "scaled") ["factor", "matrix"] (spScaled (He.ga K "Ratio")) := by
  obtain ⟨fd, F⟩ := T.c.def_ 31 (d := d_scaled) rfl
  exact ⟨⟨fd, okF_scaled T F G_scale, FunD.bindsN F fun _ _ _ _ _ _ us hl => match us, hl with | [_, _], _ => rfl⟩, F.kp⟩

abbrev N_outer : List Str := ["a", "b", "x"]
theorem sc_outer : FnScope N_outer ["a", "b"] (defScope s_outer) := ⟨rfl, rfl, rfl, by decide +kernel, rfl, by decide +kernel, by decide +kernel⟩
theorem okF_outer {w : World} (T : Tx fa fn ex K mg) {fd : FuncData} (F : FunD K d_outer.name d_outer.qual d_outer.params d_outer.body d_outer.scope (d_outer.dvs K) (d_outer.kws K) (He.fAd K d_outer.at_) fd) (G_scale : FnG P w K mg base 37 (He.ga K "scale") ["factor", "a"] (spScale (He.ga K "Ratio"))) : FnOk P w K mg base CX0 38 (He.ga K "outer") fd ["a", "b"] (spOuter (He.ga K "Ratio")) := by
  have nd : (N_outer).Nodup := sc_outer.nd
  refine F.ok sc_outer (fun vs H Q E h => ?_) (fun cdv A outer s H vs Q E hr h => ?_)
  · obtain ⟨_, _, _, _, rfl, _⟩ := h
    rfl
  · obtain ⟨x, y, a, b, rfl, hx, hy, h1, h2, ho, k⟩ := h
    refine ⟨_, PSs.nox (pss_one (ps_ret (pe_callTy (call_tupL (K := K) rfl) (by rfl) (T.free 31 rfl) (by decide +kernel) (pa_cons (pe_lc (own := [("x", 2)]) (g := gName 2) rfl nd (pi_tupK (K := K) rfl (pv 0)) (blkOk_by (own := [("x", 2)]) (N := N_outer) (sc := defScope s_outer) (by decide +kernel)) (fun _ _ _ _ _ => by exact (pg_name (i := 2) nd rfl (by first | exact Or.inl rfl | exact Or.inr rfl))) (fun _ _ _ _ _ => by exact (pts_nil)) (fun _ _ _ _ _ => by exact ((pe_callF G_scale (hr.mono (by decide)) (T.glo 64 rfl) (pa_cons (pv 2) (pa_cons (pv 1) pa_nil)))))) pa_nil)))), ?_⟩
    refine s_retP (evp_tupL mono_rv (evp_mapT (R := RQ (He.ga K "Ratio")) (S := RV (He.ga K "Ratio")) (f := fun x => scaleQ x b) mono_rq mono_rv stab_rv (vP mono_vec hx _ _ _ (Ex.refl _) rfl) h1 (fun _ => rfl) fun u p H2 e2 hp rp =>
        evp_scale (evp_var mono_rat rp) (vP mono_vec hy _ _ _ e2 rfl) h2 (ho p hp))) fun v H1 e r => k v H1 e r
theorem ok_outer {w : World} (T : Tx fa fn ex K mg) (G_scale : FnG P w K mg base 37 (He.ga K "scale") ["factor", "a"] (spScale (He.ga K "Ratio"))) : FnG P w K mg base 38 (He.ga K "outer") ["a", "b"] (spOuter (He.ga K "Ratio")) := by
  obtain ⟨fd, F⟩ := T.c.def_ 32 (d := d_outer) rfl
  exact ⟨⟨fd, okF_outer T F G_scale, FunD.bindsN F fun _ _ _ _ _ _ us hl => match us, hl with | [_, _], _ => rfl⟩, F.kp⟩

abbrev N_add_term : List Str := ["matrix", "row", "weight"]
theorem sc_add_term : FnScope N_add_term ["matrix", "row", "weight"] (defScope s_add_term) := ⟨rfl, rfl, rfl, by decide +kernel, rfl, by decide +kernel, by decide +kernel⟩
theorem okF_add_term {w : World} (T : Tx fa fn ex K mg) {fd : FuncData} (F : FunD K d_add_term.name d_add_term.qual d_add_term.params d_add_term.body d_add_term.scope (d_add_term.dvs K) (d_add_term.kws K) (He.fAd K d_add_term.at_) fd) (G_sum_of : FnG P w K mg base 38 (He.ga K "sum_of") ["first", "second"] (spSumOf (He.ga K "Ratio"))) (G_scaled : FnG P w K mg base 38 (He.ga K "scaled") ["factor", "matrix"] (spScaled (He.ga K "Ratio"))) (G_outer : FnG P w K mg base 38 (He.ga K "outer") ["a", "b"] (spOuter (He.ga K "Ratio"))) : FnOk P w K mg base CX0 39 (He.ga K "add_term") fd ["matrix", "row", "weight"] (spAddTerm (He.ga K "Ratio")) := by
  have nd : (N_add_term).Nodup := sc_add_term.nd
  refine F.ok sc_add_term (fun vs H Q E h => ?_) (fun cdv A outer s H vs Q E hr h => ?_)
  · obtain ⟨_, _, _, _, _, _, _, _, _, rfl, _⟩ := h
    rfl
  · obtain ⟨x, y, z, A, row, w, n, m, k0, rfl, hx, hy, hz, hl, hs, hd, k⟩ := h
    refine ⟨_, PSs.nox (pss_one (ps_ret (pe_callF G_sum_of (hr.mono (by decide)) (T.glo 60 rfl) (pa_cons (pv 0) (pa_cons (pe_callF G_scaled (hr.mono (by decide)) (T.glo 61 rfl) (pa_cons (pv 2) (pa_cons (pe_callF G_outer (hr.mono (by decide)) (T.glo 62 rfl) (pa_cons (pv 1) (pa_cons (pv 1) pa_nil))) pa_nil))) pa_nil))))), ?_⟩
    obtain ⟨l1, l2, l3⟩ := hl
    obtain ⟨s1, s2, s3⟩ := hs
    obtain ⟨d1, d2, d3, d4⟩ := hd
    have so : ∀ r ∈ outerQ row row, ∀ q ∈ r, SmB (m + m) q := fun r hr q hq => by
      unfold outerQ scaleQ at hr
      obtain ⟨p, hp, rfl⟩ := List.mem_map.mp hr
      obtain ⟨u, hu, rfl⟩ := List.mem_map.mp hq
      exact smB_mul (s2 p hp) (s2 u hu)
    refine s_retP (evp_sumOf (w := row.length) (vP mono_mat hx _ _ 0 (Ex.refl _) rfl) (evp_scaled (vP mono_rat hz _ _ 2 (Ex.refl _) rfl) (evp_outer (vP mono_vec hy _ _ 1 (Ex.refl _) rfl) (vP mono_vec hy _ _ 1 (Ex.refl _) rfl) l3 l3 (fun p hp q hq => ok2_of (s2 p hp) (s2 q hq) d2 d2 (by omega))) (by rw [outer_len]; exact l3) (fun r hr => ⟨by rw [outer_wide r hr]; exact l3, fun q hq => ok2_of s3 (so r hr q hq) d3 (by omega) (by omega)⟩))
      (by rw [scaleM_len, outer_len]; exact l1) (by omega) l3 l2 (scaleM_wide outer_wide) (fun r hr s hs p hp q hq => ?_)) fun v H1 e r => k v H1 e r
    unfold scaleM scaleQ at hs
    obtain ⟨s', h1, rfl⟩ := List.mem_map.mp hs
    obtain ⟨u, hu, rfl⟩ := List.mem_map.mp hq
    exact ok2_of (s1 r hr p hp) (smB_mul s3 (so s' h1 u hu)) d1 (by omega) d4
theorem ok_add_term {w : World} (T : Tx fa fn ex K mg) (G_sum_of : FnG P w K mg base 38 (He.ga K "sum_of") ["first", "second"] (spSumOf (He.ga K "Ratio"))) (G_scaled : FnG P w K mg base 38 (He.ga K "scaled") ["factor", "matrix"] (spScaled (He.ga K "Ratio"))) (G_outer : FnG P w K mg base 38 (He.ga K "outer") ["a", "b"] (spOuter (He.ga K "Ratio"))) : FnG P w K mg base 39 (He.ga K "add_term") ["matrix", "row", "weight"] (spAddTerm (He.ga K "Ratio")) := by
  obtain ⟨fd, F⟩ := T.c.def_ 33 (d := d_add_term) rfl
  exact ⟨⟨fd, okF_add_term T F G_sum_of G_scaled G_outer, FunD.bindsN F fun _ _ _ _ _ _ us hl => match us, hl with | [_, _, _], _ => rfl⟩, F.kp⟩

abbrev N_Ratio_neg : List Str := ["self"]
theorem sc_Ratio_neg : FnScope N_Ratio_neg ["self"] (defScope s_Ratio_neg) := ⟨rfl, rfl, rfl, by decide +kernel, rfl, by decide +kernel, by decide +kernel⟩
theorem okF_Ratio_neg {w : World} (T : Tx fa fn ex K mg) {fd : FuncData} (F : FunD K d_Ratio_neg.name d_Ratio_neg.qual d_Ratio_neg.params d_Ratio_neg.body d_Ratio_neg.scope (d_Ratio_neg.dvs K) (d_Ratio_neg.kws K) (He.fAd K d_Ratio_neg.at_) fd) (G_Ratio_init : FnG P w K mg base 34 (He.ma K (He.ga K "Ratio") "__init__") ["self", "top", "bottom"] (spInit (He.ga K "Ratio"))) : FnOk P w K mg base CX0 36 (He.ma K (He.ga K "Ratio") "__neg__") fd ["self"] (spUn (He.ga K "Ratio") Ok1 fun p => -p) := by
  have nd : (N_Ratio_neg).Nodup := sc_Ratio_neg.nd
  refine F.ok sc_Ratio_neg (fun vs H Q E h => ?_) (fun cdv A outer s H vs Q E hr h => ?_)
  · obtain ⟨_, _, rfl, _⟩ := h
    rfl
  · obtain ⟨x, p, rfl, ⟨a, da, rfl, ha⟩, ok, k⟩ := h
    refine ⟨_, PSs.nox (pss_one (ps_ret (pe_makeF (T.mkr 15 rfl) G_Ratio_init (hr.mono (by decide)) (T.glo 16 rfl) (pa_cons (pe_un un_neg (pe_fldK (K := K) rfl (pv 0) rfl)) (pa_cons (pe_fldK (K := K) rfl (pv 0) rfl) pa_nil))))), ?_⟩
    refine ⟨_, rfl, _, _, _, _, _, rfl, ha, tcl T, ttop T, ratO_top _, _, rfl, _, rfl, _, _, _, _, _, rfl, ha, tcl T, tbot T, ratO_bot _, ?_⟩
    intro x dx nx ndx nex
    refine ⟨x, dx, _, _, rfl, upd_same, den_ne p, by rw [Int.natAbs_natCast]; exact ok, fun H' e => ⟨rfl, ?_⟩⟩
    rw [divInt_neg'] at e
    subst e
    exact k _ _ (made nx ndx).1 ⟨x, rfl, nx⟩ (made nx ndx).2
theorem ok_Ratio_neg {w : World} (T : Tx fa fn ex K mg) (G_Ratio_init : FnG P w K mg base 34 (He.ma K (He.ga K "Ratio") "__init__") ["self", "top", "bottom"] (spInit (He.ga K "Ratio"))) : FnG P w K mg base 36 (He.ma K (He.ga K "Ratio") "__neg__") ["self"] (spUn (He.ga K "Ratio") Ok1 fun p => -p) := by
  obtain ⟨fd, F⟩ := T.c.def_ 34 (d := d_Ratio_neg) rfl
  exact ⟨⟨fd, okF_Ratio_neg T F G_Ratio_init, FunD.bindsN F fun _ _ _ _ _ _ us hl => match us, hl with | [_], _ => rfl⟩, F.kp⟩

abbrev N_Ratio_over : List Str := ["self", "other"]
theorem sc_Ratio_over : FnScope N_Ratio_over ["self", "other"] (defScope s_Ratio_over) := ⟨rfl, rfl, rfl, by decide +kernel, rfl, by decide +kernel, by decide +kernel⟩
theorem okF_Ratio_over {w : World} (T : Tx fa fn ex K mg) {fd : FuncData} (F : FunD K d_Ratio_over.name d_Ratio_over.qual d_Ratio_over.params d_Ratio_over.body d_Ratio_over.scope (d_Ratio_over.dvs K) (d_Ratio_over.kws K) (He.fAd K d_Ratio_over.at_) fd) (G_Ratio_init : FnG P w K mg base 34 (He.ma K (He.ga K "Ratio") "__init__") ["self", "top", "bottom"] (spInit (He.ga K "Ratio"))) : FnOk P w K mg base CX0 36 (He.ma K (He.ga K "Ratio") "over") fd ["self", "other"] (spBin (He.ga K "Ratio") OkDiv fun p q => p / q) := by
  have nd : (N_Ratio_over).Nodup := sc_Ratio_over.nd
  refine F.ok sc_Ratio_over (fun vs H Q E h => ?_) (fun cdv A outer s H vs Q E hr h => ?_)
  · obtain ⟨_, _, _, _, rfl, _⟩ := h
    rfl
  · obtain ⟨x, y, p, q, rfl, ⟨a, da, rfl, ha⟩, ⟨b, db, rfl, hb⟩, ok, k⟩ := h
    refine ⟨_, PSs.nox (pss_one (ps_ret (pe_makeF (T.mkr 15 rfl) G_Ratio_init (hr.mono (by decide)) (T.glo 16 rfl) (pa_cons (pe_op op_mulW (pe_fldK (K := K) rfl (pv 0) rfl) (pe_fldK (K := K) rfl (pv 1) rfl)) (pa_cons (pe_op op_mulW (pe_fldK (K := K) rfl (pv 0) rfl) (pe_fldK (K := K) rfl (pv 1) rfl)) pa_nil))))), ?_⟩
    have m := ok2_mul ok.1
    refine ⟨_, rfl, _, _, _, _, _, rfl, ha, tcl T, ttop T, ratO_top _, _, rfl, _, _, _, _, _, rfl, hb, tcl T, tbot T, ratO_bot _, _, _, rfl, rfl, m.1, _, rfl, _, _, _, _, _, rfl, ha, tcl T, tbot T, ratO_bot _, _, rfl, _, _, _, _, _, rfl, hb, tcl T, ttop T, ratO_top _, _, _, rfl, rfl, m.2.2.2.2, ?_⟩
    intro x dx nx ndx nex
    refine ⟨x, dx, _, _, rfl, upd_same, (ok2_div ok.1 ok.2).1, (ok2_div ok.1 ok.2).2, fun H' e => ⟨rfl, ?_⟩⟩
    rw [divInt_div] at e
    subst e
    exact k _ _ (made nx ndx).1 ⟨x, rfl, nx⟩ (made nx ndx).2
theorem ok_Ratio_over {w : World} (T : Tx fa fn ex K mg) (G_Ratio_init : FnG P w K mg base 34 (He.ma K (He.ga K "Ratio") "__init__") ["self", "top", "bottom"] (spInit (He.ga K "Ratio"))) : FnG P w K mg base 36 (He.ma K (He.ga K "Ratio") "over") ["self", "other"] (spBin (He.ga K "Ratio") OkDiv fun p q => p / q) := by
  obtain ⟨fd, F⟩ := T.c.def_ 35 (d := d_Ratio_over) rfl
  exact ⟨⟨fd, okF_Ratio_over T F G_Ratio_init, FunD.bindsN F fun _ _ _ _ _ _ us hl => match us, hl with | [_, _], _ => rfl⟩, F.kp⟩

abbrev N_divided : List Str := ["a", "number"]
theorem sc_divided : FnScope N_divided ["a", "number"] (defScope s_divided) := ⟨rfl, rfl, rfl, by decide +kernel, rfl, by decide +kernel, by decide +kernel⟩
theorem okF_divided {w : World} (T : Tx fa fn ex K mg) {fd : FuncData} (F : FunD K d_divided.name d_divided.qual d_divided.params d_divided.body d_divided.scope (d_divided.dvs K) (d_divided.kws K) (He.fAd K d_divided.at_) fd) (G_scale : FnG P w K mg base 37 (He.ga K "scale") ["factor", "a"] (spScale (He.ga K "Ratio"))) (G_Ratio_init1 : FnD1 P w K mg base 34 (He.ma K (He.ga K "Ratio") "__init__") ["self", "top", "bottom"] [.int 1] (spInit (He.ga K "Ratio"))) (G_Ratio_over : FnG P w K mg base 36 (He.ma K (He.ga K "Ratio") "over") ["self", "other"] (spBin (He.ga K "Ratio") OkDiv fun p q => p / q)) : FnOk P w K mg base CX0 38 (He.ga K "divided") fd ["a", "number"] (spDivided (He.ga K "Ratio")) := by
  have nd : (N_divided).Nodup := sc_divided.nd
  refine F.ok sc_divided (fun vs H Q E h => ?_) (fun cdv A outer s H vs Q E hr h => ?_)
  · obtain ⟨_, _, _, _, _, rfl, _⟩ := h
    rfl
  · obtain ⟨x, y, a, q, n, rfl, hx, hy, hl, ⟨s1, s2, h0, n2, n3⟩, k⟩ := h
    refine ⟨_, PSs.nox (pss_one (ps_ret (pe_callF G_scale (hr.mono (by decide)) (T.glo 64 rfl) (pa_cons (pe_methF (pe_makeD (T.mkr 15 rfl) G_Ratio_init1 (hr.mono (by decide)) (T.glo 16 rfl) (pa_cons pe_int pa_nil)) (T.cls 52 rfl) (T.meth 53 rfl) G_Ratio_over (hr.mono (by decide)) (pa_cons (pv 1) pa_nil)) (pa_cons (pv 0) pa_nil))))), ?_⟩
    exact s_retP (evp_scale (p := 1 / q) (fq_meth (f := fun p q => p / q) (ok := OkDiv) (fq_int (n := 1)) (vP mono_rat hy _ _ 1 (Ex.refl _) rfl) ⟨ok2_of (smB_one n2) s2 (by omega) (by omega) (by omega), h0⟩) (vP mono_vec hx _ _ 0 (Ex.refl _) rfl) hl (fun z hz => ok2_of (smB_div (smB_one n2) s2 h0) (s1 z hz) (by omega) (by omega) (by omega))) fun v H1 e1 r => k v H1 e1 r
theorem ok_divided {w : World} (T : Tx fa fn ex K mg) (G_scale : FnG P w K mg base 37 (He.ga K "scale") ["factor", "a"] (spScale (He.ga K "Ratio"))) (G_Ratio_init1 : FnD1 P w K mg base 34 (He.ma K (He.ga K "Ratio") "__init__") ["self", "top", "bottom"] [.int 1] (spInit (He.ga K "Ratio"))) (G_Ratio_over : FnG P w K mg base 36 (He.ma K (He.ga K "Ratio") "over") ["self", "other"] (spBin (He.ga K "Ratio") OkDiv fun p q => p / q)) : FnG P w K mg base 38 (He.ga K "divided") ["a", "number"] (spDivided (He.ga K "Ratio")) := by
  obtain ⟨fd, F⟩ := T.c.def_ 36 (d := d_divided) rfl
  exact ⟨⟨fd, okF_divided T F G_scale G_Ratio_init1 G_Ratio_over, FunD.bindsN F fun _ _ _ _ _ _ us hl => match us, hl with | [_, _], _ => rfl⟩, F.kp⟩

abbrev N_without_both : List Str := ["matrix", "a", "b", "both"]
theorem sc_without_both : FnScope N_without_both ["matrix", "a", "b"] (defScope s_without_both) := ⟨rfl, rfl, rfl, by decide +kernel, rfl, by decide +kernel, by decide +kernel⟩
theorem okF_without_both {w : World} (T : Tx fa fn ex K mg) {fd : FuncData} (F : FunD K d_without_both.name d_without_both.qual d_without_both.params d_without_both.body d_without_both.scope (d_without_both.dvs K) (d_without_both.kws K) (He.fAd K d_without_both.at_) fd) (G_sum_of : FnG P w K mg base 38 (He.ga K "sum_of") ["first", "second"] (spSumOf (He.ga K "Ratio"))) (G_outer : FnG P w K mg base 38 (He.ga K "outer") ["a", "b"] (spOuter (He.ga K "Ratio"))) (G_scaled : FnG P w K mg base 38 (He.ga K "scaled") ["factor", "matrix"] (spScaled (He.ga K "Ratio"))) (G_Ratio_init1 : FnD1 P w K mg base 34 (He.ma K (He.ga K "Ratio") "__init__") ["self", "top", "bottom"] [.int 1] (spInit (He.ga K "Ratio"))) : FnOk P w K mg base CX0 39 (He.ga K "without_both") fd ["matrix", "a", "b"] (spWithout (He.ga K "Ratio")) := by
  have nd : (N_without_both).Nodup := sc_without_both.nd
  refine F.ok sc_without_both (fun vs H Q E h => ?_) (fun cdv A outer s H vs Q E hr h => ?_)
  · obtain ⟨_, _, _, _, _, _, _, _, _, _, rfl, _⟩ := h
    rfl
  · obtain ⟨x, y, z, M, a, b, n, m, p, q, rfl, hx, hy, hz, ⟨lM, wM, la, lb, n32⟩, ⟨cM, va, vb⟩, ho, k⟩ := h
    refine ⟨_, PSs.nox (pss_cons (ps_set (i := 3) nd rfl (by first | exact Or.inl rfl | exact Or.inr rfl) (pe_callF G_sum_of (hr.mono (by decide)) (T.glo 60 rfl) (pa_cons (pe_callF G_outer (hr.mono (by decide)) (T.glo 62 rfl) (pa_cons (pv 1) (pa_cons (pv 2) pa_nil))) (pa_cons (pe_callF G_outer (hr.mono (by decide)) (T.glo 62 rfl) (pa_cons (pv 2) (pa_cons (pv 1) pa_nil))) pa_nil))))
      (pss_one (ps_ret (pe_callF G_sum_of (hr.mono (by decide)) (T.glo 60 rfl) (pa_cons (pv 0) (pa_cons (pe_callF G_scaled (hr.mono (by decide)) (T.glo 61 rfl) (pa_cons (pe_makeD (T.mkr 15 rfl) G_Ratio_init1 (hr.mono (by decide)) (T.glo 16 rfl) (pa_cons (pe_un un_neg pe_int) pa_nil)) (pa_cons (pv 3) pa_nil))) pa_nil)))))), ?_⟩
    have w1 : Wide n (outerQ a b) := by have z := outer_wide (a := a) (b := b); rw [lb] at z; exact z
    have w2 : Wide n (outerQ b a) := by have z := outer_wide (a := b) (b := a); rw [la] at z; exact z
    have so : ∀ r ∈ outerQ a b, ∀ t ∈ r, SmB (p + q + 1) t := allM_at fun i j => by
      rw [outer_F]
      exact ((va.at i).mul (vb.at j)).sm
    have so2 : ∀ r ∈ outerQ b a, ∀ t ∈ r, SmB (p + q + 1) t := allM_at fun i j => by
      rw [outer_F]
      exact (((vb.at i).mul (va.at j)).mono (by omega)).sm
    have cb := cdb_both va vb la lb
    have sb := cdb_allM cb
    have ll : (addM (outerQ a b) (outerQ b a)).length = n := by rw [addM_len (by rw [outer_len, outer_len, la, lb]), outer_len, la]
    have wb : Wide n (addM (outerQ a b) (outerQ b a)) := addM_wide w1 w2
    refine q_asgT (evp_sumOf (w := n) (evp_outer (vP mono_vec hy _ _ 1 (Ex.refl _) rfl) (vP mono_vec hz _ _ 2 (Ex.refl _) rfl) (by omega) (by omega) (fun s hs t ht => ok2_of (va.sm s hs) (vb.sm t ht) (by omega) (by omega) (by omega))) (evp_outer (vP mono_vec hz _ _ 2 (Ex.refl _) rfl) (vP mono_vec hy _ _ 1 (Ex.refl _) rfl) (by omega) (by omega) (fun s hs t ht => ok2_of (vb.sm s hs) (va.sm t ht) (by omega) (by omega) (by omega)))
      (by rw [outer_len, outer_len, la, lb]) (by rw [outer_len]; omega) (by omega) w1 w2 (fun r hr s hs t ht u hu => ok2_of (so r hr t ht) (so2 s hs u hu) (by omega) (by omega) (by omega)) H (Ex.refl _) _ fun v3 H1 e1 m3 => ?_)
    have hx := mono_mat _ _ _ e1 hx
    generalize hB : addM (outerQ a b) (outerQ b a) = B at *
    show tRet _ _ [some x, some y, some z, some v3] H1
    have eneg : ((-1 : Int) : Rat) = -1 := rfl
    have s1 : SmB 2 (-1 : Rat) := by rw [← eneg]; exact smB_int (by decide) (by decide)
    refine s_retP (evp_sumOf (w := n) (vP mono_mat hx _ _ 0 (Ex.refl _) rfl) (evp_scaled (f := -1) (fq_iv (n := -1) (ev_is (ev_un ev_c ru_neg) rfl)) (vP mono_mat m3 _ _ 3 (Ex.refl _) rfl) (by omega) (fun r hr => ⟨by rw [wb r hr]; omega, fun t ht => ok2_of s1 (sb r hr t ht) (by decide) (by omega) (by omega)⟩)) (by rw [scaleM_len, ll, lM]) (by omega) (by omega) wM (scaleM_wide wb) (fun r hr s hs t ht u hu => ?_)) fun v H2 e2 r => k v H2 (e1.trans e2) ?_
    · unfold scaleM scaleQ at hs
      obtain ⟨s', h1, rfl⟩ := List.mem_map.mp hs
      obtain ⟨u', hu', rfl⟩ := List.mem_map.mp hu
      exact ok2_of (cdb_allM cM r hr t ht) (smB_mul s1 (sb s' h1 u' hu')) (by omega) (by omega) (by omega)
    · show MatAt _ (withoutQ M a b) v H2
      unfold withoutQ
      rw [hB]
      exact r
theorem ok_without_both {w : World} (T : Tx fa fn ex K mg) (G_sum_of : FnG P w K mg base 38 (He.ga K "sum_of") ["first", "second"] (spSumOf (He.ga K "Ratio"))) (G_outer : FnG P w K mg base 38 (He.ga K "outer") ["a", "b"] (spOuter (He.ga K "Ratio"))) (G_scaled : FnG P w K mg base 38 (He.ga K "scaled") ["factor", "matrix"] (spScaled (He.ga K "Ratio"))) (G_Ratio_init1 : FnD1 P w K mg base 34 (He.ma K (He.ga K "Ratio") "__init__") ["self", "top", "bottom"] [.int 1] (spInit (He.ga K "Ratio"))) : FnG P w K mg base 39 (He.ga K "without_both") ["matrix", "a", "b"] (spWithout (He.ga K "Ratio")) := by
  obtain ⟨fd, F⟩ := T.c.def_ 37 (d := d_without_both) rfl
  exact ⟨⟨fd, okF_without_both T F G_sum_of G_outer G_scaled G_Ratio_init1, FunD.bindsN F fun _ _ _ _ _ _ us hl => match us, hl with | [_, _, _], _ => rfl⟩, F.kp⟩

abbrev N_with_added : List Str := ["matrix", "inverse", "row", "weight", "image", "rest", "size", "part"]
theorem sc_with_added : FnScope N_with_added ["matrix", "inverse", "row", "weight"] (defScope s_with_added) := ⟨rfl, rfl, rfl, by decide +kernel, rfl, by decide +kernel, by decide +kernel⟩
theorem okF_with_added {w : World} (T : Tx fa fn ex K mg) {fd : FuncData} (F : FunD K d_with_added.name d_with_added.qual d_with_added.params d_with_added.body d_with_added.scope (d_with_added.dvs K) (d_with_added.kws K) (He.fAd K d_with_added.at_) fd) (G_apply : FnG P w K mg base 38 (He.ga K "apply") ["matrix", "vector"] (spApply (He.ga K "Ratio"))) (G_minus : FnG P w K mg base 37 (He.ga K "minus") ["a", "b"] (spVec2 (He.ga K "Ratio") fun p q => p - q)) (G_dot : FnG P w K mg base 37 (He.ga K "dot") ["a", "b"] (spDot (He.ga K "Ratio"))) (G_is_zero : FnG P w K mg base 1 (He.ga K "is_zero") ["a"] (spIsZero (He.ga K "Ratio"))) (G_add_term : FnG P w K mg base 39 (He.ga K "add_term") ["matrix", "row", "weight"] (spAddTerm (He.ga K "Ratio"))) (G_Ratio_neg : FnG P w K mg base 36 (He.ma K (He.ga K "Ratio") "__neg__") ["self"] (spUn (He.ga K "Ratio") Ok1 fun p => -p)) (G_Ratio_over : FnG P w K mg base 36 (He.ma K (He.ga K "Ratio") "over") ["self", "other"] (spBin (He.ga K "Ratio") OkDiv fun p q => p / q)) (G_Ratio_add : FnG P w K mg base 36 (He.ma K (He.ga K "Ratio") "__add__") ["self", "other"] (spBin (He.ga K "Ratio") Ok2 fun p q => p + q)) (G_Ratio_init1 : FnD1 P w K mg base 34 (He.ma K (He.ga K "Ratio") "__init__") ["self", "top", "bottom"] [.int 1] (spInit (He.ga K "Ratio"))) (G_Ratio_mul : FnG P w K mg base 36 (He.ma K (He.ga K "Ratio") "__mul__") ["self", "other"] (spBin (He.ga K "Ratio") Ok2 fun p q => p * q)) (G_divided : FnG P w K mg base 38 (He.ga K "divided") ["a", "number"] (spDivided (He.ga K "Ratio"))) (G_without_both : FnG P w K mg base 39 (He.ga K "without_both") ["matrix", "a", "b"] (spWithout (He.ga K "Ratio"))) : FnOk P w K mg base CX0 40 (He.ga K "with_added") fd ["matrix", "inverse", "row", "weight"] (spWAdd (He.ga K "Ratio")) := by
  have nd : (N_with_added).Nodup := sc_with_added.nd
  refine F.ok sc_with_added (fun vs H Q E h => ?_) (fun cdv A outer s H vs Q E hr h => ?_)
  · obtain ⟨_, _, _, _, _, _, _, _, _, _, _, _, _, rfl, _⟩ := h
    rfl
  · obtain ⟨x, y, z, u, M, P, row, w, n, m, p, r, k0, rfl, hx, hy, hz, hu, ⟨⟨lM, wM⟩, ⟨lP, wP⟩, lr⟩, ⟨cM, cP, vr, qw⟩, ⟨n32, o1, o2⟩, ⟨w0, h1⟩, k⟩ := h
    refine ⟨_, PSs.nox (pss_cons (ps_set (i := 4) nd rfl (by first | exact Or.inl rfl | exact Or.inr rfl) (pe_callF G_apply (hr.mono (by decide)) (T.glo 47 rfl) (pa_cons (pv 1) (pa_cons (pv 2) pa_nil))))
      (pss_cons (ps_set (i := 5) nd rfl (by first | exact Or.inl rfl | exact Or.inr rfl) (pe_callF G_minus (hr.mono (by decide)) (T.glo 48 rfl) (pa_cons (pv 2) (pa_cons (pe_callF G_apply (hr.mono (by decide)) (T.glo 47 rfl) (pa_cons (pv 0) (pa_cons (pv 4) pa_nil))) pa_nil))))
      (pss_cons (ps_set (i := 6) nd rfl (by first | exact Or.inl rfl | exact Or.inr rfl) (pe_callF G_dot (hr.mono (by decide)) (T.glo 49 rfl) (pa_cons (pv 2) (pa_cons (pv 4) pa_nil))))
      (pss_cons (ps_if (pt_val (pe_callF G_is_zero (hr.mono (by decide)) (T.glo 50 rfl) (pa_cons (pv 5) pa_nil))) (pss_one (ps_ret (pe_callF G_add_term (hr.mono (by decide)) (T.glo 43 rfl) (pa_cons (pv 1) (pa_cons (pv 4) (pa_cons (pe_un (un_negF G_Ratio_neg (hr.mono (by decide)) (T.meth 51 rfl)) (pe_methF (pv 3) (T.cls 52 rfl) (T.meth 53 rfl) G_Ratio_over (hr.mono (by decide)) (pa_cons (pe_op (op_ownF (op := .Add) G_Ratio_add (hr.mono (by decide)) (tself T) (T.meth 54 rfl)) (pe_makeD (T.mkr 15 rfl) G_Ratio_init1 (hr.mono (by decide)) (T.glo 16 rfl) (pa_cons pe_int pa_nil)) (pe_op (op_ownF (op := .Mult) G_Ratio_mul (hr.mono (by decide)) (tself T) (T.meth 14 rfl)) (pv 3) (pv 6))) pa_nil))) pa_nil))))))
      pss_nil)
      (pss_cons (ps_set (i := 7) nd rfl (by first | exact Or.inl rfl | exact Or.inr rfl) (pe_callF G_divided (hr.mono (by decide)) (T.glo 55 rfl) (pa_cons (pv 5) (pa_cons (pe_callF G_dot (hr.mono (by decide)) (T.glo 49 rfl) (pa_cons (pv 5) (pa_cons (pv 5) pa_nil))) pa_nil))))
      (pss_one (ps_ret (pe_callF G_add_term (hr.mono (by decide)) (T.glo 43 rfl) (pa_cons (pe_callF G_without_both (hr.mono (by decide)) (T.glo 56 rfl) (pa_cons (pv 1) (pa_cons (pv 7) (pa_cons (pv 4) pa_nil)))) (pa_cons (pv 7) (pa_cons (pe_op (op_ownF (op := .Add) G_Ratio_add (hr.mono (by decide)) (tself T) (T.meth 54 rfl)) (pe_methF (pe_makeD (T.mkr 15 rfl) G_Ratio_init1 (hr.mono (by decide)) (T.glo 16 rfl) (pa_cons pe_int pa_nil)) (T.cls 52 rfl) (T.meth 53 rfl) G_Ratio_over (hr.mono (by decide)) (pa_cons (pv 3) pa_nil)) (pv 6)) pa_nil))))))))))), ?_⟩
    have dk : ∀ a b, 0 < a → 0 < b → a + b ≤ 2 * (m + 2 * r + p + 20) + 2 → (a + b + 1) * n + 1 ≤ 900000 := fun a b _ _ h => by
      have : (a + b + 1) * n ≤ (3 * (m + 2 * r + p + 20) + 3) * n := Nat.mul_le_mul_right _ (by omega)
      omega
    have vi : VB (p + r + 5) (applyQ P row) := VB.mv cP vr wP lr n32
    have li : (applyQ P row).length = n := by rw [applyQ_len, lP]
    have vmi : VB (m + (p + r + 5) + 5) (applyQ M (applyQ P row)) := VB.mv cM vi wM li n32
    have vrest : VB (m + 2 * r + p + 20) (restQ M P row) := (VB.sub vr vmi (by rw [applyQ_len, lM, lr])).mono (by omega)
    have lrest : (restQ M P row).length = n := restQ_len lM lr
    have qs : QB (m + 2 * r + p + 20) (sizeQ P row) := (VB.dot vr vi lr li n32).mono (by omega)
    refine q_asgT (evp_apply (n := p + 1) (m := r + 1) (vP mono_mat hy _ _ 1 (Ex.refl _) rfl) (vP mono_vec hz _ _ 2 (Ex.refl _) rfl) (by rw [lr]; exact wP) (by omega) (cdb_allM cP) vr.sm ⟨by omega, by omega, by rw [lr]; exact dk _ _ (by omega) (by omega) (by omega)⟩ H (Ex.refl _) _ fun v4 H1 e1 m4 => ?_)
    have hx := mono_mat _ _ _ e1 hx
    have hz := mono_vec _ _ _ e1 hz
    show tSeq (tAsg _ _) _ _ [some x, some y, some z, some u, some v4, none, none, none] H1
    refine q_asgT (evp_vec2 (f := fun p q => p - q) (vP mono_vec hz _ _ 2 (Ex.refl _) rfl) (evp_apply (n := m + 1) (m := p + r + 6) (vP mono_mat hx _ _ 0 (Ex.refl _) rfl) (vP mono_vec m4 _ _ 4 (Ex.refl _) rfl) (by rw [li]; exact wM) (by omega) (cdb_allM cM) vi.sm ⟨by omega, by omega, by rw [li]; exact dk _ _ (by omega) (by omega) (by omega)⟩) (by rw [applyQ_len, lM, lr]) (by omega) (fun s hs t ht => ok2_of (vr.sm s hs) (vmi.sm t ht) (by omega) (by omega) (by omega)) H1 (Ex.refl _) _ fun v5 H2 e2 m5 => ?_)
    have m5 : VecAt (He.ga K "Ratio") (restQ M P row) v5 H2 := m5
    have m4 := mono_vec _ _ _ e2 m4
    have hz := mono_vec _ _ _ e2 hz
    show tSeq (tAsg _ _) _ _ [some x, some y, some z, some u, some v4, some v5, none, none] H2
    refine q_asgT (evp_dot (n := r + 1) (m := p + r + 6) (vP mono_vec hz _ _ 2 (Ex.refl _) rfl) (vP mono_vec m4 _ _ 4 (Ex.refl _) rfl) (by rw [lr, li]) vr.sm vi.sm (by omega) (by omega) (by rw [lr]; exact dk _ _ (by omega) (by omega) (by omega)) H2 (Ex.refl _) _ fun v6 H3 e3 m6 => ?_)
    have m6 : RatAt (He.ga K "Ratio") H3 v6 (sizeQ P row) := m6
    have m4 := mono_vec _ _ _ e3 m4
    have m5 := mono_vec _ _ _ e3 m5
    have hu := ((hu.mono e1).mono e2).mono e3
    have hy := mono_mat _ _ _ ((e1.trans e2).trans e3) hy
    have e3 := (e1.trans e2).trans e3
    show tSeq (tIfS _ _ _) _ _ [some x, some y, some z, some u, some v4, some v5, some v6, none] H3
    have k3 := (qw.mul qs)
    refine q_when (et_B (ev_isz (vP mono_vec m5 _ _ 5 (Ex.refl _) rfl) (by omega))) (fun hb H4 e4 => ?_) (fun hb H4 e4 => ?_)
    · have hm4 := mono_vec _ _ _ e4 m4
      have q1 : QB (k0 + (m + 2 * r + p + 20) + 1) (1 + w * sizeQ P row) := (QB.one.add k3).mono (by omega)
      have q2 := qw.div q1 (h1 hb)
      refine s_retP (evp_addTerm (n := p + 1) (m := p + r + 6) (k := k0 + (k0 + (m + 2 * r + p + 20) + 1) + 1) (vP mono_mat hy _ _ 1 e4 rfl) (vP mono_vec hm4 _ _ 4 (Ex.refl _) rfl) (fq_un (g := fun p => -p) (fq_meth (f := fun p q => p / q) (ok := OkDiv) (vP mono_rat hu _ _ 3 e4 rfl) (fq_bin (f := fun p q => p + q) (fq_int (n := 1)) (fq_bin (f := fun p q => p * q) (vP mono_rat hu _ _ 3 e4 rfl) (vP mono_rat m6 _ _ 6 e4 rfl) (ok2_of qw.sm qs.sm (by omega) (by omega) (by omega))) (ok2_of (smB_one (k := 2) (by decide)) k3.sm (by decide) (by omega) (by omega))) ⟨ok2_of qw.sm q1.sm (by omega) (by omega) (by omega), h1 hb⟩) (okD q2.sm (by omega))) (by rw [lP, li]) (by rw [li]; exact wP) (by omega) (cdb_allM cP) vi.sm q2.neg.sm ⟨by omega, by omega, by omega, by omega⟩) fun v H5 e5 r => k v H5 ((e3.trans e4).trans e5) ?_
      unfold wAddQ
      rw [if_pos hb]
      exact r
    have hb : ¬ (restQ M P row).all (fun q => decide (q = 0)) = true := by rw [hb]; exact Bool.false_ne_true
    have hne : dotQ (restQ M P row) (restQ M P row) ≠ 0 := by
      rw [vf_dot lrest lrest]
      exact dot_ne fun h => hb (all_zero.mpr fun k => by
        by_cases hk : k < n
        · exact h k hk
        · exact vf_ge (by omega))
    have hy := mono_mat _ _ _ e4 hy
    have hu := hu.mono e4
    have m4 := mono_vec _ _ _ e4 m4
    have m5 := mono_vec _ _ _ e4 m5
    have m6 := m6.mono e4
    have e4 := e3.trans e4
    have qd := VB.dot vrest vrest lrest lrest n32
    refine q_asgT (evp_divided (n := 2 * (m + 2 * r + p + 20) + 6) (vP mono_vec m5 _ _ 5 (Ex.refl _) rfl) (evp_dot (n := m + 2 * r + p + 20 + 1) (m := m + 2 * r + p + 20 + 1) (vP mono_vec m5 _ _ 5 (Ex.refl _) rfl) (vP mono_vec m5 _ _ 5 (Ex.refl _) rfl) rfl vrest.sm vrest.sm (by omega) (by omega) (by rw [lrest]; exact dk _ _ (by omega) (by omega) (by omega))) (by omega) ⟨fun t ht => (vrest.sm t ht).mono (by omega), qd.sm.mono (by omega), hne, by omega, by omega⟩ H4 (Ex.refl _) _ fun v7 H5 e5 m7 => ?_)
    have m7 : VecAt (He.ga K "Ratio") (partQ (restQ M P row)) v7 H5 := m7
    have vp := VB.part vrest lrest n32 hne
    have lp : (partQ (restQ M P row)).length = n := by unfold partQ; rw [scaleQ_len, lrest]
    have cW := cdb_without cP vp vi lP wP lp li
    have hy := mono_mat _ _ _ e5 hy
    have hu := hu.mono e5
    have m4 := mono_vec _ _ _ e5 m4
    have m6 := m6.mono e5
    have qi := qw.inv w0
    have qc := qi.add qs
    show tRet _ _ [some x, some y, some z, some u, some v4, some v5, some v6, some v7] H5
    refine s_retP (evp_addTerm (n := p + (2 * (m + 2 * r + p + 20) + 5) + (p + r + 5) + 2 + 1) (m := 2 * (m + 2 * r + p + 20) + 5 + 1) (k := k0 + (m + 2 * r + p + 20) + 1 + 1) (evp_without (vP mono_mat hy _ _ 1 (Ex.refl _) rfl) (vP mono_vec m7 _ _ 7 (Ex.refl _) rfl) (vP mono_vec m4 _ _ 4 (Ex.refl _) rfl) ⟨lP, wP, lp, li, n32⟩ ⟨cP, vp, vi⟩ (by omega)) (vP mono_vec m7 _ _ 7 (Ex.refl _) rfl) (fq_bin (f := fun p q => p + q) (fq_meth (f := fun p q => p / q) (ok := OkDiv) (fq_int (n := 1)) (vP mono_rat hu _ _ 3 (Ex.refl _) rfl) ⟨ok2_of (smB_one (k := 2) (by decide)) qw.sm (by decide) (by omega) (by omega), w0⟩) (vP mono_rat m6 _ _ 6 (Ex.refl _) rfl) (ok2_of qi.sm qs.sm (by omega) (by omega) (by omega))) (by rw [without_len lP lp li, lp]) (by rw [lp]; exact without_wide wP lp li) (by omega) (cdb_allM cW) vp.sm qc.sm ⟨by omega, by omega, by omega, by omega⟩) fun v H6 e6 r => k v H6 ((e4.trans e5).trans e6) ?_
    unfold wAddQ
    rw [if_neg hb]
    exact r
theorem ok_with_added {w : World} (T : Tx fa fn ex K mg) (G_apply : FnG P w K mg base 38 (He.ga K "apply") ["matrix", "vector"] (spApply (He.ga K "Ratio"))) (G_minus : FnG P w K mg base 37 (He.ga K "minus") ["a", "b"] (spVec2 (He.ga K "Ratio") fun p q => p - q)) (G_dot : FnG P w K mg base 37 (He.ga K "dot") ["a", "b"] (spDot (He.ga K "Ratio"))) (G_is_zero : FnG P w K mg base 1 (He.ga K "is_zero") ["a"] (spIsZero (He.ga K "Ratio"))) (G_add_term : FnG P w K mg base 39 (He.ga K "add_term") ["matrix", "row", "weight"] (spAddTerm (He.ga K "Ratio"))) (G_Ratio_neg : FnG P w K mg base 36 (He.ma K (He.ga K "Ratio") "__neg__") ["self"] (spUn (He.ga K "Ratio") Ok1 fun p => -p)) (G_Ratio_over : FnG P w K mg base 36 (He.ma K (He.ga K "Ratio") "over") ["self", "other"] (spBin (He.ga K "Ratio") OkDiv fun p q => p / q)) (G_Ratio_add : FnG P w K mg base 36 (He.ma K (He.ga K "Ratio") "__add__") ["self", "other"] (spBin (He.ga K "Ratio") Ok2 fun p q => p + q)) (G_Ratio_init1 : FnD1 P w K mg base 34 (He.ma K (He.ga K "Ratio") "__init__") ["self", "top", "bottom"] [.int 1] (spInit (He.ga K "Ratio"))) (G_Ratio_mul : FnG P w K mg base 36 (He.ma K (He.ga K "Ratio") "__mul__") ["self", "other"] (spBin (He.ga K "Ratio") Ok2 fun p q => p * q)) (G_divided : FnG P w K mg base 38 (He.ga K "divided") ["a", "number"] (spDivided (He.ga K "Ratio"))) (G_without_both : FnG P w K mg base 39 (He.ga K "without_both") ["matrix", "a", "b"] (spWithout (He.ga K "Ratio"))) : FnG P w K mg base 40 (He.ga K "with_added") ["matrix", "inverse", "row", "weight"] (spWAdd (He.ga K "Ratio")) := by
  obtain ⟨fd, F⟩ := T.c.def_ 38 (d := d_with_added) rfl
  exact ⟨⟨fd, okF_with_added T F G_apply G_minus G_dot G_is_zero G_add_term G_Ratio_neg G_Ratio_over G_Ratio_add G_Ratio_init1 G_Ratio_mul G_divided G_without_both, FunD.bindsN F fun _ _ _ _ _ _ us hl => match us, hl with | [_, _, _, _], _ => rfl⟩, F.kp⟩

abbrev N_Net_add_to_sums : List Str := ["self", "reading", "weight", "row", "rest"]
theorem sc_Net_add_to_sums : FnScope N_Net_add_to_sums ["self", "reading", "weight"] (defScope s_Net_add_to_sums) := ⟨rfl, rfl, rfl, by decide +kernel, rfl, by decide +kernel, by decide +kernel⟩
theorem okF_Net_add_to_sums {w : World} (T : Tx fa fn ex K mg) {fd : FuncData} (F : FunD K d_Net_add_to_sums.name d_Net_add_to_sums.qual d_Net_add_to_sums.params d_Net_add_to_sums.body d_Net_add_to_sums.scope (d_Net_add_to_sums.dvs K) (d_Net_add_to_sums.kws K) (He.fAd K d_Net_add_to_sums.at_) fd) (G_Net_row : FnG P w K mg base 37 (He.ma K (He.ga K "Net") "row") ["self", "reading"] (spNetRow (He.ga K "Ratio") (He.ga K "Reading") (He.ga K "Net"))) (G_Ratio_sub : FnG P w K mg base 36 (He.ma K (He.ga K "Ratio") "__sub__") ["self", "other"] (spBin (He.ga K "Ratio") Ok2 fun p q => p - q)) (G_dot : FnG P w K mg base 37 (He.ga K "dot") ["a", "b"] (spDot (He.ga K "Ratio"))) (G_plus : FnG P w K mg base 37 (He.ga K "plus") ["a", "b"] (spVec2 (He.ga K "Ratio") fun p q => p + q)) (G_scale : FnG P w K mg base 37 (He.ga K "scale") ["factor", "a"] (spScale (He.ga K "Ratio"))) (G_Ratio_mul : FnG P w K mg base 36 (He.ma K (He.ga K "Ratio") "__mul__") ["self", "other"] (spBin (He.ga K "Ratio") Ok2 fun p q => p * q)) (G_Ratio_add : FnG P w K mg base 36 (He.ma K (He.ga K "Ratio") "__add__") ["self", "other"] (spBin (He.ga K "Ratio") Ok2 fun p q => p + q)) : FnOk P w K mg base CX0 38 (He.ma K (He.ga K "Net") "_add_to_sums") fd ["self", "reading", "weight"] (spAddSums (He.ga K "Ratio") (He.ga K "Reading") (He.ga K "Net")) := by
  have nd : (N_Net_add_to_sums).Nodup := sc_Net_add_to_sums.nd
  refine F.ok sc_Net_add_to_sums (fun vs H Q E h => ?_) (fun cdv A outer s H vs Q E hr h => ?_)
  · obtain ⟨_, _, _, _, _, _, _, _, rfl, _⟩ := h
    rfl
  · obtain ⟨a, pl, rl, N, r, y, u, w, rfl, hN, hy, hu, ok, k⟩ := h
    refine ⟨_, PSs.nox (pss_cons (ps_set (i := 3) nd rfl (by first | exact Or.inl rfl | exact Or.inr rfl) (pe_methF (pv 0) (T.cls 8 rfl) (T.meth 41 rfl) G_Net_row (hr.mono (by decide)) (pa_cons (pv 1) pa_nil)))
      (pss_cons (ps_set (i := 4) nd rfl (by first | exact Or.inl rfl | exact Or.inr rfl) (pe_op (op_ownF (op := .Sub) G_Ratio_sub (hr.mono (by decide)) (tself T) (T.meth 58 rfl)) (pe_fldK (K := K) rfl (pv 1) rfl) (pe_callF G_dot (hr.mono (by decide)) (T.glo 49 rfl) (pa_cons (pv 3) (pa_cons (pe_fldK (K := K) rfl (pv 0) rfl) pa_nil)))))
      (pss_cons (ps_fld (pv 0) (pe_callF G_plus (hr.mono (by decide)) (T.glo 63 rfl) (pa_cons (pe_fldK (K := K) rfl (pv 0) rfl) (pa_cons (pe_callF G_scale (hr.mono (by decide)) (T.glo 64 rfl) (pa_cons (pe_op (op_ownF (op := .Mult) G_Ratio_mul (hr.mono (by decide)) (tself T) (T.meth 14 rfl)) (pv 2) (pv 4)) (pa_cons (pv 3) pa_nil))) pa_nil))) rfl)
      (pss_one (ps_fld (pv 0) (pe_op (op_ownF (op := .Add) G_Ratio_add (hr.mono (by decide)) (tself T) (T.meth 54 rfl)) (pe_fldK (K := K) rfl (pv 0) rfl) (pe_op (op_ownF (op := .Mult) G_Ratio_mul (hr.mono (by decide)) (tself T) (T.meth 14 rfl)) (pe_op (op_ownF (op := .Mult) G_Ratio_mul (hr.mono (by decide)) (tself T) (T.meth 14 rfl)) (pv 2) (pv 4)) (pv 4))) rfl))))), ?_⟩
    have sr := rest_sm ok
    obtain ⟨l1, l2, l3, s1, s2, s3, s4, s5, s6⟩ := id ok
    have lr := row_len N.ns r.terms
    refine q_asgT (evp_nrow hN (ev_var rfl) (vP (fun v H H' e h => mono_rd _ v H H' e h) hy _ _ 1 (Ex.refl _) rfl) (by omega) (by decide +kernel) H (Ex.refl _) _ fun v3 H1 e1 m3 => ?_)
    have hN := hN.ex e1
    have hy := mono_rd _ _ _ _ e1 hy
    have hu := hu.mono e1
    show tSeq (tAsg _ _) _ _ [some (.ref a), some y, some u, some v3, none] H1
    refine q_asgT (fq_bin (f := fun p q => p - q) (evp_rvalue (tcl_Reading T) (tno_Reading_value T) (vP (fun v H H' e h => mono_rd _ v H H' e h) hy _ _ 1 (Ex.refl _) rfl)) (evp_dot (n := 10) (m := 400) (vP mono_vec m3 _ _ 3 (Ex.refl _) rfl) (evp_nA (tcl_Net T) (tno_Net_approximations T) hN (ev_var rfl)) (by rw [lr]; exact l1.symm) s1 s2 (by decide) (by decide) (by rw [lr]; omega)) (ok2_of s3 (dot_smW (n := 10) (m := 400) (k := 12) s1 s2 (by rw [lr]; exact l3)) (by decide) (by decide) (by decide)) H1 (Ex.refl _) _ fun v4 H2 e2 m4 => ?_)
    have m4 : RatAt (He.ga K "Ratio") H2 v4 (restRd N r) := m4
    have hN := hN.ex e2
    have hu := hu.mono e2
    have m3 := mono_vec _ _ _ e2 m3
    have s7 := smB_mul s4 sr
    have e12 := e1.trans e2
    dsimp only
    show tSeq (sFld _ _ _ _) _ _ [some (.ref a), some y, some u, some v3, some v4] H2
    refine n_setR (tcl_Net T) (tno_Net_right T) hN (evp_vec2 (f := fun p q => p + q) (evp_nR (tcl_Net T) (tno_Net_right T) hN (ev_var rfl)) (evp_scale (p := w * restRd N r) (fq_bin (f := fun p q => p * q) (vP mono_rat hu _ _ 2 (Ex.refl _) rfl) (vP mono_rat m4 _ _ 4 (Ex.refl _) rfl) (ok2_of s4 sr (by decide) (by decide) (by decide))) (vP mono_vec m3 _ _ 3 (Ex.refl _) rfl) (by omega) (fun q hq => ok2_of s7 (s1 q hq) (by decide) (by decide) (by decide))) (by rw [scaleQ_len, lr]; exact l2) (by omega) (fun p hp q hq => ?_)) rfl fun H3 hN3 f3 => ?_
    · unfold scaleQ at hq
      obtain ⟨q', hq', rfl⟩ := List.mem_map.mp hq
      exact ok2_of (s5 p hp) (smB_mul s7 (s1 q' hq')) (by decide) (by decide) (by decide)
    have hu := keptN_rq _ _ _ _ _ hN.mut1 f3 hu
    have m4 := keptN_rq _ _ _ _ _ hN.mut1 f3 m4
    dsimp only
    refine n_setT (tcl_Net T) (tno_Net_total T) hN3 (fq_bin (f := fun p q => p + q) (evp_nT (tcl_Net T) (tno_Net_total T) hN3 (ev_var rfl)) (fq_bin (f := fun p q => p * q) (fq_bin (f := fun p q => p * q) (vP mono_rat hu _ _ 2 (Ex.refl _) rfl) (vP mono_rat m4 _ _ 4 (Ex.refl _) rfl) (ok2_of s4 sr (by decide) (by decide) (by decide))) (vP mono_rat m4 _ _ 4 (Ex.refl _) rfl) (ok2_of s7 sr (by decide) (by decide) (by decide))) (ok2_of s6 (smB_mul s7 sr) (by decide) (by decide) (by decide))) rfl fun H4 hN4 f4 => ?_
    exact k _ hN4 ((FrB.of e12).trans (f3.trans f4))
theorem ok_Net_add_to_sums {w : World} (T : Tx fa fn ex K mg) (G_Net_row : FnG P w K mg base 37 (He.ma K (He.ga K "Net") "row") ["self", "reading"] (spNetRow (He.ga K "Ratio") (He.ga K "Reading") (He.ga K "Net"))) (G_Ratio_sub : FnG P w K mg base 36 (He.ma K (He.ga K "Ratio") "__sub__") ["self", "other"] (spBin (He.ga K "Ratio") Ok2 fun p q => p - q)) (G_dot : FnG P w K mg base 37 (He.ga K "dot") ["a", "b"] (spDot (He.ga K "Ratio"))) (G_plus : FnG P w K mg base 37 (He.ga K "plus") ["a", "b"] (spVec2 (He.ga K "Ratio") fun p q => p + q)) (G_scale : FnG P w K mg base 37 (He.ga K "scale") ["factor", "a"] (spScale (He.ga K "Ratio"))) (G_Ratio_mul : FnG P w K mg base 36 (He.ma K (He.ga K "Ratio") "__mul__") ["self", "other"] (spBin (He.ga K "Ratio") Ok2 fun p q => p * q)) (G_Ratio_add : FnG P w K mg base 36 (He.ma K (He.ga K "Ratio") "__add__") ["self", "other"] (spBin (He.ga K "Ratio") Ok2 fun p q => p + q)) : FnG P w K mg base 38 (He.ma K (He.ga K "Net") "_add_to_sums") ["self", "reading", "weight"] (spAddSums (He.ga K "Ratio") (He.ga K "Reading") (He.ga K "Net")) := by
  obtain ⟨fd, F⟩ := T.c.def_ 39 (d := d_Net_add_to_sums) rfl
  exact ⟨⟨fd, okF_Net_add_to_sums T F G_Net_row G_Ratio_sub G_dot G_plus G_scale G_Ratio_mul G_Ratio_add, FunD.bindsN F fun _ _ _ _ _ _ us hl => match us, hl with | [_, _, _], _ => rfl⟩, F.kp⟩

abbrev N_Net_take_in : List Str := ["self", "reading", "row"]
theorem sc_Net_take_in : FnScope N_Net_take_in ["self", "reading"] (defScope s_Net_take_in) := ⟨rfl, rfl, rfl, by decide +kernel, rfl, by decide +kernel, by decide +kernel⟩
theorem okF_Net_take_in {w : World} (T : Tx fa fn ex K mg) {fd : FuncData} (F : FunD K d_Net_take_in.name d_Net_take_in.qual d_Net_take_in.params d_Net_take_in.body d_Net_take_in.scope (d_Net_take_in.dvs K) (d_Net_take_in.kws K) (He.fAd K d_Net_take_in.at_) fd) (G_Net_row : FnG P w K mg base 37 (He.ma K (He.ga K "Net") "row") ["self", "reading"] (spNetRow (He.ga K "Ratio") (He.ga K "Reading") (He.ga K "Net"))) (G_with_added : FnG P w K mg base 40 (He.ga K "with_added") ["matrix", "inverse", "row", "weight"] (spWAdd (He.ga K "Ratio"))) (G_add_term : FnG P w K mg base 39 (He.ga K "add_term") ["matrix", "row", "weight"] (spAddTerm (He.ga K "Ratio"))) (G_Net_add_to_sums : FnG P w K mg base 38 (He.ma K (He.ga K "Net") "_add_to_sums") ["self", "reading", "weight"] (spAddSums (He.ga K "Ratio") (He.ga K "Reading") (He.ga K "Net"))) : FnOk P w K mg base CX0 41 (He.ma K (He.ga K "Net") "_take_in") fd ["self", "reading"] (spTakeIn (He.ga K "Ratio") (He.ga K "Reading") (He.ga K "Net")) := by
  have nd : (N_Net_take_in).Nodup := sc_Net_take_in.nd
  refine F.ok sc_Net_take_in (fun vs H Q E h => ?_) (fun cdv A outer s H vs Q E hr h => ?_)
  · obtain ⟨_, _, _, _, _, _, _, _, _, _, rfl, _⟩ := h
    rfl
  · obtain ⟨a, pl, rl, N, r, y, m, p, q, k0, rfl, hN, hy, ⟨hl, ⟨c1, c2, c3, c4⟩, ⟨ou, om⟩, hw, so⟩, k⟩ := h
    refine ⟨_, PSs.nox (pss_cons (ps_set (i := 2) nd rfl (by first | exact Or.inl rfl | exact Or.inr rfl) (pe_methF (pv 0) (T.cls 8 rfl) (T.meth 41 rfl) G_Net_row (hr.mono (by decide)) (pa_cons (pv 1) pa_nil)))
      (pss_cons (ps_fld (pv 0) (pe_callF G_with_added (hr.mono (by decide)) (T.glo 42 rfl) (pa_cons (pe_fldK (K := K) rfl (pv 0) rfl) (pa_cons (pe_fldK (K := K) rfl (pv 0) rfl) (pa_cons (pv 2) (pa_cons (pe_fldK (K := K) rfl (pv 1) rfl) pa_nil))))) rfl)
      (pss_cons (ps_fld (pv 0) (pe_callF G_add_term (hr.mono (by decide)) (T.glo 43 rfl) (pa_cons (pe_fldK (K := K) rfl (pv 0) rfl) (pa_cons (pv 2) (pa_cons (pe_fldK (K := K) rfl (pv 1) rfl) pa_nil)))) rfl)
      (pss_one (ps_expr (pe_methF (pv 0) (T.cls 8 rfl) (T.meth 44 rfl) G_Net_add_to_sums (hr.mono (by decide)) (pa_cons (pv 1) (pa_cons (pe_fldK (K := K) rfl (pv 1) rfl) pa_nil)))))))), ?_⟩
    have lr := row_len N.ns r.terms
    have s4 := so.2.2.2.1
    have s7 := so.2.2.2.2.2.2.1
    have n12 := so.2.2.1
    refine q_asgT (evp_nrow hN (ev_var rfl) (vP (fun v H H' e h => mono_rd _ v H H' e h) hy _ _ 1 (Ex.refl _) rfl) (by omega) (by decide +kernel) H (Ex.refl _) _ fun v2 H1 e1 m2 => ?_)
    have hN := hN.ex e1
    have hy := mono_rd _ _ _ _ e1 hy
    dsimp only
    show tSeq (sFld _ _ _ _) _ _ [some (.ref a), some y, some v2] H1
    refine n_setP (tcl_Net T) (tno_Net_inverse T) hN (evp_wAdd (evp_nM (tcl_Net T) (tno_Net_normal T) hN (ev_var rfl)) (evp_nP (tcl_Net T) (tno_Net_inverse T) hN (ev_var rfl)) (vP mono_vec m2 _ _ 2 (Ex.refl _) rfl) (evp_rweight (tcl_Reading T) (tno_Reading_weight T) (vP (fun v H H' e h => mono_rd _ v H H' e h) hy _ _ 1 (Ex.refl _) rfl)) ⟨hl.1, hl.2, lr⟩ ⟨c1, c2, c3, c4⟩ ou hw) rfl fun H2 hN2 f2 => ?_
    have mu := hN.mut1
    have hy := keptN_rd _ _ _ _ _ mu f2 hy
    have m2 := keptN_tup keptN_rq _ _ _ _ _ mu f2 m2
    dsimp only
    show tSeq (sFld _ _ _ _) _ _ [some (.ref a), some y, some v2] H2
    refine n_setM (tcl_Net T) (tno_Net_normal T) hN2 (evp_addTerm (n := m + 1) (m := 10) (k := 400) (evp_nM (tcl_Net T) (tno_Net_normal T) hN2 (ev_var rfl)) (vP mono_vec m2 _ _ 2 (Ex.refl _) rfl) (evp_rweight (tcl_Reading T) (tno_Reading_weight T) (vP (fun v H H' e h => mono_rd _ v H H' e h) hy _ _ 1 (Ex.refl _) rfl)) (by rw [lr]; exact hl.1.1) (by rw [lr]; exact hl.1.2) (by omega) (cdb_allM c1) s4 s7 ⟨by omega, by decide, by decide, by omega⟩) rfl fun H3 hN3 f3 => ?_
    have hy := keptN_rd _ _ _ _ _ hN2.mut1 f3 hy
    obtain ⟨dx, fs, g1, g2⟩ := hN3.nom (m := "_add_to_sums") (by decide +kernel)
    dsimp only
    refine ⟨_, rfl, a, dx, fs, rfl, g1, g2, _, rfl, ?_⟩
    refine evp_rweight (tcl_Reading T) (tno_Reading_weight T) (vP (fun v H H' e h => mono_rd _ v H H' e h) hy _ _ 1 (Ex.refl _) rfl) H3 (Ex.refl _) _ fun v5 H4 e4 m5 => ?_
    exact ⟨a, pl, rl, _, r, y, v5, r.weight, rfl, hN3.ex e4, mono_rd _ _ _ _ e4 hy, m5, so, fun H5 hN5 f5 => k _ hN5 ((FrB.of e1).trans (f2.trans (f3.trans ((FrB.of e4).trans f5))))⟩
theorem ok_Net_take_in {w : World} (T : Tx fa fn ex K mg) (G_Net_row : FnG P w K mg base 37 (He.ma K (He.ga K "Net") "row") ["self", "reading"] (spNetRow (He.ga K "Ratio") (He.ga K "Reading") (He.ga K "Net"))) (G_with_added : FnG P w K mg base 40 (He.ga K "with_added") ["matrix", "inverse", "row", "weight"] (spWAdd (He.ga K "Ratio"))) (G_add_term : FnG P w K mg base 39 (He.ga K "add_term") ["matrix", "row", "weight"] (spAddTerm (He.ga K "Ratio"))) (G_Net_add_to_sums : FnG P w K mg base 38 (He.ma K (He.ga K "Net") "_add_to_sums") ["self", "reading", "weight"] (spAddSums (He.ga K "Ratio") (He.ga K "Reading") (He.ga K "Net"))) : FnG P w K mg base 41 (He.ma K (He.ga K "Net") "_take_in") ["self", "reading"] (spTakeIn (He.ga K "Ratio") (He.ga K "Reading") (He.ga K "Net")) := by
  obtain ⟨fd, F⟩ := T.c.def_ 40 (d := d_Net_take_in) rfl
  exact ⟨⟨fd, okF_Net_take_in T F G_Net_row G_with_added G_add_term G_Net_add_to_sums, FunD.bindsN F fun _ _ _ _ _ _ us hl => match us, hl with | [_, _], _ => rfl⟩, F.kp⟩

abbrev N_Net_add : List Str := ["self", "reading"]
theorem sc_Net_add : FnScope N_Net_add ["self", "reading"] (defScope s_Net_add) := ⟨rfl, rfl, rfl, by decide +kernel, rfl, by decide +kernel, by decide +kernel⟩
theorem okF_Net_add {w : World} (T : Tx fa fn ex K mg) {fd : FuncData} (F : FunD K d_Net_add.name d_Net_add.qual d_Net_add.params d_Net_add.body d_Net_add.scope (d_Net_add.dvs K) (d_Net_add.kws K) (He.fAd K d_Net_add.at_) fd) (G_check_new_reading : FnG P w K mg base 1 (He.ga K "check_new_reading") ["readings", "name"] (spChkRd (He.ga K "Ratio") (He.ga K "Reading"))) (G_check_points : FnG P w K mg base 2 (He.ga K "check_points") ["points", "terms"] (spChkPts)) (G_check_room : FnG P w K mg base 1 (He.ga K "check_room") ["readings"] (spChkRoom (He.ga K "Ratio") (He.ga K "Reading"))) (G_Net_take_in : FnG P w K mg base 41 (He.ma K (He.ga K "Net") "_take_in") ["self", "reading"] (spTakeIn (He.ga K "Ratio") (He.ga K "Reading") (He.ga K "Net"))) : FnOk P w K mg base CX0 42 (He.ma K (He.ga K "Net") "add") fd ["self", "reading"] (spNetAdd (He.ga K "Ratio") (He.ga K "Reading") (He.ga K "Net")) := by
  have nd : (N_Net_add).Nodup := sc_Net_add.nd
  refine F.ok sc_Net_add (fun vs H Q E h => ?_) (fun cdv A outer s H vs Q E hr h => ?_)
  · obtain ⟨_, _, _, _, _, _, _, _, _, _, rfl, _⟩ := h
    rfl
  · obtain ⟨a, pl, rl, N, r, y, m, p, q, k0, rfl, hN, hy, ne, ⟨h1, h2, h3⟩, ok, k⟩ := h
    refine ⟨_, PSs.nox (pss_cons (ps_expr (pe_callF G_check_new_reading (hr.mono (by decide)) (T.glo 34 rfl) (pa_cons (pe_fldK (K := K) rfl (pv 0) rfl) (pa_cons (pe_fldK (K := K) rfl (pv 1) rfl) pa_nil))))
      (pss_cons (ps_expr (pe_callF G_check_points (hr.mono (by decide)) (T.glo 35 rfl) (pa_cons (pe_fldK (K := K) rfl (pv 0) rfl) (pa_cons (pe_fldK (K := K) rfl (pv 1) rfl) pa_nil))))
      (pss_cons (ps_expr (pe_callF G_check_room (hr.mono (by decide)) (T.glo 36 rfl) (pa_cons (pe_fldK (K := K) rfl (pv 0) rfl) pa_nil)))
      (pss_cons (ps_expr (pe_bm PySem.F.plainAttrs_list PySem.F.slot_list_append PySem.F.type_list_append mt_append (pe_fldK (K := K) rfl (pv 0) rfl) (pa_cons (pv 1) pa_nil)))
      (pss_one (ps_expr (pe_methF (pv 0) (T.cls 8 rfl) (T.meth 37 rfl) G_Net_take_in (hr.mono (by decide)) (pa_cons (pv 1) pa_nil)))))))), ?_⟩
    show tFld _ _ _ _ _ _
    refine ev_nrds (tcl_Net T) (tno_Net_readings T) hN (ev_var rfl) H (Ex.refl _) _ fun H1 e1 => ?_
    have hN := hN.ex e1
    have hy := mono_rd _ _ _ _ e1 hy
    show tFld _ _ _ _ _ _
    refine ev_rname (tcl_Reading T) (tno_Reading_name T) (vP (fun v H H' e h => mono_rd _ v H H' e h) hy _ _ 1 (Ex.refl _) rfl) H1 (Ex.refl _) _ fun H2 e2 => ?_
    have hN := hN.ex e2
    have hy := mono_rd _ _ _ _ e2 hy
    refine ⟨_, r.name, N.rds, rfl, hN.rdl, h1, by omega, fun H3 e3 => ?_⟩
    have hN := hN.ex e3
    have hy := mono_rd _ _ _ _ e3 hy
    have e3 := (e1.trans e2).trans e3
    dsimp only
    show tFld _ _ _ _ _ _
    refine ev_npts (tcl_Net T) (tno_Net_points T) hN (ev_var rfl) H3 (Ex.refl _) _ fun H4 e4 => ?_
    have hN := hN.ex e4
    have hy := mono_rd _ _ _ _ e4 hy
    show tFld _ _ _ _ _ _
    refine evp_rterms (tcl_Reading T) (tno_Reading_terms T) (vP (fun v H H' e h => mono_rd _ v H H' e h) hy _ _ 1 (Ex.refl _) rfl) H4 (Ex.refl _) _ fun v5 H5 e5 m5 => ?_
    have hN := hN.ex e5
    have hy := mono_rd _ _ _ _ e5 hy
    refine ⟨_, v5, N.ns, r.terms, rfl, hN.pts, m5, h2, fun H6 e6 => ?_⟩
    have hN := hN.ex e6
    have hy := mono_rd _ _ _ _ e6 hy
    have e6 := (e3.trans e4).trans (e5.trans e6)
    dsimp only
    show tFld _ _ _ _ _ _
    refine ev_nrds (tcl_Net T) (tno_Net_readings T) hN (ev_var rfl) H6 (Ex.refl _) _ fun H7 e7 => ?_
    have hN := hN.ex e7
    have hy := mono_rd _ _ _ _ e7 hy
    refine ⟨_, N.rds, rfl, hN.rdl, h3, fun H8 e8 => ?_⟩
    have hN := hN.ex e8
    have hy := mono_rd _ _ _ _ e8 hy
    have e8 := e6.trans (e7.trans e8)
    dsimp only
    show tFld _ _ _ _ _ _
    refine ev_nrds (tcl_Net T) (tno_Net_readings T) hN (ev_var rfl) H8 (Ex.refl _) _ fun H9 e9 => ?_
    have hN := hN.ex e9
    have hy := mono_rd _ _ _ _ e9 hy
    have e9 := e8.trans e9
    obtain ⟨us, g1, g2, hN2⟩ := hN.addRd hy ne
    refine ⟨.inl ⟨rfl, _, SqL.of g1⟩, ?_⟩
    refine ⟨_, rfl, ?_⟩
    refine ⟨rl, us, y, rfl, rfl, g1, (sz_lt (by omega)), ?_⟩
    have f1 : FrB (NB a pl rl) H9 (upd H9 rl (.lst (us ++ [y]))) := FrB.upd (.inr (.inr rfl))
    have hy := keptN_rd _ _ _ _ _ hN.mut f1 hy
    generalize upd H9 rl (.lst (us ++ [y])) = Ha at *
    obtain ⟨dx, fs, j1, j2⟩ := hN2.nom (m := "_take_in") (by decide +kernel)
    dsimp only
    refine ⟨_, rfl, a, dx, fs, rfl, j1, j2, _, rfl, ?_⟩
    exact ⟨a, pl, rl, _, r, y, m, p, q, k0, rfl, hN2, hy, ok, fun Hb hNb fb => k _ hNb ((FrB.of e9).trans (f1.trans (fb.weak fun _ e => .inl e)))⟩
theorem ok_Net_add {w : World} (T : Tx fa fn ex K mg) (G_check_new_reading : FnG P w K mg base 1 (He.ga K "check_new_reading") ["readings", "name"] (spChkRd (He.ga K "Ratio") (He.ga K "Reading"))) (G_check_points : FnG P w K mg base 2 (He.ga K "check_points") ["points", "terms"] (spChkPts)) (G_check_room : FnG P w K mg base 1 (He.ga K "check_room") ["readings"] (spChkRoom (He.ga K "Ratio") (He.ga K "Reading"))) (G_Net_take_in : FnG P w K mg base 41 (He.ma K (He.ga K "Net") "_take_in") ["self", "reading"] (spTakeIn (He.ga K "Ratio") (He.ga K "Reading") (He.ga K "Net"))) : FnG P w K mg base 42 (He.ma K (He.ga K "Net") "add") ["self", "reading"] (spNetAdd (He.ga K "Ratio") (He.ga K "Reading") (He.ga K "Net")) := by
  obtain ⟨fd, F⟩ := T.c.def_ 41 (d := d_Net_add) rfl
  exact ⟨⟨fd, okF_Net_add T F G_check_new_reading G_check_points G_check_room G_Net_take_in, FunD.bindsN F fun _ _ _ _ _ _ us hl => match us, hl with | [_, _], _ => rfl⟩, F.kp⟩

abbrev N__law_net : List Str := ["state", "most", "many", "names", "net", "name", "readings", "k"]
theorem sc__law_net : FnScope N__law_net ["state", "most", "many"] (defScope s__law_net) := ⟨rfl, rfl, rfl, by decide +kernel, rfl, by decide +kernel, by decide +kernel⟩
theorem okF__law_net {w : World} (T : Tx fa fn ex K mg) {fd : FuncData} (F : FunD K d__law_net.name d__law_net.qual d__law_net.params d__law_net.body d__law_net.scope (d__law_net.dvs K) (d__law_net.kws K) (He.fAd K d__law_net.at_) fd) (G__law_names : FnG P w K mg base 2 (He.ga K "_law_names") ["state", "most"] (spNames)) (G_Net_init : FnG P w K mg base 36 (He.ma K (He.ga K "Net") "__init__") ["self"] (spNetInit (He.ga K "Ratio") (He.ga K "Reading") (He.ga K "Net"))) (G_Net_add_point : FnG P w K mg base 38 (He.ma K (He.ga K "Net") "add_point") ["self", "name", "approximation"] (spAddPoint (He.ga K "Ratio") (He.ga K "Reading") (He.ga K "Net"))) (G__law_ratio : FnG P w K mg base 36 (He.ga K "_law_ratio") ["state"] (spRatio4 (He.ga K "Ratio"))) (G__law_draw : FnG P w K mg base 1 (He.ga K "_law_draw") ["state", "many"] (spDraw3)) (G__law_reading : FnG P w K mg base 37 (He.ga K "_law_reading") ["state", "names", "count"] (spReading (He.ga K "Ratio") (He.ga K "Reading"))) (G_Net_add : FnG P w K mg base 42 (He.ma K (He.ga K "Net") "add") ["self", "reading"] (spNetAdd (He.ga K "Ratio") (He.ga K "Reading") (He.ga K "Net"))) : FnOk P w K mg base CX0 43 (He.ga K "_law_net") fd ["state", "most", "many"] (spNet (He.ga K "Ratio") (He.ga K "Reading") (He.ga K "Net")) := by
  have nd : (N__law_net).Nodup := sc__law_net.nd
  refine F.ok sc__law_net (fun vs H Q E h => ?_) (fun cdv A outer s H vs Q E hr h => ?_)
  · obtain ⟨_, _, _, _, rfl, _⟩ := h
    rfl
  · obtain ⟨st, c, most, many, rfl, hs, hc, ⟨m0, m5⟩, ⟨y0, y9⟩, k⟩ := h
    refine ⟨_, PSs.nox (pss_cons (ps_set (i := 3) nd rfl (by first | exact Or.inl rfl | exact Or.inr rfl) (pe_callF G__law_names (hr.mono (by decide)) (T.glo 23 rfl) (pa_cons (pv 0) (pa_cons (pv 1) pa_nil))))
      (pss_cons (ps_set (i := 4) nd rfl (by first | exact Or.inl rfl | exact Or.inr rfl) (pe_makeF0 (T.mkr 4 rfl) G_Net_init (hr.mono (by decide)) (T.glo 5 rfl)))
      (pss_cons (ps_for PassesOwn.never rfl (pi_listK (K := K) rfl (pv 3)) (pg_name (i := 5) nd rfl (by first | exact Or.inl rfl | exact Or.inr rfl))
      (pss_one (ps_expr (pe_methF (pv 4) (T.cls 8 rfl) (T.meth 9 rfl) G_Net_add_point (hr.mono (by decide)) (pa_cons (pv 5) (pa_cons (pe_callF G__law_ratio (hr.mono (by decide)) (T.glo 24 rfl) (pa_cons (pv 0) pa_nil)) pa_nil))))))
      (pss_cons (ps_set (i := 6) nd rfl (by first | exact Or.inl rfl | exact Or.inr rfl) (pe_lst pa_nil))
      (pss_cons (ps_for PassesOwn.never rfl (pi_range1 rfl (T.free 6 rfl) (pa_cons (pe_callF G__law_draw (hr.mono (by decide)) (T.glo 10 rfl) (pa_cons (pv 0) (pa_cons (pv 2) pa_nil))) pa_nil)) (pg_name (i := 7) nd rfl (by first | exact Or.inl rfl | exact Or.inr rfl))
      (pss_cons (ps_expr (pe_bm PySem.F.plainAttrs_list PySem.F.slot_list_append PySem.F.type_list_append mt_append (pv 6) (pa_cons (pe_callF G__law_reading (hr.mono (by decide)) (T.glo 25 rfl) (pa_cons (pv 0) (pa_cons (pv 3) (pa_cons (pv 7) pa_nil)))) pa_nil)))
      (pss_one (ps_expr (pe_methF (pv 4) (T.cls 8 rfl) (T.meth 11 rfl) G_Net_add (hr.mono (by decide)) (pa_cons (pe_ix (ix_listK (K := K) rfl) (pv 6) (pe_un un_neg pe_int) (fun _ _ => rfl)) pa_nil))))))
      (pss_one (ps_ret (pe_lst (pa_cons (pv 4) (pa_cons (pv 3) (pa_cons (pv 6) pa_nil))))))))))), ?_⟩
    have cM : cMax = 1000000000 := rfl
    refine ⟨_, rfl, _, rfl, st, c, most, rfl, hs, (by omega), m0, (by omega), fun n nl H1 n1 n2 hnl0 hnl s1 f1 => ?_⟩
    dsimp only
    show tSeq (tAsg _ _) _ _ [some (.ref st.1), some (.int most), some (.int many), some (.ref nl), none, none, none, none] H1
    refine fun a dx na ndx nex => ?_
    refine ⟨a, dx, rfl, upd_same, fun pl rl H2 hpl hrl hne hN fB => ⟨rfl, ?_⟩⟩
    have e2 : Ex H1 H2 := fun x o h => fB x o (ne_of_none h na) ((upd_ne (ne_of_none h na)).trans ((upd_ne (ne_of_none h ndx)).trans h))
    have up : ∀ {x : Addr}, upd (upd H1 dx (.own a)) a (.ins (He.ga K "Net") dx []) x = none → H1 x = none := fun {x} h => by
      cases hz : H1 x with
      | none => rfl
      | some o => rw [upd_ne (ne_of_none hz na), upd_ne (ne_of_none hz ndx), hz] at h; cases h
    have hpl := up hpl
    have hrl := up hrl
    have w : NAway st a pl rl := ⟨s1.fresh na, s1.fresh2 na, s1.fresh hpl, s1.fresh2 hpl, s1.fresh hrl, s1.fresh2 hrl, hne⟩
    have na0 := fresh_st f1 s1 na
    have pl0 := fresh_st f1 s1 hpl
    have rl0 := fresh_st f1 s1 hrl
    have nlb : ¬ NB a pl rl nl := fun h => h.elim (fun e => ne_of_none hnl na e) fun h => h.elim (fun e => ne_of_none hnl hpl e) fun e => ne_of_none hnl hrl e
    have nls : nl ≠ st.1 := hs.fresh hnl0
    have nb0 : ∀ b, NB a pl rl b → H b = none := fun b h => h.elim (fun e => by rw [e]; exact na0) fun h => h.elim (fun e => by rw [e]; exact pl0) fun e => by rw [e]; exact rl0
    have s2 := s1.ex e2
    have f2 := f1.trans (.of e2)
    have hnl2 := e2 _ _ hnl
    have nlen := namesQ_len n
    dsimp only
    show tSeq (tFor _ _ _) _ _ [some (.ref st.1), some (.int most), some (.int many), some (.ref nl), some (.ref a), none, none, none] H2
    refine ⟨_, rfl, nl, rfl, ⟨_, SqL.of hnl2⟩, for_list (K := K) (a := nl) (xs := (namesQ n).map V.str) (fun i σ H' => ∃ v5 N, σ = [some (.ref st.1), some (.int most), some (.int many), some (.ref nl), some (.ref a), v5, none, none] ∧ NetAt (He.ga K "Ratio") (He.ga K "Reading") (He.ga K "Net") a pl rl N H' ∧ NetOk N ∧ N.rds = [] ∧ N.ns = (namesQ n).take i ∧ XsOk N.xs ∧ St3 st (c + 1 + 6 * i) H' ∧ FrS st H H' ∧ H' nl = some (.lst ((namesQ n).map V.str))) ⟨_, _, rfl, hN, netOk_new, rfl, rfl, (by intro q h; cases h), s2.mono (by omega), f2, hnl2⟩ (fun i σ H' _ ⟨_, _, _, _, _, _, _, _, _, _, h⟩ => SqL.of h) ?_ ?_⟩
    · rintro i y σ H3 hy ⟨v5, N, rfl, hN, ok, e0, en, hx, s3, f3, hnl3⟩
      rw [List.getElem?_map] at hy
      obtain ⟨nm, hnm, rfl⟩ := Option.map_eq_some_iff.mp hy
      have hi : i < n := by have := (List.getElem?_eq_some_iff.mp hnm).1; omega
      have hl : N.ns.length = i := by rw [en, List.length_take]; omega
      obtain ⟨dx', fs', g1, g2⟩ := hN.nom (m := "add_point") (by decide +kernel)
      dsimp only [gName]
      refine ⟨_, rfl, a, dx', fs', rfl, g1, g2, _, rfl, ?_⟩
      refine ⟨_, rfl, st, c + 1 + 6 * i, rfl, s3, (by omega), fun q vq H4 sq dq rq s4 f4 => ?_⟩
      have hN4 := hN.st w s3 f4
      refine ⟨a, pl, rl, N, nm, vq, q, rfl, hN4, rq, hne, (by rw [en]; exact names_new (by omega) hnm), (by omega), ⟨ok.lx, ok.lr, ok.k.1, ok.k.2.1⟩, fun H5 hN5 f5 => ?_⟩
      exact ⟨_, withPoint N nm q, rfl, hN5, netOk_point ok e0 nm q, e0, (by show N.ns ++ [nm] = _; rw [en, List.take_add_one, hnm]; rfl), fun x hx' => (List.mem_append.mp hx').elim (hx x) fun h => by rw [List.mem_singleton.mp h]; exact ⟨sq, dq⟩, (s4.frB f5 w.nb1 w.nb2).mono (by omega), (f3.trans f4).frB f5 nb0, f5 _ _ nlb (f4 _ _ nls hnl3)⟩
    rintro σ H3 ⟨v5, N, rfl, hN, ok, e0, en, hx, s3, f3, hnl3⟩
    rw [List.length_map, nlen] at en s3
    rw [List.take_of_length_le (by omega)] at en
    dsimp only
    show tSeq (tAsg _ _) _ _ [some (.ref st.1), some (.int most), some (.int many), some (.ref nl), some (.ref a), v5, none, none] H3
    refine ⟨(by show 0 ≤ sizeLine; decide), fun ql hql => ?_⟩
    have e4 := Ex.new (o := .lst []) hql
    have hql0 := fresh_st f3 s3 hql
    have qls : ql ≠ st.1 := s3.fresh hql
    have qls2 : ql ≠ st.2 := s3.fresh2 hql
    have nq : nl ≠ ql := ne_of_none hnl3 hql
    have qnb : ¬ NB a pl rl ql := fun h => by
      obtain ⟨o, ho, _⟩ := hN.mut ql h
      rw [hql] at ho
      cases ho
    have hN := hN.ex e4
    have s4 := s3.ex e4
    have f4 := f3.trans (.of e4)
    have hnl4 := e4 _ _ hnl3
    have hq4 : upd H3 ql (.lst []) ql = some (.lst []) := upd_same
    generalize upd H3 ql (.lst []) = H4 at *
    dsimp only
    show tSeq (tFor _ _ _) _ _ [some (.ref st.1), some (.int most), some (.int many), some (.ref nl), some (.ref a), v5, some (.ref ql), none] H4
    refine ⟨_, rfl, _, rfl, st, c + 1 + 6 * n, many, rfl, s4, (by omega), y0, fun dn H5 d0 d1 s5 g5 => ?_⟩
    have hN := hN.st w s4 g5
    have hnl5 := g5 _ _ nls hnl4
    have hq5 := g5 _ _ qls hq4
    have f5 := f4.trans g5
    obtain ⟨m, rfl⟩ : ∃ m : Nat, dn = (m : Int) := ⟨dn.toNat, (Int.toNat_of_nonneg d0).symm⟩
    show tSeq (tFor (iRng1 (tCons (tC (.int (m : Int))) tNil)) _ _) _ _ [some (.ref st.1), some (.int most), some (.int many), some (.ref nl), some (.ref a), v5, some (.ref ql), none] H5
    have hne0 : namesQ n ≠ [] := fun e => by rw [e] at nlen; simp at nlen; omega
    refine q_for1 (ta := tC (.int (m : Int))) ev_c (by omega) (fun i σ H' => ∃ v5 v7 N us, σ = [some (.ref st.1), some (.int most), some (.int many), some (.ref nl), some (.ref a), v5, some (.ref ql), v7] ∧ NetAt (He.ga K "Ratio") (He.ga K "Reading") (He.ga K "Net") a pl rl N H' ∧ NetOk N ∧ (N.ns = namesQ n ∧ XsOk N.xs ∧ (∀ r ∈ N.rds, RdgOk r ∧ TsOk (namesQ n) r.terms ∧ (SmB 20 r.value ∧ r.value.den ∣ dd) ∧ WOk r.weight) ∧ N.rds.length = i ∧ ∀ (j : Nat) r, N.rds[j]? = some r → r.name = rname j) ∧ H' ql = some (.lst us) ∧ AllR (RdAt (He.ga K "Ratio") (He.ga K "Reading")) N.rds us H' ∧ St3 st (c + 100 + 62 * i) H' ∧ FrS st H H' ∧ H' nl = some (.lst ((namesQ n).map V.str))) (fun H6 e6 => ⟨_, _, N, [], rfl, hN.ex e6, ok, ⟨en, hx, (by rw [e0]; intro r h; cases h), (by rw [e0]; rfl), (by rw [e0]; intro j r h; simp at h)⟩, e6 _ _ hq5, (by rw [e0]; exact ⟨rfl, fun i x v h => nomatch h⟩), (s5.ex e6).mono (by omega), f5.trans (.of e6), e6 _ _ hnl5⟩) ?_ ?_
    · rintro i σ H6 hi ⟨v5, v7, N, us, rfl, hN, ok, ⟨en, hx, hr, hl, hnm⟩, hq, A, s6, f6, hnl6⟩
      have dok : DrawnOk N := ⟨hx, fun r h => (hr r h).1, by rw [en, nlen]; omega, by omega⟩
      refine ⟨_, rfl, .inl ⟨rfl, _, SqL.of hq⟩, ?_⟩
      refine ⟨_, rfl, _, rfl, _, rfl, st, c + 100 + 62 * i, _, namesQ n, i, rfl, s6, (by omega), ⟨nl, rfl, hnl6⟩, (by omega), hne0, (by omega), fun r vr H7 mr rn rt rv rw7 s7 f7 => ?_⟩
      have hq7 := f7 _ _ qls hq
      have hN7 := hN.st w s6 f7
      have A7 := A.keptN keptN_rd (st_mut s6) (fun a o n e => f7 a o n e)
      refine ⟨ql, us, vr, rfl, rfl, hq7, (sz_lt (by rw [A.1]; omega)), ?_⟩
      have mu : AllMut (fun b => b = ql) H7 := fun b hb => ⟨_, (by have hb : b = ql := hb; subst hb; exact hq7), .inl ⟨_, rfl⟩⟩
      have f8 : FrB (fun b => b = ql) H7 (upd H7 ql (.lst (us ++ [vr]))) := FrB.upd rfl
      have hN8 := hN7.fr mu f8 (fun e => qnb (.inl e.symm)) (fun e => qnb (.inr (.inl e.symm))) (fun e => qnb (.inr (.inr e.symm)))
      have A8 := (allR_snoc A7 mr).keptN keptN_rd mu f8
      have s8 := s7.upd (o := .lst (us ++ [vr])) qls qls2
      have g8 : FrS st H (upd H7 ql (.lst (us ++ [vr]))) := (f6.trans f7).updN hql0
      have hnl8 := (upd_ne (o := .lst (us ++ [vr])) nq).trans (f7 _ _ nls hnl6)
      have hq8 : upd H7 ql (.lst (us ++ [vr])) ql = some (.lst (us ++ [vr])) := upd_same
      generalize upd H7 ql (.lst (us ++ [vr])) = H8 at *
      obtain ⟨dx', fs', g1, g2⟩ := hN8.nom (m := "add") (by decide +kernel)
      dsimp only
      refine ⟨_, rfl, a, dx', fs', rfl, g1, g2, ?_⟩
      refine evp_ixLast (R := RdAt (He.ga K "Ratio") (He.ga K "Reading")) (xs := N.rds ++ [r]) (x := r) mono_rd (vP (fun v H H' e h => mono_lst mono_rd _ v H H' e h) (⟨ql, _, rfl, hq8, A8⟩ : LstAt (RdAt (He.ga K "Ratio") (He.ga K "Reading")) (N.rds ++ [r]) (.ref ql) H8) _ _ 6 (Ex.refl _) rfl) (ev_is (ev_un ev_c ru_neg) rfl) (by simp) H8 (Ex.refl _) _ fun v H9 e9 m9 => ?_
      have hN9 := hN8.ex e9
      have rok : RdgOk r := ⟨fun t h => rt.1.le h, vok_of rv, wn_of rw7⟩
      refine ⟨a, pl, rl, N, r, v, 60, 21300, 20, 40, rfl, hN9, m9, hne, ⟨fun s hs e => ?_, fun t h => by rw [en]; exact rt.1.mem h, by omega⟩, takeOk_of ok dok rok, fun Ha hNa fa => ?_⟩
      · obtain ⟨j, hj, ej⟩ := List.mem_iff_getElem.mp hs
        have z := hnm j s (by rw [List.getElem?_eq_getElem hj, ej])
        rw [z, rn] at e
        exact rname_ne (by omega) (by omega) (by omega) e
      · exact ⟨_, _, { takeIn N r with rds := N.rds ++ [r] }, us ++ [vr], rfl, hNa, netOk_add ok (fun s hs => (hr s hs).1.2.2.2.1) rw7.2.1, ⟨en, hx, fun s hs => (List.mem_append.mp hs).elim (hr s) fun h => by rw [List.mem_singleton.mp h]; exact ⟨rok, rt, rv, rw7⟩, by show (N.rds ++ [r]).length = i + 1; simp [hl], fun j s hs => by
          by_cases hj : j < N.rds.length
          · exact hnm j s (by rw [← List.getElem?_append_left hj (l₂ := [r])]; exact hs)
          · have hj2 : j < (N.rds ++ [r]).length := (List.getElem?_eq_some_iff.mp hs).1
            have ej : j = N.rds.length := by simp at hj2; omega
            subst ej
            have hs : (N.rds ++ [r])[N.rds.length]? = some s := hs
            simp at hs
            rw [← hs, rn, hl]⟩, fa _ _ qnb (e9 _ _ hq8), (A8.mono mono_rd e9).keptN keptN_rd hN9.mut fa, ((s8.ex e9).frB fa w.nb1 w.nb2).mono (by omega), (g8.trans (.of e9)).frB fa nb0, fa _ _ nlb (e9 _ _ hnl8)⟩
    rintro σ H6 ⟨v5, v7, N, us, rfl, hN, ok, ⟨en, hx, hr, hl, hnm⟩, hq, A, s6, f6, hnl6⟩
    refine ⟨_, rfl, _, rfl, _, rfl, (by show 3 ≤ sizeLine; decide), fun out hout => ?_⟩
    have e7 := Ex.new (o := .lst [.ref a, .ref nl, .ref ql]) hout
    exact k a pl rl nl ql out N _ w ⟨na0, pl0, rl0, hnl0, hql0, fresh_st f6 s6 hout⟩ ⟨fun e => nlb (.inr (.inl e)), fun e => nlb (.inr (.inr e)), nq, fun e => qnb (.inr (.inl e)), fun e => qnb (.inr (.inr e)), fun e => nlb (.inl e), fun e => qnb (.inl e)⟩ upd_same (hN.ex e7) (by rw [en]; exact e7 _ _ hnl6) ⟨ql, us, rfl, e7 _ _ hq, A.mono mono_rd e7⟩ ok ⟨hx, fun r h => (hr r h).1, by rw [en, nlen]; omega, by omega⟩ (fun r h => by rw [en]; exact (hr r h).2.1) (by rw [en]; exact hne0) hnm ⟨by omega, by rw [en, nlen]; omega, by rw [en, nlen], fun r h => (hr r h).2.2⟩ ((s6.ex e7).mono (by omega)) (f6.trans (.of e7))
theorem ok__law_net {w : World} (T : Tx fa fn ex K mg) (G__law_names : FnG P w K mg base 2 (He.ga K "_law_names") ["state", "most"] (spNames)) (G_Net_init : FnG P w K mg base 36 (He.ma K (He.ga K "Net") "__init__") ["self"] (spNetInit (He.ga K "Ratio") (He.ga K "Reading") (He.ga K "Net"))) (G_Net_add_point : FnG P w K mg base 38 (He.ma K (He.ga K "Net") "add_point") ["self", "name", "approximation"] (spAddPoint (He.ga K "Ratio") (He.ga K "Reading") (He.ga K "Net"))) (G__law_ratio : FnG P w K mg base 36 (He.ga K "_law_ratio") ["state"] (spRatio4 (He.ga K "Ratio"))) (G__law_draw : FnG P w K mg base 1 (He.ga K "_law_draw") ["state", "many"] (spDraw3)) (G__law_reading : FnG P w K mg base 37 (He.ga K "_law_reading") ["state", "names", "count"] (spReading (He.ga K "Ratio") (He.ga K "Reading"))) (G_Net_add : FnG P w K mg base 42 (He.ma K (He.ga K "Net") "add") ["self", "reading"] (spNetAdd (He.ga K "Ratio") (He.ga K "Reading") (He.ga K "Net"))) : FnG P w K mg base 43 (He.ga K "_law_net") ["state", "most", "many"] (spNet (He.ga K "Ratio") (He.ga K "Reading") (He.ga K "Net")) := by
  obtain ⟨fd, F⟩ := T.c.def_ 42 (d := d__law_net) rfl
  exact ⟨⟨fd, okF__law_net T F G__law_names G_Net_init G_Net_add_point G__law_ratio G__law_draw G__law_reading G_Net_add, FunD.bindsN F fun _ _ _ _ _ _ us hl => match us, hl with | [_, _, _], _ => rfl⟩, F.kp⟩

abbrev N__law_same : List Str := ["first", "second"]
theorem sc__law_same : FnScope N__law_same ["first", "second"] (defScope s__law_same) := ⟨rfl, rfl, rfl, by decide +kernel, rfl, by decide +kernel, by decide +kernel⟩
theorem okF__law_same {w : World} (T : Tx fa fn ex K mg) {fd : FuncData} (F : FunD K d__law_same.name d__law_same.qual d__law_same.params d__law_same.body d__law_same.scope (d__law_same.dvs K) (d__law_same.kws K) (He.fAd K d__law_same.at_) fd)  : FnOk P w K mg base CX0 1 (He.ga K "_law_same") fd ["first", "second"] (spSame (He.ga K "Ratio")) := by
  have nd : (N__law_same).Nodup := sc__law_same.nd
  refine F.ok sc__law_same (fun vs H Q E h => ?_) (fun cdv A outer s H vs Q E hr h => ?_)
  · obtain ⟨_, _, _, _, rfl, _⟩ := h
    rfl
  · obtain ⟨x, y, p, q, rfl, ⟨a, da, rfl, ha⟩, ⟨b, db, rfl, hb⟩, k⟩ := h
    refine ⟨_, PSs.nox (pss_cons (ps_if (PW.pt (pw_or (pt_not (pt_val (pe_callB (call_isiKK (K := K) rfl) (by rfl) (T.free 65 rfl) (by decide +kernel) (pa_cons (pv 0) (pa_cons (pe_glob (v := .ref (He.ga K "Ratio")) rfl (T.glo 16 rfl) rfl) pa_nil))))) (pw_or1 (pt_not (pt_val (pe_callB (call_isiKK (K := K) rfl) (by rfl) (T.free 65 rfl) (by decide +kernel) (pa_cons (pv 1) (pa_cons (pe_glob (v := .ref (He.ga K "Ratio")) rfl (T.glo 16 rfl) rfl) pa_nil)))))))) (pss_one (ps_ret pe_bl))
      pss_nil)
      (pss_one (ps_ret (pe_and (pe_cmpR op_eq (pe_fldK (K := K) rfl (pv 0) rfl) (pe_fldK (K := K) rfl (pv 1) rfl) (nomark _)) (pe_one (pe_cmpR op_eq (pe_fldK (K := K) rfl (pv 0) rfl) (pe_fldK (K := K) rfl (pv 1) rfl) (nomark _))))))), ?_⟩
    refine q_when (b := false) (et_is (et_or (et_not (et_test (b := true) ?t1)) fun _ => et_not (et_test (b := true) ?t2)) rfl) (fun h => nomatch h) (fun _ H1 e1 => ?_)
    case t1 => exact fun H1 e Q k2 => ⟨_, rfl, _, _, _, _, _, rfl, .own _, (tri T).ty (e _ _ ha), (tri T).me, k2 _ (Ex.refl _)⟩
    case t2 => exact fun H1 e Q k2 => ⟨_, rfl, _, _, _, _, _, rfl, .own _, (tri T).ty (e _ _ hb), (tri T).me, k2 _ (Ex.refl _)⟩
    have ha := e1 _ _ ha
    have hb := e1 _ _ hb
    refine ⟨_, rfl, _, _, _, _, _, rfl, ha, tcl T, ttop T, ratO_top _, _, rfl, _, _, _, _, _, rfl, hb, tcl T, ttop T, ratO_top _, rfl, _, rfl, ?_⟩
    refine ifB (fun hc => ?_) (fun hc => ?_)
    · refine ⟨_, rfl, _, _, _, _, _, rfl, ha, tcl T, tbot T, ratO_bot _, _, rfl, _, _, _, _, _, rfl, hb, tcl T, tbot T, ratO_bot _, rfl, ?_⟩
      rw [eq_dec2 hc]
      exact k H1 e1
    · rw [eq_dec0 hc] at k
      exact k H1 e1
theorem ok__law_same {w : World} (T : Tx fa fn ex K mg)  : FnG P w K mg base 1 (He.ga K "_law_same") ["first", "second"] (spSame (He.ga K "Ratio")) := by
  obtain ⟨fd, F⟩ := T.c.def_ 43 (d := d__law_same) rfl
  exact ⟨⟨fd, okF__law_same T F , FunD.bindsN F fun _ _ _ _ _ _ us hl => match us, hl with | [_, _], _ => rfl⟩, F.kp⟩

abbrev N__law_same_vectors : List Str := ["first", "second", "k"]
theorem sc__law_same_vectors : FnScope N__law_same_vectors ["first", "second"] (defScope s__law_same_vectors) := ⟨rfl, rfl, rfl, by decide +kernel, rfl, by decide +kernel, by decide +kernel⟩
theorem okF__law_same_vectors {w : World} (T : Tx fa fn ex K mg) {fd : FuncData} (F : FunD K d__law_same_vectors.name d__law_same_vectors.qual d__law_same_vectors.params d__law_same_vectors.body d__law_same_vectors.scope (d__law_same_vectors.dvs K) (d__law_same_vectors.kws K) (He.fAd K d__law_same_vectors.at_) fd) (G__law_same : FnG P w K mg base 1 (He.ga K "_law_same") ["first", "second"] (spSame (He.ga K "Ratio"))) : FnOk P w K mg base CX0 2 (He.ga K "_law_same_vectors") fd ["first", "second"] (spSameV (He.ga K "Ratio")) := by
  have nd : (N__law_same_vectors).Nodup := sc__law_same_vectors.nd
  refine F.ok sc__law_same_vectors (fun vs H Q E h => ?_) (fun cdv A outer s H vs Q E hr h => ?_)
  · obtain ⟨_, _, _, _, rfl, _⟩ := h
    rfl
  · obtain ⟨x, y, ps, qs, rfl, hx, hy, hz, k⟩ := h
    refine ⟨_, PSs.nox (pss_cons (ps_if (PW.pt (pw_or (pt_not (pt_val (pe_callB (call_isiKK (K := K) rfl) (by rfl) (T.free 65 rfl) (by decide +kernel) (pa_cons (pv 0) (pa_cons (pe_bltn (v := .ty "tuple") (by rfl) (T.free 31 rfl) (by decide +kernel) rfl) pa_nil))))) (pw_or1 (pt_cmpR op_ne (pe_callB (call_lenK (K := K) rfl) (by rfl) (T.free 7 rfl) (by decide +kernel) (pa_cons (pv 0) pa_nil)) (pe_callB (call_lenK (K := K) rfl) (by rfl) (T.free 7 rfl) (by decide +kernel) (pa_cons (pv 1) pa_nil)) (nomark _))))) (pss_one (ps_ret pe_bl))
      pss_nil)
      (pss_cons (ps_for PassesOwn.never rfl (pi_range1 rfl (T.free 6 rfl) (pa_cons (pe_callB (call_lenK (K := K) rfl) (by rfl) (T.free 7 rfl) (by decide +kernel) (pa_cons (pv 1) pa_nil)) pa_nil)) (pg_name (i := 2) nd rfl (by first | exact Or.inl rfl | exact Or.inr rfl))
      (pss_one (ps_if (pt_not (pt_val (pe_callF G__law_same (hr.mono (by decide)) (T.glo 19 rfl) (pa_cons (pe_ix (ix_tupK (K := K) rfl) (pv 0) (pv 2) (fun _ _ => rfl)) (pa_cons (pe_ix (ix_tupK (K := K) rfl) (pv 1) (pv 2) (fun _ _ => rfl)) pa_nil))))) (pss_one (ps_ret pe_bl))
      pss_nil)))
      (pss_one (ps_ret pe_bl)))), ?_⟩
    have X0 := vP mono_vec hx
    have Y0 := vP mono_vec hy
    obtain ⟨ax, vs1, rfl, g1, A1⟩ := id hx
    obtain ⟨ay, vs2, rfl, g2, A2⟩ := id hy
    refine q_when (b := !decide (ps.length = qs.length)) (et_is (et_or (et_not (et_test (b := true) ?t1)) fun _ => et_test (ev_op (ev_lenT (X0 _ _ 0 (Ex.refl _) rfl)) (ev_lenT (Y0 _ _ 1 (Ex.refl _) rfl)) (rv_ne rfl))) ?t2) (fun h H1 e1 => ?_) (fun h H1 e1 => ?_)
    case t1 => exact fun H1 e Q k2 => ⟨_, rfl, _, _, _, _, true, rfl, .ty _, .base (.tup (e _ _ g1)), kit_ty (by decide +kernel), k2 _ (Ex.refl _)⟩
    case t2 =>
      rw [decV]
      simp [Int.natCast_inj]
    · refine s_ret ev_c fun H2 e2 => ?_
      have z := k H2 (e1.trans e2)
      rw [decide_eq_false (fun e => by rw [e] at h; simp at h)] at z
      exact z
    have hl : ps.length = qs.length := by simpa using h
    refine ⟨_, rfl, ay, vs2, rfl, .inr (SqT.of (e1 _ _ g2)), ?_⟩
    rw [A2.1]
    refine ⟨_, rfl, by omega, by omega, ?_⟩
    refine for_range (lo := 0) (n := ((qs.length : Nat) : Int).toNat) (fun i σ H' => ∃ v2, σ = [some (.ref ax), some (.ref ay), v2] ∧ Ex H H' ∧ ∀ j, j < i → ps.getD j (0 : Rat) = qs.getD j (0 : Rat)) ⟨_, rfl, e1, fun j hj => by omega⟩ ?_ ?_
    · rintro i σ H2 hi ⟨v2, rfl, e2, hj⟩
      rw [Int.toNat_natCast] at hi
      have gp := getD_get (xs := ps) (d := (0 : Rat)) (i := i) (by omega)
      have gq := getD_get (xs := qs) (d := (0 : Rat)) (i := i) (by omega)
      have iv : ∀ H3, Ev (tVar 2) ([some (.ref ax), some (.ref ay), v2].set 2 (some (.int (0 + (i : Int))))) H3 (.int (i : Int)) := fun H3 => ev_is (ev_var rfl) (congrArg V.int (Int.zero_add _))
      refine s_when (b := !decide (ps.getD i (0 : Rat) = qs.getD i (0 : Rat))) (et_not (et_test (ev_same (evp_ixT mono_rq (X0 _ _ 0 e2 rfl) (iv _) gp) (evp_ixT mono_rq (Y0 _ _ 1 e2 rfl) (iv _) gq)))) (fun h3 H3 e3 => ?_) (fun h3 H3 e3 => ?_)
      · refine s_ret ev_c fun H4 e4 => ?_
        have z := k H4 ((e2.trans e3).trans e4)
        rw [decide_eq_false (fun e => by rw [e] at h3; simp at h3)] at z
        exact z
      · refine ⟨_, rfl, e2.trans e3, fun j hj' => ?_⟩
        by_cases e : j = i
        · subst e
          simpa using h3
        · exact hj j (by omega)
    · rintro σ H2 ⟨v2, rfl, e2, hj⟩
      rw [Int.toNat_natCast] at hj
      have z := k H2 e2
      rw [decide_eq_true (getD_ext hl fun i hi => hj i (by omega))] at z
      exact z
theorem ok__law_same_vectors {w : World} (T : Tx fa fn ex K mg) (G__law_same : FnG P w K mg base 1 (He.ga K "_law_same") ["first", "second"] (spSame (He.ga K "Ratio"))) : FnG P w K mg base 2 (He.ga K "_law_same_vectors") ["first", "second"] (spSameV (He.ga K "Ratio")) := by
  obtain ⟨fd, F⟩ := T.c.def_ 44 (d := d__law_same_vectors) rfl
  exact ⟨⟨fd, okF__law_same_vectors T F G__law_same, FunD.bindsN F fun _ _ _ _ _ _ us hl => match us, hl with | [_, _], _ => rfl⟩, F.kp⟩

abbrev N_Net_heights : List Str := ["self"]
theorem sc_Net_heights : FnScope N_Net_heights ["self"] (defScope s_Net_heights) := ⟨rfl, rfl, rfl, by decide +kernel, rfl, by decide +kernel, by decide +kernel⟩
theorem okF_Net_heights {w : World} (T : Tx fa fn ex K mg) {fd : FuncData} (F : FunD K d_Net_heights.name d_Net_heights.qual d_Net_heights.params d_Net_heights.body d_Net_heights.scope (d_Net_heights.dvs K) (d_Net_heights.kws K) (He.fAd K d_Net_heights.at_) fd) (G_plus : FnG P w K mg base 37 (He.ga K "plus") ["a", "b"] (spVec2 (He.ga K "Ratio") fun p q => p + q)) (G_apply : FnG P w K mg base 38 (He.ga K "apply") ["matrix", "vector"] (spApply (He.ga K "Ratio"))) : FnOk P w K mg base CX0 39 (He.ma K (He.ga K "Net") "heights") fd ["self"] (spHeights (He.ga K "Ratio") (He.ga K "Reading") (He.ga K "Net")) := by
  have nd : (N_Net_heights).Nodup := sc_Net_heights.nd
  refine F.ok sc_Net_heights (fun vs H Q E h => ?_) (fun cdv A outer s H vs Q E hr h => ?_)
  · obtain ⟨_, _, _, _, _, _, rfl, _⟩ := h
    rfl
  · obtain ⟨a, pl, rl, N, p, q, rfl, hN, ⟨⟨l1, l2, l3, w3⟩, ⟨cP, vr⟩, ⟨sx, st⟩, n12, pq⟩, k⟩ := h
    refine ⟨_, PSs.nox (pss_one (ps_ret (pe_callF G_plus (hr.mono (by decide)) (T.glo 63 rfl) (pa_cons (pe_fldK (K := K) rfl (pv 0) rfl) (pa_cons (pe_callF G_apply (hr.mono (by decide)) (T.glo 47 rfl) (pa_cons (pe_fldK (K := K) rfl (pv 0) rfl) (pa_cons (pe_fldK (K := K) rfl (pv 0) rfl) pa_nil))) pa_nil))))), ?_⟩
    have vi : VB (p + q + 5) (applyQ N.P N.r) := VB.mv cP vr w3 l2 (by omega)
    refine s_retP (evp_vec2 (f := fun p q => p + q) (evp_nA (tcl_Net T) (tno_Net_approximations T) hN (ev_var rfl)) (evp_apply (n := p + 1) (m := q + 1) (evp_nP (tcl_Net T) (tno_Net_inverse T) hN (ev_var rfl)) (evp_nR (tcl_Net T) (tno_Net_right T) hN (ev_var rfl)) (by rw [l2]; exact w3) (by omega) (cdb_allM cP) vr.sm ⟨by omega, by omega, by rw [l2]; exact Nat.le_trans (Nat.add_le_add_right (Nat.mul_le_mul (show p + 1 + (q + 1) + 1 ≤ 30003 by omega) n12) 1) (by decide)⟩) (by rw [applyQ_len, l3, l1]) (by omega) (fun s hs t ht => ok2_of (sx s hs) (vi.sm t ht) (by decide) (by omega) (by omega))) fun v H1 e1 r1 => k v H1 e1 r1
theorem ok_Net_heights {w : World} (T : Tx fa fn ex K mg) (G_plus : FnG P w K mg base 37 (He.ga K "plus") ["a", "b"] (spVec2 (He.ga K "Ratio") fun p q => p + q)) (G_apply : FnG P w K mg base 38 (He.ga K "apply") ["matrix", "vector"] (spApply (He.ga K "Ratio"))) : FnG P w K mg base 39 (He.ma K (He.ga K "Net") "heights") ["self"] (spHeights (He.ga K "Ratio") (He.ga K "Reading") (He.ga K "Net")) := by
  obtain ⟨fd, F⟩ := T.c.def_ 45 (d := d_Net_heights) rfl
  exact ⟨⟨fd, okF_Net_heights T F G_plus G_apply, FunD.bindsN F fun _ _ _ _ _ _ us hl => match us, hl with | [_], _ => rfl⟩, F.kp⟩

abbrev N_Net_squares : List Str := ["self"]
theorem sc_Net_squares : FnScope N_Net_squares ["self"] (defScope s_Net_squares) := ⟨rfl, rfl, rfl, by decide +kernel, rfl, by decide +kernel, by decide +kernel⟩
theorem okF_Net_squares {w : World} (T : Tx fa fn ex K mg) {fd : FuncData} (F : FunD K d_Net_squares.name d_Net_squares.qual d_Net_squares.params d_Net_squares.body d_Net_squares.scope (d_Net_squares.dvs K) (d_Net_squares.kws K) (He.fAd K d_Net_squares.at_) fd) (G_Ratio_sub : FnG P w K mg base 36 (He.ma K (He.ga K "Ratio") "__sub__") ["self", "other"] (spBin (He.ga K "Ratio") Ok2 fun p q => p - q)) (G_dot : FnG P w K mg base 37 (He.ga K "dot") ["a", "b"] (spDot (He.ga K "Ratio"))) (G_apply : FnG P w K mg base 38 (He.ga K "apply") ["matrix", "vector"] (spApply (He.ga K "Ratio"))) : FnOk P w K mg base CX0 39 (He.ma K (He.ga K "Net") "squares") fd ["self"] (spSquares (He.ga K "Ratio") (He.ga K "Reading") (He.ga K "Net")) := by
  have nd : (N_Net_squares).Nodup := sc_Net_squares.nd
  refine F.ok sc_Net_squares (fun vs H Q E h => ?_) (fun cdv A outer s H vs Q E hr h => ?_)
  · obtain ⟨_, _, _, _, _, _, rfl, _⟩ := h
    rfl
  · obtain ⟨a, pl, rl, N, p, q, rfl, hN, ⟨⟨l1, l2, l3, w3⟩, ⟨cP, vr⟩, ⟨sx, st⟩, n12, pq⟩, k⟩ := h
    refine ⟨_, PSs.nox (pss_one (ps_ret (pe_op (op_ownF (op := .Sub) G_Ratio_sub (hr.mono (by decide)) (tself T) (T.meth 58 rfl)) (pe_fldK (K := K) rfl (pv 0) rfl) (pe_callF G_dot (hr.mono (by decide)) (T.glo 49 rfl) (pa_cons (pe_fldK (K := K) rfl (pv 0) rfl) (pa_cons (pe_callF G_apply (hr.mono (by decide)) (T.glo 47 rfl) (pa_cons (pe_fldK (K := K) rfl (pv 0) rfl) (pa_cons (pe_fldK (K := K) rfl (pv 0) rfl) pa_nil))) pa_nil)))))), ?_⟩
    have vi : VB (p + q + 5) (applyQ N.P N.r) := VB.mv cP vr w3 l2 (by omega)
    have li : (applyQ N.P N.r).length = N.ns.length := by rw [applyQ_len, l3]
    have sd := (VB.dot vr vi l2 li (by omega)).sm
    refine s_retP (fq_bin (f := fun p q => p - q) (evp_nT (tcl_Net T) (tno_Net_total T) hN (ev_var rfl)) (evp_dot (n := q + 1) (m := p + q + 5 + 1) (evp_nR (tcl_Net T) (tno_Net_right T) hN (ev_var rfl)) (evp_apply (n := p + 1) (m := q + 1) (evp_nP (tcl_Net T) (tno_Net_inverse T) hN (ev_var rfl)) (evp_nR (tcl_Net T) (tno_Net_right T) hN (ev_var rfl)) (by rw [l2]; exact w3) (by omega) (cdb_allM cP) vr.sm ⟨by omega, by omega, by rw [l2]; exact Nat.le_trans (Nat.add_le_add_right (Nat.mul_le_mul (show p + 1 + (q + 1) + 1 ≤ 30003 by omega) n12) 1) (by decide)⟩) (by rw [l2, li]) vr.sm vi.sm (by omega) (by omega) (by rw [l2]; exact Nat.le_trans (Nat.add_le_add_right (Nat.mul_le_mul (show q + 1 + (p + q + 5 + 1) + 1 ≤ 60008 by omega) n12) 1) (by decide))) (ok2_of st sd (by decide) (by omega) (by omega))) fun v H1 e1 r1 => k v H1 e1 r1
theorem ok_Net_squares {w : World} (T : Tx fa fn ex K mg) (G_Ratio_sub : FnG P w K mg base 36 (He.ma K (He.ga K "Ratio") "__sub__") ["self", "other"] (spBin (He.ga K "Ratio") Ok2 fun p q => p - q)) (G_dot : FnG P w K mg base 37 (He.ga K "dot") ["a", "b"] (spDot (He.ga K "Ratio"))) (G_apply : FnG P w K mg base 38 (He.ga K "apply") ["matrix", "vector"] (spApply (He.ga K "Ratio"))) : FnG P w K mg base 39 (He.ma K (He.ga K "Net") "squares") ["self"] (spSquares (He.ga K "Ratio") (He.ga K "Reading") (He.ga K "Net")) := by
  obtain ⟨fd, F⟩ := T.c.def_ 46 (d := d_Net_squares) rfl
  exact ⟨⟨fd, okF_Net_squares T F G_Ratio_sub G_dot G_apply, FunD.bindsN F fun _ _ _ _ _ _ us hl => match us, hl with | [_], _ => rfl⟩, F.kp⟩

abbrev N_law : List Str := ["script", "state", "net", "names", "readings", "factor", "left", "other", "twice", "k", "one"]
theorem sc_law : FnScope N_law ["script"] (defScope s_law) := ⟨rfl, rfl, rfl, by decide +kernel, rfl, by decide +kernel, by decide +kernel⟩
theorem okF_law {w : World} (T : Tx fa fn ex K mg) {fd : FuncData} (F : FunD K d_law.name d_law.qual d_law.params d_law.body d_law.scope (d_law.dvs K) (d_law.kws K) (He.fAd K d_law.at_) fd) (G__law_state : FnG P w K mg base 1 (He.ga K "_law_state") ["script"] (spState3 K)) (G__law_net : FnG P w K mg base 43 (He.ga K "_law_net") ["state", "most", "many"] (spNet (He.ga K "Ratio") (He.ga K "Reading") (He.ga K "Net"))) (G__law_weight : FnG P w K mg base 36 (He.ga K "_law_weight") ["state"] (spWeight4 (He.ga K "Ratio"))) (G_Net_init : FnG P w K mg base 36 (He.ma K (He.ga K "Net") "__init__") ["self"] (spNetInit (He.ga K "Ratio") (He.ga K "Reading") (He.ga K "Net"))) (G_Net_add_point : FnG P w K mg base 38 (He.ma K (He.ga K "Net") "add_point") ["self", "name", "approximation"] (spAddPoint (He.ga K "Ratio") (He.ga K "Reading") (He.ga K "Net"))) (G__law_draw : FnG P w K mg base 1 (He.ga K "_law_draw") ["state", "many"] (spDraw3)) (G_Net_add : FnG P w K mg base 42 (He.ma K (He.ga K "Net") "add") ["self", "reading"] (spNetAdd (He.ga K "Ratio") (He.ga K "Reading") (He.ga K "Net"))) (G_Reading_init : FnG P w K mg base 1 (He.ma K (He.ga K "Reading") "__init__") ["self", "name", "terms", "value", "weight"] (spRdInit (He.ga K "Reading"))) (G_Ratio_mul : FnG P w K mg base 36 (He.ma K (He.ga K "Ratio") "__mul__") ["self", "other"] (spBin (He.ga K "Ratio") Ok2 fun p q => p * q)) (G_Ratio_init : FnG P w K mg base 34 (He.ma K (He.ga K "Ratio") "__init__") ["self", "top", "bottom"] (spInit (He.ga K "Ratio"))) (G__law_same_vectors : FnG P w K mg base 2 (He.ga K "_law_same_vectors") ["first", "second"] (spSameV (He.ga K "Ratio"))) (G_Net_heights : FnG P w K mg base 39 (He.ma K (He.ga K "Net") "heights") ["self"] (spHeights (He.ga K "Ratio") (He.ga K "Reading") (He.ga K "Net"))) (G__law_same : FnG P w K mg base 1 (He.ga K "_law_same") ["first", "second"] (spSame (He.ga K "Ratio"))) (G_Net_squares : FnG P w K mg base 39 (He.ma K (He.ga K "Net") "squares") ["self"] (spSquares (He.ga K "Ratio") (He.ga K "Reading") (He.ga K "Net"))) : FnOk P w K mg base CX0 44 (He.ga K "law") fd ["script"] (spLaw K) := by
  have nd : (N_law).Nodup := sc_law.nd
  refine F.ok sc_law (fun vs H Q E h => ?_) (fun cdv A outer s H vs Q E hr h => ?_)
  · obtain ⟨_, _, rfl, _⟩ := h
    rfl
  · obtain ⟨a, ns, rfl, hS, hn, k⟩ := h
    refine ⟨_, PSs.nox (pss_cons (ps_set (i := 1) nd rfl (by first | exact Or.inl rfl | exact Or.inr rfl) (pe_callF G__law_state (hr.mono (by decide)) (T.glo 0 rfl) (pa_cons (pv 0) pa_nil)))
      (pss_cons (ps_asg (pe_callF G__law_net (hr.mono (by decide)) (T.glo 1 rfl) (pa_cons (pv 1) (pa_cons pe_int (pa_cons pe_int pa_nil)))) (pg_lst rfl (pgs_cons (pg_name (i := 2) nd rfl (by first | exact Or.inl rfl | exact Or.inr rfl)) (pgs_cons (pg_name (i := 3) nd rfl (by first | exact Or.inl rfl | exact Or.inr rfl)) (pgs_cons (pg_name (i := 4) nd rfl (by first | exact Or.inl rfl | exact Or.inr rfl)) pgs_nil)))))
      (pss_cons (ps_set (i := 5) nd rfl (by first | exact Or.inl rfl | exact Or.inr rfl) (pe_callF G__law_weight (hr.mono (by decide)) (T.glo 2 rfl) (pa_cons (pv 1) pa_nil)))
      (pss_cons (ps_set (i := 6) nd rfl (by first | exact Or.inl rfl | exact Or.inr rfl) (pe_callTy (call_listK (K := K) rfl) (by rfl) (T.free 3 rfl) (by decide +kernel) (pa_cons (pv 4) pa_nil)))
      (pss_cons (ps_set (i := 7) nd rfl (by first | exact Or.inl rfl | exact Or.inr rfl) (pe_makeF0 (T.mkr 4 rfl) G_Net_init (hr.mono (by decide)) (T.glo 5 rfl)))
      (pss_cons (ps_set (i := 8) nd rfl (by first | exact Or.inl rfl | exact Or.inr rfl) (pe_makeF0 (T.mkr 4 rfl) G_Net_init (hr.mono (by decide)) (T.glo 5 rfl)))
      (pss_cons (ps_for PassesOwn.never rfl (pi_range1 rfl (T.free 6 rfl) (pa_cons (pe_callB (call_lenK (K := K) rfl) (by rfl) (T.free 7 rfl) (by decide +kernel) (pa_cons (pv 3) pa_nil)) pa_nil)) (pg_name (i := 9) nd rfl (by first | exact Or.inl rfl | exact Or.inr rfl))
      (pss_cons (ps_expr (pe_methF (pv 7) (T.cls 8 rfl) (T.meth 9 rfl) G_Net_add_point (hr.mono (by decide)) (pa_cons (pe_ix (ix_listK (K := K) rfl) (pv 3) (pv 9) (fun _ _ => rfl)) (pa_cons (pe_ix (ix_tupK (K := K) rfl) (pe_fldK (K := K) rfl (pv 2) rfl) (pv 9) (fun _ _ => rfl)) pa_nil))))
      (pss_one (ps_expr (pe_methF (pv 8) (T.cls 8 rfl) (T.meth 9 rfl) G_Net_add_point (hr.mono (by decide)) (pa_cons (pe_ix (ix_listK (K := K) rfl) (pv 3) (pv 9) (fun _ _ => rfl)) (pa_cons (pe_ix (ix_tupK (K := K) rfl) (pe_fldK (K := K) rfl (pv 2) rfl) (pv 9) (fun _ _ => rfl)) pa_nil)))))))
      (pss_cons (ps_for PassesOwn.never rfl (pi_range1 rfl (T.free 6 rfl) (pa_cons (pe_callB (call_lenK (K := K) rfl) (by rfl) (T.free 7 rfl) (by decide +kernel) (pa_cons (pv 4) pa_nil)) pa_nil)) (pg_name (i := 9) nd rfl (by first | exact Or.inl rfl | exact Or.inr rfl))
      (pss_cons (ps_set (i := 10) nd rfl (by first | exact Or.inl rfl | exact Or.inr rfl) (pe_bm PySem.F.plainAttrs_list PySem.F.slot_list_pop PySem.F.type_list_pop (show MtR _ "list.pop" rPopAt from mt_popAt) (pv 6) (pa_cons (pe_callF G__law_draw (hr.mono (by decide)) (T.glo 10 rfl) (pa_cons (pv 1) (pa_cons (pe_callB (call_lenK (K := K) rfl) (by rfl) (T.free 7 rfl) (by decide +kernel) (pa_cons (pv 6) pa_nil)) pa_nil))) pa_nil)))
      (pss_cons (ps_expr (pe_methF (pv 7) (T.cls 8 rfl) (T.meth 11 rfl) G_Net_add (hr.mono (by decide)) (pa_cons (pe_makeF (T.mkr 12 rfl) G_Reading_init (hr.mono (by decide)) (T.glo 13 rfl) (pa_cons (pe_fldK (K := K) rfl (pv 10) rfl) (pa_cons (pe_fldK (K := K) rfl (pv 10) rfl) (pa_cons (pe_fldK (K := K) rfl (pv 10) rfl) (pa_cons (pe_op (op_ownF (op := .Mult) G_Ratio_mul (hr.mono (by decide)) (tself T) (T.meth 14 rfl)) (pe_fldK (K := K) rfl (pv 10) rfl) (pv 5)) pa_nil))))) pa_nil)))
      (pss_cons (ps_expr (pe_methF (pv 8) (T.cls 8 rfl) (T.meth 11 rfl) G_Net_add (hr.mono (by decide)) (pa_cons (pe_makeF (T.mkr 12 rfl) G_Reading_init (hr.mono (by decide)) (T.glo 13 rfl) (pa_cons (pe_op op_add_str (pe_fldK (K := K) rfl (pv 10) rfl) pe_str) (pa_cons (pe_fldK (K := K) rfl (pv 10) rfl) (pa_cons (pe_fldK (K := K) rfl (pv 10) rfl) (pa_cons (pe_op (op_ownF (op := .Mult) G_Ratio_mul (hr.mono (by decide)) (tself T) (T.meth 14 rfl)) (pe_fldK (K := K) rfl (pv 10) rfl) (pe_makeF (T.mkr 15 rfl) G_Ratio_init (hr.mono (by decide)) (T.glo 16 rfl) (pa_cons pe_int (pa_cons pe_int pa_nil)))) pa_nil))))) pa_nil)))
      (pss_one (ps_expr (pe_methF (pv 8) (T.cls 8 rfl) (T.meth 11 rfl) G_Net_add (hr.mono (by decide)) (pa_cons (pe_makeF (T.mkr 12 rfl) G_Reading_init (hr.mono (by decide)) (T.glo 13 rfl) (pa_cons (pe_op op_add_str (pe_fldK (K := K) rfl (pv 10) rfl) pe_str) (pa_cons (pe_fldK (K := K) rfl (pv 10) rfl) (pa_cons (pe_fldK (K := K) rfl (pv 10) rfl) (pa_cons (pe_op (op_ownF (op := .Mult) G_Ratio_mul (hr.mono (by decide)) (tself T) (T.meth 14 rfl)) (pe_fldK (K := K) rfl (pv 10) rfl) (pe_makeF (T.mkr 15 rfl) G_Ratio_init (hr.mono (by decide)) (T.glo 16 rfl) (pa_cons pe_int (pa_cons pe_int pa_nil)))) pa_nil))))) pa_nil))))))))
      (pss_cons (ps_if (PW.pt (pw_or (pt_not (pt_val (pe_callF G__law_same_vectors (hr.mono (by decide)) (T.glo 17 rfl) (pa_cons (pe_methF0 (pv 7) (T.cls 8 rfl) (T.meth 18 rfl) G_Net_heights (hr.mono (by decide))) (pa_cons (pe_methF0 (pv 2) (T.cls 8 rfl) (T.meth 18 rfl) G_Net_heights (hr.mono (by decide))) pa_nil))))) (pw_or1 (pt_not (pt_val (pe_callF G__law_same_vectors (hr.mono (by decide)) (T.glo 17 rfl) (pa_cons (pe_methF0 (pv 8) (T.cls 8 rfl) (T.meth 18 rfl) G_Net_heights (hr.mono (by decide))) (pa_cons (pe_methF0 (pv 2) (T.cls 8 rfl) (T.meth 18 rfl) G_Net_heights (hr.mono (by decide))) pa_nil)))))))) (pss_one (ps_ret pe_bl))
      pss_nil)
      (pss_one (ps_ret (pe_and (pe_callF G__law_same (hr.mono (by decide)) (T.glo 19 rfl) (pa_cons (pe_methF0 (pv 7) (T.cls 8 rfl) (T.meth 20 rfl) G_Net_squares (hr.mono (by decide))) (pa_cons (pe_op (op_ownF (op := .Mult) G_Ratio_mul (hr.mono (by decide)) (tself T) (T.meth 14 rfl)) (pe_methF0 (pv 2) (T.cls 8 rfl) (T.meth 20 rfl) G_Net_squares (hr.mono (by decide))) (pv 5)) pa_nil))) (pe_one (pe_callF G__law_same (hr.mono (by decide)) (T.glo 19 rfl) (pa_cons (pe_methF0 (pv 8) (T.cls 8 rfl) (T.meth 20 rfl) G_Net_squares (hr.mono (by decide))) (pa_cons (pe_methF0 (pv 2) (T.cls 8 rfl) (T.meth 20 rfl) G_Net_squares (hr.mono (by decide))) pa_nil)))))))))))))))), ?_⟩
    have cM : cMax = 1000000000 := rfl
    refine ⟨_, rfl, a, ns, rfl, hS, hn, fun st H1 e1 s0 => ?_⟩
    refine ⟨_, rfl, st, 0, 4, 7, rfl, s0, (by decide), (by decide), (by decide), fun na pl rl nl ql out N H2 aw fsh dis hout hN hnl hql ok dok tok hne hnm hlt s2 f2 => ?_⟩
    refine ⟨out, _, rfl, SqL.of hout, rfl, _, _, rfl, _, _, rfl, _, _, rfl, rfl, ?_⟩
    have W := wd_net s0 s2 f2 aw fsh dis hN hnl hql
    obtain ⟨hl9, hl5, enm, hrd⟩ := hlt
    
    dsimp only [gName]
    refine ⟨_, rfl, st, 0 + 5000, rfl, W.get 0 rfl, (by decide), fun f vf H3 wf rf s3 f3 => ?_⟩
    have W := (W.step 0 rfl (fr_bs f3) rs_st s3).imm (rs_kept keptN_rq f vf) rf
    dsimp only [gName]
    show tSeq (tAsg _ _) _ _ [some (.ref a), some (.ref st.1), some (.ref na), some (.ref nl), some (.ref ql), some vf, none, none, none, none, none] H3
    refine q_listL W (ip := 3) rfl keptN_rd mono_rd rfl fun lf H4 e4 W => ?_
    show tSeq (tAsg _ _) _ _ [some (.ref a), some (.ref st.1), some (.ref na), some (.ref nl), some (.ref ql), some vf, some (.ref lf), none, none, none, none] H4
    refine q_newNet W fun oa opl orl H5 one e5 W => ?_
    show tSeq (tAsg _ _) _ _ [some (.ref a), some (.ref st.1), some (.ref na), some (.ref nl), some (.ref ql), some vf, some (.ref lf), some (.ref oa), none, none, none] H5
    refine q_newNet W fun ta tpl trl H6 tne e6 W => ?_
    have mk3 := W
    show tSeq (tFor _ _ _) _ _ [some (.ref a), some (.ref st.1), some (.ref na), some (.ref nl), some (.ref ql), some vf, some (.ref lf), some (.ref oa), some (.ref ta), none, none] H6
    have n12 := dok.2.2.1
    refine q_for1 (n := N.ns.length) (ev_lenL (vP (mono_ls' mono_rs _) (W.get 2 rfl : LsAt RS N.ns nl H6).lst _ _ 3 (Ex.refl _) rfl)) (by omega) (fun i σ H' => ∃ v9 Ot Tw, σ = [some (.ref a), some (.ref st.1), some (.ref na), some (.ref nl), some (.ref ql), some vf, some (.ref lf), some (.ref oa), some (.ref ta), v9, none] ∧ Wd [ThSt st (0 + 5000 + 2), ThNet (He.ga K "Ratio") (He.ga K "Reading") (He.ga K "Net") na pl rl N, ThLs RS N.ns nl, ThLs (RdAt (He.ga K "Ratio") (He.ga K "Reading")) N.rds ql, (No, RQ (He.ga K "Ratio") f vf), ThLs (RdAt (He.ga K "Ratio") (He.ga K "Reading")) N.rds lf, ThNet (He.ga K "Ratio") (He.ga K "Reading") (He.ga K "Net") oa opl orl Ot, ThNet (He.ga K "Ratio") (He.ga K "Reading") (He.ga K "Net") ta tpl trl Tw] H' ∧ (NetOk Ot ∧ Ot.rds = [] ∧ Ot.ns = N.ns.take i ∧ Ot.xs = N.xs.take i) ∧ (NetOk Tw ∧ Tw.rds = [] ∧ Tw.ns = N.ns.take i ∧ Tw.xs = N.xs.take i)) (fun H7 e7 => ⟨_, NetNew, NetNew, rfl, W.ex e7, ⟨netOk_new, rfl, rfl, rfl⟩, ⟨netOk_new, rfl, rfl, rfl⟩⟩) ?_ ?_
    · rintro i σ H7 hi ⟨v9, Ot, Tw, rfl, W, ⟨ok1, e1r, e1n, e1x⟩, ⟨ok2, e2r, e2n, e2x⟩⟩
      obtain ⟨nm, gn⟩ : ∃ n, N.ns[i]? = some n := ⟨_, List.getElem?_eq_getElem hi⟩
      obtain ⟨x, gx⟩ : ∃ x, N.xs[i]? = some x := ⟨_, List.getElem?_eq_getElem (by rw [ok.lx]; exact hi)⟩
      have nin : nm ∉ N.ns.take i := by rw [enm] at gn ⊢; exact names_new (by omega) gn
      have tk1 : N.ns.take i ++ [nm] = N.ns.take (i + 1) := by rw [List.take_add_one, gn]; rfl
      have tk2 : N.xs.take i ++ [x] = N.xs.take (i + 1) := by rw [List.take_add_one, gx]; rfl
      dsimp only [gName]
      refine s_addPt (i := 6) W rfl (ev_var rfl) (ev_of (evp_ixL mono_rs (vP (mono_ls' mono_rs _) (W.get 2 rfl : LsAt RS N.ns nl H7).lst _ _ 3 (Ex.refl _) rfl) (ev_var rfl) gn)) (evp_ixT mono_rq (evp_nA (tcl_Net T) (tno_Net_approximations T) (W.get 1 rfl) (ev_var rfl)) (ev_var rfl) gx) ok1 one (by rw [e1n]; exact nin) (by rw [e1n, List.length_take]; omega) fun H8 W => ?_
      dsimp only
      refine s_addPt (i := 7) W rfl (ev_var rfl) (ev_of (evp_ixL mono_rs (vP (mono_ls' mono_rs _) (W.get 2 rfl : LsAt RS N.ns nl H8).lst _ _ 3 (Ex.refl _) rfl) (ev_var rfl) gn)) (evp_ixT mono_rq (evp_nA (tcl_Net T) (tno_Net_approximations T) (W.get 1 rfl) (ev_var rfl)) (ev_var rfl) gx) ok2 tne (by rw [e2n]; exact nin) (by rw [e2n, List.length_take]; omega) fun H9 W => ?_
      exact ⟨_, withPoint Ot nm x, withPoint Tw nm x, rfl, W, ⟨netOk_point ok1 e1r _ _, e1r, by show Ot.ns ++ [nm] = _; rw [e1n, tk1], by show Ot.xs ++ [x] = _; rw [e1x, tk2]⟩, ⟨netOk_point ok2 e2r _ _, e2r, by show Tw.ns ++ [nm] = _; rw [e2n, tk1], by show Tw.xs ++ [x] = _; rw [e2x, tk2]⟩⟩
    rintro σ H7 ⟨v9, Ot, Tw, rfl, W, ⟨ok1, e1r, e1n, e1x⟩, ⟨ok2, e2r, e2n, e2x⟩⟩
    rw [List.take_of_length_le (Nat.le_refl _)] at e1n e2n
    rw [List.take_of_length_le (by rw [ok.lx]; omega)] at e1x e2x
    have nd := rds_nodup hnm (by omega)
    have rdn : ∀ r ∈ N.rds, ∃ i, i < 24 ∧ r.name = rname i := fun r hr => by
      obtain ⟨i, hi, e⟩ := rd_name hnm hr
      exact ⟨i, by omega, e⟩
    have rok : ∀ r ∈ N.rds, RdgOk r := dok.2.1
    show tSeq (tFor _ _ _) _ _ [some (.ref a), some (.ref st.1), some (.ref na), some (.ref nl), some (.ref ql), some vf, some (.ref lf), some (.ref oa), some (.ref ta), v9, none] H7
    refine q_for1 (n := N.rds.length) (ev_lenL (vP (mono_ls' mono_rd _) (W.get 3 rfl : LsAt (RdAt (He.ga K "Ratio") (He.ga K "Reading")) N.rds ql H7).lst _ _ 4 (Ex.refl _) rfl)) (by omega) (fun i σ H' => ∃ v9 v10 Ot Tw dn lv, σ = [some (.ref a), some (.ref st.1), some (.ref na), some (.ref nl), some (.ref ql), some vf, some (.ref lf), some (.ref oa), some (.ref ta), v9, v10] ∧ Wd [ThSt st (0 + 5000 + 2 + i), ThNet (He.ga K "Ratio") (He.ga K "Reading") (He.ga K "Net") na pl rl N, ThLs RS N.ns nl, ThLs (RdAt (He.ga K "Ratio") (He.ga K "Reading")) N.rds ql, (No, RQ (He.ga K "Ratio") f vf), ThLs (RdAt (He.ga K "Ratio") (He.ga K "Reading")) lv lf, ThNet (He.ga K "Ratio") (He.ga K "Reading") (He.ga K "Net") oa opl orl Ot, ThNet (He.ga K "Ratio") (He.ga K "Reading") (He.ga K "Net") ta tpl trl Tw] H' ∧ ((dn ++ lv).Perm N.rds ∧ dn.length = i) ∧ (NetOk Ot ∧ Ot.rds = dn.map (sclR f) ∧ Ot.ns = N.ns ∧ Ot.xs = N.xs) ∧ (NetOk Tw ∧ Tw.rds = dn.flatMap twoR ∧ Tw.ns = N.ns ∧ Tw.xs = N.xs)) (fun H8 e8 => ⟨_, _, Ot, Tw, [], N.rds, rfl, W.ex e8, ⟨List.Perm.refl _, rfl⟩, ⟨ok1, e1r, e1n, e1x⟩, ⟨ok2, e2r, e2n, e2x⟩⟩) ?_ ?_
    · rintro i σ H8 hi ⟨v9, v10, Ot, Tw, dn, lv, rfl, W, ⟨hp, hdn⟩, ⟨ok1, e1r, e1n, e1x⟩, ⟨ok2, e2r, e2n, e2x⟩⟩
      have lp := hp.length_eq
      rw [List.length_append] at lp
      have mem1 : ∀ r ∈ dn, r ∈ N.rds := fun r hr => hp.subset (List.mem_append_left _ hr)
      have d1 : DrawnOk Ot := ⟨by rw [e1x]; exact dok.1, fun r hr => by
        rw [e1r] at hr
        obtain ⟨s, hs, rfl⟩ := List.mem_map.mp hr
        exact ⟨(rok s (mem1 s hs)).1, (rok s (mem1 s hs)).2.1, wn_mul (hrd s (mem1 s hs)).2 wf⟩, by rw [e1n]; exact dok.2.2.1, by rw [e1r, List.length_map]; omega⟩
      have okT : ∀ r ∈ N.rds, ∀ nm, RdgOk (partR half nm r) := fun r hr nm => ⟨(rok r hr).1, (rok r hr).2.1, wn_mul (hrd r hr).2 wok_half⟩
      have d2 : DrawnOk Tw := ⟨by rw [e2x]; exact dok.1, fun r hr => by
        rw [e2r] at hr
        obtain ⟨s, hs, h⟩ := List.mem_flatMap.mp hr
        rcases List.mem_cons.mp h with rfl | h
        · exact okT s (mem1 s hs) _
        · rw [List.mem_singleton.mp h]; exact okT s (mem1 s hs) _, by rw [e2n]; exact dok.2.2.1, by rw [e2r, two_len]; omega⟩
      dsimp only [gName]
      refine q_popDraw (is := 0) (ip := 5) W rfl rfl (by decide) keptN_rd mono_rd rfl rfl (by omega) (by omega) (by omega) fun n r vr H9 gr mr W => ?_
      have hr : r ∈ N.rds := hp.subset (List.mem_append_right _ (List.mem_of_getElem? gr))
      have W := W.imm (rs_kept keptN_rd r vr) mr
      have nmr : ∀ s ∈ dn, s.name ≠ r.name := fun s hs => by
        have z := (hp.map fun r => r.name).nodup_iff.mpr nd
        rw [List.map_append, List.nodup_append] at z
        exact z.2.2 _ (List.mem_map_of_mem hs) _ (List.mem_map_of_mem (List.mem_of_getElem? gr))
      obtain ⟨jr, hjr, ejr⟩ := rdn r hr
      have nlen := rname_len jr hjr
      have sL : 100 ≤ sizeLine := by decide
      have nm2 : ∀ s ∈ dn, s.name ++ ("a" : Str) ≠ r.name ++ ("a" : Str) ∧ s.name ++ ("b" : Str) ≠ r.name ++ ("b" : Str) ∧ s.name ++ ("b" : Str) ≠ r.name ++ ("a" : Str) ∧ s.name ++ ("a" : Str) ≠ r.name ++ ("b" : Str) := fun s hs => by
        obtain ⟨js, hjs, ejs⟩ := rdn s (mem1 s hs)
        have nj : js ≠ jr := fun e => nmr s hs (by rw [ejs, ejr, e])
        rw [ejs, ejr]
        exact ⟨(rna_ne hjs hjr nj).1, (rna_ne hjs hjr nj).2, fun e => rab jr hjr js hjs e.symm, rab js hjs jr hjr⟩
      have tm : ∀ t ∈ r.terms, t.1 ∈ N.ns := fun t ht => (tok r hr).1.mem ht
      have wr := hrd r hr
      have RV : ∀ {H'}, RdAt (He.ga K "Ratio") (He.ga K "Reading") r vr H' → EvP (tVar 10) [some (.ref a), some (.ref st.1), some (.ref na), some (.ref nl), some (.ref ql), some vf, some (.ref lf), some (.ref oa), some (.ref ta), some (.int (i : Int)), some vr] H' (RdAt (He.ga K "Ratio") (He.ga K "Reading") r) := fun h => vP (mono_rd' r) h _ _ 10 (Ex.refl _) rfl
      have ok2w : ∀ {q : Rat}, WOk q → Ok2 r.weight q := fun h => ok2_of wr.2.1 h.1 (by decide) (by decide) (by decide)
      refine s_addRd (i := 6) (m := 60) (p := 21300) (q := 20) (k0 := 40) W rfl (ev_var rfl) (evp_newRd (ev_rname (tcl_Reading T) (tno_Reading_name T) (RV mr)) (evp_rterms (tcl_Reading T) (tno_Reading_terms T) (RV mr)) (evp_rvalue (tcl_Reading T) (tno_Reading_value T) (RV mr)) (fq_bin (f := fun p q => p * q) (evp_rweight (tcl_Reading T) (tno_Reading_weight T) (RV mr)) (vP mono_rat (W.get 4 rfl : RQ (He.ga K "Ratio") f vf H9) _ _ 5 (Ex.refl _) rfl) (ok2w wf))) one ⟨fun s hs => ?_, by rw [e1n]; exact tm, by rw [e1r, List.length_map]; omega⟩ (takeOk_of ok1 d1 ⟨(rok r hr).1, (rok r hr).2.1, wn_mul wr.2 wf⟩) fun Ha W => ?_
      · rw [e1r] at hs
        obtain ⟨u, hu, rfl⟩ := List.mem_map.mp hs
        exact nmr u hu
      have mr := (W.get 8 rfl : RdAt (He.ga K "Ratio") (He.ga K "Reading") r vr Ha)
      have okA := netOk_add (r := sclR f r) ok1 (fun s hs => (d1.2.1 s hs).2.2.2.1) (wn_mul wr.2 wf).2.1
      dsimp only
      refine s_addRd (i := 7) (m := 60) (p := 21300) (q := 20) (k0 := 40) W rfl (ev_var rfl) (evp_newRd (ev_addS (ev_rname (tcl_Reading T) (tno_Reading_name T) (RV mr)) ev_c (by rw [ejr]; exact Nat.le_trans nlen sL)) (evp_rterms (tcl_Reading T) (tno_Reading_terms T) (RV mr)) (evp_rvalue (tcl_Reading T) (tno_Reading_value T) (RV mr)) (fq_bin (f := fun p q => p * q) (evp_rweight (tcl_Reading T) (tno_Reading_weight T) (RV mr)) (fq_mk (t := 1) (b := 2) ev_c ev_c (by decide) (Nat.lt_of_lt_of_le (show _ < 2 ^ 10 by decide) (Nat.pow_le_pow_right (by decide) (by decide)))) (ok2w wok_half))) tne ⟨fun s hs => ?_, by rw [e2n]; exact tm, by rw [e2r, two_len]; omega⟩ (takeOk_of ok2 d2 (okT r hr nmA)) fun Hb W => ?_
      · rw [e2r] at hs
        obtain ⟨u, hu, h⟩ := List.mem_flatMap.mp hs
        rcases List.mem_cons.mp h with rfl | h
        · exact (nm2 u hu).1
        · rw [List.mem_singleton.mp h]; exact (nm2 u hu).2.2.1
      have mr := (W.get 8 rfl : RdAt (He.ga K "Ratio") (He.ga K "Reading") r vr Hb)
      have okB := netOk_add (r := partR half nmA r) ok2 (fun s hs => (d2.2.1 s hs).2.2.2.1) (okT r hr nmA).2.2.2.1
      have d3 : DrawnOk { takeIn Tw (partR half nmA r) with rds := Tw.rds ++ [partR half nmA r] } := ⟨d2.1, fun s hs => (List.mem_append.mp hs).elim (d2.2.1 s) fun h => by rw [List.mem_singleton.mp h]; exact okT r hr nmA, d2.2.2.1, by show (Tw.rds ++ [_]).length ≤ 24; rw [List.length_append, e2r, two_len, List.length_singleton]; omega⟩
      dsimp only
      refine s_addRd (i := 7) (m := 60) (p := 21300) (q := 20) (k0 := 40) W rfl (ev_var rfl) (evp_newRd (ev_addS (ev_rname (tcl_Reading T) (tno_Reading_name T) (RV mr)) ev_c (by rw [ejr]; exact Nat.le_trans nlen sL)) (evp_rterms (tcl_Reading T) (tno_Reading_terms T) (RV mr)) (evp_rvalue (tcl_Reading T) (tno_Reading_value T) (RV mr)) (fq_bin (f := fun p q => p * q) (evp_rweight (tcl_Reading T) (tno_Reading_weight T) (RV mr)) (fq_mk (t := 1) (b := 2) ev_c ev_c (by decide) (Nat.lt_of_lt_of_le (show _ < 2 ^ 10 by decide) (Nat.pow_le_pow_right (by decide) (by decide)))) (ok2w wok_half))) tne ⟨fun s hs => ?_, by show ∀ t ∈ r.terms, t.1 ∈ Tw.ns; rw [e2n]; exact tm, by show (Tw.rds ++ [_]).length < 24; rw [List.length_append, e2r, two_len, List.length_singleton]; omega⟩ (takeOk_of okB d3 (okT r hr nmB)) fun Hc W => ?_
      · rcases List.mem_append.mp (show s ∈ Tw.rds ++ [partR half nmA r] from hs) with hs | hs
        · rw [e2r] at hs
          obtain ⟨u, hu, h⟩ := List.mem_flatMap.mp hs
          rcases List.mem_cons.mp h with rfl | h
          · exact (nm2 u hu).2.2.2
          · rw [List.mem_singleton.mp h]; exact (nm2 u hu).2.1
        · rw [List.mem_singleton.mp hs]
          show r.name ++ ("a" : Str) ≠ r.name ++ ("b" : Str)
          rw [ejr]
          exact rab jr hjr jr hjr
      have okC := netOk_add (r := partR half nmB r) okB (fun s hs => (d3.2.1 s hs).2.2.2.1) (okT r hr nmB).2.2.2.1
      exact ⟨_, _, _, _, dn ++ [r], lv.eraseIdx n, rfl, W.drop 8, ⟨(List.append_assoc dn [r] _ ▸ (List.Perm.append_left dn (erase_perm gr).symm)).trans hp, by simp [hdn]⟩, ⟨okA, by show Ot.rds ++ [sclR f r] = _; rw [e1r, List.map_append]; rfl, e1n, e1x⟩, ⟨okC, by show (Tw.rds ++ [partR half nmA r]) ++ [partR half nmB r] = _; rw [e2r, List.flatMap_append, List.append_assoc]; rfl, e2n, e2x⟩⟩
    rintro σ H8 ⟨v9, v10, Ot, Tw, dn, lv, rfl, W, ⟨hp, hdn⟩, ⟨ok1, e1r, e1n, e1x⟩, ⟨ok2, e2r, e2n, e2x⟩⟩
    have l0 : lv = [] := by
      have lp := hp.length_eq
      rw [List.length_append] at lp
      exact List.length_eq_zero_iff.mp (by omega)
    subst l0
    rw [List.append_nil] at hp
    have mem1 : ∀ r ∈ dn, r ∈ N.rds := fun r hr => hp.subset hr
    have okT : ∀ r ∈ N.rds, ∀ nm, RdgOk (partR half nm r) := fun r hr nm => ⟨(rok r hr).1, (rok r hr).2.1, wn_mul (hrd r hr).2 wok_half⟩
    have d1 : DrawnOk Ot := ⟨by rw [e1x]; exact dok.1, fun r hr => by
        rw [e1r] at hr
        obtain ⟨s, hs, rfl⟩ := List.mem_map.mp hr
        exact ⟨(rok s (mem1 s hs)).1, (rok s (mem1 s hs)).2.1, wn_mul (hrd s (mem1 s hs)).2 wf⟩, by rw [e1n]; exact dok.2.2.1, by rw [e1r, List.length_map]; omega⟩
    have d2 : DrawnOk Tw := ⟨by rw [e2x]; exact dok.1, fun r hr => by
        rw [e2r] at hr
        obtain ⟨s, hs, h⟩ := List.mem_flatMap.mp hr
        rcases List.mem_cons.mp h with rfl | h
        · exact okT s (mem1 s hs) _
        · rw [List.mem_singleton.mp h]; exact okT s (mem1 s hs) _, by rw [e2n]; exact dok.2.2.1, by rw [e2r, two_len]; omega⟩
    have f0 : f ≠ 0 := fun e => by have z := wf.2.1; rw [e] at z; exact absurd z (by decide)
    obtain ⟨h1, q1⟩ := heights_scaled (f := f) ok ok1 e1n.symm e1x.symm f0 (by rw [e1r]; exact hp.map _)
    obtain ⟨h2, q2⟩ := heights_twice (q := half) (na := nmA) (nb := nmB) ok ok2 e2n.symm e2x.symm half_two (by rw [e2r]; exact hp.flatMap_right _)
    have lh : (heightsQ N).length ≤ 10000 := by
      unfold heightsQ
      rw [List.length_zipWith, ok.lx]
      exact Nat.le_trans (Nat.min_le_left _ _) (by omega)
    have kN := htOk_of ok dok
    have k1 := htOk_of ok1 d1
    have k2 := htOk_of ok2 d2
    refine q_when (b := false) (et_is (et_or (et_not (et_B (ev_sameV (evp_heights (W.get 6 rfl) (ev_var rfl) k1) (evp_heights (W.get 1 rfl) (ev_var rfl) kN) lh))) fun _ => et_not (et_B (ev_sameV (evp_heights (W.get 7 rfl) (ev_var rfl) k2) (evp_heights (W.get 1 rfl) (ev_var rfl) kN) lh))) (by rw [h1, h2]; simp)) (fun h => nomatch h) (fun _ H9 e9 => ?_)
    have W := W.ex e9
    refine s_ret (v := .bl true) (ev_is (ev_andV (ev_same (evp_squares (W.get 6 rfl) (ev_var rfl) k1) (fq_bin (f := fun p q => p * q) (evp_squares (W.get 1 rfl) (ev_var rfl) kN) (vP mono_rat (W.get 4 rfl : RQ (He.ga K "Ratio") f vf H9) _ _ 5 (Ex.refl _) rfl) (ok2_of (squares_sm kN) wf.1 (by decide) (by decide) (by decide)))) fun _ => ev_same (evp_squares (W.get 7 rfl) (ev_var rfl) k2) (evp_squares (W.get 1 rfl) (ev_var rfl) kN)) (by rw [q1, q2]; simp)) fun H10 _ => k H10

end
abbrev R : PySem.W.OpenRow := PySem.W.OpenLaw.row PySem.Challenge.rw_plumbnet_k81_whole_any_order
abbrev hk : PySem.W.Hook := hookY 4 fa fn ex []
def ob (s : PySem.W.SharedT) : He.AlX × List InW := obsY 4 fa fn ex [] (HandSHeadRun.getT s)
theorem ob_eq (s : PySem.W.SharedT) : ob s = hk.obs s.abs := obsY_eq (HandSHeadRun.getT_eq s)
theorem run (w : World) : HandSHeadRun.RunEqI R (PySem.W.view R.prog [0, 55]) hk ob 20000 ((["_wall", "__name__", "SurveyError", "BadNumber", "ZeroDivisor", "UnknownPoint", "DuplicateName", "LimitReached", "MOST_DIGITS", "Ratio", "is_short", "MOST_POINTS", "MOST_READINGS", "Reading", "row_among", "check_new_point", "check_new_reading", "check_room", "check_point", "check_points"] : List Str) ++ (["dot", "scale", "plus", "minus", "zero", "is_zero", "apply", "outer", "sum_of", "scaled", "add_term", "with_added", "divided", "without_both", "Net", "widened", "_law_state", "_law_draw", "_law_whole", "_law_ratio"] : List Str) ++ (["_law_same", "_law_same_vectors", "_law_terms", "_law_weight", "_law_reading", "_law_names", "_law_net"] : List Str)) w := by
  unfold HandSHeadRun.RunEqI
  kernel_rfl
theorem facts {P : Program} {w : World} {K : PySem.W.Frag} {h h0 : Heap} {mg : Str → Option Value} {f : Addr} (X : K.In h) (G : h.Ns mainGlobals mg) (hfa : mg ("law" : Str) = some (.ref f)) (c : He.SaysX fa fn [] [] ex w h0 K) (hT : P.given.tree = none) :
    ∃ fd : FuncData, (∀ (s : Shared) (v : Value), BindsTo s fd ⟨[v], []⟩ [("script", v)]) ∧ ∀ base : Heap, K.In base → base.Ns mainGlobals mg → FnOk P w K mg base CX0 44 f fd ["script"] (spLaw K) := by
  have T : Tx fa fn ex K mg := ⟨c.t.d, c.more, h, X, G⟩
  obtain ⟨fd, F⟩ := T.c.def_ 47 (d := d_law) rfl
  have e := hfa.symm.trans (T.glo 66 rfl)
  cases e
  refine ⟨fd, fun s v => FunD.bindsA (ps := ["script"]) F (fun _ _ _ _ _ _ us hl => match us, hl with | [_], _ => rfl) s [v] rfl, fun base _ _ => ?_⟩
  · 
    have g__law_state : FnG P w K mg base 1 (He.ga K "_law_state") ["script"] (spState3 K) := ok__law_state T 
    have g__law_draw : FnG P w K mg base 1 (He.ga K "_law_draw") ["state", "many"] (spDraw3) := ok__law_draw T 
    have g__law_names : FnG P w K mg base 2 (He.ga K "_law_names") ["state", "most"] (spNames) := ok__law_names T g__law_draw
    have g_Ratio_init : FnG P w K mg base 34 (He.ma K (He.ga K "Ratio") "__init__") ["self", "top", "bottom"] (spInit (He.ga K "Ratio")) := ok_Ratio_init T hT 
    have g_Ratio_init1 : FnD1 P w K mg base 34 (He.ma K (He.ga K "Ratio") "__init__") ["self", "top", "bottom"] [.int 1] (spInit (He.ga K "Ratio"))   := ok_Ratio_init1 T hT
    have g_Net_init : FnG P w K mg base 36 (He.ma K (He.ga K "Net") "__init__") ["self"] (spNetInit (He.ga K "Ratio") (He.ga K "Reading") (He.ga K "Net")) := ok_Net_init T g_Ratio_init1
    have g_check_new_point : FnG P w K mg base 1 (He.ga K "check_new_point") ["points", "name"] (spChkNew) := ok_check_new_point T 
    have g_zero : FnG P w K mg base 36 (He.ga K "zero") ["width"] (spZero (He.ga K "Ratio")) := ok_zero T g_Ratio_init1
    have g_widened : FnG P w K mg base 37 (He.ga K "widened") ["matrix"] (spWid (He.ga K "Ratio")) := ok_widened T g_Ratio_init1 g_zero
    have g_Net_add_point : FnG P w K mg base 38 (He.ma K (He.ga K "Net") "add_point") ["self", "name", "approximation"] (spAddPoint (He.ga K "Ratio") (He.ga K "Reading") (He.ga K "Net")) := ok_Net_add_point T g_check_new_point g_widened g_Ratio_init1
    have g__law_whole : FnG P w K mg base 2 (He.ga K "_law_whole") ["state"] (spWhole3) := ok__law_whole T g__law_draw
    have g__law_ratio : FnG P w K mg base 36 (He.ga K "_law_ratio") ["state"] (spRatio4 (He.ga K "Ratio")) := ok__law_ratio T g__law_whole g__law_draw g_Ratio_init1 g_Ratio_init
    have g_Reading_init : FnG P w K mg base 1 (He.ma K (He.ga K "Reading") "__init__") ["self", "name", "terms", "value", "weight"] (spRdInit (He.ga K "Reading")) := ok_Reading_init T 
    have g__law_weight : FnG P w K mg base 36 (He.ga K "_law_weight") ["state"] (spWeight4 (He.ga K "Ratio")) := ok__law_weight T g_Ratio_init g__law_draw g_Ratio_init1
    have g__law_terms : FnG P w K mg base 2 (He.ga K "_law_terms") ["state", "names"] (spTerms) := ok__law_terms T g__law_draw
    have g__law_reading : FnG P w K mg base 37 (He.ga K "_law_reading") ["state", "names", "count"] (spReading (He.ga K "Ratio") (He.ga K "Reading")) := ok__law_reading T g_Reading_init g__law_weight g__law_ratio g__law_terms
    have g_check_new_reading : FnG P w K mg base 1 (He.ga K "check_new_reading") ["readings", "name"] (spChkRd (He.ga K "Ratio") (He.ga K "Reading")) := ok_check_new_reading T 
    have g_check_point : FnG P w K mg base 1 (He.ga K "check_point") ["points", "name"] (spChkPt) := ok_check_point T 
    have g_check_points : FnG P w K mg base 2 (He.ga K "check_points") ["points", "terms"] (spChkPts) := ok_check_points T g_check_point
    have g_check_room : FnG P w K mg base 1 (He.ga K "check_room") ["readings"] (spChkRoom (He.ga K "Ratio") (He.ga K "Reading")) := ok_check_room T 
    have g_row_among : FnG P w K mg base 36 (He.ga K "row_among") ["points", "terms"] (spRowAmong (He.ga K "Ratio")) := ok_row_among T g_Ratio_init1
    have g_Net_row : FnG P w K mg base 37 (He.ma K (He.ga K "Net") "row") ["self", "reading"] (spNetRow (He.ga K "Ratio") (He.ga K "Reading") (He.ga K "Net")) := ok_Net_row T g_row_among
    have g_Ratio_add : FnG P w K mg base 36 (He.ma K (He.ga K "Ratio") "__add__") ["self", "other"] (spBin (He.ga K "Ratio") Ok2 fun p q => p + q) := ok_Ratio_add T g_Ratio_init
    have g_Ratio_mul : FnG P w K mg base 36 (He.ma K (He.ga K "Ratio") "__mul__") ["self", "other"] (spBin (He.ga K "Ratio") Ok2 fun p q => p * q) := ok_Ratio_mul T g_Ratio_init
    have g_dot : FnG P w K mg base 37 (He.ga K "dot") ["a", "b"] (spDot (He.ga K "Ratio")) := ok_dot T g_Ratio_init1 g_Ratio_add g_Ratio_mul
    have g_apply : FnG P w K mg base 38 (He.ga K "apply") ["matrix", "vector"] (spApply (He.ga K "Ratio")) := ok_apply T g_dot
    have g_Ratio_sub : FnG P w K mg base 36 (He.ma K (He.ga K "Ratio") "__sub__") ["self", "other"] (spBin (He.ga K "Ratio") Ok2 fun p q => p - q) := ok_Ratio_sub T g_Ratio_init
    have g_minus : FnG P w K mg base 37 (He.ga K "minus") ["a", "b"] (spVec2 (He.ga K "Ratio") fun p q => p - q) := ok_minus T g_Ratio_sub
    have g_is_zero : FnG P w K mg base 1 (He.ga K "is_zero") ["a"] (spIsZero (He.ga K "Ratio")) := ok_is_zero T 
    have g_plus : FnG P w K mg base 37 (He.ga K "plus") ["a", "b"] (spVec2 (He.ga K "Ratio") fun p q => p + q) := ok_plus T g_Ratio_add
    have g_sum_of : FnG P w K mg base 38 (He.ga K "sum_of") ["first", "second"] (spSumOf (He.ga K "Ratio")) := ok_sum_of T g_plus
    have g_scale : FnG P w K mg base 37 (He.ga K "scale") ["factor", "a"] (spScale (He.ga K "Ratio")) := ok_scale T g_Ratio_mul
    have g_scaled : FnG P w K mg base 38 (He.ga K "scaled") ["factor", "matrix"] (spScaled (He.ga K "Ratio")) := ok_scaled T g_scale
    have g_outer : FnG P w K mg base 38 (He.ga K "outer") ["a", "b"] (spOuter (He.ga K "Ratio")) := ok_outer T g_scale
    have g_add_term : FnG P w K mg base 39 (He.ga K "add_term") ["matrix", "row", "weight"] (spAddTerm (He.ga K "Ratio")) := ok_add_term T g_sum_of g_scaled g_outer
    have g_Ratio_neg : FnG P w K mg base 36 (He.ma K (He.ga K "Ratio") "__neg__") ["self"] (spUn (He.ga K "Ratio") Ok1 fun p => -p) := ok_Ratio_neg T g_Ratio_init
    have g_Ratio_over : FnG P w K mg base 36 (He.ma K (He.ga K "Ratio") "over") ["self", "other"] (spBin (He.ga K "Ratio") OkDiv fun p q => p / q) := ok_Ratio_over T g_Ratio_init
    have g_divided : FnG P w K mg base 38 (He.ga K "divided") ["a", "number"] (spDivided (He.ga K "Ratio")) := ok_divided T g_scale g_Ratio_init1 g_Ratio_over
    have g_without_both : FnG P w K mg base 39 (He.ga K "without_both") ["matrix", "a", "b"] (spWithout (He.ga K "Ratio")) := ok_without_both T g_sum_of g_outer g_scaled g_Ratio_init1
    have g_with_added : FnG P w K mg base 40 (He.ga K "with_added") ["matrix", "inverse", "row", "weight"] (spWAdd (He.ga K "Ratio")) := ok_with_added T g_apply g_minus g_dot g_is_zero g_add_term g_Ratio_neg g_Ratio_over g_Ratio_add g_Ratio_init1 g_Ratio_mul g_divided g_without_both
    have g_Net_add_to_sums : FnG P w K mg base 38 (He.ma K (He.ga K "Net") "_add_to_sums") ["self", "reading", "weight"] (spAddSums (He.ga K "Ratio") (He.ga K "Reading") (He.ga K "Net")) := ok_Net_add_to_sums T g_Net_row g_Ratio_sub g_dot g_plus g_scale g_Ratio_mul g_Ratio_add
    have g_Net_take_in : FnG P w K mg base 41 (He.ma K (He.ga K "Net") "_take_in") ["self", "reading"] (spTakeIn (He.ga K "Ratio") (He.ga K "Reading") (He.ga K "Net")) := ok_Net_take_in T g_Net_row g_with_added g_add_term g_Net_add_to_sums
    have g_Net_add : FnG P w K mg base 42 (He.ma K (He.ga K "Net") "add") ["self", "reading"] (spNetAdd (He.ga K "Ratio") (He.ga K "Reading") (He.ga K "Net")) := ok_Net_add T g_check_new_reading g_check_points g_check_room g_Net_take_in
    have g__law_net : FnG P w K mg base 43 (He.ga K "_law_net") ["state", "most", "many"] (spNet (He.ga K "Ratio") (He.ga K "Reading") (He.ga K "Net")) := ok__law_net T g__law_names g_Net_init g_Net_add_point g__law_ratio g__law_draw g__law_reading g_Net_add
    have g__law_same : FnG P w K mg base 1 (He.ga K "_law_same") ["first", "second"] (spSame (He.ga K "Ratio")) := ok__law_same T 
    have g__law_same_vectors : FnG P w K mg base 2 (He.ga K "_law_same_vectors") ["first", "second"] (spSameV (He.ga K "Ratio")) := ok__law_same_vectors T g__law_same
    have g_Net_heights : FnG P w K mg base 39 (He.ma K (He.ga K "Net") "heights") ["self"] (spHeights (He.ga K "Ratio") (He.ga K "Reading") (He.ga K "Net")) := ok_Net_heights T g_plus g_apply
    have g_Net_squares : FnG P w K mg base 39 (He.ma K (He.ga K "Net") "squares") ["self"] (spSquares (He.ga K "Ratio") (He.ga K "Reading") (He.ga K "Net")) := ok_Net_squares T g_Ratio_sub g_dot g_apply
    exact okF_law T F g__law_state g__law_net g__law_weight g_Net_init g_Net_add_point g__law_draw g_Net_add g_Reading_init g_Ratio_mul g_Ratio_init g__law_same_vectors g_Net_heights g__law_same g_Net_squares
end Row
open PySem PySem.W PySem.Calls PyProof.Rows
theorem PySem.Challenge.cw_plumbnet_k81_whole_any_order_holds : PySem.Challenge.rw_plumbnet_k81_whole_any_order.Holds := by
  w_on; o_law
  refine HandSHeadRun.head_imp (r := OpenLaw.row PySem.Challenge.rw_plumbnet_k81_whole_any_order) (q := view (OpenLaw.row PySem.Challenge.rw_plumbnet_k81_whole_any_order).prog [0, 55]) (H := Row.hk) (ob := Row.ob) (M := 20000) (loose := (["_wall", "__name__", "SurveyError", "BadNumber", "ZeroDivisor", "UnknownPoint", "DuplicateName", "LimitReached", "MOST_DIGITS", "Ratio", "is_short", "MOST_POINTS", "MOST_READINGS", "Reading", "row_among", "check_new_point", "check_new_reading", "check_room", "check_point", "check_points"] : List Str) ++ (["dot", "scale", "plus", "minus", "zero", "is_zero", "apply", "outer", "sum_of", "scaled", "add_term", "with_added", "divided", "without_both", "Net", "widened", "_law_state", "_law_draw", "_law_whole", "_law_ratio"] : List Str) ++ (["_law_same", "_law_same_vectors", "_law_terms", "_law_weight", "_law_reading", "_law_names", "_law_net"] : List Str)) (d := HandSHeadRun.topDef (OpenLaw.row PySem.Challenge.rw_plumbnet_k81_whole_any_order).prog 55) (kwd := []) Row.ob_eq
    Row.run (by kernel_rfl) (by kernel_rfl) (by kernel_rfl) (by rfl) (by first | assumption | decide +kernel) (by decide +kernel) ⟨rfl, rfl, rfl, rfl, rfl, by decide +kernel⟩ ?hw ?hc
  case hw => w_witness2
  case hc =>
    refine L2.walk_ofE (l := PySem.Challenge.rw_plumbnet_k81_whole_any_order) (n := 63) (k := 44) (x := "script") (CX := L2.CX0) rfl (by decide) (by kernel_rfl) ⟨rfl, by decide, by decide⟩ ?F (fun _ _ _ _ z => z)
    intro w mg fa h Y G hmg0
    obtain ⟨K, KX, c, _⟩ := Y
    have hmg : mg ("law" : PySem.Str) = some (.ref fa) := by
      have e : (HandSHeadRun.topDef (OpenLaw.row PySem.Challenge.rw_plumbnet_k81_whole_any_order).prog 55).name = ("law" : PySem.Str) := by kernel_rfl
      rw [← e]
      exact hmg0
    obtain ⟨fd, hb, hF⟩ := Row.facts (P := (PySem.Challenge.rw_plumbnet_k81_whole_any_order).prog) (w := w) KX G hmg c rfl
    exact ⟨K, fd, Pn.spLaw K, KX, hb, fun H a ns hl _ hS => ⟨a, ns, rfl, hS, hl, fun _ => rfl⟩, hF⟩
#print axioms PySem.Challenge.cw_plumbnet_k81_whole_any_order_holds
