import PyProof.Rows.All
import Wide.All
import OpenK.AllK
import Wide.FinOn
import HandS.ForMost
import HandS.ForExc
import HandS.Gcd
import HandS.Wide
import HandS.WideBits
import HandS.OwnEq
import HandS.IsInst
import HandS.Evl
import HandS.Defaults
import KE.KOpsOwn
import HandS.HeadHook1
import HandS.HeadHook2
import HandS.HeadHook3
import HandS.HeadHook4
import HandS.Walk
import HandS.Zip
import HandS.Style
import HandS.ReplaceDef
import HandS.ReplaceLit
import HandS.ReplaceList
import HandS.Text
import HandS.StrMore
import HandS.Steps
import HandS.Iter
import KE.KExcSuper
import HandS.Exc
import HandS.ExcOwn
import HandS.ExcInit
import HandS.TryOnly
import HandS.WordsExc
import HandS.ExcIs
import HandS.ClsMeth
import HandS.FStr
import HandS.ExcField
import KE.KFmtOwn
import HandS.StrSplit
import HandS.Head0
import HandS.Head1
import HandS.Head2
import HandS.Head3
import HandS.HeadEnd
import PySem.Challenge.RW_plumbnet_k04_written_forms_of_fractions
set_option Elab.async false
set_option linter.all false
set_option maxRecDepth 100000
set_option maxHeartbeats 0
set_option exponentiation.threshold 10000
namespace Pn
open PySem L2 Evl

/-- an own operator on two instances of the class at C -/
def rOwn (C : Addr) (sp : Sp) (E : XK) : R2 := fun x y H Q => ∃ a b dx dy fs gs, x = .ref a ∧ y = .ref b ∧ H a = some (.ins C dx fs) ∧ H b = some (.ins C dy gs) ∧ sp [x, y] H Q E
/-- an own operator on one instance -/
def rOwn1 (C : Addr) (sp : Sp) (E : XK) : V → Hp → VK → Prop := fun x H Q => ∃ a dx fs, x = .ref a ∧ H a = some (.ins C dx fs) ∧ sp [x] H Q E
theorem not_ni {x : V} {v : Value} (r : RelV x v) : v ≠ .notImplemented := by
  intro e
  subst e
  cases x with
  | non => exact nomatch (show Value.notImplemented = Value.none from r)
  | bl b => exact nomatch (show Value.notImplemented = Value.bool b from r)
  | int i => obtain ⟨t, q⟩ := r; cases q
  | str i => obtain ⟨t, q⟩ := r; cases q
  | byt i => obtain ⟨t, q⟩ := r; cases q
  | flt i => obtain ⟨t, q⟩ := r; cases q
  | ref a => exact nomatch (show Value.notImplemented = Value.ref a from r)
  | ty n => exact nomatch (show Value.notImplemented = Value.type n from r)
theorem cmpBack_of {Q : Value → Shared → Prop} {v : Value} {s : Shared} (h : Q v s) (n : v ≠ .notImplemented) : PySem.W.CmpBack Q v s := by
  cases v <;> first | exact h | exact absurd rfl n
section
variable {X : Cx} {CX : CXT} {k : Nat} {f C : Addr} {fd : FuncData} {ps : List Str} {sp : Sp} {E : XK}
theorem op_own {op : Operator} (F : FnOk X.prog X.w X.K X.mg X.base CX k f fd ps sp) (hr : Room k X.A) (hc : PySem.W.selfFirst X.K C = true) (hs : PySem.W.findIn X.K (.ref C) (PySem.dunder op.info.2) = some (some (.ref f)))
    (hf : PySem.W.isFn X.K (.ref f) = true) (hb : Binds X.K fd ps []) (hx : Passes CX X E) : OpR X (binaryOp op) (rOwn C sp E) := by
  intro pins s σ H x y v u Q I rx ry h
  obtain ⟨a, b, dx, dy, fs, gs, rfl, rfl, ha, hb', q⟩ := h
  cases rx
  cases ry
  obtain ⟨mA, J, _⟩ := ins_get I.hok ha
  obtain ⟨mB, J', _⟩ := ins_get I.hok hb'
  obtain ⟨od, J, _⟩ := J.look
  obtain ⟨od', J', _⟩ := J'.look
  obtain ⟨m, hF⟩ := I.fr
  refine PySem.W.binop_K hF I.ok.mod.kin J J'.type hc hs hf ?_
  exact thn (run_fn (us := [.ref a, .ref b]) (vs := [.ref a, .ref b]) F hr hb .nil hx I (.cons rfl (.cons rfl .nil)) q) fun v s' z => by
    obtain ⟨y, H', I', r, q'⟩ := z
    exact cmpBack_of ⟨y, H', I', r, q'⟩ (not_ni r)
theorem op_ownCmp {op : CmpOp} (F : FnOk X.prog X.w X.K X.mg X.base CX k f fd ps sp) (hr : Room k X.A) (hs : PySem.W.findIn X.K (.ref C) (cmpInfo op).2.1 = some (some (.ref f)))
    (hf : PySem.W.isFn X.K (.ref f) = true) (hb : Binds X.K fd ps []) (hx : Passes CX X E) : OpR X (richCompare op) (rOwn C sp E) := by
  intro pins s σ H x y v u Q I rx ry h
  obtain ⟨a, b, dx, dy, fs, gs, rfl, rfl, ha, hb', q⟩ := h
  cases rx
  cases ry
  obtain ⟨mA, J, _⟩ := ins_get I.hok ha
  obtain ⟨mB, J', _⟩ := ins_get I.hok hb'
  obtain ⟨od, J, _⟩ := J.look
  obtain ⟨od', J', _⟩ := J'.look
  obtain ⟨m, hF⟩ := I.fr
  refine PySem.W.cmp_K (op := op) (tb := .ref C) hr.units0 hF I.ok.mod.kin J J'.type (by simp [PySem.W.notFirst]) hs hf ?_
  exact thn (run_fn (us := [.ref a, .ref b]) (vs := [.ref a, .ref b]) F hr hb .nil hx I (.cons rfl (.cons rfl .nil)) q) fun v s' z => by
    obtain ⟨y, H', I', r, q'⟩ := z
    exact cmpBack_of ⟨y, H', I', r, q'⟩ (not_ni r)
theorem un_ownNeg (F : FnOk X.prog X.w X.K X.mg X.base CX k f fd ps sp) (hr : Room k X.A) (hs : PySem.W.findIn X.K (.ref C) "__neg__" = some (some (.ref f)))
    (hf : PySem.W.isFn X.K (.ref f) = true) (hb : Binds X.K fd ps []) (hx : Passes CX X E) : UnR X (unaryOp .USub) (rOwn1 C sp E) := by
  intro pins s σ H x v Q I rx h
  obtain ⟨a, dx, fs, rfl, ha, q⟩ := h
  cases rx
  obtain ⟨mA, J, _⟩ := ins_get I.hok ha
  obtain ⟨od, J, _⟩ := J.look
  obtain ⟨m, hF⟩ := I.fr
  refine PySem.W.ksp_neg hF I.ok.mod.kin J hs hf ?_
  exact run_fn (us := [.ref a]) (vs := [.ref a]) F hr hb .nil hx I (.cons rfl .nil) q
/-- // by any divisor but 0, below 2 ^ 9000 -/
def CDivX (_ j : Int) : Prop := j ≠ 0 ∧ j.natAbs.log2 < 9000
theorem op_fdivX : OpR X (binaryOp .FloorDiv) (rI CDivX fun i j => .int (i.fdiv j)) := opI fun i j _ _ _ _ _ hc q =>
  PyProof.Rows.floordiv_int hc.1 q (.inl (PyProof.noPylong_of_log2 hc.2))
end
end Pn

namespace Pn
open PySem L2 Evl
section
variable {X : Cx} {CX : CXT} {k : Nat} {f C : Addr} {fd : FuncData} {ps : List Str} {sp : Sp} {E : XK}
/-- the callee runs somewhere below the running body -/
theorem run_fnA {A : Around} {pins : List (Addr × Obj)} {σ : St} {H : Hp} {s : Shared} {Q : VK} {us : List Value} {vs : List V} (F : FnOk X.prog X.w X.K X.mg X.base CX k f fd ps sp) (hr : Room k A) (hA : A.frames = X.A.frames) (hb : Binds X.K fd ps [])
    (hx : Passes CX X E) (I : Inv X pins σ H s) (r : Vals vs us) (h : sp vs H Q E) : wpAny (model X.prog X.w) A (call (.ref f) us) (EP X pins σ Q) X.xe s := by
  have e0 : Env0 X.prog X.w X.K X.mg X.base A X.stack s H := by
    have e := I.env0
    exact ⟨by rw [hA]; exact e.frames, e.mod, e.bs, e.bsz, e.funs, e.frf, e.hok, e.bare⟩
  have hl := F.len _ _ _ _ h
  have hb2 := hb s us I.kIn (by rw [List.append_nil, ← r.length]; exact hl)
  rw [List.append_nil] at hb2
  refine wpAny_call (codeAny_mono (F.run A X.stack s H ⟨us, []⟩ us vs Q E hr e0 hb2 r h) fun r' s' hq => ?_)
  cases r' with
  | error e => exact hx pins σ H s e s' I hq
  | ok fl =>
    cases fl with
    | ret u => exact I.after hq
    | next => exact False.elim hq
    | brk => exact False.elim hq
    | cont => exact False.elim hq
/-- abs of an instance with its own __abs__ -/
theorem cr_absOwn (F : FnOk X.prog X.w X.K X.mg X.base CX k f fd ps sp) (hr : Room (k + 1) X.A) (hs : PySem.W.findIn X.K (.ref C) "__abs__" = some (some (.ref f)))
    (hf : PySem.W.isFn X.K (.ref f) = true) (hb : Binds X.K fd ps []) (hx : Passes CX X E) : CallR X (.builtin "abs") (fun vs H Q => ∃ x, vs = [x] ∧ rOwn1 C sp E x H Q) := by
  intro pins s σ H xs us Q I rx h
  obtain ⟨x, rfl, a, dx, fs, rfl, ha, q⟩ := h
  cases rx with
  | cons r1 r2 =>
  cases r2
  cases r1
  obtain ⟨mA, J, _⟩ := ins_get I.hok ha
  obtain ⟨od, J, _⟩ := J.look
  refine PySem.Calls.call_function_entry PyProof.Rows.kind_abs PyProof.Rows.plain_abs PyProof.Rows.entry_abs (PyProof.Rows.args_abs _) ?_
  unfold Builtin.«abs»
  refine wpAny_bind (m := oneArg "abs" _) (wpAny_pure ?_)
  refine wpAny_bind (m := callSpecial? (.ref a) (Str.ofString "__abs__")) (PySem.W.special_fn I.kIn J hs (beq_iff_eq.mp hf) ?_)
  refine thn (run_fnA (A := X.A.in1) (us := [.ref a]) (vs := [.ref a]) F hr.in1 rfl hb hx I (.cons rfl .nil) q) fun v s' z => ?_
  exact wpAny_pure ⟨_, rfl, z⟩
end
end Pn

namespace Pn
open PySem L2 Evl
/-- a def that keeps a promise, ready to be called with all its parameters -/
structure FnG (P : Program) (w : World) (K : PySem.W.Frag) (mg : Str → Option Value) (base : Heap) (k : Nat) (f : Addr) (ps : List Str) (sp : Sp) : Prop where
  ex : ∃ fd, FnOk P w K mg base CX0 k f fd ps sp ∧ Binds K fd ps []
  kp : PySem.W.keepIn K (.ref f) = true
/-- the same with one default left out -/
structure FnD1 (P : Program) (w : World) (K : PySem.W.Frag) (mg : Str → Option Value) (base : Heap) (k : Nat) (f : Addr) (ps : List Str) (dvs : List V) (sp : Sp) : Prop where
  ex : ∃ fd ds, FnOk P w K mg base CX0 k f fd ps sp ∧ Vals dvs ds ∧ Binds K fd ps ds
  kp : PySem.W.keepIn K (.ref f) = true
section
variable {X : Cx} {k : Nat} {f C : Addr} {ps : List Str} {sp : Sp} {x m : Str} {p pos apos : Pos} {e o : Expr} {es : List Expr} {ta : TE} {t : TA} {dvs : List V}
theorem pe_callF (F : FnG X.prog X.w X.K X.mg X.base k f ps sp) (hr : Room k X.A) (hm : X.mg x = some (.ref f)) (ha : PA X (e :: es) t) (hg : Gl X x := by rfl)
    (hdb : (x == ("__debug__" : Str)) = false := by decide) (he : starEach (e :: es) X.env = (false, eval e X.env) :: starEach es X.env := by rfl) (hpl : (backTo pos (starEach es X.env)).any (·.1) = false := by rfl) :
    PE X (.Call (.Name x p) (e :: es) [] pos) (tCall sp [] E0 t) := by
  obtain ⟨fd, F1, b⟩ := F.ex
  exact pe_call F1 hr hg hm F.kp b .nil pass0 ha hdb he hpl
theorem pe_makeF (M : Mk X.K C f) (F : FnG X.prog X.w X.K X.mg X.base k f ps sp) (hr : Room (k + 1) X.A) (hm : X.mg x = some (.ref C)) (ha : PA X (e :: es) t) (hg : Gl X x := by rfl)
    (hdb : (x == ("__debug__" : Str)) = false := by decide) (he : starEach (e :: es) X.env = (false, eval e X.env) :: starEach es X.env := by rfl) (hpl : (backTo pos (starEach es X.env)).any (·.1) = false := by rfl) :
    PE X (.Call (.Name x p) (e :: es) [] pos) (tMake C sp [] E0 t) := by
  obtain ⟨fd, F1, b⟩ := F.ex
  exact pe_make M F1 hr hg hm b .nil pass0 ha hdb he hpl
theorem pe_makeD (M : Mk X.K C f) (F : FnD1 X.prog X.w X.K X.mg X.base k f ps dvs sp) (hr : Room (k + 1) X.A) (hm : X.mg x = some (.ref C)) (ha : PA X (e :: es) t) (hg : Gl X x := by rfl)
    (hdb : (x == ("__debug__" : Str)) = false := by decide) (he : starEach (e :: es) X.env = (false, eval e X.env) :: starEach es X.env := by rfl) (hpl : (backTo pos (starEach es X.env)).any (·.1) = false := by rfl) :
    PE X (.Call (.Name x p) (e :: es) [] pos) (tMake C sp dvs E0 t) := by
  obtain ⟨fd, ds, F1, v, b⟩ := F.ex
  exact pe_make M F1 hr hg hm b v pass0 ha hdb he hpl
theorem pe_methF {pl : Sem Bool} (he : PE X o ta) (c : Cls X.K C) (hm : Meth X.K C m f) (F : FnG X.prog X.w X.K X.mg X.base k f ps sp) (hr : Room k X.A) (ha : PA X (e :: es) t)
    (hst : starEach (e :: es) X.env = (false, eval e X.env) :: starEach es X.env := by rfl) (hpl : (backTo pos (starEach es X.env)).any (·.1) = false := by rfl)
    (ht : eval (.Call (.Attribute o m apos) (e :: es) [] pos) X.env = (do
      let ov ← eval o X.env
      standAt apos.atName
      let (f, first) ← holding [ov] (getMethod ov m pl)
      callWith pos f first (backTo pos (starEach (e :: es) X.env)) (backToKw pos (keywordEach [] X.env))) := by rfl) :
    PE X (.Call (.Attribute o m apos) (e :: es) [] pos) (tMeth C m sp [] E0 ta t) := by
  obtain ⟨fd, F1, b⟩ := F.ex
  exact pe_meth he c hm F1 hr b .nil pass0 ha hst hpl ht
theorem op_ownF {op : Operator} (F : FnG X.prog X.w X.K X.mg X.base k f ps sp) (hr : Room k X.A) (hc : PySem.W.selfFirst X.K C = true) (hs : Meth X.K C (PySem.dunder op.info.2) f) : OpR X (binaryOp op) (rOwn C sp E0) := by
  obtain ⟨fd, F1, b⟩ := F.ex
  exact op_own F1 hr hc hs.at_ hs.fn b pass0
theorem op_cmpF {op : CmpOp} (F : FnG X.prog X.w X.K X.mg X.base k f ps sp) (hr : Room k X.A) (hs : Meth X.K C (cmpInfo op).2.1 f) : OpR X (richCompare op) (rOwn C sp E0) := by
  obtain ⟨fd, F1, b⟩ := F.ex
  exact op_ownCmp F1 hr hs.at_ hs.fn b pass0
theorem un_negF (F : FnG X.prog X.w X.K X.mg X.base k f ps sp) (hr : Room k X.A) (hs : Meth X.K C "__neg__" f) : UnR X (unaryOp .USub) (rOwn1 C sp E0) := by
  obtain ⟨fd, F1, b⟩ := F.ex
  exact un_ownNeg F1 hr hs.at_ hs.fn b pass0
def rAbsOwn (C : Addr) (sp : Sp) : List V → Hp → VK → Prop := fun vs H Q => ∃ x, vs = [x] ∧ rOwn1 C sp E0 x H Q
theorem cr_absF (F : FnG X.prog X.w X.K X.mg X.base k f ps sp) (hr : Room (k + 1) X.A) (hs : Meth X.K C "__abs__" f) : CallR X (.builtin "abs") (rAbsOwn C sp) := by
  obtain ⟨fd, F1, b⟩ := F.ex
  exact cr_absOwn F1 hr hs.at_ hs.fn b pass0
end
section
variable {K : PySem.W.Frag} {fa : List He.Fa} {fn : List He.DefD} {mg : Str → Option Value}
/-- what the head tells -/
structure Tx (fa : List He.Fa) (fn : List He.DefD) (ex : PySem.W.Frag → Bool) (K : PySem.W.Frag) (mg : Str → Option Value) : Prop where
  c : He.SaysD fa fn K
  e : ex K = true
  h : ∃ h : Heap, K.In h ∧ h.Ns mainGlobals mg
variable {ex : PySem.W.Frag → Bool}
theorem Tx.free (T : Tx fa fn ex K mg) (i : Nat) {x : Str} (hi : fa[i]? = some (.free x)) : mg x = none := by
  obtain ⟨h, X, G⟩ := T.h
  exact He.free_ok X G (T.c.fact i hi)
theorem Tx.glo (T : Tx fa fn ex K mg) (i : Nat) {x : Str} (hi : fa[i]? = some (.glo x)) : mg x = some (.ref (He.ga K x)) := by
  obtain ⟨h, X, G⟩ := T.h
  exact He.glo_ok X G (T.c.fact i hi)
theorem Tx.int (T : Tx fa fn ex K mg) (i : Nat) {x : Str} {n : Int} (hi : fa[i]? = some (.int x n)) : ∃ t, mg x = some (.int n t) := by
  obtain ⟨h, X, G⟩ := T.h
  exact He.int_ok X G (T.c.fact i hi)
theorem Tx.cls (T : Tx fa fn ex K mg) (i : Nat) {x : Str} (hi : fa[i]? = some (.cls x)) : Cls K (He.ga K x) := He.cls_ok (T.c.fact i hi)
theorem Tx.noat (T : Tx fa fn ex K mg) (i : Nat) {x f : Str} (hi : fa[i]? = some (.noat x f)) : NoAttr K (He.ga K x) f := He.noat_ok (T.c.fact i hi)
theorem Tx.meth (T : Tx fa fn ex K mg) (i : Nat) {x f : Str} (hi : fa[i]? = some (.meth x f)) : Meth K (He.ga K x) f (He.ma K (He.ga K x) f) := He.meth_ok (T.c.fact i hi)
theorem Tx.mkr (T : Tx fa fn ex K mg) (i : Nat) {x : Str} (hi : fa[i]? = some (.mkr x)) : Mk K (He.ga K x) (He.ma K (He.ga K x) "__init__") := He.mkr_ok (T.c.fact i hi)
end
end Pn
namespace Pn
open PySem L2 Evl
/-- what isinstance asks of the class at C -/
structure Ri (K : PySem.W.Frag) (C : Addr) : Prop where
  cl : Cls K C
  ha : PySem.W.findIn K (.ref C) "__class__" = some (some (.builtin "object.__class__"))
  hn : PySem.W.specialIn K (.builtin "object.__class__") "__get__" = some (some (.builtin "getset_descriptor.__get__"))
  htk : PySem.W.takesIn K (.builtin "object.__class__") = some true
  hm : PySem.W.mroIn K C (.type "object") = some true
  me : PySem.W.kitOne K (.ref C) (.ref C) = some true
  ki : PySem.W.kitOne K (.type "int") (.ref C) = some false
  ks : PySem.W.kitOne K (.type "str") (.ref C) = some false
  kn : PySem.W.kitOne K (.type "NoneType") (.ref C) = some false
  si : PySem.W.subIn K (.type "int") (.ref C) = some false
  ss : PySem.W.subIn K (.type "str") (.ref C) = some false
  sn : PySem.W.subIn K (.type "NoneType") (.ref C) = some false
def riB (K : PySem.W.Frag) (C : Addr) : Bool :=
  decide (PySem.W.findIn K (.ref C) "__class__" = some (some (.builtin "object.__class__"))) && (decide (PySem.W.specialIn K (.builtin "object.__class__") "__get__" = some (some (.builtin "getset_descriptor.__get__"))) &&
  (decide (PySem.W.takesIn K (.builtin "object.__class__") = some true) && (decide (PySem.W.mroIn K C (.type "object") = some true) && (decide (PySem.W.kitOne K (.ref C) (.ref C) = some true) &&
  (decide (PySem.W.kitOne K (.type "int") (.ref C) = some false) && (decide (PySem.W.kitOne K (.type "str") (.ref C) = some false) && (decide (PySem.W.kitOne K (.type "NoneType") (.ref C) = some false) &&
  (decide (PySem.W.subIn K (.type "int") (.ref C) = some false) && (decide (PySem.W.subIn K (.type "str") (.ref C) = some false) && decide (PySem.W.subIn K (.type "NoneType") (.ref C) = some false))))))))))
theorem ri_of {K : PySem.W.Frag} {C : Addr} (cl : Cls K C) (h : riB K C = true) : Ri K C := by
  obtain ⟨h1, h⟩ := He.ba h
  obtain ⟨h2, h⟩ := He.ba h
  obtain ⟨h3, h⟩ := He.ba h
  obtain ⟨h4, h⟩ := He.ba h
  obtain ⟨h5, h⟩ := He.ba h
  obtain ⟨h6, h⟩ := He.ba h
  obtain ⟨h7, h⟩ := He.ba h
  obtain ⟨h8, h⟩ := He.ba h
  obtain ⟨h9, h⟩ := He.ba h
  obtain ⟨h10, h11⟩ := He.ba h
  exact ⟨cl, of_decide_eq_true h1, of_decide_eq_true h2, of_decide_eq_true h3, of_decide_eq_true h4, of_decide_eq_true h5, of_decide_eq_true h6, of_decide_eq_true h7, of_decide_eq_true h8, of_decide_eq_true h9, of_decide_eq_true h10, of_decide_eq_true h11⟩
theorem Ri.ty {K : PySem.W.Frag} {C : Addr} (r : Ri K C) {H : Hp} {a dx : Addr} {fs : List (Str × V)} (h : H a = some (.ins C dx fs)) : TyX K H (.ref a) (.ref C) :=
  .base (.ins h r.cl r.ha r.hn r.htk r.hm)
end Pn
namespace Pn
open PySem L2 Evl
/-- a number, a text, or None -/
inductive Scal : V → Prop where
  | int (i : Int) : Scal (.int i)
  | str (x : Str) : Scal (.str x)
  | non : Scal .non
/-- an own comparison of an instance with such a value -/
def rOwnS (C : Addr) (sp : Sp) : R2 := fun x y H Q => ∃ a dx fs, x = .ref a ∧ Scal y ∧ H a = some (.ins C dx fs) ∧ sp [x, y] H Q E0
section
variable {X : Cx} {k : Nat} {f C : Addr} {ps : List Str} {sp : Sp}
theorem op_cmpS {op : CmpOp} (r : Ri X.K C) (F : FnG X.prog X.w X.K X.mg X.base k f ps sp) (hr : Room k X.A) (hs : Meth X.K C (cmpInfo op).2.1 f) : OpR X (richCompare op) (rOwnS C sp) := by
  obtain ⟨fd, F1, b⟩ := F.ex
  intro pins s σ H x y v u Q I rx ry h
  obtain ⟨a, dx, fs, rfl, sy, ha, q⟩ := h
  cases rx
  obtain ⟨mA, J, _⟩ := ins_get I.hok ha
  obtain ⟨od, J, _⟩ := J.look
  obtain ⟨m, hF⟩ := I.fr
  have fin : wpAny (model X.prog X.w) X.A (call (.ref f) [.ref a, u]) (PySem.W.CmpBack (EP X pins σ Q)) X.xe s :=
    thn (run_fn (us := [.ref a, u]) (vs := [.ref a, y]) F1 hr b .nil pass0 I (.cons rfl (.cons ry .nil)) q) fun v s' z => by
      obtain ⟨y, H', I', r, q'⟩ := z
      exact cmpBack_of ⟨y, H', I', r, q'⟩ (not_ni r)
  cases sy with
  | int i =>
    obtain ⟨t, rfl⟩ := ry
    exact PySem.W.cmp_K (op := op) (tb := .type "int") hr.units0 hF I.ok.mod.kin J (PySem.W.Looks.of_pure rfl) (by simp [PySem.W.notFirst, r.si]) hs.at_ hs.fn fin
  | str i =>
    obtain ⟨t, rfl⟩ := ry
    exact PySem.W.cmp_K (op := op) (tb := .type "str") hr.units0 hF I.ok.mod.kin J (PySem.W.Looks.of_pure rfl) (by simp [PySem.W.notFirst, r.ss]) hs.at_ hs.fn fin
  | non =>
    cases ry
    exact PySem.W.cmp_K (op := op) (tb := .type "NoneType") hr.units0 hF I.ok.mod.kin J (PySem.W.Looks.of_pure rfl) (by simp [PySem.W.notFirst, r.sn]) hs.at_ hs.fn fin
end
theorem Scal.ty {K : PySem.W.Frag} {C : Addr} {H : Hp} {y : V} (r : Ri K C) (s : Scal y) : ∃ t, TyX K H y t ∧ PySem.W.kitOne K t (.ref C) = some false := by
  cases s with
  | int i => exact ⟨_, .base (.int i), r.ki⟩
  | str i => exact ⟨_, .base (.str i), r.ks⟩
  | non => exact ⟨_, .base .non, r.kn⟩
end Pn
namespace Pn
open PySem L2 Evl
section
variable {X : Cx} {K : PySem.W.Frag} {a b e l : Expr} {f : Str} {pos : Pos} {ta tb tl : TE} {tg : Expr}
/-! the same rules with the written part named, so that a reading speaks of no block -/
theorem pe_fldK (hK : X.K = K) (he : PE X e ta) (hb : attributeBase e f X.env (eval e X.env) = eval e X.env) : PE X (.Attribute e f pos) (tFld K ta f) := by
  subst hK
  exact pe_fld he hb
theorem ix_tupK (hK : X.K = K) : IxR X (rIxT K) := by
  subst hK
  exact ix_tup
theorem ix_listK (hK : X.K = K) : IxR X (rIxL K) := by
  subst hK
  exact ix_list
def rTupL (K : PySem.W.Frag) : List V → Hp → VK → Prop := fun xs H Q => ∃ p ys, xs = [.ref p] ∧ SqL K H p ys ∧ ∀ l, H l = none → Q (.ref l) (upd H l (.tup ys))
theorem call_tupL (hK : X.K = K) : CallR X (.type "tuple") (rTupL K) := by
  subst hK
  exact fun pins s σ H xs us Q I r ⟨p, ys, e, h1, h2⟩ => call_tuple_of pins s σ H xs us Q I r ⟨p, ys, e, .inl ⟨h1, h2⟩⟩
def rLen2 (K : PySem.W.Frag) : List V → Hp → VK → Prop := fun xs H Q => ∃ p ys, xs = [.ref p] ∧ (SqL K H p ys ∨ SqT K H p ys) ∧ Q (.int ys.length) H
theorem call_lenK (hK : X.K = K) : CallR X (.builtin "len") (rLen2 K) := by
  subst hK
  exact call_len_seq
theorem pi_listK (hK : X.K = K) (hl : PE X l tl) : PI X tg l (iList K tl) := by
  subst hK
  exact pi_list hl
theorem pi_tupK (hK : X.K = K) (hl : PE X l tl) : PI X tg l (iTup K tl) := by
  subst hK
  exact pi_tup hl
theorem call_isiKK (hK : X.K = K) : CallR X (.builtin "isinstance") (rIsi K) := by
  subst hK
  exact call_isi
theorem cr_allK (hK : X.K = K) (hc : X.calm = true) : CallR X (.builtin "all") (rAll K) := by
  subst hK
  exact cr_all hc
theorem cr_anyK (hK : X.K = K) (hc : X.calm = true) : CallR X (.builtin "any") (rAny K) := by
  subst hK
  exact cr_any hc
end
end Pn

namespace Pn
theorem init_pos {t b : Int} (hb : 0 < b) : t.fdiv ((Nat.gcd t.natAbs b.natAbs : Nat) : Int) = (Rat.divInt t b).num ∧ b.fdiv ((Nat.gcd t.natAbs b.natAbs : Nat) : Int) = ((Rat.divInt t b).den : Int) := by
  have hg : b.gcd t = Nat.gcd t.natAbs b.natAbs := by rw [Int.gcd_comm]; rfl
  have g0 : (0 : Int) ≤ ((Nat.gcd t.natAbs b.natAbs : Nat) : Int) := Int.natCast_nonneg _
  rw [Rat.num_divInt, Rat.den_divInt, hg, if_neg (by omega), Int.fdiv_eq_ediv_of_nonneg _ g0, Int.fdiv_eq_ediv_of_nonneg _ g0, Int.sign_eq_one_of_pos hb, Int.one_mul]
  refine ⟨rfl, ?_⟩
  rw [Int.natCast_ediv, Int.natAbs_of_nonneg (by omega)]
theorem init_neg {t b : Int} (hb : b < 0) : t.fdiv (-((Nat.gcd t.natAbs b.natAbs : Nat) : Int)) = (Rat.divInt t b).num ∧ b.fdiv (-((Nat.gcd t.natAbs b.natAbs : Nat) : Int)) = ((Rat.divInt t b).den : Int) := by
  have hg : b.gcd t = Nat.gcd t.natAbs b.natAbs := by rw [Int.gcd_comm]; rfl
  have gp : 0 < Nat.gcd t.natAbs b.natAbs := Nat.gcd_pos_of_pos_right _ (by omega)
  have g0 : (0 : Int) ≤ ((Nat.gcd t.natAbs b.natAbs : Nat) : Int) := Int.natCast_nonneg _
  have gn : ((Nat.gcd t.natAbs b.natAbs : Nat) : Int) ≠ 0 := by omega
  have d1 : ((Nat.gcd t.natAbs b.natAbs : Nat) : Int) ∣ t := Int.ofNat_dvd_left.mpr (Nat.gcd_dvd_left _ _)
  have d2 : ((Nat.gcd t.natAbs b.natAbs : Nat) : Int) ∣ b := Int.ofNat_dvd_left.mpr (Nat.gcd_dvd_right _ _)
  rw [Rat.num_divInt, Rat.den_divInt, hg, if_neg (by omega), Int.fdiv_neg gn, Int.fdiv_neg gn, if_pos d1, if_pos d2, Int.fdiv_eq_ediv_of_nonneg _ g0, Int.fdiv_eq_ediv_of_nonneg _ g0, Int.sign_eq_neg_one_of_neg hb]
  constructor
  · rw [← Int.neg_ediv_of_dvd d1]
    congr 1
    omega
  · rw [Int.natCast_ediv, ← Int.neg_ediv_of_dvd d2]
    congr 1
    omega
theorem divInt_add (p q : Rat) : Rat.divInt (p.num * q.den + q.num * p.den) (p.den * q.den) = p + q := by
  have h := Rat.divInt_add_divInt p.num q.num (d₁ := p.den) (d₂ := q.den) (by have := p.den_nz; omega) (by have := q.den_nz; omega)
  rw [Rat.num_divInt_den, Rat.num_divInt_den] at h
  exact h.symm
theorem divInt_sub (p q : Rat) : Rat.divInt (p.num * q.den - q.num * p.den) (p.den * q.den) = p - q := by
  have h := Rat.divInt_sub_divInt p.num q.num (d₁ := p.den) (d₂ := q.den) (by have := p.den_nz; omega) (by have := q.den_nz; omega)
  rw [Rat.num_divInt_den, Rat.num_divInt_den] at h
  exact h.symm
theorem divInt_mul (p q : Rat) : Rat.divInt (p.num * q.num) (p.den * q.den) = p * q := by
  have h := Rat.divInt_mul_divInt p.num q.num (d₁ := p.den) (d₂ := q.den)
  rw [Rat.num_divInt_den, Rat.num_divInt_den] at h
  exact h.symm
theorem divInt_neg' (p : Rat) : Rat.divInt (-p.num) p.den = -p := by
  rw [← Rat.neg_divInt, Rat.num_divInt_den]
theorem divInt_div (p q : Rat) : Rat.divInt (p.num * q.den) (p.den * q.num) = p / q := by
  rw [Rat.div_def, Rat.inv_def]
  have h := Rat.divInt_mul_divInt p.num q.den (d₁ := p.den) (d₂ := q.num)
  rw [Rat.num_divInt_den] at h
  exact h.symm
theorem divInt_abs (p : Rat) : Rat.divInt (if p.num < 0 then -p.num else p.num) p.den = p.abs := by
  unfold Rat.abs
  by_cases h : p.num < 0
  · rw [if_pos h, if_neg (by rw [← Rat.num_nonneg]; omega), divInt_neg']
  · rw [if_neg h, if_pos (by rw [← Rat.num_nonneg]; omega), Rat.num_divInt_den]
theorem den_ne (p : Rat) : (p.den : Int) ≠ 0 := by have := p.den_nz; omega
theorem den_pos (p : Rat) : (0 : Int) < p.den := by have := p.den_pos; omega
/-- sizes -/
theorem natAbs_mul_lt {i j : Int} {a b : Nat} (ha : i.natAbs < 2 ^ a) (hb : j.natAbs < 2 ^ b) : (i * j).natAbs < 2 ^ (a + b) := by
  rw [Int.natAbs_mul, Nat.pow_add]
  exact Nat.mul_lt_mul'' ha hb
theorem log2_lt' {n k : Nat} (h : n < 2 ^ k) (hk : 0 < k) : n.log2 < k := by
  by_cases h0 : n = 0
  · subst h0; rw [show Nat.log2 0 = 0 by decide]; exact hk
  · exact (Nat.log2_lt h0).mpr h
end Pn
namespace Pn
/-- top and bottom below 2 ^ n -/
def SmB (n : Nat) (q : Rat) : Prop := q.num.natAbs < 2 ^ n ∧ q.den < 2 ^ n
theorem SmB.mono {n m : Nat} {q : Rat} (h : SmB n q) (k : n ≤ m) : SmB m q := ⟨Nat.lt_of_lt_of_le h.1 (Nat.pow_le_pow_right (by decide) k), Nat.lt_of_lt_of_le h.2 (Nat.pow_le_pow_right (by decide) k)⟩
/-- two that may be reckoned with -/
def Ok2 (p q : Rat) : Prop := ∃ n m, 0 < n ∧ 0 < m ∧ SmB n p ∧ SmB m q ∧ n + m ≤ 9000
theorem num_le (t b : Int) : (Rat.divInt t b).num.natAbs ≤ t.natAbs := by
  rw [Rat.num_divInt, Int.natAbs_ediv_of_dvd, Int.natAbs_mul]
  · by_cases hb : b = 0
    · subst hb; simp
    · rw [Int.natAbs_sign_of_ne_zero hb, Nat.one_mul]
      exact Nat.div_le_self _ _
  · exact Int.dvd_mul_of_dvd_right (by rw [Int.gcd_comm]; exact Int.gcd_dvd_left ..)
theorem den_le (t b : Int) (hb : b ≠ 0) : (Rat.divInt t b).den ≤ b.natAbs := by
  rw [Rat.den_divInt, if_neg hb]
  exact Nat.div_le_self _ _
theorem smB_add {n m : Nat} {p q : Rat} (h1 : SmB n p) (h2 : SmB m q) : SmB (n + m + 1) (p + q) := by
  have a1 : (p.num * (q.den : Int)).natAbs < 2 ^ (n + m) := natAbs_mul_lt h1.1 (by rw [Int.natAbs_natCast]; exact h2.2)
  have a2 : (q.num * (p.den : Int)).natAbs < 2 ^ (m + n) := natAbs_mul_lt h2.1 (by rw [Int.natAbs_natCast]; exact h1.2)
  have a3 : ((p.den : Int) * (q.den : Int)).natAbs < 2 ^ (n + m) := natAbs_mul_lt (by rw [Int.natAbs_natCast]; exact h1.2) (by rw [Int.natAbs_natCast]; exact h2.2)
  have e : 2 ^ (n + m + 1) = 2 ^ (n + m) + 2 ^ (n + m) := by rw [Nat.pow_succ]; omega
  rw [Nat.add_comm m n] at a2
  rw [← divInt_add p q]
  refine ⟨Nat.lt_of_le_of_lt (num_le _ _) ?_, Nat.lt_of_le_of_lt (den_le _ _ (Int.mul_ne_zero (den_ne p) (den_ne q))) (by omega)⟩
  omega
theorem smB_sub {n m : Nat} {p q : Rat} (h1 : SmB n p) (h2 : SmB m q) : SmB (n + m + 1) (p - q) := by
  have a1 : (p.num * (q.den : Int)).natAbs < 2 ^ (n + m) := natAbs_mul_lt h1.1 (by rw [Int.natAbs_natCast]; exact h2.2)
  have a2 : (q.num * (p.den : Int)).natAbs < 2 ^ (m + n) := natAbs_mul_lt h2.1 (by rw [Int.natAbs_natCast]; exact h1.2)
  have a3 : ((p.den : Int) * (q.den : Int)).natAbs < 2 ^ (n + m) := natAbs_mul_lt (by rw [Int.natAbs_natCast]; exact h1.2) (by rw [Int.natAbs_natCast]; exact h2.2)
  have e : 2 ^ (n + m + 1) = 2 ^ (n + m) + 2 ^ (n + m) := by rw [Nat.pow_succ]; omega
  rw [Nat.add_comm m n] at a2
  rw [← divInt_sub p q]
  refine ⟨Nat.lt_of_le_of_lt (num_le _ _) ?_, Nat.lt_of_le_of_lt (den_le _ _ (Int.mul_ne_zero (den_ne p) (den_ne q))) (by omega)⟩
  omega
theorem smB_mul {n m : Nat} {p q : Rat} (h1 : SmB n p) (h2 : SmB m q) : SmB (n + m) (p * q) := by
  have a1 : (p.num * q.num).natAbs < 2 ^ (n + m) := natAbs_mul_lt h1.1 h2.1
  have a3 : ((p.den : Int) * (q.den : Int)).natAbs < 2 ^ (n + m) := natAbs_mul_lt (by rw [Int.natAbs_natCast]; exact h1.2) (by rw [Int.natAbs_natCast]; exact h2.2)
  rw [← divInt_mul p q]
  exact ⟨Nat.lt_of_le_of_lt (num_le _ _) a1, Nat.lt_of_le_of_lt (den_le _ _ (Int.mul_ne_zero (den_ne p) (den_ne q))) a3⟩
theorem smB_neg {n : Nat} {p : Rat} (h1 : SmB n p) : SmB n (-p) := ⟨by rw [Rat.neg_num, Int.natAbs_neg]; exact h1.1, by rw [Rat.neg_den]; exact h1.2⟩
theorem num_ne {q : Rat} (h : q ≠ 0) : q.num ≠ 0 := fun e => h (Rat.num_eq_zero.mp e)
theorem smB_div {n m : Nat} {p q : Rat} (h1 : SmB n p) (h2 : SmB m q) (h0 : q ≠ 0) : SmB (n + m) (p / q) := by
  have a1 : (p.num * (q.den : Int)).natAbs < 2 ^ (n + m) := natAbs_mul_lt h1.1 (by rw [Int.natAbs_natCast]; exact h2.2)
  have a3 : ((p.den : Int) * q.num).natAbs < 2 ^ (n + m) := natAbs_mul_lt (by rw [Int.natAbs_natCast]; exact h1.2) h2.1
  rw [← divInt_div p q]
  exact ⟨Nat.lt_of_le_of_lt (num_le _ _) a1, Nat.lt_of_le_of_lt (den_le _ _ (Int.mul_ne_zero (den_ne p) (num_ne h0))) a3⟩
theorem ok2_den {p q : Rat} (h : Ok2 p q) : (p.den : Int) * (q.den : Int) ≠ 0 ∧ ((p.den : Int) * (q.den : Int)).natAbs < 2 ^ 9000 := by
  obtain ⟨n, m, _, _, h1, h2, hs⟩ := h
  refine ⟨Int.mul_ne_zero (den_ne p) (den_ne q), Nat.lt_of_lt_of_le (natAbs_mul_lt (by rw [Int.natAbs_natCast]; exact h1.2) (by rw [Int.natAbs_natCast]; exact h2.2)) (Nat.pow_le_pow_right (by decide) hs)⟩
theorem ok2_div {p q : Rat} (h : Ok2 p q) (h0 : q ≠ 0) : (p.den : Int) * q.num ≠ 0 ∧ ((p.den : Int) * q.num).natAbs < 2 ^ 9000 := by
  obtain ⟨n, m, _, _, h1, h2, hs⟩ := h
  refine ⟨Int.mul_ne_zero (den_ne p) (num_ne h0), Nat.lt_of_lt_of_le (natAbs_mul_lt (by rw [Int.natAbs_natCast]; exact h1.2) h2.1) (Nat.pow_le_pow_right (by decide) hs)⟩
end Pn

namespace Pn
open PySem L2 Evl
theorem tb_ : ¬ (("bottom" : Str) = "top") := by decide +kernel
theorem bt_ : ¬ (("top" : Str) = "bottom") := by decide +kernel
/-- the attributes of a fraction -/
def RatO (q : Rat) : List (Str × V) := [(("top" : Str), V.int q.num), (("bottom" : Str), V.int (q.den : Int))]
theorem ratO_top (q : Rat) : (RatO q).lookup ("top" : Str) = some (.int q.num) := by
  unfold RatO
  simp [List.lookup]
theorem ratO_bot (q : Rat) : (RatO q).lookup ("bottom" : Str) = some (.int (q.den : Int)) := by
  unfold RatO
  have h : ((("bottom" : Str) == ("top" : Str)) = false) := by decide +kernel
  simp [List.lookup, h]
theorem ratO_no (q : Rat) {m : Str} (h1 : (m == ("top" : Str)) = false) (h2 : (m == ("bottom" : Str)) = false) : (RatO q).lookup m = none := by
  unfold RatO
  simp [List.lookup, h1, h2]
theorem putF_top (t : Int) : putF "top" (.int t) [] = [(("top" : Str), V.int t)] := rfl
theorem putF_bot (t b : Int) : putF "bottom" (.int b) [(("top" : Str), V.int t)] = [(("top" : Str), V.int t), (("bottom" : Str), V.int b)] := by
  show (if ("top" : Str) = "bottom" then [(("top" : Str), V.int b)] else (("top" : Str), V.int t) :: putF "bottom" (V.int b) []) = _
  rw [if_neg bt_]
  rfl
/-- at the value v stands the fraction q -/
def RatAt (C : Addr) (H : Hp) (v : V) (q : Rat) : Prop := ∃ a dx, v = .ref a ∧ H a = some (.ins C dx (RatO q))
theorem RatAt.mono {C : Addr} {H H' : Hp} {v : V} {q : Rat} (h : RatAt C H v q) (e : Ex H H') : RatAt C H' v q := by
  obtain ⟨a, dx, rfl, ha⟩ := h
  exact ⟨a, dx, rfl, e _ _ ha⟩
/-- at the value v stands a pair of ints -/
def PairAt (H : Hp) (v : V) (i j : Int) : Prop := ∃ a, v = .ref a ∧ H a = some (.tup [.int i, .int j])
theorem PairAt.mono {H H' : Hp} {v : V} {i j : Int} (h : PairAt H v i j) (e : Ex H H') : PairAt H' v i j := by
  obtain ⟨a, rfl, ha⟩ := h
  exact ⟨a, rfl, e _ _ ha⟩
/-- small enough for what the machine's division takes -/
def Sm (q : Rat) : Prop := q.num.natAbs < 2 ^ 4000 ∧ q.den < 2 ^ 4000
/-! ### promises -/
def spInit (C : Addr) : Sp := fun vs H Q _ => ∃ (p dx : Addr) (t b : Int), vs = [.ref p, .int t, .int b] ∧ H p = some (.ins C dx []) ∧ b ≠ 0 ∧ b.natAbs < 2 ^ 9000 ∧ ∀ H', H' = upd H p (.ins C dx (RatO (Rat.divInt t b))) → Q .non H'
def spBin (C : Addr) (ok : Rat → Rat → Prop) (f : Rat → Rat → Rat) : Sp := fun vs H Q _ => ∃ (x y : V) (p q : Rat), vs = [x, y] ∧ RatAt C H x p ∧ RatAt C H y q ∧ ok p q ∧ ∀ r H', Ex H H' → (∃ a, r = .ref a ∧ H a = none) → RatAt C H' r (f p q) → Q r H'
def spUn (C : Addr) (ok : Rat → Prop) (f : Rat → Rat) : Sp := fun vs H Q _ => ∃ (x : V) (p : Rat), vs = [x] ∧ RatAt C H x p ∧ ok p ∧ ∀ r H', Ex H H' → (∃ a, r = .ref a ∧ H a = none) → RatAt C H' r (f p) → Q r H'
def spCmp (C : Addr) (f : Rat → Rat → Bool) : Sp := fun vs H Q _ => ∃ (x y : V) (p q : Rat) (b : Bool), vs = [x, y] ∧ RatAt C H x p ∧ RatAt C H y q ∧ f p q = b ∧ Q (.bl b) H
end Pn
namespace Pn
open PySem L2 Evl
theorem ifT {c : Bool} {A B : Prop} (hc : c = true) (h : A) : if c = true then A else B := by
  rw [if_pos hc]
  exact h
theorem ifF {c : Bool} {A B : Prop} (hc : c = false) (h : B) : if c = true then A else B := by
  rw [hc, if_neg Bool.false_ne_true]
  exact h
theorem ifB {c : Bool} {A B : Prop} (h1 : c = true → A) (h2 : c = false → B) : if c = true then A else B := by
  cases c with
  | true => exact ifT rfl (h1 rfl)
  | false => exact ifF rfl (h2 rfl)
theorem dec_ne {i j : Int} (h : i ≠ j) : decide (V.int i = V.int j) = false := decide_eq_false fun e => h (V.int.inj e)
theorem gcd_log {t b : Int} (hb : b ≠ 0) (h : b.natAbs < 2 ^ 9000) : ((Nat.gcd t.natAbs b.natAbs : Nat) : Int) ≠ 0 ∧ ((Nat.gcd t.natAbs b.natAbs : Nat) : Int).natAbs.log2 < 9000 := by
  have gp : 0 < Nat.gcd t.natAbs b.natAbs := Nat.gcd_pos_of_pos_right _ (by omega)
  have gl : Nat.gcd t.natAbs b.natAbs ≤ b.natAbs := Nat.gcd_le_right _ (by omega)
  refine ⟨Int.natCast_ne_zero.mpr (Nat.ne_of_gt gp), log2_lt' ?_ (by decide)⟩
  rw [Int.natAbs_natCast]
  exact Nat.lt_of_le_of_lt gl h
theorem gcd_logN {t b : Int} (hb : b ≠ 0) (h : b.natAbs < 2 ^ 9000) : -((Nat.gcd t.natAbs b.natAbs : Nat) : Int) ≠ 0 ∧ (-((Nat.gcd t.natAbs b.natAbs : Nat) : Int)).natAbs.log2 < 9000 := by
  obtain ⟨h1, h2⟩ := gcd_log hb h
  exact ⟨Int.neg_ne_zero.mpr h1, by rw [Int.natAbs_neg]; exact h2⟩
end Pn
namespace Pn
open PySem L2 Evl
theorem made {C x dx : Addr} {H : Hp} {q : Rat} (nx : H x = none) (ndx : H dx = none) : Ex H (upd (upd (upd H dx (.own x)) x (.ins C dx [])) x (.ins C dx (RatO q))) ∧ RatAt C (upd (upd (upd H dx (.own x)) x (.ins C dx [])) x (.ins C dx (RatO q))) (.ref x) q := by
  refine ⟨fun b o e => ?_, x, dx, rfl, upd_same⟩
  have n1 : b ≠ x := ne_of_none e nx
  have n2 : b ≠ dx := ne_of_none e ndx
  rw [upd_ne n1, upd_ne n1, upd_ne n2]
  exact e
theorem mulW {i j : Int} {n m : Nat} (h1 : i.natAbs < 2 ^ n) (h2 : j.natAbs < 2 ^ m) (n0 : 0 < n) (m0 : 0 < m) (h : n + m ≤ 9000) : CMulW i j := wide_mul h1 h2 n0 m0 (Nat.le_trans h (by decide))
theorem ok2_mul {p q : Rat} (h : Ok2 p q) : CMulW p.num (q.den : Int) ∧ CMulW q.num (p.den : Int) ∧ CMulW (p.den : Int) (q.den : Int) ∧ CMulW p.num q.num ∧ CMulW (p.den : Int) q.num := by
  obtain ⟨n, m, n0, m0, h1, h2, hs⟩ := h
  have d1 : ((p.den : Int)).natAbs < 2 ^ n := by rw [Int.natAbs_natCast]; exact h1.2
  have d2 : ((q.den : Int)).natAbs < 2 ^ m := by rw [Int.natAbs_natCast]; exact h2.2
  exact ⟨mulW h1.1 d2 n0 m0 hs, mulW h2.1 d1 m0 n0 (by omega), mulW d1 d2 n0 m0 hs, mulW h1.1 h2.1 n0 m0 hs, mulW d1 h2.1 n0 m0 hs⟩
def OkDiv (p q : Rat) : Prop := Ok2 p q ∧ q ≠ 0
def Ok1 (p : Rat) : Prop := p.den < 2 ^ 9000
end Pn
namespace Pn
open PySem L2 Evl
theorem eq_dec2 {p q : Rat} (h : decide (V.int p.num = V.int q.num) = true) : decide (V.int (p.den : Int) = V.int (q.den : Int)) = decide (p = q) := by
  have e : p.num = q.num := V.int.inj (of_decide_eq_true h)
  rw [Bool.eq_iff_iff]
  simp only [decide_eq_true_eq]
  constructor
  · intro d
    exact Rat.ext e (by have := V.int.inj d; omega)
  · intro d
    rw [d]
theorem eq_dec0 {p q : Rat} (h : decide (V.int p.num = V.int q.num) = false) : decide (p = q) = false :=
  decide_eq_false fun e => of_decide_eq_false h (by rw [e])
theorem ne_dec1 {p q : Rat} (h : (!decide (V.int p.num = V.int q.num)) = true) : (!decide (p = q)) = true := by
  rw [eq_dec0 (by simpa using h)]
  rfl
theorem ne_dec2 {p q : Rat} (h : (!decide (V.int p.num = V.int q.num)) = false) : (!decide (V.int (p.den : Int) = V.int (q.den : Int))) = !decide (p = q) := by
  rw [eq_dec2 (by simpa using h)]
theorem dec_lt (p q : Rat) : decide (p < q) = decide (p.num * (q.den : Int) < q.num * (p.den : Int)) := decide_eq_decide.mpr (Rat.lt_iff p q)
theorem dec_le (p q : Rat) : decide (p ≤ q) = decide (p.num * (q.den : Int) ≤ q.num * (p.den : Int)) := decide_eq_decide.mpr (Rat.le_iff p q)
theorem dec_gt (p q : Rat) : decide (q < p) = decide (q.num * (p.den : Int) < p.num * (q.den : Int)) := decide_eq_decide.mpr (Rat.lt_iff q p)
theorem dec_ge (p q : Rat) : decide (q ≤ p) = decide (q.num * (p.den : Int) ≤ p.num * (q.den : Int)) := decide_eq_decide.mpr (Rat.le_iff q p)
/-- an order: both small enough to be multiplied crosswise -/
def spCmpO (C : Addr) (f : Rat → Rat → Bool) : Sp := fun vs H Q _ => ∃ (x y : V) (p q : Rat) (b : Bool), vs = [x, y] ∧ RatAt C H x p ∧ RatAt C H y q ∧ (Ok2 p q ∧ f p q = b) ∧ Q (.bl b) H
end Pn

namespace Pn
/-- Euclid's way from (a, b): behind i turns (x, y) -/
def EucI (a b B i x y : Nat) : Prop := Nat.gcd x y = Nat.gcd a b ∧ (i = 0 → x = a ∧ y = b) ∧ (1 ≤ i → y < x ∧ x * y < 2 ^ (2 * B + 1 - i))
theorem euc_start (a b B : Nat) : EucI a b B 0 a b := ⟨rfl, fun _ => ⟨rfl, rfl⟩, fun h => absurd h (by decide)⟩
theorem euc_turn {a b B i x y : Nat} (hb : b < 2 ^ B) (h : EucI a b B i x y) (hy : y ≠ 0) : EucI a b B (i + 1) y (x % y) := by
  obtain ⟨h1, h2, h3⟩ := h
  have hy0 : 0 < y := Nat.pos_of_ne_zero hy
  have hm : x % y < y := Nat.mod_lt _ hy0
  refine ⟨?_, fun z => absurd z (Nat.succ_ne_zero i), fun _ => ⟨hm, ?_⟩⟩
  · rw [← h1, Nat.gcd_comm x y, Nat.gcd_rec y x, Nat.gcd_comm]
  · by_cases hi : i = 0
    · obtain ⟨rfl, rfl⟩ := h2 hi
      subst hi
      have e : 2 * B + 1 - (0 + 1) = B + B := by omega
      rw [e, Nat.pow_add]
      exact Nat.mul_lt_mul'' hb (Nat.lt_trans hm hb)
    · obtain ⟨h4, h5⟩ := h3 (by omega)
      have h6 : 2 * (x % y) ≤ x := by
        have d := Nat.div_add_mod x y
        have q : 1 ≤ x / y := (Nat.one_le_div_iff hy0).mpr (Nat.le_of_lt h4)
        have z : y * 1 ≤ y * (x / y) := Nat.mul_le_mul_left _ q
        omega
      have h7 : 2 * (y * (x % y)) ≤ x * y := by
        have z := Nat.mul_le_mul_right y h6
        have e : 2 * (x % y) * y = 2 * (y * (x % y)) := by rw [Nat.mul_assoc, Nat.mul_comm (x % y) y]
        rw [e] at z
        exact z
      have h8 : 1 ≤ x * y := Nat.mul_pos (by omega) hy0
      have h9 : 2 * B + 1 - i ≠ 0 := fun z => by
        rw [z] at h5
        omega
      have e : 2 * B + 1 - i = (2 * B + 1 - (i + 1)) + 1 := by omega
      rw [e, Nat.pow_succ] at h5
      omega
theorem euc_end {a b B x y : Nat} (h : EucI a b B (2 * B + 3) x y) : x = Nat.gcd a b := by
  obtain ⟨h1, _, h3⟩ := h
  obtain ⟨h4, h5⟩ := h3 (by omega)
  have e : 2 * B + 1 - (2 * B + 3) = 0 := by omega
  rw [e, Nat.pow_zero] at h5
  have hy : y = 0 := by
    rcases Nat.mul_eq_zero.mp (Nat.lt_one_iff.mp h5) with z | z
    · omega
    · exact z
  rw [← h1, hy, Nat.gcd_zero_right]
theorem euc_zero {a b B i x : Nat} (h : EucI a b B i x 0) : x = Nat.gcd a b := by
  rw [← h.1, Nat.gcd_zero_right]
end Pn

namespace Pn
open PySem L2 Evl
section
variable {X : Cx}
/-- int of an int -/
def rIntI : List V → Hp → VK → Prop := fun xs H Q => ∃ i, xs = [.int i] ∧ Q (.int i) H
theorem call_intI : CallR X (.type "int") rIntI := fun pins s σ H xs us Q I r h => call_int1 pins s σ H xs us Q I r (.inl h)
end
theorem mapInt {ns : List Int} {i : Nat} {y : V} (h : (ns.map V.int)[i]? = some y) : ∃ u, y = .int u ∧ ns[i]? = some u := by
  rw [List.getElem?_map] at h
  cases e : ns[i]? with
  | none => rw [e] at h; cases h
  | some u => rw [e] at h; exact ⟨u, (Option.some.inj h).symm, rfl⟩
/-- the top of what a tape's item may be -/
def tapeTop : Int := 2147483629
/-- a list that was made behind H0 and holds the items -/
def TapeI (p : Addr) (H0 H : Hp) (items : List Int) : Prop := H0 p = none ∧ Ex H0 H ∧ H p = some (.lst (items.map V.int)) ∧ ∀ x ∈ items, 0 ≤ x ∧ x < tapeTop
theorem TapeI.push {p : Addr} {H0 H : Hp} {items : List Int} (h : TapeI p H0 H items) {x : Int} (h0 : 0 ≤ x) (h1 : x < tapeTop) : TapeI p H0 (upd H p (.lst (items.map V.int ++ [.int x]))) (items ++ [x]) := by
  obtain ⟨a, b, c, d⟩ := h
  refine ⟨a, Ex.mut b a, ?_, fun y hy => ?_⟩
  · rw [upd_same, List.map_append]
    rfl
  · rcases List.mem_append.mp hy with q | q
    · exact d y q
    · rw [List.mem_singleton.mp q]
      exact ⟨h0, h1⟩
def spTape (K : PySem.W.Frag) : Sp := fun vs H Q _ => ∃ (a : Addr) (ns : List Int), vs = [.ref a] ∧ SqL K H a (ns.map V.int) ∧ ns.length ≤ 63 ∧ ∀ p H' items, TapeI p H H' items → items.length ≤ 2520 → Q (.ref p) H'
theorem ex_sq {K : PySem.W.Frag} {H H' : Hp} {a : Addr} {xs : List V} (h : SqL K H a xs) (e : Ex H H') : SqL K H' a xs := ex_l e h
end Pn
namespace Pn
open PySem L2 Evl
/-- the law's state at st.1: the tape at st.2 and how much was taken of it, at most c -/
def StAt (st : Addr × Addr) (c : Nat) (H : Hp) : Prop := ∃ (items : List Int) (n : Nat), H st.1 = some (.lst [.ref st.2, .int (n : Int)]) ∧ H st.2 = some (.lst (items.map V.int)) ∧ st.1 ≠ st.2 ∧ (∀ x ∈ items, 0 ≤ x ∧ x < tapeTop) ∧ items.length ≤ 2520 ∧ n ≤ c
theorem StAt.mono {st : Addr × Addr} {c d : Nat} {H : Hp} (h : StAt st c H) (k : c ≤ d) : StAt st d H := by
  obtain ⟨items, n, h1, h2, h3, h4, h5, h6⟩ := h
  exact ⟨items, n, h1, h2, h3, h4, h5, Nat.le_trans h6 k⟩
theorem StAt.ex {st : Addr × Addr} {c : Nat} {H H' : Hp} (h : StAt st c H) (e : Ex H H') : StAt st c H' := by
  obtain ⟨items, n, h1, h2, h3, h4, h5, h6⟩ := h
  exact ⟨items, n, e _ _ h1, e _ _ h2, h3, h4, h5, h6⟩
/-- all but what stands at st.1 is as it was -/
def FrS (st : Addr × Addr) (H H' : Hp) : Prop := ∀ a o, a ≠ st.1 → H a = some o → H' a = some o
theorem FrS.refl (st : Addr × Addr) (H : Hp) : FrS st H H := fun _ _ _ h => h
theorem FrS.trans {st : Addr × Addr} {H H1 H2 : Hp} (a : FrS st H H1) (b : FrS st H1 H2) : FrS st H H2 := fun x o n h => b x o n (a x o n h)
theorem FrS.of {st : Addr × Addr} {H H' : Hp} (e : Ex H H') : FrS st H H' := fun x o _ h => e x o h
theorem FrS.upd {st : Addr × Addr} {H H' : Hp} {o : HO} (e : FrS st H H') : FrS st H (L2.upd H' st.1 o) := fun a u n h => by
  rw [upd_ne n]
  exact e a u n h
theorem StAt.ne {st : Addr × Addr} {c : Nat} {H : Hp} {a : Addr} {o : HO} (h : StAt st c H) (ha : H a = some o) (hn : ∀ xs, o ≠ .lst xs) : a ≠ st.1 := by
  obtain ⟨items, n, h1, _⟩ := h
  exact ne_of ha h1 (hn _)
theorem StAt.fresh {st : Addr × Addr} {c : Nat} {H : Hp} {a : Addr} (h : StAt st c H) (ha : H a = none) : a ≠ st.1 := by
  obtain ⟨items, n, h1, _⟩ := h
  intro e
  subst e
  rw [ha] at h1
  cases h1
theorem StAt.fresh2 {st : Addr × Addr} {c : Nat} {H : Hp} {a : Addr} (h : StAt st c H) (ha : H a = none) : a ≠ st.2 := by
  obtain ⟨items, n, h1, h2, _⟩ := h
  intro e
  subst e
  rw [ha] at h2
  cases h2
theorem RatAt.monoS {C : Addr} {st : Addr × Addr} {c : Nat} {H H' : Hp} {v : V} {q : Rat} (h : RatAt C H v q) (s : StAt st c H) (e : FrS st H H') : RatAt C H' v q := by
  obtain ⟨a, dx, rfl, ha⟩ := h
  exact ⟨a, dx, rfl, e _ _ (s.ne ha fun xs z => nomatch z) ha⟩
theorem PairAt.monoS {st : Addr × Addr} {c : Nat} {H H' : Hp} {v : V} {i j : Int} (h : PairAt H v i j) (s : StAt st c H) (e : FrS st H H') : PairAt H' v i j := by
  obtain ⟨a, rfl, ha⟩ := h
  exact ⟨a, rfl, e _ _ (s.ne ha fun xs z => nomatch z) ha⟩
abbrev PrAt (H : Hp) (v : V) (q : Rat) : Prop := PairAt H v q.num (q.den : Int)
/-- more than is ever taken -/
def cMax : Nat := 1000000000
def spDraw : Sp := fun vs H Q _ => ∃ (tp : Addr) (items : List Int) (n : Nat) (many : Int), vs = [.ref tp, .int (n : Int), .int many] ∧ H tp = some (.lst (items.map V.int)) ∧ (∀ x ∈ items, 0 ≤ x ∧ x < tapeTop) ∧ items.length ≤ 2520 ∧ n ≤ cMax ∧ 0 < many ∧ ∀ d, 0 ≤ d → d < many → Q (.int d) H
def spTake : Sp := fun vs H Q _ => ∃ (st : Addr × Addr) (c : Nat) (many : Int), vs = [.ref st.1, .int many] ∧ StAt st c H ∧ c < cMax ∧ 0 < many ∧ ∀ d H', 0 ≤ d → d < many → StAt st (c + 1) H' → FrS st H H' → Q (.int d) H'
def spCommon : Sp := fun vs H Q _ => ∃ (a b : Nat), vs = [.int (a : Int), .int (b : Int)] ∧ b < 2 ^ 1000000 ∧ Q (.int ((Nat.gcd a b : Nat) : Int)) H
/-- a fresh pair, what stood stands -/
def NewPr (H : Hp) (q : Rat) (Q : VK) : Prop := ∀ r H', Ex H H' → (∃ a, r = .ref a ∧ H a = none) → PrAt H' r q → Q r H'
def spPair : Sp := fun vs H Q _ => ∃ (t b : Int), vs = [.int t, .int b] ∧ 0 < b ∧ b.natAbs < 2 ^ 9000 ∧ NewPr H (Rat.divInt t b) Q
def spNumber : Sp := fun vs H Q _ => ∃ (st : Addr × Addr) (c : Nat), vs = [.ref st.1] ∧ StAt st c H ∧ c + 4 < cMax ∧ ∀ q r H', SmB 40 q → PrAt H' r q → StAt st (c + 4) H' → FrS st H H' → Q r H'
def spMade (C : Addr) : Sp := fun vs H Q _ => ∃ (x : V) (q : Rat), vs = [x] ∧ PrAt H x q ∧ q.den < 2 ^ 9000 ∧ ∀ r H', Ex H H' → (∃ a, r = .ref a ∧ H a = none) → RatAt C H' r q → Q r H'
theorem bits_lt {b k : Nat} (h : b < 2 ^ k) : b < 2 ^ (Builtin.Int.intBits (b : Int)) := by
  unfold Builtin.Int.intBits
  by_cases h0 : b = 0
  · subst h0; simp
  · rw [if_neg (by simpa using h0), Int.natAbs_natCast]
    exact Nat.lt_log2_self
theorem bits_le {b : Nat} {k : Nat} (h : b < 2 ^ k) : Builtin.Int.intBits (b : Int) ≤ k := PyProof.Rows.intBits_le (by rw [Int.natAbs_natCast]; exact h)
theorem at_map {items : List Int} {j : Nat} (h : j < items.length) : atI (items.map V.int) (j : Int) = some (.int items[j]) := by
  refine atI_nat ?_
  rw [List.getElem?_map, List.getElem?_eq_getElem h]
  rfl
end Pn
namespace Pn
open PySem L2 Evl
theorem at_mapI {items : List Int} {i : Int} (h0 : 0 ≤ i) (h : i < (items.length : Int)) : ∃ v, atI (items.map V.int) i = some (.int v) := by
  have e : i = (i.toNat : Int) := (Int.toNat_of_nonneg h0).symm
  rw [e]
  exact ⟨_, at_map (by omega)⟩
end Pn
namespace Pn
open PySem L2 Evl
theorem sq_lt {e : Int} (h0 : 0 ≤ e) (h1 : e < 1000) : 0 ≤ e ^ (2 : Int).toNat ∧ e ^ (2 : Int).toNat < 1000000 := by
  have e2 : e ^ (2 : Int).toNat = e * e := by show e ^ 2 = _; rw [Int.pow_succ, Int.pow_succ, Int.pow_zero, Int.one_mul]
  rw [e2]
  have z := Int.mul_nonneg h0 h0
  have y : e * e ≤ 999 * 999 := Int.mul_le_mul (by omega) (by omega) h0 (by decide)
  omega
theorem cu_lt {e : Int} (h0 : 0 ≤ e) (h1 : e < 1000) : 0 ≤ e ^ (3 : Int).toNat ∧ e ^ (3 : Int).toNat < 1000000000 := by
  have e2 : e ^ (3 : Int).toNat = e * e * e := by show e ^ 3 = _; rw [Int.pow_succ, Int.pow_succ, Int.pow_succ, Int.pow_zero, Int.one_mul]
  rw [e2]
  have z := Int.mul_nonneg h0 h0
  have y : e * e ≤ 999 * 999 := Int.mul_le_mul (by omega) (by omega) h0 (by decide)
  have x : e * e * e ≤ 999 * 999 * 999 := Int.mul_le_mul y (by omega) h0 (by decide)
  have w := Int.mul_nonneg z h0
  omega
theorem smB_div40 {t b : Int} (hb : 0 < b) (h1 : t.natAbs < 2 ^ 40) (h2 : b.natAbs < 2 ^ 40) : SmB 40 (Rat.divInt t b) :=
  ⟨Nat.lt_of_le_of_lt (num_le _ _) h1, Nat.lt_of_le_of_lt (den_le _ _ (Int.ne_of_gt hb)) h2⟩
theorem pow_ok {i j : Int} (h0 : 0 ≤ i) (h1 : i < 1000) (j0 : 0 ≤ j) (j1 : j ≤ 10) : CPow i j := ⟨j0, by omega, by omega⟩
theorem lt9000 {n : Nat} (h : n < 2 ^ 40) : n < 2 ^ 9000 := Nat.lt_of_lt_of_le h (Nat.pow_le_pow_right (by decide) (by decide))
end Pn

namespace Pn
open PySem L2 Evl
theorem divInt_one (n : Int) : Rat.divInt n 1 = (n : Rat) := by
  have h := Rat.num_divInt_den (n : Rat)
  rw [Rat.num_intCast, Rat.den_intCast] at h
  exact h
/-- what evaluates to a fraction -/
def EvQ (C : Addr) (te : TE) (σ : L2.St) (H : Hp) (q : Rat) : Prop := ∀ H1, Ex H H1 → ∀ Q : VK, (∀ v H2, Ex H1 H2 → RatAt C H2 v q → Q v H2) → te σ H1 Q
section
variable {C : Addr} {σ : L2.St} {H H' : Hp} {ta tb te : TE} {p q : Rat} {E : XK} {ok : Rat → Rat → Prop} {ok1 : Rat → Prop} {f : Rat → Rat → Rat} {g : Rat → Rat} {cf : Rat → Rat → Bool}
theorem EvQ.mono (h : EvQ C te σ H q) (e : Ex H H') : EvQ C te σ H' q := fun H1 a Q k => h H1 (e.trans a) Q k
theorem fq_var {i : Nat} {v : V} (hr : RatAt C H v q) (h : σ[i]? = some (some v) := by rfl) : EvQ C (tVar i) σ H q := fun H1 e _ k => ⟨v, h, k _ _ (Ex.refl H1) (hr.mono e)⟩
theorem fq_bin (ha : EvQ C ta σ H p) (hb : EvQ C tb σ H q) (o : ok p q) : EvQ C (tOp (rOwn C (spBin C ok f) E) ta tb) σ H (f p q) := fun H1 e Q k =>
  ha H1 e _ fun x H2 e2 hx => hb H2 (e.trans e2) _ fun y H3 e3 hy => by
    have hx' := hx.mono e3
    obtain ⟨a, dx, rfl, h1⟩ := id hx'
    obtain ⟨b, dy, rfl, h2⟩ := id hy
    exact ⟨a, b, dx, dy, _, _, rfl, rfl, h1, h2, _, _, p, q, rfl, hx', hy, o, fun r H4 e4 _ hr => k r H4 ((e2.trans e3).trans e4) hr⟩
theorem fq_un (ha : EvQ C ta σ H p) (o : ok1 p) : EvQ C (tUn (rOwn1 C (spUn C ok1 g) E) ta) σ H (g p) := fun H1 e Q k =>
  ha H1 e _ fun x H2 e2 hx => by
    obtain ⟨a, dx, rfl, h1⟩ := id hx
    exact ⟨a, dx, _, rfl, h1, _, p, rfl, hx, o, fun r H4 e4 _ hr => k r H4 (e2.trans e4) hr⟩
theorem fq_abs (ha : EvQ C ta σ H p) (o : ok1 p) : EvQ C (tCB (rAbsOwn C (spUn C ok1 g)) (tCons ta tNil)) σ H (g p) := fun H1 e Q k =>
  ha H1 e _ fun x H2 e2 hx => by
    obtain ⟨a, dx, rfl, h1⟩ := id hx
    exact ⟨_, rfl, a, dx, _, rfl, h1, _, p, rfl, hx, o, fun r H4 e4 _ hr => k r H4 (e2.trans e4) hr⟩
theorem fq_meth {m : Str} (ha : EvQ C ta σ H p) (hb : EvQ C tb σ H q) (o : ok p q) (h1 : (m == ("top" : Str)) = false := by decide +kernel) (h2 : (m == ("bottom" : Str)) = false := by decide +kernel) :
    EvQ C (tMeth C m (spBin C ok f) [] E ta (tCons tb tNil)) σ H (f p q) := fun H1 e Q k =>
  ha H1 e _ fun x H2 e2 hx => by
    obtain ⟨a, dx, rfl, hx1⟩ := id hx
    refine ⟨a, dx, _, rfl, hx1, ratO_no p h1 h2, ?_⟩
    refine hb H2 (e.trans e2) _ fun y H3 e3 hy => ?_
    exact ⟨_, _, p, q, rfl, hx.mono e3, hy, o, fun r H4 e4 _ hr => k r H4 ((e2.trans e3).trans e4) hr⟩
theorem fq_int {n : Int} : EvQ C (tMake C (spInit C) [.int 1] E (tCons (tC (.int n)) tNil)) σ H (n : Rat) := fun H1 e Q k => by
  intro x dx nx ndx nex
  refine ⟨x, dx, n, 1, rfl, upd_same, by decide, by decide, fun H' e => ⟨rfl, ?_⟩⟩
  rw [divInt_one] at e
  subst e
  exact k _ _ (made nx ndx).1 (made nx ndx).2
theorem ev_cmp (ha : EvQ C ta σ H p) (hb : EvQ C tb σ H q) : Ev (tOp (rOwn C (spCmp C cf) E) ta tb) σ H (.bl (cf p q)) := fun H1 e Q k =>
  ha H1 e _ fun x H2 e2 hx => hb H2 (e.trans e2) _ fun y H3 e3 hy => by
    have hx' := hx.mono e3
    obtain ⟨a, dx, rfl, h1⟩ := id hx'
    obtain ⟨b, dy, rfl, h2⟩ := id hy
    exact ⟨a, b, dx, dy, _, _, rfl, rfl, h1, h2, _, _, p, q, _, rfl, hx', hy, rfl, k H3 (e2.trans e3)⟩
theorem ev_cmpO (ha : EvQ C ta σ H p) (hb : EvQ C tb σ H q) (o : Ok2 p q) : Ev (tOp (rOwn C (spCmpO C cf) E) ta tb) σ H (.bl (cf p q)) := fun H1 e Q k =>
  ha H1 e _ fun x H2 e2 hx => hb H2 (e.trans e2) _ fun y H3 e3 hy => by
    have hx' := hx.mono e3
    obtain ⟨a, dx, rfl, h1⟩ := id hx'
    obtain ⟨b, dy, rfl, h2⟩ := id hy
    exact ⟨a, b, dx, dy, _, _, rfl, rfl, h1, h2, _, _, p, q, _, rfl, hx', hy, ⟨o, rfl⟩, k H3 (e2.trans e3)⟩
end
section
variable {X : Cx}
def rIntB : List V → Hp → VK → Prop := fun xs H Q => ∃ k, xs = [.bl k] ∧ Q (.int (if k then 1 else 0)) H
theorem call_intB : CallR X (.type "int") rIntB := fun pins s σ H xs us Q I r h => call_int1 pins s σ H xs us Q I r (.inr h)
theorem ev_intB {ta : TE} {σ : L2.St} {H : Hp} {b : Bool} (ha : Ev ta σ H (.bl b)) : Ev (tCB rIntB (tCons ta tNil)) σ H (.int (if b then 1 else 0)) := fun H1 e Q k => ha H1 e _ fun H2 e2 => ⟨b, rfl, k H2 e2⟩
end
/-! ### sizes by count -/
theorem ok2_of {n m : Nat} {p q : Rat} (h1 : SmB n p) (h2 : SmB m q) (n0 : 0 < n) (m0 : 0 < m) (h : n + m ≤ 9000) : Ok2 p q := ⟨n, m, n0, m0, h1, h2, h⟩
theorem smB_int {n : Int} {k : Nat} (h : n.natAbs < 2 ^ k) (hk : 1 < 2 ^ k) : SmB k (n : Rat) := ⟨by rw [Rat.num_intCast]; exact h, by rw [Rat.den_intCast]; exact hk⟩
theorem smB_abs {n : Nat} {p : Rat} (h1 : SmB n p) : SmB n p.abs := by
  unfold Rat.abs
  split
  · exact h1
  · exact smB_neg h1
/-- the law's own promise -/
def spLaw (K : PySem.W.Frag) : Sp := fun vs H Q _ => ∃ (a : Addr) (ns : List Int), vs = [.ref a] ∧ SqL K H a (ns.map V.int) ∧ ns.length ≤ 63 ∧ ∀ H', Q (.bl true) H'
/-- a state made anew: a list of the tape and 0 -/
theorem stAt_new {p st : Addr} {H H1 : Hp} {items : List Int} (t : TapeI p H H1 items) (hl : items.length ≤ 2520) (hn : H1 st = none) : StAt (st, p) 0 (upd H1 st (.lst [.ref p, .int 0])) := by
  obtain ⟨a, b, c, d⟩ := t
  have ne : st ≠ p := (ne_of_none c hn).symm
  exact ⟨items, 0, upd_same, (upd_ne ne.symm).trans c, ne, d, hl, Nat.le_refl _⟩
end Pn
namespace Pn
theorem okD {n : Nat} {p : Rat} (h : SmB n p) (k : n ≤ 9000) : Ok1 p := Nat.lt_of_lt_of_le h.2 (Nat.pow_le_pow_right (by decide) k)
theorem nzOf {p : Rat} {n : Int} (h : (!decide (p = (n : Rat))) = true) (e : n = 0 := by rfl) : p ≠ 0 := by
  subst e
  simpa using h
end Pn
namespace Pn
open PySem L2 Evl
section
variable {C : Addr} {σ : L2.St} {H : Hp} {te : TE} {q : Rat} {D : Ends} {tz : TS}
theorem q_asgQ {i : Nat} (h : EvQ C te σ H q) (k : ∀ v H1, Ex H H1 → RatAt C H1 v q → tz D (σ.set i (some v)) H1) : tSeq (tAsg te (gName i)) tz D σ H := h H (Ex.refl H) _ fun v H1 e r => k v H1 e r
theorem s_asgQ {i : Nat} (h : EvQ C te σ H q) (k : ∀ v H1, Ex H H1 → RatAt C H1 v q → D.nx (σ.set i (some v)) H1) : tAsg te (gName i) D σ H := h H (Ex.refl H) _ fun v H1 e r => k v H1 e r
end
end Pn
namespace Pn
open PySem L2 Evl
/-- an own comparison with what is no fraction -/
def spCmpS (C : Addr) (b : Bool) : Sp := fun vs H Q _ => ∃ (x y : V) (p : Rat), vs = [x, y] ∧ RatAt C H x p ∧ Scal y ∧ Q (.bl b) H
theorem ev_cmpS {C : Addr} {σ : L2.St} {H : Hp} {ta tb : TE} {p : Rat} {y : V} {b : Bool} (ha : EvQ C ta σ H p) (hb : Ev tb σ H y) (hy : Scal y) : Ev (tOp (rOwnS C (spCmpS C b)) ta tb) σ H (.bl b) := fun H1 e Q k =>
  ha H1 e _ fun x H2 e2 hx => hb H2 (e.trans e2) _ fun H3 e3 => by
    have hx' := hx.mono e3
    obtain ⟨a, dx, rfl, h1⟩ := id hx'
    exact ⟨a, dx, _, rfl, hy, h1, _, _, p, rfl, hx', hy, k H3 (e2.trans e3)⟩
/-- a flag is what is due -/
def spFlag : Sp := fun vs H Q _ => ∃ a b : Bool, vs = [.bl a, .bl b] ∧ a = b ∧ Q (.bl true) H
theorem flag_spv {a b : Bool} {H : Hp} (h : a = b) : SpV spFlag [.bl a, .bl b] H (.bl true) := fun H1 _ Q q E => ⟨a, b, rfl, h, q H1 (Ex.refl H1)⟩
end Pn

namespace Pn
open PySem L2 Evl
/-- what evaluates to something of which R holds -/
def EvP (te : TE) (σ : L2.St) (H : Hp) (R : V → Hp → Prop) : Prop := ∀ H1, Ex H H1 → ∀ Q : VK, (∀ v H2, Ex H1 H2 → R v H2 → Q v H2) → te σ H1 Q
/-- what a walk goes over: n items, the i-th by Y -/
def Src (wi : TI) (σ : L2.St) (H : Hp) (n : Nat) (Y : Nat → Hp → V → Hp → Prop) : Prop := ∀ H1, Ex H H1 → ∀ R : It → Hp → Prop, (∀ J G H2, Ex H1 H2 → Walk J n G Y → (∀ H3, Ex H2 H3 → G H3) → R J H2) → wi σ H1 R
def MonoR {α : Type} (R : α → V → Hp → Prop) : Prop := ∀ x v H H', Ex H H' → R x v H → R x v H'
def AllR {α : Type} (R : α → V → Hp → Prop) (xs : List α) (vs : List V) (H : Hp) : Prop := vs.length = xs.length ∧ ∀ (i : Nat) x v, xs[i]? = some x → vs[i]? = some v → R x v H
def TupAt {α : Type} (R : α → V → Hp → Prop) (xs : List α) (v : V) (H : Hp) : Prop := ∃ a vs, v = .ref a ∧ H a = some (.tup vs) ∧ AllR R xs vs H
def LstAt {α : Type} (R : α → V → Hp → Prop) (xs : List α) (v : V) (H : Hp) : Prop := ∃ a vs, v = .ref a ∧ H a = some (.lst vs) ∧ AllR R xs vs H
def RQ (C : Addr) : Rat → V → Hp → Prop := fun q v H => RatAt C H v q
def RP : Rat → V → Hp → Prop := fun q v H => PrAt H v q
section
variable {α β : Type} {R : α → V → Hp → Prop} {S : β → V → Hp → Prop} {C : Addr}
theorem mono_rq : MonoR (RQ C) := fun _ _ _ _ e h => h.mono e
theorem mono_rp : MonoR RP := fun _ _ _ _ e h => h.mono e
theorem AllR.mono {xs : List α} {vs : List V} {H H' : Hp} (m : MonoR R) (h : AllR R xs vs H) (e : Ex H H') : AllR R xs vs H' := ⟨h.1, fun i x v h1 h2 => m x v H H' e (h.2 i x v h1 h2)⟩
theorem mono_tup (m : MonoR R) : MonoR (TupAt R) := fun xs v H H' e ⟨a, vs, h1, h2, h3⟩ => ⟨a, vs, h1, e _ _ h2, h3.mono m e⟩
theorem mono_lst (m : MonoR R) : MonoR (LstAt R) := fun xs v H H' e ⟨a, vs, h1, h2, h3⟩ => ⟨a, vs, h1, e _ _ h2, h3.mono m e⟩
/-- the item at a place -/
theorem AllR.get {xs : List α} {vs : List V} {H : Hp} (h : AllR R xs vs H) {i : Nat} {x : α} (hx : xs[i]? = some x) : ∃ v, vs[i]? = some v ∧ R x v H := by
  have hi : i < vs.length := by
    rw [h.1]
    exact (List.getElem?_eq_some_iff.mp hx).1
  exact ⟨vs[i], List.getElem?_eq_getElem hi, h.2 i x _ hx (List.getElem?_eq_getElem hi)⟩
theorem AllR.getV {xs : List α} {vs : List V} {H : Hp} (h : AllR R xs vs H) {i : Nat} {v : V} (hv : vs[i]? = some v) : ∃ x, xs[i]? = some x ∧ R x v H := by
  have hi : i < xs.length := by
    rw [← h.1]
    exact (List.getElem?_eq_some_iff.mp hv).1
  exact ⟨xs[i], List.getElem?_eq_getElem hi, h.2 i _ v (List.getElem?_eq_getElem hi) hv⟩
end
/-! ### comprehensions -/
/-- a new list of n items, the i-th one by S i -/
def NewL (H : Hp) (n : Nat) (S : Nat → V → Hp → Prop) (v : V) (H2 : Hp) : Prop := ∃ p ys, v = .ref p ∧ H p = none ∧ H2 p = some (.lst ys) ∧ ys.length = n ∧ ∀ (i : Nat) y, ys[i]? = some y → S i y H2
/-- kept by whatever is done to a list -/
def Stab (S : V → Hp → Prop) : Prop := ∀ v H H' D xs, (∀ a o, a ≠ D → H a = some o → H' a = some o) → H D = some (.lst xs) → S v H → S v H'
/-- kept by whatever is made -/
def Mono (S : V → Hp → Prop) : Prop := ∀ v H H', Ex H H' → S v H → S v H'
theorem stab_rat {C : Addr} {q : Rat} : Stab (fun v H => RatAt C H v q) := fun v H H' D xs f hD ⟨a, dx, e, h⟩ => ⟨a, dx, e, f _ _ (ne_of h hD fun z => nomatch z) h⟩
theorem stab_pair {i j : Int} : Stab (fun v H => PairAt H v i j) := fun v H H' D xs f hD ⟨a, e, h⟩ => ⟨a, e, f _ _ (ne_of h hD fun z => nomatch z) h⟩
theorem stab_tup {α : Type} {R : α → V → Hp → Prop} (hR : ∀ x, Stab (R x)) {xs : List α} : Stab (TupAt R xs) := fun v H H' D ys f hD ⟨a, vs, e, h, h2⟩ =>
  ⟨a, vs, e, f _ _ (ne_of h hD fun z => nomatch z) h, h2.1, fun i x v h3 h4 => hR x v H H' D ys f hD (h2.2 i x v h3 h4)⟩
theorem mono_rat {C : Addr} {q : Rat} : Mono (fun v H => RatAt C H v q) := fun _ _ _ e h => h.mono e
theorem mono_pair {i j : Int} : Mono (fun v H => PairAt H v i j) := fun _ _ _ e h => h.mono e
theorem evp_lc {wi : TI} {g : TG} {te : TE} {vs : List Nat} {σ : L2.St} {H : Hp} {n : Nat} {Y : Nat → Hp → V → Hp → Prop} {P : Nat → L2.St → Hp → Prop} {S : Nat → V → Hp → Prop}
    (hn : n ≤ 10000) (hsrc : Src wi σ H n Y) (hS : ∀ i, Mono (S i)) (hT : ∀ i, Stab (S i))
    (hitem : ∀ i H1 x H2 (K : L2.St → Hp → Prop), i < n → Ex H H1 → Y i H1 x H2 → (∀ σi H3, Ex H1 H3 → wipe σi vs = wipe σ vs → P i σi H3 → K σi H3) → g x (wipe σ vs) H2 K)
    (he : ∀ i σi H1, i < n → Ex H H1 → P i σi H1 → EvP te σi H1 (S i)) : EvP (tLc wi g tYes te vs) σ H (NewL H n S) := by
  intro H1 e1 Q k
  refine hsrc H1 e1 _ fun J G H2 e2 w hG => fun D hD => ?_
  refine lc_it w (fun i H' => Ex H2 H' ∧ ∃ ys, H' D = some (.lst ys) ∧ ys.length = i ∧ ∀ (j : Nat) y, ys[j]? = some y → S j y H') ⟨Ex.new hD, [], upd_same, rfl, fun j y z => by simp at z⟩ (fun i H' _ p => hG _ p.1) ?_ ?_
  · intro i x H' H'' hi p hy
    obtain ⟨p1, ys, p2, p3, p4⟩ := p
    refine hitem i H' x H'' _ hi ((e1.trans e2).trans p1) hy fun σi H3 e3 hw hP => ⟨hw, ?_⟩
    show te σi H3 _
    refine he i σi H3 hi (((e1.trans e2).trans p1).trans e3) hP H3 (Ex.refl _) _ fun y H4 e4 hSy => ?_
    have e34 := e3.trans e4
    have hD4 := e34 _ _ p2
    refine ⟨ys, hD4, sz_lt (by omega), Ex.mut (p1.trans e34) hD, ys ++ [y], upd_same, by rw [List.length_append, p3]; rfl, fun j z hz => ?_⟩
    have st : ∀ i v, S i v H4 → S i v (upd H4 D (.lst (ys ++ [y]))) := fun i v h => hT i v H4 _ D ys (fun a o ne ha => (upd_ne ne).trans ha) hD4 h
    by_cases hj : j < ys.length
    · rw [List.getElem?_append_left hj] at hz
      exact st j z (hS j z _ _ e34 (p4 j z hz))
    · have hj2 : j = i := by
        have := (List.getElem?_eq_some_iff.mp hz).1
        rw [List.length_append, List.length_singleton] at this
        omega
      subst hj2
      rw [List.getElem?_append_right (by omega), p3, Nat.sub_self] at hz
      simp at hz
      subst hz
      exact st _ _ hSy
  · intro H' p
    obtain ⟨p1, ys, p2, p3, p4⟩ := p
    exact k _ _ (e2.trans p1) ⟨D, ys, rfl, fresh_back (e1.trans e2) hD, p2, p3, p4⟩
end Pn
namespace Pn
open PySem L2 Evl
section
variable {α β γ : Type} {R : α → V → Hp → Prop} {R2 : β → V → Hp → Prop} {K : PySem.W.Frag} {tl te : TE} {σ : L2.St} {H : Hp}
theorem EvP.imp {R S : V → Hp → Prop} (h : EvP te σ H R) (k : ∀ v H', Ex H H' → R v H' → S v H') : EvP te σ H S := fun H1 e Q q => h H1 e Q fun v H2 e2 r => q v H2 e2 (k v H2 (e.trans e2) r)
theorem evp_var {S : V → Hp → Prop} {i : Nat} {v : V} (m : Mono S) (hr : S v H) (h : σ[i]? = some (some v) := by rfl) : EvP (tVar i) σ H S := fun H1 e _ k => ⟨v, h, k _ _ (Ex.refl H1) (m _ _ _ e hr)⟩
theorem evp_of {x : V} (h : Ev te σ H x) : EvP te σ H (fun v _ => v = x) := fun H1 e Q k => h H1 e Q fun H2 e2 => k _ _ e2 rfl
/-- a new tuple out of a new list -/
theorem evp_tup {n : Nat} {S : Nat → V → Hp → Prop} {xs : List α} (h : EvP tl σ H (NewL H n S)) (hn : xs.length = n) (hR : MonoR R) (hS : ∀ i x v H', xs[i]? = some x → S i v H' → R x v H') : EvP (tCB (rTupL K) (tCons tl tNil)) σ H (TupAt R xs) := fun H1 e Q k =>
  h H1 e _ fun v H2 e2 ⟨p, ys, ev, hp, h2, hl, hy⟩ => by
    subst ev
    refine ⟨p, ys, rfl, SqL.of h2, fun l hl0 => k _ _ (e2.trans (Ex.new hl0)) ⟨l, ys, rfl, upd_same, by omega, fun i x v h3 h4 => ?_⟩⟩
    exact hR _ _ _ _ (Ex.new hl0) (hS i x v _ h3 (hy i v h4))
/-- over a tuple -/
theorem src_tup (m : MonoR R) {xs : List α} (h : EvP tl σ H (TupAt R xs)) : Src (iTup K tl) σ H xs.length (fun i H1 v H2 => H2 = H1 ∧ ∃ x, xs[i]? = some x ∧ R x v H1) := fun H1 e S k =>
  h H1 e _ fun v H2 e2 ⟨a, vs, ev, ha, hA⟩ => by
    subst ev
    have z := k (Itt K a) (fun H3 => SqT K H3 a vs ∧ AllR R xs vs H3) H2 e2 (by
      have w := walk_tup (K := K) (a := a) (xs := vs)
      rw [hA.1] at w
      refine w.mono (fun _ g => g.1) fun i H3 v H4 hi g y => ?_
      obtain ⟨y1, y2⟩ := y
      obtain ⟨x, hx, hr⟩ := g.2.getV y2
      exact ⟨y1, x, hx, hr⟩) fun H3 e3 => ⟨ex_t e3 (SqT.of ha), hA.mono m e3⟩
    exact ⟨a, rfl, ⟨vs, SqT.of ha⟩, z⟩
/-- over range(n) -/
theorem src_rng {ta : TA} {n : Nat} (h : EvA ta σ H [.int (n : Int)]) (hn : n ≤ 10000) : Src (iRng1 ta) σ H n (fun i H1 v H2 => H2 = H1 ∧ v = .int (i : Int)) := fun H1 e S k =>
  h H1 e _ fun H2 e2 => by
    have z := k (Itr 0 ((n : Int)).toNat) (fun _ => True) H2 e2 (by
      have w := walk_range (lo := 0) (n := n)
      rw [Int.toNat_natCast]
      refine w.mono (fun _ _ => True.intro) fun i H3 v H4 hi _ y => ?_
      obtain ⟨y1, y2⟩ := y
      dsimp only at y2
      rw [Int.zero_add] at y2
      exact ⟨y1, y2⟩) fun _ _ => True.intro
    exact ⟨_, rfl, by omega, by omega, z⟩
theorem walk_zipT {a b : Addr} {xs ys : List V} {n : Nat} (h1 : xs.length = n) (h2 : ys.length = n) : Walk (RZ.ItzT K a b) n (fun H => SqT K H a xs ∧ SqT K H b ys) (YPair (fun i => xs[i]?) (fun i => ys[i]?)) := by
  refine ⟨fun i _ hi q => ?_, fun _ q => ⟨xs, ys, q.1, q.2, .inl (by omega)⟩, fun i H v H' _ q y => ?_⟩
  · have h3 : i < xs.length := by omega
    have h4 : i < ys.length := by omega
    exact ⟨xs, ys, xs[i], ys[i], q.1, q.2, List.getElem?_eq_getElem h3, List.getElem?_eq_getElem h4⟩
  · obtain ⟨T, x, z, e1, e2, e3, e4, e5⟩ := y
    exact ⟨T, x, z, e1, e2, e3, e4 xs q.1, e5 ys q.2⟩
/-- over zip of two tuples of one length -/
theorem src_zip (m1 : MonoR R) (m2 : MonoR R2) {ta tb : TE} {xs : List α} {ys : List β} (hl : xs.length = ys.length) (ha : EvP ta σ H (TupAt R xs)) (hb : EvP tb σ H (TupAt R2 ys)) :
    Src (RZ.iZipA K (tCons ta (tCons tb tNil))) σ H xs.length (fun i H1 v H2 => ∃ T x y p q, v = .ref T ∧ H1 T = none ∧ H2 = upd H1 T (.tup [x, y]) ∧ xs[i]? = some p ∧ ys[i]? = some q ∧ R p x H1 ∧ R2 q y H1) := fun H1 e S k =>
  ha H1 e _ fun v H2 e2 ⟨a, vs, ev, h2, hA⟩ => hb H2 (e.trans e2) _ fun w H3 e3 ⟨b, ws, ew, h3, hB⟩ => by
    subst ev ew
    have z := k (RZ.ItzT K a b) (fun H4 => (SqT K H4 a vs ∧ SqT K H4 b ws) ∧ AllR R xs vs H4 ∧ AllR R2 ys ws H4) H3 (e2.trans e3) (by
      refine (walk_zipT (K := K) (a := a) (b := b) (xs := vs) (ys := ws) (n := xs.length) hA.1 (by rw [hB.1]; exact hl.symm)).mono (fun _ g => g.1) fun i H3 v H4 hi g y => ?_
      obtain ⟨T, x, y, e1, e2, e3, e4, e5⟩ := y
      obtain ⟨p, hp, hr⟩ := g.2.1.getV e4
      obtain ⟨q, hq, hs⟩ := g.2.2.getV e5
      exact ⟨T, x, y, p, q, e1, e2, e3, hp, hq, hr, hs⟩) fun H4 e4 => ⟨⟨ex_t (e3.trans e4) (SqT.of h2), ex_t e4 (SqT.of h3)⟩, hA.mono m1 (e3.trans e4), hB.mono m2 e4⟩
    exact ⟨a, b, vs, ws, rfl, .inr ⟨ex_t e3 (SqT.of h2), SqT.of h3, z⟩⟩
end
end Pn

namespace Pn
/-! vectors of fractions, in plain Lean -/
def dotQ : List Rat → List Rat → Rat
  | p :: ps, q :: qs => p * q + dotQ ps qs
  | _, _ => 0
def AllS (n : Nat) (qs : List Rat) : Prop := ∀ q ∈ qs, SmB n q
theorem AllS.get {n : Nat} {qs : List Rat} (h : AllS n qs) {i : Nat} {q : Rat} (e : qs[i]? = some q) : SmB n q := h q (List.mem_of_getElem? e)
theorem dotQ_nil (qs : List Rat) : dotQ [] qs = 0 := by unfold dotQ; rfl
theorem dotQ_nil_right (ps : List Rat) : dotQ ps [] = 0 := by cases ps <;> rfl
theorem dotQ_take : ∀ (ps qs : List Rat) (i : Nat) (p q : Rat), ps[i]? = some p → qs[i]? = some q → dotQ (ps.take (i + 1)) (qs.take (i + 1)) = dotQ (ps.take i) (qs.take i) + p * q
  | [], _, i, p, q, h, _ => by simp at h
  | _ :: _, [], i, p, q, _, h => by simp at h
  | a :: ps, b :: qs, 0, p, q, h1, h2 => by
    simp at h1 h2
    subst h1; subst h2
    show a * b + dotQ (ps.take 0) (qs.take 0) = 0 + a * b
    rw [List.take_zero, dotQ_nil]
    grind
  | a :: ps, b :: qs, i + 1, p, q, h1, h2 => by
    have ih := dotQ_take ps qs i p q (by simpa using h1) (by simpa using h2)
    show a * b + dotQ (ps.take (i + 1)) (qs.take (i + 1)) = a * b + dotQ (ps.take i) (qs.take i) + p * q
    rw [ih]
    grind
theorem smB_zero {k : Nat} (h : 0 < k) : SmB k 0 := ⟨Nat.pow_pos (by decide), Nat.one_lt_two_pow (by omega)⟩
theorem dotQ_sm {n m : Nat} : ∀ {ps qs : List Rat}, AllS n ps → AllS m qs → SmB ((n + m + 1) * ps.length + 1) (dotQ ps qs)
  | [], qs, _, _ => by rw [dotQ_nil]; exact smB_zero (by omega)
  | _ :: _, [], _, _ => by rw [dotQ_nil_right]; exact smB_zero (by omega)
  | a :: ps, b :: qs, h1, h2 => by
    have ih := dotQ_sm (ps := ps) (qs := qs) (fun q hq => h1 q (List.mem_cons_of_mem _ hq)) (fun q hq => h2 q (List.mem_cons_of_mem _ hq))
    have s := smB_add (smB_mul (h1 a List.mem_cons_self) (h2 b List.mem_cons_self)) ih
    show SmB _ (a * b + dotQ ps qs)
    refine s.mono ?_
    rw [List.length_cons, Nat.mul_add]
    omega
theorem AllS.take {n : Nat} {qs : List Rat} (h : AllS n qs) (i : Nat) : AllS n (qs.take i) := fun q hq => h q (List.mem_of_mem_take hq)
def addQ (ps qs : List Rat) : List Rat := List.zipWith (· + ·) ps qs
def subQ (ps qs : List Rat) : List Rat := List.zipWith (· - ·) ps qs
def scaleQ (f : Rat) (qs : List Rat) : List Rat := qs.map (f * ·)
def zeroQ (n : Nat) : List Rat := (List.range n).map fun _ => 0
def unitQ (n i : Nat) : List Rat := (List.range n).map fun k => if k = i then 1 else 0
theorem smB_one {k : Nat} (h : 2 ≤ k) : SmB k 1 := ⟨Nat.one_lt_two_pow (by omega), Nat.one_lt_two_pow (by omega)⟩
end Pn

namespace Pn
open PySem L2 Evl
/-- at v stands a vector -/
abbrev VecAt (C : Addr) (qs : List Rat) (v : V) (H : Hp) : Prop := TupAt (RQ C) qs v H
theorem mono_vec {C : Addr} {qs : List Rat} : Mono (VecAt C qs) := fun v H H' e h => mono_tup mono_rq qs v H H' e h
theorem stab_vec {C : Addr} {qs : List Rat} : Stab (VecAt C qs) := stab_tup fun _ => stab_rat
def spDot (C : Addr) : Sp := fun vs H Q _ => ∃ (x y : V) (ps qs : List Rat) (n m : Nat), vs = [x, y] ∧ VecAt C ps x H ∧ VecAt C qs y H ∧ ps.length = qs.length ∧ AllS n ps ∧ AllS m qs ∧ (0 < n ∧ 0 < m ∧ (n + m + 1) * ps.length + 1 ≤ 9000) ∧
  ∀ r H', Ex H H' → RatAt C H' r (dotQ ps qs) → Q r H'
/-- a new value of which R holds -/
def NewV (R : V → Hp → Prop) (H : Hp) (Q : VK) : Prop := ∀ r H', Ex H H' → R r H' → Q r H'
def spScale (C : Addr) : Sp := fun vs H Q _ => ∃ (x y : V) (f : Rat) (qs : List Rat), vs = [x, y] ∧ RatAt C H x f ∧ VecAt C qs y H ∧ qs.length ≤ 10000 ∧ (∀ q ∈ qs, Ok2 f q) ∧ NewV (VecAt C (scaleQ f qs)) H Q
def spVec2 (C : Addr) (f : Rat → Rat → Rat) : Sp := fun vs H Q _ => ∃ (x y : V) (ps qs : List Rat), vs = [x, y] ∧ VecAt C ps x H ∧ VecAt C qs y H ∧ ps.length = qs.length ∧ ps.length ≤ 10000 ∧ (∀ p ∈ ps, ∀ q ∈ qs, Ok2 p q) ∧ NewV (VecAt C (List.zipWith f ps qs)) H Q
def spZero (C : Addr) : Sp := fun vs H Q _ => ∃ (n : Nat), vs = [.int (n : Int)] ∧ n ≤ 10000 ∧ NewV (VecAt C (zeroQ n)) H Q
def spUnit (C : Addr) : Sp := fun vs H Q _ => ∃ (n i : Nat), vs = [.int (n : Int), .int (i : Int)] ∧ n ≤ 10000 ∧ NewV (VecAt C (unitQ n i)) H Q
def spIsZero (C : Addr) : Sp := fun vs H Q _ => ∃ (x : V) (qs : List Rat), vs = [x] ∧ VecAt C qs x H ∧ qs.length ≤ 10000 ∧ ∀ H', Ex H H' → Q (.bl (qs.all fun q => decide (q = 0))) H'
section
variable {C : Addr} {K : PySem.W.Frag} {σ : L2.St} {H : Hp} {te : TE} {D : Ends}
theorem fq_mono {q : Rat} : Mono (fun v H => RatAt C H v q) := mono_rat
theorem s_retP {S : V → Hp → Prop} (h : EvP te σ H S) (k : ∀ v H1, Ex H H1 → S v H1 → D.rt v H1) : tRet te D σ H := h H (Ex.refl H) _ k
theorem sm9 {n m : Nat} {p q : Rat} (h1 : SmB n p) (h2 : SmB m q) (n0 : 0 < n) (m0 : 0 < m) (h : n + m ≤ 9000) : Ok2 p q := ok2_of h1 h2 n0 m0 h
end
theorem zipWith_get {f : Rat → Rat → Rat} {ps qs : List Rat} {i : Nat} {x : Rat} (h : (List.zipWith f ps qs)[i]? = some x) : ∃ p q, ps[i]? = some p ∧ qs[i]? = some q ∧ x = f p q := by
  rw [List.getElem?_zipWith] at h
  cases h1 : ps[i]? with
  | none => rw [h1] at h; simp at h
  | some p =>
    cases h2 : qs[i]? with
    | none => rw [h1, h2] at h; simp at h
    | some q => rw [h1, h2] at h; exact ⟨p, q, rfl, rfl, (Option.some.inj h).symm⟩
theorem map_get {α β : Type} {f : α → β} {xs : List α} {i : Nat} {y : β} (h : (xs.map f)[i]? = some y) : ∃ x, xs[i]? = some x ∧ y = f x := by
  rw [List.getElem?_map] at h
  cases h1 : xs[i]? with
  | none => rw [h1] at h; cases h
  | some x => rw [h1] at h; exact ⟨x, rfl, (Option.some.inj h).symm⟩
theorem range_get {n i k : Nat} (h : (List.range n)[i]? = some k) : k = i ∧ i < n := by
  have hi : i < n := by
    have := (List.getElem?_eq_some_iff.mp h).1
    rwa [List.length_range] at this
  rw [List.getElem?_range hi] at h
  exact ⟨(Option.some.inj h).symm, hi⟩
end Pn
namespace Pn
open PySem L2 Evl
theorem evp_if {S : V → Hp → Prop} {t : TT} {ta tb : TE} {σ : L2.St} {H : Hp} {b : Bool} (h : EvT t σ H b) (h1 : b = true → EvP ta σ H S) (h2 : b = false → EvP tb σ H S) : EvP (tIf t ta tb) σ H S := fun H1 e Q k => h H1 e _ fun H2 e2 => by
  cases b with
  | true =>
    show ta σ H2 Q
    exact h1 rfl H2 (e.trans e2) Q fun v H3 e3 => k v H3 (e2.trans e3)
  | false =>
    show tb σ H2 Q
    exact h2 rfl H2 (e.trans e2) Q fun v H3 e3 => k v H3 (e2.trans e3)
theorem decV {i j : Int} : decide (V.int i = V.int j) = decide (i = j) := decide_eq_decide.mpr ⟨fun h => V.int.inj h, fun h => congrArg V.int h⟩
theorem num_dec (q : Rat) : decide (V.int q.num = V.int 0) = decide (q = 0) := by
  rw [decV]
  exact decide_eq_decide.mpr Rat.num_eq_zero
end Pn
namespace Pn
open PySem L2 Evl
section
variable {K : PySem.W.Frag} {σ : L2.St} {H : Hp} {tl : TE}
theorem bools_eq {n : Nat} {S : Nat → V → Hp → Prop} {bs : List Bool} {ys : List V} {H' : Hp} (hn : bs.length = n) (hl : ys.length = n) (hy : ∀ (i : Nat) y, ys[i]? = some y → S i y H') (hS : ∀ i v H', S i v H' → ∃ b, bs[i]? = some b ∧ v = .bl b) : ys = bs.map V.bl := by
  refine List.ext_getElem? fun i => ?_
  rw [List.getElem?_map]
  by_cases hi : i < ys.length
  · obtain ⟨b, hb, ev⟩ := hS _ _ _ (hy i ys[i] (List.getElem?_eq_getElem hi))
    rw [List.getElem?_eq_getElem hi, hb, ev]
    rfl
  · rw [List.getElem?_eq_none (by omega), List.getElem?_eq_none (by omega)]
    rfl
theorem evp_all {n : Nat} {S : Nat → V → Hp → Prop} {bs : List Bool} (h : EvP tl σ H (NewL H n S)) (hn : bs.length = n) (hS : ∀ i v H', S i v H' → ∃ b, bs[i]? = some b ∧ v = .bl b) : EvP (tCB (rAll K) (tCons tl tNil)) σ H (fun v _ => v = .bl (bs.all id)) := fun H1 e Q k =>
  h H1 e _ fun v H2 e2 ⟨p, ys, ev, hp, h2, hl, hy⟩ => by
    subst ev
    have e3 := bools_eq hn hl hy hS
    subst e3
    exact ⟨p, bs, rfl, SqL.of h2, k _ _ e2 rfl⟩
theorem evp_any {n : Nat} {S : Nat → V → Hp → Prop} {bs : List Bool} (h : EvP tl σ H (NewL H n S)) (hn : bs.length = n) (hS : ∀ i v H', S i v H' → ∃ b, bs[i]? = some b ∧ v = .bl b) : EvP (tCB (rAny K) (tCons tl tNil)) σ H (fun v _ => v = .bl (bs.any id)) := fun H1 e Q k =>
  h H1 e _ fun v H2 e2 ⟨p, ys, ev, hp, h2, hl, hy⟩ => by
    subst ev
    have e3 := bools_eq hn hl hy hS
    subst e3
    exact ⟨p, bs, rfl, SqL.of h2, k _ _ e2 rfl⟩
end
end Pn

namespace Pn
open PySem L2 Evl
section
variable {X : Cx} {K : PySem.W.Frag}
/-- == of two tuples of numbers that are the same -/
theorem op_tupEq (hK : X.K = K) (hr : Room 1 X.A) : OpR X (compareOp .Eq) (rEqG (DTup K DFlat)) := by
  subst hK
  exact op_eqG (rcG_tup mon_flat eqG_flat) hr
end
theorem pair_same {K : PySem.W.Frag} {H : Hp} {a b : Addr} {i j : Int} (h1 : H a = some (.tup [.int i, .int j])) (h2 : H b = some (.tup [.int i, .int j])) : DTup K DFlat (.ref a) (.ref b) H := by
  refine ⟨a, b, _, _, rfl, rfl, SqT.of h1, SqT.of h2, ?_⟩
  refine Prs.cons ⟨rfl, rfl, ?_⟩ (Prs.cons ⟨rfl, rfl, ?_⟩ Prs.nil)
  · simp [eqV]
  · simp [eqV]
def spIs (C : Addr) : Sp := fun vs H Q _ => ∃ (x y : V) (q : Rat), vs = [x, y] ∧ RatAt C H x q ∧ PrAt H y q ∧ ∀ H', Ex H H' → Q (.bl true) H'
def spPairBin (f : Rat → Rat → Rat) : Sp := fun vs H Q _ => ∃ (x y : V) (p q : Rat), vs = [x, y] ∧ PrAt H x p ∧ PrAt H y q ∧ Ok2 p q ∧ NewPr H (f p q) Q
/-! ### lists that the law made: their places are not the state's -/
/-- at v stands a list of what R says, not at one of the places in B -/
def RowAt {α : Type} (B : Addr → Prop) (R : α → V → Hp → Prop) (xs : List α) (v : V) (H : Hp) : Prop := ∃ a vs, v = .ref a ∧ ¬ B a ∧ H a = some (.lst vs) ∧ AllR R xs vs H
theorem RowAt.lst {α : Type} {B : Addr → Prop} {R : α → V → Hp → Prop} {xs : List α} {v : V} {H : Hp} (h : RowAt B R xs v H) : LstAt R xs v H := let ⟨a, vs, e, _, h1, h2⟩ := h; ⟨a, vs, e, h1, h2⟩
/-- what is kept while lists at B change -/
def Kept {α : Type} (B : Addr → Prop) (R : α → V → Hp → Prop) : Prop := ∀ x v H H', (∀ b, B b → ∃ xs, H b = some (.lst xs)) → (∀ a o, ¬ B a → H a = some o → H' a = some o) → R x v H → R x v H'
theorem kept_rp {B : Addr → Prop} : Kept B RP := fun q v H H' hB f ⟨a, e, h⟩ => ⟨a, e, f _ _ (fun b => by obtain ⟨xs, z⟩ := hB a b; rw [h] at z; cases z) h⟩
theorem kept_rq {B : Addr → Prop} {C : Addr} : Kept B (RQ C) := fun q v H H' hB f ⟨a, dx, e, h⟩ => ⟨a, dx, e, f _ _ (fun b => by obtain ⟨xs, z⟩ := hB a b; rw [h] at z; cases z) h⟩
theorem AllR.kept {α : Type} {B : Addr → Prop} {R : α → V → Hp → Prop} (k : Kept B R) {xs : List α} {vs : List V} {H H' : Hp} (hB : ∀ b, B b → ∃ xs, H b = some (.lst xs)) (f : ∀ a o, ¬ B a → H a = some o → H' a = some o) (h : AllR R xs vs H) : AllR R xs vs H' :=
  ⟨h.1, fun i x v h1 h2 => k x v H H' hB f (h.2 i x v h1 h2)⟩
theorem kept_row {α : Type} {B : Addr → Prop} {R : α → V → Hp → Prop} (k : Kept B R) : Kept B (RowAt B R) := fun xs v H H' hB f ⟨a, vs, e, n, h, h2⟩ => ⟨a, vs, e, n, f _ _ n h, h2.kept k hB f⟩
theorem kept_tup {α : Type} {B : Addr → Prop} {R : α → V → Hp → Prop} (k : Kept B R) : Kept B (TupAt R) := fun xs v H H' hB f ⟨a, vs, e, h, h2⟩ => ⟨a, vs, e, f _ _ (fun b => by obtain ⟨xs, z⟩ := hB a b; rw [h] at z; cases z) h, h2.kept k hB f⟩
/-- the state's place alone -/
abbrev Bs (st : Addr × Addr) : Addr → Prop := fun a => a = st.1
theorem Kept.frS {α : Type} {R : α → V → Hp → Prop} {st : Addr × Addr} {c : Nat} {H H' : Hp} {x : α} {v : V} (k : Kept (Bs st) R) (h : R x v H) (s : StAt st c H) (f : FrS st H H') : R x v H' :=
  k x v H H' (fun b hb => by obtain ⟨items, n, h1, _⟩ := s; exact ⟨_, by rw [hb]; exact h1⟩) (fun a o n ha => f a o n ha) h
theorem mono_row {α : Type} {B : Addr → Prop} {R : α → V → Hp → Prop} (m : MonoR R) : MonoR (RowAt B R) := fun xs v H H' e ⟨a, vs, h1, n, h2, h3⟩ => ⟨a, vs, h1, n, e _ _ h2, h3.mono m e⟩
def spRow : Sp := fun vs H Q _ => ∃ (st : Addr × Addr) (c n : Nat), vs = [.ref st.1, .int (n : Int)] ∧ StAt st c H ∧ n ≤ 1000 ∧ c + 4 * n + 5 < cMax ∧ ∀ qs v H', qs.length = n → AllS 40 qs → RowAt (Bs st) RP qs v H' → (∃ a, v = .ref a ∧ H a = none) → StAt st (c + 4 * n + 1) H' → FrS st H H' → Q v H'
/-! ### a comprehension whose element takes of the state -/
theorem lc_state {st : Addr × Addr} {c n cost j : Nat} {te : TE} {vs : List Nat} {σ : L2.St} {H : Hp} {ta : TA} {S : Addr → Nat → V → Hp → Prop} {Q : VK} (h : EvA ta σ H [.int (n : Int)]) (hn : n ≤ 10000) (s0 : StAt st c H)
    (hw : ∀ x, wipe ((wipe σ vs).set j (some x)) vs = wipe σ vs)
    (he : ∀ (i : Nat) (D : Addr) (H' : Hp) (K : VK), i < n → StAt st (c + cost * i) H' → FrS st H H' → D ≠ st.1 → (∃ ys, H' D = some (.lst ys)) → H D = none → (∀ (v : V) (H2 : Hp), StAt st (c + cost * (i + 1)) H2 → FrS st H' H2 → S D i v H2 → K v H2) → te ((wipe σ vs).set j (some (.int (i : Int)))) H' K)
    (hS : ∀ (D : Addr) (i : Nat) (v : V) (H' H2 : Hp) (c : Nat), StAt st c H' → FrS st H' H2 → S D i v H' → S D i v H2) (hD : ∀ (D : Addr) (i : Nat) (v : V) (H' : Hp) (ys zs : List V), H' D = some (.lst ys) → S D i v H' → S D i v (upd H' D (.lst zs)))
    (k : ∀ (D : Addr) (ys : List V) (H' : Hp), D ≠ st.1 → H D = none → StAt st (c + cost * n) H' → FrS st H H' → H' D = some (.lst ys) → ys.length = n → (∀ (i : Nat) y, ys[i]? = some y → S D i y H') → Q (.ref D) H') :
    tLc (iRng1 ta) (gName j) tYes te vs σ H Q := by
  refine h H (Ex.refl _) _ fun H1 e1 => ⟨n, rfl, by omega, by omega, fun D hD0 => ?_⟩
  have hDH : H D = none := fresh_back e1 hD0
  have nD : D ≠ st.1 := s0.fresh hDH
  have eN : Ex H1 (upd H1 D (.lst [])) := Ex.new hD0
  have w := walk_range (lo := 0) (n := n)
  refine lc_it (w := by rw [Int.toNat_natCast]; exact w) (fun i H' => StAt st (c + cost * i) H' ∧ FrS st H H' ∧ ∃ ys, H' D = some (.lst ys) ∧ ys.length = i ∧ ∀ (m : Nat) y, ys[m]? = some y → S D m y H')
    ⟨s0.ex (e1.trans eN), .of (e1.trans eN), [], upd_same, rfl, fun m y z => by simp at z⟩ (fun _ _ _ _ => True.intro) ?_ ?_
  · rintro i x H' H2 hi ⟨p1, p2, ys, p3, p4, p5⟩ ⟨y1, y2⟩
    dsimp only at y2
    rw [Int.zero_add] at y2
    subst y1 y2
    refine ⟨hw _, ?_⟩
    show te _ H2 _
    refine he i D H2 _ hi p1 p2 nD ⟨ys, p3⟩ hDH fun v H3 q1 q2 q3 => ?_
    have d3 := q2 _ _ nD p3
    refine ⟨ys, d3, sz_lt (by omega), ?_, ?_, ys ++ [v], upd_same, by rw [List.length_append, p4]; rfl, fun m z hz => ?_⟩
    · obtain ⟨items, m, h1, h2, h3, h4, h5, h6⟩ := q1
      exact ⟨items, m, (upd_ne nD.symm).trans h1, (upd_ne (s0.fresh2 hDH).symm).trans h2, h3, h4, h5, h6⟩
    · intro a o na ha
      rw [upd_ne (ne_of_none ha hDH)]
      exact q2 a o na (p2 a o na ha)
    · by_cases hm : m < ys.length
      · rw [List.getElem?_append_left hm] at hz
        exact hD D m z H3 ys _ d3 (hS D m z H2 H3 _ p1 q2 (p5 m z hz))
      · have hm2 : m = i := by
          have := (List.getElem?_eq_some_iff.mp hz).1
          rw [List.length_append, List.length_singleton] at this
          omega
        subst hm2
        rw [List.getElem?_append_right (by omega), p4, Nat.sub_self] at hz
        simp at hz
        subst hz
        exact hD D _ _ H3 ys _ d3 q3
  · rintro H' ⟨p1, p2, ys, p3, p4, p5⟩
    exact k D ys H' nD hDH p1 p2 p3 p4 p5
end Pn
namespace Pn
open PySem L2 Evl
theorem pick {α : Type} {P : V → α → Prop} : ∀ {ys : List V}, (∀ (i : Nat) y, ys[i]? = some y → ∃ q, P y q) → ∃ qs : List α, qs.length = ys.length ∧ ∀ (i : Nat) y q, ys[i]? = some y → qs[i]? = some q → P y q
  | [], _ => ⟨[], rfl, fun i y q h => by simp at h⟩
  | a :: ys, h => by
    obtain ⟨q, hq⟩ := h 0 a rfl
    obtain ⟨qs, h1, h2⟩ := pick (ys := ys) fun i y hy => h (i + 1) y (by simpa using hy)
    refine ⟨q :: qs, by rw [List.length_cons, List.length_cons, h1], fun i y z hy hz => ?_⟩
    cases i with
    | zero =>
      simp at hy hz
      subst hy; subst hz
      exact hq
    | succ i => exact h2 i y z (by simpa using hy) (by simpa using hz)
theorem q_asgT {te : TE} {tz : TS} {D : Ends} {σ : L2.St} {H : Hp} {i : Nat} (h : te σ H fun v H' => tz D (σ.set i (some v)) H') : tSeq (tAsg te (gName i)) tz D σ H := h
theorem s_asgT {te : TE} {D : Ends} {σ : L2.St} {H : Hp} {i : Nat} (h : te σ H fun v H' => D.nx (σ.set i (some v)) H') : tAsg te (gName i) D σ H := h
theorem flat_rep {α : Type} (n : Nat) (x : α) : (List.replicate n [x]).flatten = List.replicate n x := by
  induction n with
  | zero => rfl
  | succ n ih => rw [List.replicate_succ, List.flatten_cons, ih, List.replicate_succ]; rfl
theorem allR_rep {α : Type} {R : α → V → Hp → Prop} {n : Nat} {x : α} {v : V} {H : Hp} (h : R x v H) : AllR R (List.replicate n x) (List.replicate n v) H := by
  refine ⟨by rw [List.length_replicate, List.length_replicate], fun i a b h1 h2 => ?_⟩
  rw [(List.mem_replicate.mp (List.mem_of_getElem? h1)).2, (List.mem_replicate.mp (List.mem_of_getElem? h2)).2]
  exact h
section
variable {α β : Type} {R : α → V → Hp → Prop} {K : PySem.W.Frag} {tl te ta tb : TE} {σ : L2.St} {H : Hp} {E : XK} {sp : Sp} {S S1 S2 S' : V → Hp → Prop}
theorem src_list (m : MonoR R) {xs : List α} (h : EvP tl σ H (LstAt R xs)) : Src (iList K tl) σ H xs.length (fun i H1 v H2 => H2 = H1 ∧ ∃ x, xs[i]? = some x ∧ R x v H1) := fun H1 e S k =>
  h H1 e _ fun v H2 e2 ⟨a, vs, ev, ha, hA⟩ => by
    subst ev
    have z := k (Itl K a) (fun H3 => SqL K H3 a vs ∧ AllR R xs vs H3) H2 e2 (by
      have w := walk_list (K := K) (a := a) (xs := vs)
      rw [hA.1] at w
      refine w.mono (fun _ g => g.1) fun i H3 v H4 hi g y => ?_
      obtain ⟨y1, y2⟩ := y
      obtain ⟨x, hx, hr⟩ := g.2.getV y2
      exact ⟨y1, x, hx, hr⟩) fun H3 e3 => ⟨ex_l e3 (SqL.of ha), hA.mono m e3⟩
    exact ⟨a, rfl, ⟨vs, SqL.of ha⟩, z⟩
theorem evp_call1 (ha : EvP ta σ H S) (hs : ∀ v H1, Ex H H1 → S v H1 → ∀ (Q : VK) (E : XK), (∀ r H2, Ex H1 H2 → S' r H2 → Q r H2) → sp [v] H1 Q E) : EvP (tCall sp [] E (tCons ta tNil)) σ H S' := fun H1 e Q k =>
  ha H1 e _ fun v H2 e2 hv => hs v H2 (e.trans e2) hv Q E fun r H3 e3 hr => k r H3 (e2.trans e3) hr
theorem evp_call2 (m : Mono S1) (ha : EvP ta σ H S1) (hb : EvP tb σ H S2) (hs : ∀ v w H1, Ex H H1 → S1 v H1 → S2 w H1 → ∀ (Q : VK) (E : XK), (∀ r H2, Ex H1 H2 → S' r H2 → Q r H2) → sp [v, w] H1 Q E) : EvP (tCall sp [] E (tCons ta (tCons tb tNil))) σ H S' := fun H1 e Q k =>
  ha H1 e _ fun v H2 e2 hv => hb H2 (e.trans e2) _ fun w H3 e3 hw => hs v w H3 ((e.trans e2).trans e3) (m _ _ _ e3 hv) hw Q E fun r H4 e4 hr => k r H4 ((e2.trans e3).trans e4) hr
theorem ev_of {x : V} (h : EvP te σ H (fun v _ => v = x)) : Ev te σ H x := fun H1 e Q k => h H1 e Q fun v H2 e2 ev => by
  subst ev
  exact k H2 e2
theorem evp_ixT {xs : List α} {i : Nat} {x : α} (m : MonoR R) (ha : EvP ta σ H (TupAt R xs)) (hb : Ev tb σ H (.int (i : Int))) (hx : xs[i]? = some x) : EvP (tOp (rIxT K) ta tb) σ H (R x) := fun H1 e Q k =>
  ha H1 e _ fun v H2 e2 ⟨a, vs, ev, h, hA⟩ => hb H2 (e.trans e2) _ fun H3 e3 => by
    subst ev
    obtain ⟨w, hw, hr⟩ := hA.get hx
    exact ⟨a, vs, i, w, rfl, rfl, SqT.of (e3 _ _ h), atI_nat hw, k w H3 (e2.trans e3) (m _ _ _ _ e3 hr)⟩
theorem evp_ixL {xs : List α} {i : Nat} {x : α} (m : MonoR R) (ha : EvP ta σ H (LstAt R xs)) (hb : Ev tb σ H (.int (i : Int))) (hx : xs[i]? = some x) : EvP (tOp (rIxL K) ta tb) σ H (R x) := fun H1 e Q k =>
  ha H1 e _ fun v H2 e2 ⟨a, vs, ev, h, hA⟩ => hb H2 (e.trans e2) _ fun H3 e3 => by
    subst ev
    obtain ⟨w, hw, hr⟩ := hA.get hx
    exact ⟨a, vs, i, w, rfl, rfl, SqL.of (e3 _ _ h), atI_nat hw, k w H3 (e2.trans e3) (m _ _ _ _ e3 hr)⟩
theorem ev_lenT {xs : List α} (ha : EvP ta σ H (TupAt R xs)) : Ev (tCB (rLen2 K) (tCons ta tNil)) σ H (.int (xs.length : Int)) := fun H1 e Q k =>
  ha H1 e _ fun v H2 e2 ⟨a, vs, ev, h, hA⟩ => by
    subst ev
    refine ⟨a, vs, rfl, .inr (SqT.of h), ?_⟩
    rw [hA.1]
    exact k H2 e2
theorem ev_lenL {xs : List α} (ha : EvP ta σ H (LstAt R xs)) : Ev (tCB (rLen2 K) (tCons ta tNil)) σ H (.int (xs.length : Int)) := fun H1 e Q k =>
  ha H1 e _ fun v H2 e2 ⟨a, vs, ev, h, hA⟩ => by
    subst ev
    refine ⟨a, vs, rfl, .inl (SqL.of h), ?_⟩
    rw [hA.1]
    exact k H2 e2
/-- a comprehension whose test never holds -/
theorem evp_lc0 {wi : TI} {g : TG} {tt : TT} {vs : List Nat} {n : Nat} {Y : Nat → Hp → V → Hp → Prop} {P : Nat → L2.St → Hp → Prop} (hsrc : Src wi σ H n Y)
    (hitem : ∀ (i : Nat) (H1 : Hp) (x : V) (H2 : Hp) (K : L2.St → Hp → Prop), i < n → Ex H H1 → Y i H1 x H2 → (∀ σi H3, Ex H1 H3 → wipe σi vs = wipe σ vs → P i σi H3 → K σi H3) → g x (wipe σ vs) H2 K)
    (ht : ∀ i σi H1, i < n → Ex H H1 → P i σi H1 → EvT tt σi H1 false) : EvP (tLc wi g tt te vs) σ H (fun v H2 => ∃ p, v = .ref p ∧ H2 p = some (.lst [])) := by
  intro H1 e1 Q k
  refine hsrc H1 e1 _ fun J G H2 e2 w hG => fun D hD => ?_
  refine lc_it w (fun i H' => Ex H2 H' ∧ H' D = some (.lst [])) ⟨Ex.new hD, upd_same⟩ (fun i H' _ p => hG _ p.1) ?_ ?_
  · intro i x H' H'' hi p hy
    refine hitem i H' x H'' _ hi ((e1.trans e2).trans p.1) hy fun σi H3 e3 hw hP => ⟨hw, ?_⟩
    refine ht i σi H3 hi (((e1.trans e2).trans p.1).trans e3) hP H3 (Ex.refl _) _ fun H4 e4 => ?_
    exact ifF rfl ⟨(p.1.trans e3).trans e4, e4 _ _ (e3 _ _ p.2)⟩
  · intro H' p
    exact k _ _ (e2.trans p.1) ⟨D, rfl, p.2⟩
end
def spVector (C : Addr) : Sp := fun vs H Q _ => ∃ (x : V) (qs : List Rat), vs = [x] ∧ LstAt RP qs x H ∧ qs.length ≤ 10000 ∧ (∀ q ∈ qs, q.den < 2 ^ 9000) ∧ NewV (VecAt C qs) H Q
def spVecIs (C : Addr) : Sp := fun vs H Q _ => ∃ (x y : V) (qs : List Rat), vs = [x, y] ∧ VecAt C qs x H ∧ LstAt RP qs y H ∧ qs.length ≤ 10000 ∧ ∀ H', Ex H H' → Q (.bl true) H'
def spLDot : Sp := fun vs H Q _ => ∃ (x y : V) (ps qs : List Rat) (n m : Nat), vs = [x, y] ∧ LstAt RP ps x H ∧ LstAt RP qs y H ∧ ps.length = qs.length ∧ AllS n ps ∧ AllS m qs ∧ (0 < n ∧ 0 < m ∧ (n + m + 1) * (ps.length + 1) + 1 ≤ 9000) ∧ NewV (fun v H' => PrAt H' v (dotQ ps qs)) H Q
end Pn
namespace Pn
open PySem L2 Evl
theorem ev_len0 {K : PySem.W.Frag} {tl : TE} {σ : L2.St} {H : Hp} (h : EvP tl σ H (fun v H2 => ∃ p, v = .ref p ∧ H2 p = some (.lst []))) : Ev (tCB (rLen2 K) (tCons tl tNil)) σ H (.int 0) := fun H1 e Q k =>
  h H1 e _ fun v H2 e2 ⟨p, ep, hp⟩ => by
    subst ep
    exact ⟨p, [], rfl, .inl (SqL.of hp), k H2 e2⟩
end Pn

namespace Pn
open PySem L2 Evl
section
variable {α β : Type} {R : α → V → Hp → Prop} {S : β → V → Hp → Prop} {C : Addr} {K : PySem.W.Frag} {tl te ta tb : TE} {σ : L2.St} {H : Hp} {E : XK} {p q : Rat} {ps qs : List Rat}
theorem mono_lrp {qs : List Rat} : Mono (LstAt RP qs) := fun v H H' e h => mono_lst mono_rp qs v H H' e h
theorem ev_is2 (ha : EvP ta σ H (fun v H => RatAt C H v q)) (hb : EvP tb σ H (fun v H => PrAt H v q)) : Ev (tCall (spIs C) [] E (tCons ta (tCons tb tNil))) σ H (.bl true) :=
  ev_of (evp_call2 mono_rat ha hb fun v w H1 _ r1 r2 Q2 E2 k2 => ⟨v, w, q, rfl, r1, r2, fun H4 e4 => k2 _ _ e4 rfl⟩)
theorem ev_vis (ha : EvP ta σ H (VecAt C qs)) (hb : EvP tb σ H (LstAt RP qs)) (hz : qs.length ≤ 10000) : Ev (tCall (spVecIs C) [] E (tCons ta (tCons tb tNil))) σ H (.bl true) :=
  ev_of (evp_call2 mono_vec ha hb fun v w H1 _ r1 r2 Q2 E2 k2 => ⟨v, w, qs, rfl, r1, r2, hz, fun H4 e4 => k2 _ _ e4 rfl⟩)
theorem evp_dot {n m : Nat} (ha : EvP ta σ H (VecAt C ps)) (hb : EvP tb σ H (VecAt C qs)) (hl : ps.length = qs.length) (s1 : AllS n ps) (s2 : AllS m qs) (n0 : 0 < n) (m0 : 0 < m) (hs : (n + m + 1) * ps.length + 1 ≤ 9000) : EvP (tCall (spDot C) [] E (tCons ta (tCons tb tNil))) σ H (fun v H => RatAt C H v (dotQ ps qs)) :=
  evp_call2 mono_vec ha hb fun v w H1 _ r1 r2 Q2 E2 k2 => ⟨v, w, ps, qs, n, m, rfl, r1, r2, hl, s1, s2, ⟨n0, m0, hs⟩, k2⟩
theorem evp_ldot {n m : Nat} (ha : EvP ta σ H (LstAt RP ps)) (hb : EvP tb σ H (LstAt RP qs)) (hl : ps.length = qs.length) (s1 : AllS n ps) (s2 : AllS m qs) (n0 : 0 < n) (m0 : 0 < m) (hs : (n + m + 1) * (ps.length + 1) + 1 ≤ 9000) : EvP (tCall spLDot [] E (tCons ta (tCons tb tNil))) σ H (fun v H => PrAt H v (dotQ ps qs)) :=
  evp_call2 mono_lrp ha hb fun v w H1 _ r1 r2 Q2 E2 k2 => ⟨v, w, ps, qs, n, m, rfl, r1, r2, hl, s1, s2, ⟨n0, m0, hs⟩, k2⟩
theorem evp_scale (ha : EvP ta σ H (fun v H => RatAt C H v p)) (hb : EvP tb σ H (VecAt C qs)) (hz : qs.length ≤ 10000) (ho : ∀ q ∈ qs, Ok2 p q) : EvP (tCall (spScale C) [] E (tCons ta (tCons tb tNil))) σ H (VecAt C (scaleQ p qs)) :=
  evp_call2 mono_rat ha hb fun v w H1 _ r1 r2 Q2 E2 k2 => ⟨v, w, p, qs, rfl, r1, r2, hz, ho, k2⟩
theorem evp_vec2 {f : Rat → Rat → Rat} (ha : EvP ta σ H (VecAt C ps)) (hb : EvP tb σ H (VecAt C qs)) (hl : ps.length = qs.length) (hz : ps.length ≤ 10000) (ho : ∀ p ∈ ps, ∀ q ∈ qs, Ok2 p q) : EvP (tCall (spVec2 C f) [] E (tCons ta (tCons tb tNil))) σ H (VecAt C (List.zipWith f ps qs)) :=
  evp_call2 mono_vec ha hb fun v w H1 _ r1 r2 Q2 E2 k2 => ⟨v, w, ps, qs, rfl, r1, r2, hl, hz, ho, k2⟩
theorem evp_zero {n : Nat} (ha : Ev ta σ H (.int (n : Int))) (hz : n ≤ 10000) : EvP (tCall (spZero C) [] E (tCons ta tNil)) σ H (VecAt C (zeroQ n)) :=
  evp_call1 (evp_of ha) fun v H1 _ ev Q2 E2 k2 => by subst ev; exact ⟨n, rfl, hz, k2⟩
theorem evp_unit {n i : Nat} (ha : Ev ta σ H (.int (n : Int))) (hb : Ev tb σ H (.int (i : Int))) (hz : n ≤ 10000) : EvP (tCall (spUnit C) [] E (tCons ta (tCons tb tNil))) σ H (VecAt C (unitQ n i)) :=
  evp_call2 (fun _ _ _ _ h => h) (evp_of ha) (evp_of hb) fun v w H1 _ ev ew Q2 E2 k2 => by subst ev ew; exact ⟨n, i, rfl, hz, k2⟩
theorem evp_made (ha : EvP ta σ H (fun v H => PrAt H v q)) (hd : q.den < 2 ^ 9000) : EvP (tCall (spMade C) [] E (tCons ta tNil)) σ H (fun v H => RatAt C H v q) :=
  evp_call1 ha fun v H1 _ pv Q2 E2 k2 => ⟨v, q, rfl, pv, hd, fun r H2 e2 _ rr => k2 r H2 e2 rr⟩
theorem evp_vector (ha : EvP ta σ H (LstAt RP qs)) (hz : qs.length ≤ 10000) (hd : ∀ q ∈ qs, q.den < 2 ^ 9000) : EvP (tCall (spVector C) [] E (tCons ta tNil)) σ H (VecAt C qs) :=
  evp_call1 ha fun v H1 _ pv Q2 E2 k2 => ⟨v, qs, rfl, pv, hz, hd, k2⟩
theorem evp_pbin {f : Rat → Rat → Rat} (ha : EvP ta σ H (fun v H => PrAt H v p)) (hb : EvP tb σ H (fun v H => PrAt H v q)) (o : Ok2 p q) : EvP (tCall (spPairBin f) [] E (tCons ta (tCons tb tNil))) σ H (fun v H => PrAt H v (f p q)) :=
  evp_call2 mono_pair ha hb fun v w H1 _ r1 r2 Q2 E2 k2 => ⟨v, w, p, q, rfl, r1, r2, o, fun r H2 e2 _ rr => k2 r H2 e2 rr⟩
theorem evp_pairI {i j : Int} (ha : Ev ta σ H (.int i)) (hb : Ev tb σ H (.int j)) : EvP (tTup (tCons ta (tCons tb tNil))) σ H (fun v H => PairAt H v i j) := fun H1 e Q k =>
  ha H1 e _ fun H2 e2 => hb H2 (e.trans e2) _ fun H3 e3 => ⟨by show 2 ≤ sizeLine; decide, fun p hp => k _ _ ((e2.trans e3).trans (Ex.new hp)) ⟨p, rfl, upd_same⟩⟩
theorem ev_p0 (ha : EvP ta σ H (fun v H => PrAt H v q)) : Ev (tOp (rIxT K) ta (tC (.int 0))) σ H (.int q.num) := fun H1 e Q k =>
  ha H1 e _ fun v H2 e2 ⟨a, ev, h⟩ => by
    subst ev
    exact ⟨a, _, _, _, rfl, rfl, SqT.of h, atI_nat (j := 0) rfl, k H2 e2⟩
theorem ev_p1 (ha : EvP ta σ H (fun v H => PrAt H v q)) : Ev (tOp (rIxT K) ta (tC (.int 1))) σ H (.int (q.den : Int)) := fun H1 e Q k =>
  ha H1 e _ fun v H2 e2 ⟨a, ev, h⟩ => by
    subst ev
    exact ⟨a, _, _, _, rfl, rfl, SqT.of h, atI_nat (j := 1) rfl, k H2 e2⟩
/-! ### comprehensions that turn each item -/
theorem newL_lst {n : Nat} {xs : List β} (hn : xs.length = n) {v : V} {H H' : Hp} (h : NewL H n (fun i v H => ∃ y, xs[i]? = some y ∧ S y v H) v H') : LstAt S xs v H' := by
  obtain ⟨p, ys, ev, hp, h2, hl, hy⟩ := h
  refine ⟨p, ys, ev, h2, by omega, fun i x w h3 h4 => ?_⟩
  obtain ⟨y, h5, h6⟩ := hy i w h4
  rw [h3] at h5
  cases h5
  exact h6
theorem evp_mapL {f : α → β} {j : Nat} {vs : List Nat} {xs : List α} (mR : MonoR R) (mS : MonoR S) (sS : ∀ y, Stab (S y)) (h : EvP tl σ H (LstAt R xs)) (hz : xs.length ≤ 10000) (hw : ∀ v, wipe ((wipe σ vs).set j (some v)) vs = wipe σ vs)
    (he : ∀ v x H1, Ex H H1 → x ∈ xs → R x v H1 → EvP te ((wipe σ vs).set j (some v)) H1 (S (f x))) : EvP (tLc (iList K tl) (gName j) tYes te vs) σ H (LstAt S (xs.map f)) :=
  EvP.imp (evp_lc (P := fun i σi H1 => ∃ v x, σi = (wipe σ vs).set j (some v) ∧ xs[i]? = some x ∧ R x v H1) (S := fun i v H => ∃ y, (xs.map f)[i]? = some y ∧ S y v H) hz (src_list mR h)
    (fun i v H1 H2 e ⟨y, h1, h2⟩ => ⟨y, h1, mS _ _ _ _ e h2⟩) (fun i v H1 H2 D zs fr hD ⟨y, h1, h2⟩ => ⟨y, h1, sS y v H1 H2 D zs fr hD h2⟩)
    (fun i H1 v H2 kk hi e ⟨e2, x, hx, hr⟩ kz => by subst e2; exact kz _ _ (Ex.refl _) (hw v) ⟨v, x, rfl, hx, hr⟩)
    (fun i σi H1 hi e ⟨v, x, e1, hx, hr⟩ => by
      subst e1
      exact EvP.imp (he v x H1 e (List.mem_of_getElem? hx) hr) fun w H2 _ r => ⟨f x, by rw [List.getElem?_map, hx]; rfl, r⟩))
    fun v H' _ r => newL_lst (by rw [List.length_map]) r
theorem evp_mapR {f : Nat → β} {j n : Nat} {vs : List Nat} {t1 : TA} (mS : MonoR S) (sS : ∀ y, Stab (S y)) (h : EvA t1 σ H [.int (n : Int)]) (hz : n ≤ 10000) (hw : ∀ v, wipe ((wipe σ vs).set j (some v)) vs = wipe σ vs)
    (he : ∀ (i : Nat) H1, Ex H H1 → i < n → EvP te ((wipe σ vs).set j (some (.int (i : Int)))) H1 (S (f i))) : EvP (tLc (iRng1 t1) (gName j) tYes te vs) σ H (LstAt S ((List.range n).map f)) :=
  EvP.imp (evp_lc (P := fun i σi H1 => σi = (wipe σ vs).set j (some (.int (i : Int)))) (S := fun i v H => ∃ y, ((List.range n).map f)[i]? = some y ∧ S y v H) hz (src_rng h hz)
    (fun i v H1 H2 e ⟨y, h1, h2⟩ => ⟨y, h1, mS _ _ _ _ e h2⟩) (fun i v H1 H2 D zs fr hD ⟨y, h1, h2⟩ => ⟨y, h1, sS y v H1 H2 D zs fr hD h2⟩)
    (fun i H1 v H2 kk hi e ⟨e2, ev⟩ kz => by subst e2 ev; exact kz _ _ (Ex.refl _) (hw _) rfl)
    (fun i σi H1 hi e e1 => by
      subst e1
      exact EvP.imp (he i H1 e hi) fun w H2 _ r => ⟨f i, by rw [List.getElem?_map, List.getElem?_range hi]; rfl, r⟩))
    fun v H' _ r => newL_lst (by rw [List.length_map, List.length_range]) r
/-- a comprehension that keeps some: how many -/
theorem ev_count {f : α → Bool} {j : Nat} {vs : List Nat} {xs : List α} {tt : TT} (mR : MonoR R) (h : EvP tl σ H (LstAt R xs)) (hz : xs.length ≤ 10000) (hw : ∀ v, wipe ((wipe σ vs).set j (some v)) vs = wipe σ vs) (hj : ∀ v, ((wipe σ vs).set j (some v))[j]? = some (some v))
    (ht : ∀ v x H1, Ex H H1 → x ∈ xs → R x v H1 → EvT tt ((wipe σ vs).set j (some v)) H1 (f x)) : Ev (tCB (rLen2 K) (tCons (tLc (iList K tl) (gName j) tt (tVar j) vs) tNil)) σ H (.int ((xs.filter f).length : Int)) := by
  intro H0 e0 Q k
  show tLc (iList K tl) (gName j) tt (tVar j) vs σ H0 (fun v H' => rLen2 K [v] H' Q)
  refine src_list (K := K) mR h H0 e0 _ fun J G H2 e2 w hG => fun D hD => ?_
  refine lc_it w (fun i H' => Ex H2 H' ∧ ∃ ys, H' D = some (.lst ys) ∧ ys.length = ((xs.take i).filter f).length) ⟨Ex.new hD, [], upd_same, by simp⟩ (fun i H' _ p => hG _ p.1) ?_ ?_
  · rintro i v H' H'' hi ⟨p1, ys, p2, p3⟩ ⟨y1, x, hx, hr⟩
    subst y1
    refine ⟨hw v, ?_⟩
    refine ht v x H'' ((e0.trans e2).trans p1) (List.mem_of_getElem? hx) hr H'' (Ex.refl _) _ fun H4 e4 => ?_
    have htk : xs.take (i + 1) = xs.take i ++ [x] := by rw [List.take_succ, hx]; rfl
    have hle : ys.length ≤ 10000 := by
      rw [p3]
      exact Nat.le_trans (List.length_filter_le _ _) (by rw [List.length_take]; omega)
    cases hf : f x with
    | true =>
      refine ifT rfl ⟨v, hj v, ys, e4 _ _ p2, sz_lt (by omega), Ex.mut (p1.trans e4) hD, _, upd_same, ?_⟩
      rw [List.length_append, p3, htk, List.filter_append, List.length_append]
      simp [hf]
    | false =>
      refine ifF rfl ⟨p1.trans e4, ys, e4 _ _ p2, ?_⟩
      rw [p3, htk, List.filter_append, List.length_append]
      simp [hf]
  · rintro H' ⟨p1, ys, p2, p3⟩
    rw [List.take_length] at p3
    refine ⟨D, ys, rfl, .inl (SqL.of p2), ?_⟩
    rw [p3]
    exact k _ (e2.trans p1)
end
theorem zip_range {f : Rat → Rat → Rat} {ps qs : List Rat} {n : Nat} (h1 : ps.length = n) (h2 : qs.length = n) : (List.range n).map (fun k => f (ps.getD k 0) (qs.getD k 0)) = List.zipWith f ps qs := by
  refine List.ext_getElem? fun i => ?_
  rw [List.getElem?_map, List.getElem?_zipWith]
  by_cases hi : i < n
  · rw [List.getElem?_range hi, List.getElem?_eq_getElem (by omega : i < ps.length), List.getElem?_eq_getElem (by omega : i < qs.length)]
    simp only [Option.map_some]
    rw [List.getD_eq_getElem?_getD, List.getD_eq_getElem?_getD, List.getElem?_eq_getElem (by omega : i < ps.length), List.getElem?_eq_getElem (by omega : i < qs.length)]
    rfl
  · rw [List.getElem?_eq_none (by rw [List.length_range]; omega), List.getElem?_eq_none (by omega : ps.length ≤ i)]
    rfl
theorem getD_get {α : Type} {xs : List α} {i : Nat} {d : α} (h : i < xs.length) : xs[i]? = some (xs.getD i d) := by
  rw [List.getD_eq_getElem?_getD, List.getElem?_eq_getElem h]
  rfl
end Pn
namespace Pn
open PySem L2 Evl
theorem vP {S : V → Hp → Prop} {v : V} {H : Hp} (m : Mono S) (h : S v H) : ∀ (σ : L2.St) (H1 : Hp) (i : Nat), Ex H H1 → σ[i]? = some (some v) → EvP (tVar i) σ H1 S := fun _ _ _ e hh => evp_var m (m _ _ _ e h) hh
theorem neg_pair {q : Rat} {v : V} {H : Hp} (h : PairAt H v (0 - q.num) (q.den : Int)) : PrAt H v (-q) := by
  unfold PrAt
  rw [Rat.neg_num, Rat.neg_den]
  rw [Int.zero_sub] at h
  exact h
theorem unit_pair {k i : Nat} {v : V} {H : Hp} (h : PairAt H v (if decide (V.int (k : Int) = V.int (i : Int)) then 1 else 0) 1) : PrAt H v (if k = i then 1 else 0) := by
  rw [decV] at h
  by_cases hk : k = i
  · rw [if_pos (by rw [hk]; simp)] at h
    rw [if_pos hk]
    exact h
  · rw [if_neg (by simpa using fun e => hk (by omega))] at h
    rw [if_neg hk]
    exact h
theorem sub_add : (fun p q : Rat => p - q) = fun p q => p + -q := by
  funext p q
  grind
theorem zeroQ_rep (n : Nat) : zeroQ n = List.replicate n 0 := by
  unfold zeroQ
  refine List.ext_getElem? fun i => ?_
  rw [List.getElem?_map, List.getElem?_replicate]
  by_cases hi : i < n
  · rw [List.getElem?_range hi, if_pos hi]
    rfl
  · rw [List.getElem?_eq_none (by rw [List.length_range]; omega), if_neg hi]
    rfl
/-- [(0, 1)] * n -/
theorem evp_rep {n : Nat} {tw : TE} {σ : L2.St} {H : Hp} (hw : ∀ H1, Ex H H1 → Ev tw σ H1 (.int (n : Int))) (hn : n ≤ 10000) : EvP (tOp rRep (tLst (tCons (tTup (tCons (tC (.int 0)) (tCons (tC (.int 1)) tNil))) tNil)) tw) σ H (LstAt RP (List.replicate n 0)) := fun H1 e Q k => by
  refine ⟨by show 2 ≤ sizeLine; decide, fun p hp => ?_⟩
  refine ⟨by show 1 ≤ sizeLine; decide, fun l hl => ?_⟩
  have e1 : Ex H1 (upd (upd H1 p (.tup [.int 0, .int 1])) l (.lst [.ref p])) := (Ex.new hp).trans (Ex.new hl)
  have nl : p ≠ l := (ne_of_none upd_same hl)
  have pA : PrAt (upd (upd H1 p (.tup [.int 0, .int 1])) l (.lst [.ref p])) (.ref p) 0 := ⟨p, rfl, by rw [upd_ne nl, upd_same]; rfl⟩
  have hlA : (upd (upd H1 p (.tup [.int 0, .int 1])) l (.lst [.ref p])) l = some (.lst [.ref p]) := upd_same
  generalize upd (upd H1 p (.tup [.int 0, .int 1])) l (.lst [.ref p]) = H2 at e1 pA hlA ⊢
  refine hw H2 (e.trans e1) H2 (Ex.refl _) _ fun H3 e3 => ?_
  refine ⟨l, n, [.ref p], rfl, rfl, e3 _ _ hlA, by omega, by omega, sz_of (by rw [Int.toNat_natCast, List.length_singleton]; omega), fun r hr => ?_⟩
  refine k _ _ ((e1.trans e3).trans (Ex.new hr)) ⟨r, _, rfl, upd_same, ?_⟩
  rw [flat_rep, Int.toNat_natCast]
  exact allR_rep (R := RP) ((pA.mono e3).mono (Ex.new hr))
theorem evp_at {S : V → Hp → Prop} {K : PySem.W.Frag} {σ : L2.St} {H : Hp} {ta : TE} {t : Addr} {vs : List V} {j : Nat} {v : V} (m : Mono S) (ht : H t = some (.tup vs)) (hv : vs[j]? = some v) (hS : S v H) (ha : Ev ta σ H (.ref t)) : EvP (tOp (rIxT K) ta (tC (.int (j : Int)))) σ H S := fun H1 e Q k =>
  ha H1 e _ fun H2 e2 => ⟨t, vs, j, v, rfl, rfl, SqT.of (e2 _ _ (e _ _ ht)), atI_nat hv, k _ _ e2 (m _ _ _ (e.trans e2) hS)⟩
theorem ev_isz {C : Addr} {ta : TE} {σ : L2.St} {H : Hp} {E : XK} {qs : List Rat} (ha : EvP ta σ H (VecAt C qs)) (hz : qs.length ≤ 10000) : Ev (tCall (spIsZero C) [] E (tCons ta tNil)) σ H (.bl (qs.all fun q => decide (q = 0))) :=
  ev_of (evp_call1 ha fun v H1 _ r Q2 E2 k2 => ⟨v, qs, rfl, r, hz, fun H4 e4 => k2 _ _ e4 rfl⟩)
theorem count_zero (qs : List Rat) : decide (V.int ((qs.filter fun q => !decide (V.int q.num = V.int 0)).length : Int) = V.int 0) = qs.all fun q => decide (q = 0) := by
  rw [decV, Bool.eq_iff_iff]
  simp only [decide_eq_true_eq, List.all_eq_true]
  constructor
  · intro h q hq
    have h0 : (qs.filter fun q => !decide (V.int q.num = V.int 0)).length = 0 := by omega
    rw [List.length_eq_zero_iff, List.filter_eq_nil_iff] at h0
    have z := h0 q hq
    rw [num_dec] at z
    simpa using z
  · intro h
    have h0 : (qs.filter fun q => !decide (V.int q.num = V.int 0)) = [] := by
      rw [List.filter_eq_nil_iff]
      intro q hq
      rw [num_dec]
      simpa using h q hq
    rw [h0]
    rfl
end Pn

namespace Pn
open PySem PySem.SeqAt
open AutoSeq1 (wpAny_loadPart')
open MeetsSeq MeetsSeq2 MeetsSeq3 SeqRoads2
section
variable {prog : Program} {w : World} {A : Around} {R : Result → Shared → Prop}
/-- == of two tuples of one length: whether all items are equal, f by their places -/
theorem tup_eqB (l b : Addr) (xs ys : Array Value) (n m : Nat) (d1 d2 : Option Addr) (sl1 sl2 : Array (Option Value)) (f : Nat → Bool) (hsz : xs.size = ys.size) (I : Nat → Shared → Prop)
    (turn : ∀ i (h1 : i < xs.size) (h2 : i < ys.size) s, I i s → (∀ j, j < i → f j = true) → wpAny (model prog w) A.in1 (eqBool xs[i] ys[i]) (fun r s' => r = f i ∧ I (i + 1) s') (fun e s' => R (.error e) s') s)
    (yes : ∀ s, (∀ j, j < xs.size → f j = true) → I xs.size s → R (.ok (.ret (.bool true))) s) (no : ∀ s i, i < xs.size → f i = false → I (i + 1) s → R (.ok (.ret (.bool false))) s)
    {s : Shared} (hx : s.heap.get? l = some { cls := .type "tuple", dict := d1, data := .seq xs n, slots := sl1 }) (hy : s.heap.get? b = some { cls := .type "tuple", dict := d2, data := .seq ys m, slots := sl2 }) (h : I 0 s) :
    wpAny (model prog w) A.in1 (Builtin.«tuple.__eq__» ⟨[.ref l, .ref b], []⟩) (GQ.FinOf prog w A R) (fun e s' => R (.error e) s') s := by
  have tt := AutoSeq1.sub_tuple_tuple
  have len : (xs.toList.zip ys.toList).length = xs.size := by simp [hsz]
  have start := h
  obtain ⟨hp, g, dr, tk, os⟩ := s
  wp_walk using wpAny_loadPart' hx, wpAny_loadPart' hy, wpAny_forIn_list _ (fun rest b s' => b.1 = none ∧ ∃ i, rest = (xs.toList.zip ys.toList).drop i ∧ i ≤ xs.size ∧ (∀ j, j < i → f j = true) ∧ I i s') _
  case turn =>
    rintro ⟨y, x⟩ rest b s' ⟨hb, i, hz, hi, hf, hI⟩
    have lt : i < (xs.toList.zip ys.toList).length := by
      rcases Nat.lt_or_ge i (xs.toList.zip ys.toList).length with q | q
      · exact q
      · rw [List.drop_of_length_le q] at hz; cases hz
    have h1 : i < xs.size := len ▸ lt
    have h2 : i < ys.size := hsz ▸ h1
    rw [List.drop_eq_getElem_cons lt] at hz
    injection hz with he hrest
    have ey : y = xs[i] := by have := congrArg Prod.fst he; simpa using this
    have ex : x = ys[i] := by have := congrArg Prod.snd he; simpa using this
    subst ey ex
    refine wpAny_bind (wpAny_mono (turn i h1 h2 s' hI hf) (fun r s2 q2 => ?_) fun _ _ x => x)
    obtain ⟨hr, q2⟩ := q2
    subst hr
    cases hfi : f i with
    | true =>
      wp_walk
      refine ⟨rfl, i + 1, hrest, h1, fun j hj => ?_, q2⟩
      by_cases e : j = i
      · rw [e]; exact hfi
      · exact hf j (by omega)
    | false =>
      have hn := no s2 i h1 hfi q2
      wp_walk
      exact hn
  case fin =>
    rintro ⟨b1, b2⟩ s' ⟨hb, i, hz, hi, hf, hI⟩
    simp only at hb
    subst hb
    have ge : xs.size ≤ i := by
      rcases Nat.lt_or_ge i (xs.toList.zip ys.toList).length with q | q
      · rw [List.drop_eq_getElem_cons q] at hz; cases hz
      · exact len ▸ q
    have ei : i = xs.size := by omega
    subst ei
    have hR : R (.ok (.ret (.bool true))) s' := yes s' hf hI
    wp_walk
    simpa [Builtin.Tuple.tupleCompareSizes, hsz] using hR
  case h => exact ⟨rfl, 0, rfl, Nat.zero_le _, fun j hj => absurd hj (Nat.not_lt_zero _), start⟩
/-- != of two tuples of one length: whether all items are equal, f by their places -/
theorem tup_neB (l b : Addr) (xs ys : Array Value) (n m : Nat) (d1 d2 : Option Addr) (sl1 sl2 : Array (Option Value)) (f : Nat → Bool) (hsz : xs.size = ys.size) (I : Nat → Shared → Prop)
    (turn : ∀ i (h1 : i < xs.size) (h2 : i < ys.size) s, I i s → (∀ j, j < i → f j = true) → wpAny (model prog w) A.in1 (eqBool xs[i] ys[i]) (fun r s' => r = f i ∧ I (i + 1) s') (fun e s' => R (.error e) s') s)
    (yes : ∀ s, (∀ j, j < xs.size → f j = true) → I xs.size s → R (.ok (.ret (.bool false))) s) (no : ∀ s i, i < xs.size → f i = false → I (i + 1) s → R (.ok (.ret (.bool true))) s)
    {s : Shared} (hx : s.heap.get? l = some { cls := .type "tuple", dict := d1, data := .seq xs n, slots := sl1 }) (hy : s.heap.get? b = some { cls := .type "tuple", dict := d2, data := .seq ys m, slots := sl2 }) (h : I 0 s) :
    wpAny (model prog w) A.in1 (Builtin.«tuple.__ne__» ⟨[.ref l, .ref b], []⟩) (GQ.FinOf prog w A R) (fun e s' => R (.error e) s') s := by
  have tt := AutoSeq1.sub_tuple_tuple
  have len : (xs.toList.zip ys.toList).length = xs.size := by simp [hsz]
  have start := h
  obtain ⟨hp, g, dr, tk, os⟩ := s
  wp_walk using wpAny_loadPart' hx, wpAny_loadPart' hy, wpAny_forIn_list _ (fun rest b s' => b.1 = none ∧ ∃ i, rest = (xs.toList.zip ys.toList).drop i ∧ i ≤ xs.size ∧ (∀ j, j < i → f j = true) ∧ I i s') _
  case turn =>
    rintro ⟨y, x⟩ rest b s' ⟨hb, i, hz, hi, hf, hI⟩
    have lt : i < (xs.toList.zip ys.toList).length := by
      rcases Nat.lt_or_ge i (xs.toList.zip ys.toList).length with q | q
      · exact q
      · rw [List.drop_of_length_le q] at hz; cases hz
    have h1 : i < xs.size := len ▸ lt
    have h2 : i < ys.size := hsz ▸ h1
    rw [List.drop_eq_getElem_cons lt] at hz
    injection hz with he hrest
    have ey : y = xs[i] := by have := congrArg Prod.fst he; simpa using this
    have ex : x = ys[i] := by have := congrArg Prod.snd he; simpa using this
    subst ey ex
    refine wpAny_bind (wpAny_mono (turn i h1 h2 s' hI hf) (fun r s2 q2 => ?_) fun _ _ x => x)
    obtain ⟨hr, q2⟩ := q2
    subst hr
    cases hfi : f i with
    | true =>
      wp_walk
      refine ⟨rfl, i + 1, hrest, h1, fun j hj => ?_, q2⟩
      by_cases e : j = i
      · rw [e]; exact hfi
      · exact hf j (by omega)
    | false =>
      have hn := no s2 i h1 hfi q2
      wp_walk
      exact hn
  case fin =>
    rintro ⟨b1, b2⟩ s' ⟨hb, i, hz, hi, hf, hI⟩
    simp only at hb
    subst hb
    have ge : xs.size ≤ i := by
      rcases Nat.lt_or_ge i (xs.toList.zip ys.toList).length with q | q
      · rw [List.drop_eq_getElem_cons q] at hz; cases hz
      · exact len ▸ q
    have ei : i = xs.size := by omega
    subst ei
    have hR : R (.ok (.ret (.bool false))) s' := yes s' hf hI
    wp_walk
    simpa [Builtin.Tuple.tupleCompareSizes, hsz] using hR
  case h => exact ⟨rfl, 0, rfl, Nat.zero_le _, fun j hj => absurd hj (Nat.not_lt_zero _), start⟩
end
end Pn

namespace Pn
open PySem L2 Evl
/-- how two values compare, by the abstract heap -/
abbrev Cmp := V → V → Bool → Hp → Prop
def MonC (S : Cmp) : Prop := ∀ x y b H H', Ex H H' → S x y b H → S x y b H'
def EqB (X : Cx) (n : Nat) (S : Cmp) : Prop :=
  ∀ (A : Around) (pins : List (Addr × Obj)) (s : Shared) (σ : L2.St) (H : Hp) (x y : V) (b : Bool) (u v : Value), Sub X n A → Inv X pins σ H s → RelV x u → RelV y v → S x y b H →
    wpAny (model X.prog X.w) A (eqBool u v) (fun r s' => r = b ∧ ∃ H', Inv X pins σ H' s' ∧ Ex H H') X.xe s
/-- op gives g b where b is told -/
def RcB (X : Cx) (op : CmpOp) (g : Bool → Bool) (n : Nat) (S : Cmp) : Prop :=
  ∀ (A : Around) (pins : List (Addr × Obj)) (s : Shared) (σ : L2.St) (H : Hp) (x y : V) (b : Bool) (u v : Value), Sub X n A → Inv X pins σ H s → RelV x u → RelV y v → S x y b H →
    wpAny (model X.prog X.w) A (richCompare op u v) (fun r s' => r = .bool (g b) ∧ ∃ H', Inv X pins σ H' s' ∧ Ex H H') X.xe s
/-- two fractions -/
def DR (C : Addr) : Cmp := fun x y b H => ∃ p q, RatAt C H x p ∧ RatAt C H y q ∧ decide (p = q) = b
/-- two tuples of one length -/
def DT (S : Cmp) : Cmp := fun x y b H => ∃ (a c : Addr) (xs ys : List V) (f : Nat → Bool), x = .ref a ∧ y = .ref c ∧ H a = some (.tup xs) ∧ H c = some (.tup ys) ∧ xs.length = ys.length ∧ (∀ i x y, xs[i]? = some x → ys[i]? = some y → S x y (f i) H) ∧
  (b = true ↔ ∀ i, i < xs.length → f i = true) ∧ (a = c → b = true)
theorem monC_dr {C : Addr} : MonC (DR C) := fun x y b H H' e ⟨p, q, h1, h2, h3⟩ => ⟨p, q, h1.mono e, h2.mono e, h3⟩
theorem monC_dt {S : Cmp} (m : MonC S) : MonC (DT S) := fun x y b H H' e ⟨a, c, xs, ys, f, e1, e2, h1, h2, hl, hs, hb, hr⟩ => ⟨a, c, xs, ys, f, e1, e2, e _ _ h1, e _ _ h2, hl, fun i x y g1 g2 => m _ _ _ _ _ e (hs i x y g1 g2), hb, hr⟩
theorem ratO_inj {p q : Rat} (h : RatO p = RatO q) : p = q := by
  unfold RatO at h
  injection h with h1 h2
  injection h2 with h3 _
  refine Rat.ext (V.int.inj (congrArg Prod.snd h1)) ?_
  have := V.int.inj (congrArg Prod.snd h3)
  omega
section
variable {X : Cx} {n : Nat} {S : Cmp} {C f : Addr} {ps : List Str}
theorem rcB_rat (F : FnG X.prog X.w X.K X.mg X.base n f ps (spCmp C fun p q => decide (p = q))) (hs : Meth X.K C "__eq__" f) : RcB X .Eq id n (DR C) := by
  obtain ⟨fd, F1, bi⟩ := F.ex
  intro A pins s σ H x y b u v sb I rx ry ⟨p, q, hx, hy, hb⟩
  have hx' := hx
  have hy' := hy
  obtain ⟨a, da, rfl, ha⟩ := hx
  obtain ⟨c, dc, rfl, hc⟩ := hy
  cases rx
  cases ry
  obtain ⟨mA, J, _⟩ := ins_get I.hok ha
  obtain ⟨mB, J', _⟩ := ins_get I.hok hc
  obtain ⟨od, J, _⟩ := J.look
  obtain ⟨od', J', _⟩ := J'.look
  obtain ⟨m, hF⟩ := I.fr
  refine PySem.W.cmp_K (op := .Eq) (tb := .ref C) sb.room.units0 hF I.ok.mod.kin J J'.type (by simp [PySem.W.notFirst]) hs.at_ hs.fn ?_
  refine thn (run_fnA (us := [.ref a, .ref c]) (vs := [.ref a, .ref c]) (Q := fun v H' => v = .bl b ∧ Ex H H') F1 sb.room sb.fr bi pass0 I (.cons rfl (.cons rfl .nil)) ⟨_, _, p, q, b, rfl, hx', hy', hb, rfl, Ex.refl H⟩) fun v s' z => ?_
  obtain ⟨w, H', I', rw', ew, e⟩ := z
  subst ew
  cases rw'
  exact ⟨rfl, H', I', e⟩
/-- inside a list or tuple: the same object is equal to itself -/
theorem eqB_of (h : RcB X .Eq id n S) (hr : ∀ x y b H, S x y b H → ∃ a c, x = .ref a ∧ y = .ref c ∧ (a = c → b = true)) : EqB X n S := by
  intro A pins s σ H x y b u v sb I rx ry d
  obtain ⟨a, c, rfl, rfl, same⟩ := hr _ _ _ _ d
  cases rx
  cases ry
  by_cases e : a = c
  · have hb := same e
    subst e hb
    exact SeqAt.EqAt.same (A := A) (s := s) (.ref a) X.prog X.w X.xe _ ⟨rfl, H, I, Ex.refl H⟩
  · refine GQ.eqBool_refG e (wpAny_mono (h A pins s σ H (.ref a) (.ref c) b _ _ sb I rfl rfl d) (fun r s' q => ?_) fun _ _ x => x)
    obtain ⟨hr', q⟩ := q
    exact ⟨b, hr', rfl, q⟩
theorem eqB_rat (F : FnG X.prog X.w X.K X.mg X.base n f ps (spCmp C fun p q => decide (p = q))) (hs : Meth X.K C "__eq__" f) : EqB X n (DR C) :=
  eqB_of (rcB_rat F hs) fun x y b H ⟨p, q, ⟨a, da, ex, ha⟩, ⟨c, dc, ey, hc⟩, hb⟩ => ⟨a, c, ex, ey, fun e => by
    subst e
    rw [ha] at hc
    injection hc with hc
    injection hc with _ _ h3
    rw [← hb, ratO_inj h3]
    simp⟩
theorem turnB (m : MonC S) (h : EqB X n S) {A : Around} (sb : Sub X (n + 1) A) {pins : List (Addr × Obj)} {σ : L2.St} {H : Hp} {xs ys : List V} {its its2 : List Value} {f : Nat → Bool} (p : ∀ i x y, xs[i]? = some x → ys[i]? = some y → S x y (f i) H) (r : Vals xs its) (r2 : Vals ys its2)
    (i : Nat) (h1 : i < its.toArray.size) (h2 : i < its2.toArray.size) (s' : Shared) (l : ∃ H', Inv X pins σ H' s' ∧ Ex H H') :
    wpAny (model X.prog X.w) A.in1 (eqBool its.toArray[i] its2.toArray[i]) (fun r s2 => r = f i ∧ ∃ H', Inv X pins σ H' s2 ∧ Ex H H') X.xe s' := by
  obtain ⟨H1, I1, e1⟩ := l
  have k1 : i < xs.length := by rw [r.length]; simpa using h1
  have k2 : i < ys.length := by rw [r2.length]; simpa using h2
  obtain ⟨u, hu, ru⟩ := r.get (List.getElem?_eq_getElem k1)
  obtain ⟨v, hv, rv⟩ := r2.get (List.getElem?_eq_getElem k2)
  have g1 : its.toArray[i] = u := by
    have : its[i]? = some its.toArray[i] := by
      rw [List.getElem?_eq_getElem (by simpa using h1)]
      simp
    rw [hu] at this
    exact (Option.some.inj this).symm
  have g2 : its2.toArray[i] = v := by
    have : its2[i]? = some its2.toArray[i] := by
      rw [List.getElem?_eq_getElem (by simpa using h2)]
      simp
    rw [hv] at this
    exact (Option.some.inj this).symm
  rw [g1, g2]
  refine wpAny_mono (h A.in1 pins s' σ H1 _ _ _ u v sb.in1 I1 ru rv (m _ _ _ _ _ e1 (p i _ _ (List.getElem?_eq_getElem k1) (List.getElem?_eq_getElem k2)))) (fun r s2 q => ?_) fun _ _ x => x
  obtain ⟨hr, H2, I2, e2⟩ := q
  exact ⟨hr, H2, I2, e1.trans e2⟩
theorem bool_of {b : Bool} {P : Prop} (h : b = true ↔ P) (hn : ¬ P) : b = false := by
  cases b with
  | false => rfl
  | true => exact absurd (h.mp rfl) hn
theorem rcB_tup (m : MonC S) (h : EqB X n S) : RcB X .Eq id (n + 1) (DT S) := by
  intro A pins s σ H x y b u v sb I rx ry ⟨a, c, xs, ys, f, ex, ey, ha, hc, hl, hs, hb, hr⟩
  subst ex ey
  cases rx
  cases ry
  obtain ⟨its, r, e, z⟩ := I.tuple (SqT.of ha)
  obtain ⟨its2, r2, e2, z2⟩ := I.tuple (SqT.of hc)
  have hsz : its.toArray.size = its2.toArray.size := by rw [List.size_toArray, List.size_toArray, ← r.length, ← r2.length]; exact hl
  obtain ⟨⟨cls, dd, data, sl⟩, ho, hcc, k, hd⟩ := e
  obtain ⟨⟨cls2, dd2, data2, sl2⟩, ho2, hc2, k2, hd2⟩ := e2
  simp only at hcc hd hc2 hd2
  subst hcc hd hc2 hd2
  have hn : its.toArray.size = xs.length := by rw [List.size_toArray, ← r.length]
  refine wpAny_richCompare_same_room (op := .Eq) ⟨_, ho, rfl⟩ ⟨_, ho2, rfl⟩ F.slot_tuple_eq (GQ.call_here F.slot_tuple_eq ⟨_, ho, rfl⟩ F.entry_tuple_eq (F.args_tuple_eq_2 _ _) ?_) sb.room.units0
  refine tup_eqB (R := wants (fun v s' => v ≠ .notImplemented ∧ (v = .bool (id b) ∧ ∃ H', Inv X pins σ H' s' ∧ Ex H H')) X.xe) a c its.toArray its2.toArray k k2 dd dd2 sl sl2 f hsz (fun _ s' => ∃ H', Inv X pins σ H' s' ∧ Ex H H')
    (fun i h1 h2 s' q _ => turnB m h sb hs r r2 i h1 h2 s' q) (fun s' q1 q => ⟨(fun x => nomatch x), by rw [hb.mpr (fun i hi => q1 i (by omega))]; rfl, q⟩) (fun s' i hi hf q => ⟨(fun x => nomatch x), by rw [bool_of hb (fun g => by rw [g i (by omega)] at hf; cases hf)]; rfl, q⟩) ho ho2 ⟨H, I, Ex.refl H⟩
theorem rcB_tupNe (m : MonC S) (h : EqB X n S) : RcB X .NotEq (!·) (n + 1) (DT S) := by
  intro A pins s σ H x y b u v sb I rx ry ⟨a, c, xs, ys, f, ex, ey, ha, hc, hl, hs, hb, hr⟩
  subst ex ey
  cases rx
  cases ry
  obtain ⟨its, r, e, z⟩ := I.tuple (SqT.of ha)
  obtain ⟨its2, r2, e2, z2⟩ := I.tuple (SqT.of hc)
  have hsz : its.toArray.size = its2.toArray.size := by rw [List.size_toArray, List.size_toArray, ← r.length, ← r2.length]; exact hl
  obtain ⟨⟨cls, dd, data, sl⟩, ho, hcc, k, hd⟩ := e
  obtain ⟨⟨cls2, dd2, data2, sl2⟩, ho2, hc2, k2, hd2⟩ := e2
  simp only at hcc hd hc2 hd2
  subst hcc hd hc2 hd2
  have hn : its.toArray.size = xs.length := by rw [List.size_toArray, ← r.length]
  refine wpAny_richCompare_same_room (op := .NotEq) ⟨_, ho, rfl⟩ ⟨_, ho2, rfl⟩ F.slot_tuple_ne (GQ.call_here F.slot_tuple_ne ⟨_, ho, rfl⟩ F.entry_tuple_ne (F.args_tuple_ne_2 _ _) ?_) sb.room.units0
  refine tup_neB (R := wants (fun v s' => v ≠ .notImplemented ∧ (v = .bool (!b) ∧ ∃ H', Inv X pins σ H' s' ∧ Ex H H')) X.xe) a c its.toArray its2.toArray k k2 dd dd2 sl sl2 f hsz (fun _ s' => ∃ H', Inv X pins σ H' s' ∧ Ex H H')
    (fun i h1 h2 s' q _ => turnB m h sb hs r r2 i h1 h2 s' q) (fun s' q1 q => ⟨(fun x => nomatch x), by rw [hb.mpr (fun i hi => q1 i (by omega))]; rfl, q⟩) (fun s' i hi hf q => ⟨(fun x => nomatch x), by rw [bool_of hb (fun g => by rw [g i (by omega)] at hf; cases hf)]; rfl, q⟩) ho ho2 ⟨H, I, Ex.refl H⟩
theorem eqB_tup (m : MonC S) (h : EqB X n S) : EqB X (n + 1) (DT S) := eqB_of (rcB_tup m h) fun x y b H ⟨a, c, xs, ys, f, ex, ey, ha, hc, hl, hs, hb, hr⟩ => ⟨a, c, ex, ey, hr⟩
/-- x == y, x != y as an expression -/
def rCmpB (g : Bool → Bool) (S : Cmp) : R2 := fun x y H Q => ∃ b, S x y b H ∧ ∀ H', Ex H H' → Q (.bl (g b)) H'
theorem op_cmpB {op : CmpOp} {g : Bool → Bool} (h : RcB X op g n S) (hr : Room n X.A) : OpR X (richCompare op) (rCmpB g S) := by
  intro pins s σ H x y v u Q I rx ry ⟨b, d, q⟩
  refine wpAny_mono (h X.A pins s σ H x y b v u ⟨hr, rfl⟩ I rx ry d) (fun r s' z => ?_) fun _ _ x => x
  obtain ⟨hr', H', I', e⟩ := z
  subst hr'
  exact ⟨.bl (g b), H', I', rfl, q H' e⟩
end
end Pn

namespace Pn
open PySem L2 Evl
section
variable {α β γ : Type} {R : α → V → Hp → Prop} {R2 : β → V → Hp → Prop} {S : γ → V → Hp → Prop} {K : PySem.W.Frag} {tl te ta tb : TE} {σ : L2.St} {H : Hp}
theorem evp_tupL {ys : List γ} (mS : MonoR S) (h : EvP tl σ H (LstAt S ys)) : EvP (tCB (rTupL K) (tCons tl tNil)) σ H (TupAt S ys) := fun H1 e Q k =>
  h H1 e _ fun v H2 e2 ⟨a, vs, ev, h2, hA⟩ => by
    subst ev
    exact ⟨a, vs, rfl, SqL.of h2, fun l hl => k _ _ (e2.trans (Ex.new hl)) ⟨l, vs, rfl, upd_same, hA.mono mS (Ex.new hl)⟩⟩
theorem evp_mapT {f : α → γ} {j : Nat} {vs : List Nat} {xs : List α} (mR : MonoR R) (mS : MonoR S) (sS : ∀ y, Stab (S y)) (h : EvP tl σ H (TupAt R xs)) (hz : xs.length ≤ 10000) (hw : ∀ v, wipe ((wipe σ vs).set j (some v)) vs = wipe σ vs)
    (he : ∀ v x H1, Ex H H1 → x ∈ xs → R x v H1 → EvP te ((wipe σ vs).set j (some v)) H1 (S (f x))) : EvP (tLc (iTup K tl) (gName j) tYes te vs) σ H (LstAt S (xs.map f)) :=
  EvP.imp (evp_lc (P := fun i σi H1 => ∃ v x, σi = (wipe σ vs).set j (some v) ∧ xs[i]? = some x ∧ R x v H1) (S := fun i v H => ∃ y, (xs.map f)[i]? = some y ∧ S y v H) hz (src_tup mR h)
    (fun i v H1 H2 e ⟨y, h1, h2⟩ => ⟨y, h1, mS _ _ _ _ e h2⟩) (fun i v H1 H2 D zs fr hD ⟨y, h1, h2⟩ => ⟨y, h1, sS y v H1 H2 D zs fr hD h2⟩)
    (fun i H1 v H2 kk hi e ⟨e2, x, hx, hr⟩ kz => by subst e2; exact kz _ _ (Ex.refl _) (hw v) ⟨v, x, rfl, hx, hr⟩)
    (fun i σi H1 hi e ⟨v, x, e1, hx, hr⟩ => by
      subst e1
      exact EvP.imp (he v x H1 e (List.mem_of_getElem? hx) hr) fun w H2 _ r => ⟨f x, by rw [List.getElem?_map, hx]; rfl, r⟩))
    fun v H' _ r => newL_lst (by rw [List.length_map]) r
theorem evp_mapZ {f : α → β → γ} {j1 j2 : Nat} {vs : List Nat} {xs : List α} {ys : List β} (m1 : MonoR R) (m2 : MonoR R2) (mS : MonoR S) (sS : ∀ y, Stab (S y)) (hl : xs.length = ys.length) (ha : EvP ta σ H (TupAt R xs)) (hb : EvP tb σ H (TupAt R2 ys)) (hz : xs.length ≤ 10000)
    (hw : ∀ v w, wipe (((wipe σ vs).set j1 (some v)).set j2 (some w)) vs = wipe σ vs)
    (he : ∀ v w x y H1, Ex H H1 → x ∈ xs → y ∈ ys → R x v H1 → R2 y w H1 → EvP te (((wipe σ vs).set j1 (some v)).set j2 (some w)) H1 (S (f x y))) :
    EvP (tLc (RZ.iZipA K (tCons ta (tCons tb tNil))) (gTup K 2 (gCons (gName j1) (gCons (gName j2) gNil))) tYes te vs) σ H (LstAt S (List.zipWith f xs ys)) :=
  EvP.imp (evp_lc (P := fun i σi H1 => ∃ v w x y, σi = ((wipe σ vs).set j1 (some v)).set j2 (some w) ∧ xs[i]? = some x ∧ ys[i]? = some y ∧ R x v H1 ∧ R2 y w H1) (S := fun i v H => ∃ y, (List.zipWith f xs ys)[i]? = some y ∧ S y v H) hz (src_zip m1 m2 hl ha hb)
    (fun i v H1 H2 e ⟨y, h1, h2⟩ => ⟨y, h1, mS _ _ _ _ e h2⟩) (fun i v H1 H2 D zs fr hD ⟨y, h1, h2⟩ => ⟨y, h1, sS y v H1 H2 D zs fr hD h2⟩)
    (fun i H1 v H2 kk hi e ⟨T, x, y, p, q, ev, hT, eH, hp, hq, rp, rq⟩ kz => by
      subst ev eH
      refine ⟨T, _, rfl, SqT.of upd_same, rfl, _, _, rfl, _, _, rfl, rfl, ?_⟩
      exact kz _ _ (Ex.new hT) (hw _ _) ⟨x, y, p, q, rfl, hp, hq, m1 _ _ _ _ (Ex.new hT) rp, m2 _ _ _ _ (Ex.new hT) rq⟩)
    (fun i σi H1 hi e ⟨v, w, x, y, e1, hx, hy, r1, r2⟩ => by
      subst e1
      exact EvP.imp (he v w x y H1 e (List.mem_of_getElem? hx) (List.mem_of_getElem? hy) r1 r2) fun u H2 _ r => ⟨f x y, by rw [List.getElem?_zipWith, hx, hy], r⟩))
    fun v H' _ r => newL_lst (by simp [hl]) r
end
/-! ### matrices -/
abbrev RV (C : Addr) : List Rat → V → Hp → Prop := TupAt (RQ C)
abbrev MatAt (C : Addr) (rows : List (List Rat)) (v : V) (H : Hp) : Prop := TupAt (RV C) rows v H
theorem mono_rv {C : Addr} : MonoR (RV C) := mono_tup mono_rq
theorem stab_rv {C : Addr} (row : List Rat) : Stab (RV C row) := stab_tup fun _ => stab_rat
theorem mono_mat {C : Addr} {rows : List (List Rat)} : Mono (MatAt C rows) := fun v H H' e h => mono_tup mono_rv rows v H H' e h
def Wide (n : Nat) (rows : List (List Rat)) : Prop := ∀ row ∈ rows, row.length = n
def AllM (n : Nat) (rows : List (List Rat)) : Prop := ∀ row ∈ rows, AllS n row
def transQ (rows : List (List Rat)) (w : Nat) : List (List Rat) := (List.range w).map fun k => rows.map fun row => row.getD k 0
def applyQ (rows : List (List Rat)) (v : List Rat) : List Rat := rows.map fun row => dotQ row v
def mulQ (a b : List (List Rat)) (w : Nat) : List (List Rat) := a.map fun row => applyQ (transQ b w) row
def idQ (n : Nat) : List (List Rat) := (List.range n).map fun i => unitQ n i
def zerosQ (h w : Nat) : List (List Rat) := (List.range h).map fun _ => zeroQ w
def outerQ (a b : List Rat) : List (List Rat) := a.map fun x => scaleQ x b
def addM (a b : List (List Rat)) : List (List Rat) := List.zipWith (fun p q => List.zipWith (fun x y => x + y) p q) a b
def scaleM (f : Rat) (a : List (List Rat)) : List (List Rat) := a.map fun row => scaleQ f row
/-- sizes with which a dot product of that length may be reckoned -/
def DotOk (n m len : Nat) : Prop := 0 < n ∧ 0 < m ∧ (n + m + 1) * len + 1 ≤ 9000
def spTrans (C : Addr) : Sp := fun vs H Q _ => ∃ (x : V) (rows : List (List Rat)) (w : Nat), vs = [x, .int (w : Int)] ∧ MatAt C rows x H ∧ Wide w rows ∧ rows.length ≤ 10000 ∧ w ≤ 10000 ∧ NewV (MatAt C (transQ rows w)) H Q
def spApply (C : Addr) : Sp := fun vs H Q _ => ∃ (x y : V) (rows : List (List Rat)) (v : List Rat) (n m : Nat), vs = [x, y] ∧ MatAt C rows x H ∧ VecAt C v y H ∧ Wide v.length rows ∧ rows.length ≤ 10000 ∧ AllM n rows ∧ AllS m v ∧ DotOk n m v.length ∧ NewV (VecAt C (applyQ rows v)) H Q
def spProduct (C : Addr) : Sp := fun vs H Q _ => ∃ (x y : V) (a b : List (List Rat)) (w n m : Nat), vs = [x, y, .int (w : Int)] ∧ MatAt C a x H ∧ MatAt C b y H ∧ Wide b.length a ∧ Wide w b ∧ a.length ≤ 10000 ∧ b.length ≤ 10000 ∧ w ≤ 10000 ∧ AllM n a ∧ AllM m b ∧ DotOk m n b.length ∧ NewV (MatAt C (mulQ a b w)) H Q
def spIdent (C : Addr) : Sp := fun vs H Q _ => ∃ (n : Nat), vs = [.int (n : Int)] ∧ n ≤ 10000 ∧ NewV (MatAt C (idQ n)) H Q
def spZeros (C : Addr) : Sp := fun vs H Q _ => ∃ (h w : Nat), vs = [.int (h : Int), .int (w : Int)] ∧ h ≤ 10000 ∧ w ≤ 10000 ∧ NewV (MatAt C (zerosQ h w)) H Q
def spOuter (C : Addr) : Sp := fun vs H Q _ => ∃ (x y : V) (a b : List Rat), vs = [x, y] ∧ VecAt C a x H ∧ VecAt C b y H ∧ a.length ≤ 10000 ∧ b.length ≤ 10000 ∧ (∀ p ∈ a, ∀ q ∈ b, Ok2 p q) ∧ NewV (MatAt C (outerQ a b)) H Q
def spSumOf (C : Addr) : Sp := fun vs H Q _ => ∃ (x y : V) (a b : List (List Rat)) (w : Nat), vs = [x, y] ∧ MatAt C a x H ∧ MatAt C b y H ∧ a.length = b.length ∧ a.length ≤ 10000 ∧ w ≤ 10000 ∧ Wide w a ∧ Wide w b ∧ (∀ r ∈ a, ∀ s ∈ b, ∀ p ∈ r, ∀ q ∈ s, Ok2 p q) ∧ NewV (MatAt C (addM a b)) H Q
def spScaled (C : Addr) : Sp := fun vs H Q _ => ∃ (x y : V) (f : Rat) (a : List (List Rat)), vs = [x, y] ∧ RatAt C H x f ∧ MatAt C a y H ∧ a.length ≤ 10000 ∧ (∀ r ∈ a, r.length ≤ 10000 ∧ ∀ q ∈ r, Ok2 f q) ∧ NewV (MatAt C (scaleM f a)) H Q
def spIsSym (C : Addr) : Sp := fun vs H Q _ => ∃ (x : V) (rows : List (List Rat)) (w : Nat), vs = [x] ∧ MatAt C rows x H ∧ Wide w rows ∧ rows.length ≤ 10000 ∧ w ≤ 10000 ∧ ∀ H', Ex H H' → Q (.bl (decide (rows.length = 0 ∨ w = rows.length) && decide (rows = transQ rows rows.length))) H'
theorem range_getD {k w : Nat} {f : Nat → Rat} : True := trivial
theorem mem_get {α : Type} {xs : List α} {x : α} (h : x ∈ xs) : ∃ i : Nat, xs[i]? = some x := by
  obtain ⟨i, hi, e⟩ := List.mem_iff_getElem.mp h
  exact ⟨i, by rw [List.getElem?_eq_getElem hi, e]⟩
theorem transQ_wide {rows : List (List Rat)} {w : Nat} : Wide rows.length (transQ rows w) := fun row h => by
  unfold transQ at h
  obtain ⟨k, _, rfl⟩ := List.mem_map.mp h
  rw [List.length_map]
theorem transQ_len (rows : List (List Rat)) (w : Nat) : (transQ rows w).length = w := by
  unfold transQ
  rw [List.length_map, List.length_range]
theorem transQ_sm {n w : Nat} {rows : List (List Rat)} (h : AllM n rows) (hw : Wide w rows) : AllM n (transQ rows w) := fun row hr q hq => by
  unfold transQ at hr
  obtain ⟨k, hk, rfl⟩ := List.mem_map.mp hr
  obtain ⟨r, hr, rfl⟩ := List.mem_map.mp hq
  have hk' : k < r.length := by rw [hw r hr]; exact List.mem_range.mp hk
  exact h r hr _ (List.mem_of_getElem? (getD_get hk'))
section
variable {C : Addr} {K : PySem.W.Frag} {ta tb tc : TE} {σ : L2.St} {H : Hp} {E : XK}
theorem evp_callT {sp : Sp} {S1 S2 S' : V → Hp → Prop} {w : Nat} (m1 : Mono S1) (m2 : Mono S2) (ha : EvP ta σ H S1) (hb : EvP tb σ H S2) (hc : Ev tc σ H (.int (w : Int))) (hs : ∀ v u H1, Ex H H1 → S1 v H1 → S2 u H1 → ∀ (Q : VK) (E : XK), (∀ r H2, Ex H1 H2 → S' r H2 → Q r H2) → sp [v, u, .int (w : Int)] H1 Q E) :
    EvP (tCall sp [] E (tCons ta (tCons tb (tCons tc tNil)))) σ H S' := fun H1 e Q k =>
  ha H1 e _ fun v H2 e2 hv => hb H2 (e.trans e2) _ fun u H3 e3 hu => hc H3 ((e.trans e2).trans e3) _ fun H4 e4 => hs v u H4 (((e.trans e2).trans e3).trans e4) (m1 _ _ _ (e3.trans e4) hv) (m2 _ _ _ e4 hu) Q E fun r H5 e5 hr => k r H5 (((e2.trans e3).trans e4).trans e5) hr
theorem evp_trans {rows : List (List Rat)} {w : Nat} (ha : EvP ta σ H (MatAt C rows)) (hb : Ev tb σ H (.int (w : Int))) (hw : Wide w rows) (h1 : rows.length ≤ 10000) (h2 : w ≤ 10000) : EvP (tCall (spTrans C) [] E (tCons ta (tCons tb tNil))) σ H (MatAt C (transQ rows w)) :=
  evp_call2 mono_mat ha (evp_of hb) fun v u H1 _ r1 eu Q2 E2 k2 => by subst eu; exact ⟨v, rows, w, rfl, r1, hw, h1, h2, k2⟩
theorem evp_apply {rows : List (List Rat)} {v : List Rat} {n m : Nat} (ha : EvP ta σ H (MatAt C rows)) (hb : EvP tb σ H (VecAt C v)) (hw : Wide v.length rows) (h1 : rows.length ≤ 10000) (s1 : AllM n rows) (s2 : AllS m v) (hd : DotOk n m v.length) : EvP (tCall (spApply C) [] E (tCons ta (tCons tb tNil))) σ H (VecAt C (applyQ rows v)) :=
  evp_call2 mono_mat ha hb fun x y H1 _ r1 r2 Q2 E2 k2 => ⟨x, y, rows, v, n, m, rfl, r1, r2, hw, h1, s1, s2, hd, k2⟩
theorem evp_product {a b : List (List Rat)} {w n m : Nat} (ha : EvP ta σ H (MatAt C a)) (hb : EvP tb σ H (MatAt C b)) (hc : Ev tc σ H (.int (w : Int))) (h1 : Wide b.length a) (h2 : Wide w b) (h3 : a.length ≤ 10000) (h4 : b.length ≤ 10000) (h5 : w ≤ 10000) (s1 : AllM n a) (s2 : AllM m b) (hd : DotOk m n b.length) : EvP (tCall (spProduct C) [] E (tCons ta (tCons tb (tCons tc tNil)))) σ H (MatAt C (mulQ a b w)) :=
  evp_callT mono_mat mono_mat ha hb hc fun x y H1 _ r1 r2 Q2 E2 k2 => ⟨x, y, a, b, w, n, m, rfl, r1, r2, h1, h2, h3, h4, h5, s1, s2, hd, k2⟩
theorem evp_ident {n : Nat} (ha : Ev ta σ H (.int (n : Int))) (hz : n ≤ 10000) : EvP (tCall (spIdent C) [] E (tCons ta tNil)) σ H (MatAt C (idQ n)) :=
  evp_call1 (evp_of ha) fun v H1 _ ev Q2 E2 k2 => by subst ev; exact ⟨n, rfl, hz, k2⟩
theorem evp_zeros {h w : Nat} (ha : Ev ta σ H (.int (h : Int))) (hb : Ev tb σ H (.int (w : Int))) (h1 : h ≤ 10000) (h2 : w ≤ 10000) : EvP (tCall (spZeros C) [] E (tCons ta (tCons tb tNil))) σ H (MatAt C (zerosQ h w)) :=
  evp_call2 (fun _ _ _ _ h => h) (evp_of ha) (evp_of hb) fun v u H1 _ ev eu Q2 E2 k2 => by subst ev eu; exact ⟨h, w, rfl, h1, h2, k2⟩
theorem evp_outer {a b : List Rat} (ha : EvP ta σ H (VecAt C a)) (hb : EvP tb σ H (VecAt C b)) (h1 : a.length ≤ 10000) (h2 : b.length ≤ 10000) (ho : ∀ p ∈ a, ∀ q ∈ b, Ok2 p q) : EvP (tCall (spOuter C) [] E (tCons ta (tCons tb tNil))) σ H (MatAt C (outerQ a b)) :=
  evp_call2 mono_vec ha hb fun x y H1 _ r1 r2 Q2 E2 k2 => ⟨x, y, a, b, rfl, r1, r2, h1, h2, ho, k2⟩
theorem evp_sumOf {a b : List (List Rat)} {w : Nat} (ha : EvP ta σ H (MatAt C a)) (hb : EvP tb σ H (MatAt C b)) (hl : a.length = b.length) (h1 : a.length ≤ 10000) (h2 : w ≤ 10000) (w1 : Wide w a) (w2 : Wide w b) (ho : ∀ r ∈ a, ∀ s ∈ b, ∀ p ∈ r, ∀ q ∈ s, Ok2 p q) : EvP (tCall (spSumOf C) [] E (tCons ta (tCons tb tNil))) σ H (MatAt C (addM a b)) :=
  evp_call2 mono_mat ha hb fun x y H1 _ r1 r2 Q2 E2 k2 => ⟨x, y, a, b, w, rfl, r1, r2, hl, h1, h2, w1, w2, ho, k2⟩
theorem evp_scaled {f : Rat} {a : List (List Rat)} (ha : EvP ta σ H (fun v H => RatAt C H v f)) (hb : EvP tb σ H (MatAt C a)) (h1 : a.length ≤ 10000) (ho : ∀ r ∈ a, r.length ≤ 10000 ∧ ∀ q ∈ r, Ok2 f q) : EvP (tCall (spScaled C) [] E (tCons ta (tCons tb tNil))) σ H (MatAt C (scaleM f a)) :=
  evp_call2 mono_rat ha hb fun x y H1 _ r1 r2 Q2 E2 k2 => ⟨x, y, f, a, rfl, r1, r2, h1, ho, k2⟩
theorem ev_isSym {rows : List (List Rat)} {w : Nat} (ha : EvP ta σ H (MatAt C rows)) (hw : Wide w rows) (h1 : rows.length ≤ 10000) (h2 : w ≤ 10000) : Ev (tCall (spIsSym C) [] E (tCons ta tNil)) σ H (.bl (decide (rows.length = 0 ∨ w = rows.length) && decide (rows = transQ rows rows.length))) :=
  ev_of (evp_call1 ha fun v H1 _ r Q2 E2 k2 => ⟨v, rows, w, rfl, r, hw, h1, h2, fun H4 e4 => k2 _ _ e4 rfl⟩)
/-- two vectors of one length, compared -/
theorem vec_dt {a b : List Rat} {x y : V} (hx : VecAt C a x H) (hy : VecAt C b y H) (hl : a.length = b.length) : DT (DR C) x y (decide (a = b)) H := by
  obtain ⟨p, xs, rfl, h1, A1⟩ := hx
  obtain ⟨q, ys, rfl, h2, A2⟩ := hy
  refine ⟨p, q, xs, ys, fun i => decide (a.getD i 0 = b.getD i 0), rfl, rfl, h1, h2, by rw [A1.1, A2.1]; exact hl, fun i x y g1 g2 => ?_, ?_, fun e => ?_⟩
  · obtain ⟨s, hs, rs⟩ := A1.getV g1
    obtain ⟨t, ht, rt⟩ := A2.getV g2
    exact ⟨s, t, rs, rt, by dsimp only; rw [List.getD_eq_getElem?_getD, List.getD_eq_getElem?_getD, hs, ht]; rfl⟩
  · rw [decide_eq_true_iff, A1.1]
    constructor
    · intro e i _
      rw [e]
      simp
    · intro h
      refine List.ext_getElem? fun i => ?_
      by_cases hi : i < a.length
      · have := of_decide_eq_true (h i hi)
        rw [getD_get (d := 0) hi, getD_get (d := 0) (hl ▸ hi), this]
      · rw [List.getElem?_eq_none (by omega), List.getElem?_eq_none (by omega)]
  · subst e
    rw [h1] at h2
    injection h2 with h2
    injection h2 with h2
    subst h2
    rw [decide_eq_true_iff]
    refine List.ext_getElem? fun i => ?_
    by_cases hi : i < a.length
    · obtain ⟨v, hv, r1⟩ := A1.get (List.getElem?_eq_getElem hi)
      obtain ⟨u, hu, r2⟩ := A2.get (List.getElem?_eq_getElem (hl ▸ hi))
      rw [hv] at hu
      cases hu
      obtain ⟨z, dz, ez, hz⟩ := r1
      obtain ⟨z', dz', ez', hz'⟩ := r2
      rw [ez] at ez'
      cases ez'
      rw [hz] at hz'
      injection hz' with hz'
      injection hz' with _ _ h3
      rw [List.getElem?_eq_getElem hi, List.getElem?_eq_getElem (hl ▸ hi), ratO_inj h3]
    · rw [List.getElem?_eq_none (by omega), List.getElem?_eq_none (by omega)]
end
end Pn

namespace Pn
open PySem L2 Evl
/-! ### lists of lists -/
/-- kept by whatever is done to a list that stands elsewhere -/
def StabN (S : V → Hp → Prop) : Prop := ∀ v H H' D xs, (∀ a o, a ≠ D → H a = some o → H' a = some o) → H D = some (.lst xs) → v ≠ .ref D → S v H → S v H'
theorem stabN_lst {α : Type} {R : α → V → Hp → Prop} (hR : ∀ x, Stab (R x)) {xs : List α} : StabN (LstAt R xs) := fun v H H' D ys f hD n ⟨a, vs, e, h, h2⟩ =>
  ⟨a, vs, e, f _ _ (fun z => n (by rw [e, z])) h, h2.1, fun i x v h3 h4 => hR x v H H' D ys f hD (h2.2 i x v h3 h4)⟩
/-- what is new behind H0 and of which S holds -/
def NewIn (S : V → Hp → Prop) (H0 : Hp) (v : V) (H : Hp) : Prop := S v H ∧ ∃ p, v = .ref p ∧ H0 p = none ∧ ∃ o, H p = some o
/-- a new list of new values -/
def NewLN (H : Hp) (n : Nat) (S : Nat → V → Hp → Prop) (v : V) (H2 : Hp) : Prop := ∃ p ys, v = .ref p ∧ H p = none ∧ H2 p = some (.lst ys) ∧ ys.length = n ∧ (∀ (i : Nat) y, ys[i]? = some y → S i y H2 ∧ y ≠ .ref p ∧ ∃ q, y = .ref q ∧ H q = none ∧ ∃ o, H2 q = some o) ∧
  ∀ (i j : Nat) y, ys[i]? = some y → ys[j]? = some y → i = j
theorem evp_lcN {wi : TI} {g : TG} {te : TE} {vs : List Nat} {σ : L2.St} {H : Hp} {n : Nat} {Y : Nat → Hp → V → Hp → Prop} {P : Nat → L2.St → Hp → Prop} {S : Nat → V → Hp → Prop}
    (hn : n ≤ 10000) (hsrc : Src wi σ H n Y) (hS : ∀ i, Mono (S i)) (hT : ∀ i, StabN (S i))
    (hitem : ∀ i H1 x H2 (K : L2.St → Hp → Prop), i < n → Ex H H1 → Y i H1 x H2 → (∀ σi H3, Ex H1 H3 → wipe σi vs = wipe σ vs → P i σi H3 → K σi H3) → g x (wipe σ vs) H2 K)
    (he : ∀ i σi H1, i < n → Ex H H1 → P i σi H1 → EvP te σi H1 (NewIn (S i) H1)) : EvP (tLc wi g tYes te vs) σ H (NewLN H n S) := by
  intro H1 e1 Q k
  refine hsrc H1 e1 _ fun J G H2 e2 w hG => fun D hD => ?_
  have e12 := e1.trans e2
  refine lc_it w (fun i H' => Ex H2 H' ∧ ∃ ys, H' D = some (.lst ys) ∧ ys.length = i ∧ (∀ (j : Nat) y, ys[j]? = some y → S j y H' ∧ y ≠ .ref D ∧ ∃ q, y = .ref q ∧ H q = none ∧ ∃ o, H' q = some o) ∧ ∀ (a b : Nat) y, ys[a]? = some y → ys[b]? = some y → a = b)
    ⟨Ex.new hD, [], upd_same, rfl, fun j y z => by simp at z, fun a b y z => by simp at z⟩ (fun i H' _ p => hG _ p.1) ?_ ?_
  · intro i x H' H'' hi p hy
    obtain ⟨p1, ys, p2, p3, p4, p5⟩ := p
    refine hitem i H' x H'' _ hi (e12.trans p1) hy fun σi H3 e3 hw hP => ⟨hw, ?_⟩
    show te σi H3 _
    refine he i σi H3 hi ((e12.trans p1).trans e3) hP H3 (Ex.refl _) _ fun y H4 e4 ⟨hSy, q, hyq, hq0, o, hqo⟩ => ?_
    have e34 := e3.trans e4
    have hD4 := e34 _ _ p2
    have hq1 : H q = none := fresh_back ((e12.trans p1).trans e3) hq0
    have hqD : q ≠ D := fun z => by
      rw [z, e3 _ _ p2] at hq0
      cases hq0
    refine ⟨ys, hD4, sz_lt (by omega), Ex.mut (p1.trans e34) hD, ys ++ [y], upd_same, by rw [List.length_append, p3]; rfl, fun j z hz => ?_, fun a b z ha hb => ?_⟩
    · have st : ∀ i v, v ≠ .ref D → S i v H4 → S i v (upd H4 D (.lst (ys ++ [y]))) := fun i v nv h => hT i v H4 _ D ys (fun a o ne ha => (upd_ne ne).trans ha) hD4 nv h
      by_cases hj : j < ys.length
      · rw [List.getElem?_append_left hj] at hz
        obtain ⟨s1, s2, r, s3, s4, o', s5⟩ := p4 j z hz
        refine ⟨st j z s2 (hS j z _ _ e34 s1), s2, r, s3, s4, o', ?_⟩
        rw [upd_ne (fun e => s2 (by rw [s3, e]))]
        exact e34 _ _ s5
      · have hj2 : j = i := by
          have := (List.getElem?_eq_some_iff.mp hz).1
          rw [List.length_append, List.length_singleton] at this
          omega
        subst hj2
        rw [List.getElem?_append_right (by omega), p3, Nat.sub_self] at hz
        simp at hz
        subst hz
        have nD : y ≠ .ref D := fun z => hqD (by rw [hyq] at z; exact V.ref.inj z)
        exact ⟨st _ _ nD hSy, nD, q, hyq, hq1, o, by rw [upd_ne hqD]; exact hqo⟩
    · have old : ∀ (c : Nat), c < ys.length → ys[c]? ≠ some y := fun c hc z => by
        obtain ⟨_, _, r, s3, _, o', s5⟩ := p4 c y z
        rw [hyq] at s3
        cases s3
        rw [e3 _ _ s5] at hq0
        cases hq0
      have big : ∀ (c : Nat) z, (ys ++ [y])[c]? = some z → ¬ c < ys.length → c = ys.length ∧ z = y := fun c z hz hc => by
        have h1 := (List.getElem?_eq_some_iff.mp hz).1
        rw [List.length_append, List.length_singleton] at h1
        have h2 : c = ys.length := by omega
        subst h2
        rw [List.getElem?_append_right (Nat.le_refl _), Nat.sub_self] at hz
        simp at hz
        exact ⟨rfl, hz.symm⟩
      by_cases h1 : a < ys.length
      · by_cases h2 : b < ys.length
        · rw [List.getElem?_append_left h1] at ha
          rw [List.getElem?_append_left h2] at hb
          exact p5 a b z ha hb
        · obtain ⟨_, ez⟩ := big b z hb h2
          subst ez
          rw [List.getElem?_append_left h1] at ha
          exact absurd ha (old a h1)
      · obtain ⟨ea, ez⟩ := big a z ha h1
        subst ez
        by_cases h2 : b < ys.length
        · rw [List.getElem?_append_left h2] at hb
          exact absurd hb (old b h2)
        · obtain ⟨eb, _⟩ := big b z hb h2
          omega
  · intro H' p
    obtain ⟨p1, ys, p2, p3, p4, p5⟩ := p
    exact k _ _ (e2.trans p1) ⟨D, ys, rfl, fresh_back e12 hD, p2, p3, p4, p5⟩
theorem newLN_new {β : Type} {S : β → V → Hp → Prop} {n : Nat} {xs : List β} (hn : xs.length = n) {v : V} {H H' : Hp} (h : NewLN H n (fun i v H => ∃ y, xs[i]? = some y ∧ S y v H) v H') : NewIn (LstAt S xs) H v H' := by
  obtain ⟨p, ys, ev, hp, h2, hl, hy, _⟩ := h
  refine ⟨⟨p, ys, ev, h2, by omega, fun i x w h3 h4 => ?_⟩, p, ev, hp, _, h2⟩
  obtain ⟨⟨y, h5, h6⟩, _⟩ := hy i w h4
  rw [h3] at h5
  cases h5
  exact h6
theorem newL_new {β : Type} {S : β → V → Hp → Prop} {n : Nat} {xs : List β} (hn : xs.length = n) {v : V} {H H' : Hp} (h : NewL H n (fun i v H => ∃ y, xs[i]? = some y ∧ S y v H) v H') : NewIn (LstAt S xs) H v H' := by
  have z := newL_lst hn h
  obtain ⟨p, ys, ev, hp, h2, _⟩ := h
  exact ⟨z, p, ev, hp, _, h2⟩
section
variable {α β γ : Type} {R : α → V → Hp → Prop} {R2 : β → V → Hp → Prop} {S : γ → V → Hp → Prop} {K : PySem.W.Frag} {tl te ta tb : TE} {σ : L2.St} {H : Hp}
theorem evp_new {S : V → Hp → Prop} (h : EvP te σ H (NewIn S H)) : EvP te σ H S := EvP.imp h fun _ _ _ r => r.1
/-- a list, new -/
theorem evp_mapLn {f : α → γ} {j : Nat} {vs : List Nat} {xs : List α} (mR : MonoR R) (mS : MonoR S) (sS : ∀ y, Stab (S y)) (h : EvP tl σ H (LstAt R xs)) (hz : xs.length ≤ 10000) (hw : ∀ v, wipe ((wipe σ vs).set j (some v)) vs = wipe σ vs)
    (he : ∀ v x H1, Ex H H1 → x ∈ xs → R x v H1 → EvP te ((wipe σ vs).set j (some v)) H1 (S (f x))) : EvP (tLc (iList K tl) (gName j) tYes te vs) σ H (NewIn (LstAt S (xs.map f)) H) :=
  EvP.imp (evp_lc (P := fun i σi H1 => ∃ v x, σi = (wipe σ vs).set j (some v) ∧ xs[i]? = some x ∧ R x v H1) (S := fun i v H => ∃ y, (xs.map f)[i]? = some y ∧ S y v H) hz (src_list mR h)
    (fun i v H1 H2 e ⟨y, h1, h2⟩ => ⟨y, h1, mS _ _ _ _ e h2⟩) (fun i v H1 H2 D zs fr hD ⟨y, h1, h2⟩ => ⟨y, h1, sS y v H1 H2 D zs fr hD h2⟩)
    (fun i H1 v H2 kk hi e ⟨e2, x, hx, hr⟩ kz => by subst e2; exact kz _ _ (Ex.refl _) (hw v) ⟨v, x, rfl, hx, hr⟩)
    (fun i σi H1 hi e ⟨v, x, e1, hx, hr⟩ => by
      subst e1
      exact EvP.imp (he v x H1 e (List.mem_of_getElem? hx) hr) fun w H2 _ r => ⟨f x, by rw [List.getElem?_map, hx]; rfl, r⟩))
    fun v H' _ r => newL_new (by rw [List.length_map]) r
theorem evp_mapRn {f : Nat → γ} {j n : Nat} {vs : List Nat} {t1 : TA} (mS : MonoR S) (sS : ∀ y, Stab (S y)) (h : EvA t1 σ H [.int (n : Int)]) (hz : n ≤ 10000) (hw : ∀ v, wipe ((wipe σ vs).set j (some v)) vs = wipe σ vs)
    (he : ∀ (i : Nat) H1, Ex H H1 → i < n → EvP te ((wipe σ vs).set j (some (.int (i : Int)))) H1 (S (f i))) : EvP (tLc (iRng1 t1) (gName j) tYes te vs) σ H (NewIn (LstAt S ((List.range n).map f)) H) :=
  EvP.imp (evp_lc (P := fun i σi H1 => σi = (wipe σ vs).set j (some (.int (i : Int)))) (S := fun i v H => ∃ y, ((List.range n).map f)[i]? = some y ∧ S y v H) hz (src_rng h hz)
    (fun i v H1 H2 e ⟨y, h1, h2⟩ => ⟨y, h1, mS _ _ _ _ e h2⟩) (fun i v H1 H2 D zs fr hD ⟨y, h1, h2⟩ => ⟨y, h1, sS y v H1 H2 D zs fr hD h2⟩)
    (fun i H1 v H2 kk hi e ⟨e2, ev⟩ kz => by subst e2 ev; exact kz _ _ (Ex.refl _) (hw _) rfl)
    (fun i σi H1 hi e e1 => by
      subst e1
      exact EvP.imp (he i H1 e hi) fun w H2 _ r => ⟨f i, by rw [List.getElem?_map, List.getElem?_range hi]; rfl, r⟩))
    fun v H' _ r => newL_new (by rw [List.length_map, List.length_range]) r
/-- lists of new lists -/
theorem evp_mapLN {f : α → γ} {j : Nat} {vs : List Nat} {xs : List α} (mR : MonoR R) (mS : MonoR S) (sS : ∀ y, StabN (S y)) (h : EvP tl σ H (LstAt R xs)) (hz : xs.length ≤ 10000) (hw : ∀ v, wipe ((wipe σ vs).set j (some v)) vs = wipe σ vs)
    (he : ∀ v x H1, Ex H H1 → x ∈ xs → R x v H1 → EvP te ((wipe σ vs).set j (some v)) H1 (NewIn (S (f x)) H1)) : EvP (tLc (iList K tl) (gName j) tYes te vs) σ H (NewLN H xs.length (fun i v H => ∃ y, (xs.map f)[i]? = some y ∧ S y v H)) :=
  (evp_lcN (P := fun i σi H1 => ∃ v x, σi = (wipe σ vs).set j (some v) ∧ xs[i]? = some x ∧ R x v H1) (S := fun i v H => ∃ y, (xs.map f)[i]? = some y ∧ S y v H) hz (src_list mR h)
    (fun i v H1 H2 e ⟨y, h1, h2⟩ => ⟨y, h1, mS _ _ _ _ e h2⟩) (fun i v H1 H2 D zs fr hD n ⟨y, h1, h2⟩ => ⟨y, h1, sS y v H1 H2 D zs fr hD n h2⟩)
    (fun i H1 v H2 kk hi e ⟨e2, x, hx, hr⟩ kz => by subst e2; exact kz _ _ (Ex.refl _) (hw v) ⟨v, x, rfl, hx, hr⟩)
    (fun i σi H1 hi e ⟨v, x, e1, hx, hr⟩ => by
      subst e1
      exact EvP.imp (he v x H1 e (List.mem_of_getElem? hx) hr) fun w H2 _ r => ⟨⟨f x, by rw [List.getElem?_map, hx]; rfl, r.1⟩, r.2⟩))
theorem evp_mapRN {f : Nat → γ} {j n : Nat} {vs : List Nat} {t1 : TA} (mS : MonoR S) (sS : ∀ y, StabN (S y)) (h : EvA t1 σ H [.int (n : Int)]) (hz : n ≤ 10000) (hw : ∀ v, wipe ((wipe σ vs).set j (some v)) vs = wipe σ vs)
    (he : ∀ (i : Nat) H1, Ex H H1 → i < n → EvP te ((wipe σ vs).set j (some (.int (i : Int)))) H1 (NewIn (S (f i)) H1)) : EvP (tLc (iRng1 t1) (gName j) tYes te vs) σ H (NewLN H n (fun i v H => ∃ y, ((List.range n).map f)[i]? = some y ∧ S y v H)) :=
  (evp_lcN (P := fun i σi H1 => σi = (wipe σ vs).set j (some (.int (i : Int)))) (S := fun i v H => ∃ y, ((List.range n).map f)[i]? = some y ∧ S y v H) hz (src_rng h hz)
    (fun i v H1 H2 e ⟨y, h1, h2⟩ => ⟨y, h1, mS _ _ _ _ e h2⟩) (fun i v H1 H2 D zs fr hD n ⟨y, h1, h2⟩ => ⟨y, h1, sS y v H1 H2 D zs fr hD n h2⟩)
    (fun i H1 v H2 kk hi e ⟨e2, ev⟩ kz => by subst e2 ev; exact kz _ _ (Ex.refl _) (hw _) rfl)
    (fun i σi H1 hi e e1 => by
      subst e1
      exact EvP.imp (he i H1 e hi) fun w H2 _ r => ⟨⟨f i, by rw [List.getElem?_map, List.getElem?_range hi]; rfl, r.1⟩, r.2⟩))
end
theorem mem_map_len {α β : Type} {f : α → β} {xs : List α} : (xs.map f).length = xs.length := List.length_map f
/-- [(0, 1)] * n, new -/
theorem evp_repN {n : Nat} {tw : TE} {σ : L2.St} {H : Hp} (hw : ∀ H1, Ex H H1 → Ev tw σ H1 (.int (n : Int))) (hn : n ≤ 10000) : EvP (tOp rRep (tLst (tCons (tTup (tCons (tC (.int 0)) (tCons (tC (.int 1)) tNil))) tNil)) tw) σ H (NewIn (LstAt RP (List.replicate n 0)) H) := fun H1 e Q k => by
  refine ⟨by show 2 ≤ sizeLine; decide, fun p hp => ?_⟩
  refine ⟨by show 1 ≤ sizeLine; decide, fun l hl => ?_⟩
  have e1 : Ex H1 (upd (upd H1 p (.tup [.int 0, .int 1])) l (.lst [.ref p])) := (Ex.new hp).trans (Ex.new hl)
  have nl : p ≠ l := (ne_of_none upd_same hl)
  have pA : PrAt (upd (upd H1 p (.tup [.int 0, .int 1])) l (.lst [.ref p])) (.ref p) 0 := ⟨p, rfl, by rw [upd_ne nl, upd_same]; rfl⟩
  have hlA : (upd (upd H1 p (.tup [.int 0, .int 1])) l (.lst [.ref p])) l = some (.lst [.ref p]) := upd_same
  generalize upd (upd H1 p (.tup [.int 0, .int 1])) l (.lst [.ref p]) = H2 at e1 pA hlA ⊢
  refine hw H2 (e.trans e1) H2 (Ex.refl _) _ fun H3 e3 => ?_
  refine ⟨l, n, [.ref p], rfl, rfl, e3 _ _ hlA, by omega, by omega, sz_of (by rw [Int.toNat_natCast, List.length_singleton]; omega), fun r hr => ?_⟩
  refine k _ _ ((e1.trans e3).trans (Ex.new hr)) ⟨⟨r, _, rfl, upd_same, ?_⟩, r, rfl, fresh_back ((e.trans e1).trans e3) hr, _, upd_same⟩
  rw [flat_rep, Int.toNat_natCast]
  exact allR_rep (R := RP) ((pA.mono e3).mono (Ex.new hr))
/-! ### lists of rows of pairs -/
abbrev RR : List Rat → V → Hp → Prop := LstAt RP
abbrev LLAt (rows : List (List Rat)) (v : V) (H : Hp) : Prop := LstAt RR rows v H
theorem mono_rr : MonoR RR := mono_lst mono_rp
theorem stabN_rr (row : List Rat) : StabN (RR row) := stabN_lst fun _ => stab_pair
theorem mono_ll {rows : List (List Rat)} : Mono (LLAt rows) := fun v H H' e h => mono_lst mono_rr rows v H H' e h
def spMatrix (C : Addr) : Sp := fun vs H Q _ => ∃ (x : V) (rows : List (List Rat)), vs = [x] ∧ LLAt rows x H ∧ rows.length ≤ 10000 ∧ (∀ r ∈ rows, r.length ≤ 10000 ∧ ∀ q ∈ r, q.den < 2 ^ 9000) ∧ NewV (MatAt C rows) H Q
def spMatIs (C : Addr) : Sp := fun vs H Q _ => ∃ (x y : V) (rows : List (List Rat)), vs = [x, y] ∧ MatAt C rows x H ∧ LLAt rows y H ∧ rows.length ≤ 10000 ∧ (∀ r ∈ rows, r.length ≤ 10000) ∧ ∀ H', Ex H H' → Q (.bl true) H'
def spTurned : Sp := fun vs H Q _ => ∃ (x : V) (rows : List (List Rat)) (w : Nat), vs = [x, .int (w : Int)] ∧ LLAt rows x H ∧ Wide w rows ∧ rows.length ≤ 10000 ∧ w ≤ 10000 ∧ NewV (LLAt (transQ rows w)) H Q
section
variable {C : Addr} {K : PySem.W.Frag} {ta tb : TE} {σ : L2.St} {H : Hp} {E : XK} {rows : List (List Rat)}
theorem evp_matrix (ha : EvP ta σ H (LLAt rows)) (h1 : rows.length ≤ 10000) (h2 : ∀ r ∈ rows, r.length ≤ 10000 ∧ ∀ q ∈ r, q.den < 2 ^ 9000) : EvP (tCall (spMatrix C) [] E (tCons ta tNil)) σ H (MatAt C rows) :=
  evp_call1 ha fun v H1 _ r Q2 E2 k2 => ⟨v, rows, rfl, r, h1, h2, k2⟩
theorem ev_mis (ha : EvP ta σ H (MatAt C rows)) (hb : EvP tb σ H (LLAt rows)) (h1 : rows.length ≤ 10000) (h2 : ∀ r ∈ rows, r.length ≤ 10000) : Ev (tCall (spMatIs C) [] E (tCons ta (tCons tb tNil))) σ H (.bl true) :=
  ev_of (evp_call2 mono_mat ha hb fun v u H1 _ r1 r2 Q2 E2 k2 => ⟨v, u, rows, rfl, r1, r2, h1, h2, fun H4 e4 => k2 _ _ e4 rfl⟩)
theorem evp_turned {w : Nat} (ha : EvP ta σ H (LLAt rows)) (hb : Ev tb σ H (.int (w : Int))) (hw : Wide w rows) (h1 : rows.length ≤ 10000) (h2 : w ≤ 10000) : EvP (tCall spTurned [] E (tCons ta (tCons tb tNil))) σ H (LLAt (transQ rows w)) :=
  evp_call2 mono_ll ha (evp_of hb) fun v u H1 _ r1 eu Q2 E2 k2 => by subst eu; exact ⟨v, rows, w, rfl, r1, hw, h1, h2, k2⟩
end
end Pn

namespace Pn
open PySem L2 Evl
/-- two matrices of one shape, compared -/
theorem mat_dt {C : Addr} {H : Hp} {a b : List (List Rat)} {x y : V} (hx : MatAt C a x H) (hy : MatAt C b y H) (hl : a.length = b.length) (hw : ∀ (i : Nat) p q, a[i]? = some p → b[i]? = some q → p.length = q.length) : DT (DT (DR C)) x y (decide (a = b)) H := by
  obtain ⟨p, xs, rfl, h1, A1⟩ := hx
  obtain ⟨q, ys, rfl, h2, A2⟩ := hy
  refine ⟨p, q, xs, ys, fun i => decide (a.getD i [] = b.getD i []), rfl, rfl, h1, h2, by rw [A1.1, A2.1]; exact hl, fun i x y g1 g2 => ?_, ?_, fun e => ?_⟩
  · obtain ⟨s, hs, rs⟩ := A1.getV g1
    obtain ⟨t, ht, rt⟩ := A2.getV g2
    have z := vec_dt rs rt (hw i s t hs ht)
    dsimp only
    rw [List.getD_eq_getElem?_getD, List.getD_eq_getElem?_getD, hs, ht]
    exact z
  · rw [decide_eq_true_iff, A1.1]
    constructor
    · intro e i _
      rw [e]
      simp
    · intro h
      refine List.ext_getElem? fun i => ?_
      by_cases hi : i < a.length
      · have := of_decide_eq_true (h i hi)
        rw [getD_get (d := []) hi, getD_get (d := []) (hl ▸ hi), this]
      · rw [List.getElem?_eq_none (by omega), List.getElem?_eq_none (by omega)]
  · subst e
    rw [h1] at h2
    injection h2 with h2
    injection h2 with h2
    subst h2
    rw [decide_eq_true_iff]
    refine List.ext_getElem? fun i => ?_
    by_cases hi : i < a.length
    · obtain ⟨v, hv, r1⟩ := A1.get (List.getElem?_eq_getElem hi)
      obtain ⟨u, hu, r2⟩ := A2.get (List.getElem?_eq_getElem (hl ▸ hi))
      rw [hv] at hu
      cases hu
      have z := vec_dt r1 r2 (hw i _ _ (List.getElem?_eq_getElem hi) (List.getElem?_eq_getElem (hl ▸ hi)))
      obtain ⟨a', c', _, _, _, e1, e2, _, _, _, _, _, hr⟩ := z
      rw [e1] at e2
      injection e2 with e2
      rw [List.getElem?_eq_getElem hi, List.getElem?_eq_getElem (hl ▸ hi), of_decide_eq_true (hr e2)]
    · rw [List.getElem?_eq_none (by omega), List.getElem?_eq_none (by omega)]
/-- == of two pairs -/
theorem op_eqDK {X : Cx} {K : PySem.W.Frag} (hK : X.K = K) (hu : X.A.units + 64 < cLine) : OpR X (compareOp .Eq) (rEqD K) := by
  subst hK
  exact op_eqD hu
theorem eqv_pair (a b c d : Int) : PyData.eqv (.tuple [.int a, .int b]) (.tuple [.int c, .int d]) = decide (a = c ∧ b = d) := by
  simp only [PyData.eqv, PyData.eqvAll]
  by_cases h1 : a = c <;> by_cases h2 : b = d <;> simp [h1, h2]
theorem rat_eq_dec (p q : Rat) : decide (p.num = q.num ∧ (p.den : Int) = (q.den : Int)) = decide (p = q) := by
  refine decide_eq_decide.mpr ⟨fun ⟨h1, h2⟩ => Rat.ext h1 (by omega), fun h => by rw [h]; exact ⟨rfl, rfl⟩⟩
section
variable {K : PySem.W.Frag} {σ : L2.St} {H : Hp} {ta tb : TE} {p q : Rat}
theorem ev_pairEq (ha : EvP ta σ H (fun v H => PrAt H v p)) (hb : EvP tb σ H (fun v H => PrAt H v q)) : Ev (tOp (rEqD K) ta tb) σ H (.bl (decide (p = q))) := fun H1 e Q k =>
  ha H1 e _ fun v H2 e2 ⟨a, ev, h1⟩ => hb H2 (e.trans e2) _ fun w H3 e3 ⟨b, ew, h2⟩ => by
    subst ev ew
    refine ⟨_, _, .tup (SqT.of (e3 _ _ h1)) (.cons (.int _) (.cons (.int _) .nil)), .tup (SqT.of h2) (.cons (.int _) (.cons (.int _) .nil)), rfl, rfl, ?_⟩
    rw [eqv_pair, rat_eq_dec]
    exact k _ (e2.trans e3)
theorem ev_cmpB {g : Bool → Bool} {S : Cmp} {b : Bool} {S1 S2 : V → Hp → Prop} (m : Mono S1) (ha : EvP ta σ H S1) (hb : EvP tb σ H S2) (hs : ∀ v w H1, Ex H H1 → S1 v H1 → S2 w H1 → S v w b H1) : Ev (tOp (rCmpB g S) ta tb) σ H (.bl (g b)) := fun H1 e Q k =>
  ha H1 e _ fun v H2 e2 hv => hb H2 (e.trans e2) _ fun w H3 e3 hw => ⟨b, hs v w H3 ((e.trans e2).trans e3) (m _ _ _ e3 hv) hw, fun H4 e4 => k _ ((e2.trans e3).trans e4)⟩
end
end Pn
namespace Pn
theorem sym_no {rows : List (List Rat)} {w : Nat} (hw : Wide w rows) (h : (rows.any fun r => !decide (r.length = rows.length)) = true) : (decide (rows.length = 0 ∨ w = rows.length) && decide (rows = transQ rows rows.length)) = false := by
  obtain ⟨r, hr, hb⟩ := List.any_eq_true.mp h
  have h1 : r.length ≠ rows.length := by simpa using hb
  have h2 : rows.length ≠ 0 := fun e => by
    rw [List.length_eq_zero_iff] at e
    subst e
    cases hr
  rw [hw r hr] at h1
  rw [decide_eq_false (by intro h; rcases h with h | h; exact h2 h; exact h1 h)]
  rfl
theorem sym_yes {rows : List (List Rat)} {w : Nat} (hw : Wide w rows) (h : (rows.any fun r => !decide (r.length = rows.length)) = false) : (decide (rows.length = 0 ∨ w = rows.length) && decide (rows = transQ rows rows.length)) = decide (rows = transQ rows rows.length) ∧ Wide rows.length rows := by
  have hall : ∀ r ∈ rows, r.length = rows.length := fun r hr => by
    have := List.any_eq_false.mp h r hr
    simpa using this
  refine ⟨?_, hall⟩
  cases rows with
  | nil => rfl
  | cons r rs =>
    have : w = (r :: rs).length := by rw [← hw r List.mem_cons_self, hall r List.mem_cons_self]
    rw [decide_eq_true (.inr this)]
    rfl
end Pn
namespace Pn
open PySem L2 Evl
def spSquare : Sp := fun vs H Q _ => ∃ (st : Addr × Addr) (c n : Nat), vs = [.ref st.1, .int (n : Int)] ∧ StAt st c H ∧ n ≤ 100 ∧ c + (4 * n + 1) * n + 10 < cMax ∧
  ∀ T vr rows H', rows.length = n → Wide n rows → AllM 40 rows → H' T = some (.tup [vr, .bl (decide (rows = transQ rows n))]) → LLAt rows vr H' → FrS st H H' → Q (.ref T) H'
end Pn

namespace Pn
def at2 (M : List (List Rat)) (k j : Nat) : Rat := (M.getD k []).getD j 0
theorem getD_map_range {α : Type} {n k : Nat} {f : Nat → α} {d : α} (h : k < n) : ((List.range n).map f).getD k d = f k := by
  rw [List.getD_eq_getElem?_getD, List.getElem?_map, List.getElem?_range h]
  rfl
theorem at2_fun {n w k j : Nat} {f : Nat → Nat → Rat} (hk : k < n) (hj : j < w) : at2 ((List.range n).map fun k => (List.range w).map fun j => f k j) k j = f k j := by
  unfold at2
  rw [getD_map_range hk, getD_map_range hj]
theorem getD_wide {M : List (List Rat)} {w k : Nat} (hw : Wide w M) (hk : k < M.length) : (M.getD k []).length = w := hw _ (List.mem_of_getElem? (getD_get hk))
theorem mat_ext {A B : List (List Rat)} {w : Nat} (hl : A.length = B.length) (hA : Wide w A) (hB : Wide w B) (h : ∀ i j, i < A.length → j < w → at2 A i j = at2 B i j) : A = B := by
  refine List.ext_getElem? fun i => ?_
  by_cases hi : i < A.length
  · rw [getD_get (d := []) hi, getD_get (d := []) (hl ▸ hi)]
    congr 1
    refine List.ext_getElem? fun j => ?_
    have l1 := getD_wide hA hi
    have l2 := getD_wide hB (k := i) (hl ▸ hi)
    by_cases hj : j < w
    · rw [getD_get (d := 0) (by rw [l1]; exact hj), getD_get (d := 0) (by rw [l2]; exact hj)]
      exact congrArg some (h i j hi hj)
    · rw [List.getElem?_eq_none (by rw [l1]; omega), List.getElem?_eq_none (by rw [l2]; omega)]
  · rw [List.getElem?_eq_none (by omega), List.getElem?_eq_none (by omega)]
theorem getD_map' {α β : Type} {f : α → β} {xs : List α} {i : Nat} {d : β} {e : α} (h : i < xs.length) : (xs.map f).getD i d = f (xs.getD i e) := by
  rw [List.getD_eq_getElem?_getD, List.getElem?_map, getD_get (d := e) h]
  rfl
theorem at2_trans {M : List (List Rat)} {w i j : Nat} (hi : i < w) (hj : j < M.length) : at2 (transQ M w) i j = at2 M j i := by
  unfold at2 transQ
  rw [getD_map_range hi, getD_map' (e := []) hj]
theorem sym_iff {M : List (List Rat)} {n : Nat} (hl : M.length = n) (hw : Wide n M) : M = transQ M n ↔ ∀ i j, i < n → j < n → at2 M i j = at2 M j i := by
  constructor
  · intro h i j hi hj
    have e := at2_trans (M := M) (w := n) (i := i) (j := j) hi (by omega)
    rw [← h] at e
    exact e
  · intro h
    refine mat_ext (w := n) (by rw [transQ_len]; exact hl) hw (by have := transQ_wide (rows := M) (w := n); rw [hl] at this; exact this) fun i j hi hj => ?_
    rw [at2_trans (by omega) (by omega)]
    exact h i j (by omega) hj
def symQ (n : Nat) (M : List (List Rat)) : List (List Rat) := (List.range n).map fun k => (List.range n).map fun j => if j < k then at2 M j k else at2 M k j
theorem symQ_len (n : Nat) (M : List (List Rat)) : (symQ n M).length = n := by unfold symQ; rw [List.length_map, List.length_range]
theorem symQ_wide (n : Nat) (M : List (List Rat)) : Wide n (symQ n M) := fun r hr => by
  unfold symQ at hr
  obtain ⟨k, _, rfl⟩ := List.mem_map.mp hr
  rw [List.length_map, List.length_range]
theorem at2_sm {M : List (List Rat)} {n m k j : Nat} (h : AllM m M) (hl : M.length = n) (hw : Wide n M) (hk : k < n) (hj : j < n) : SmB m (at2 M k j) := by
  have g := getD_get (xs := M) (d := []) (i := k) (by omega)
  have r := List.mem_of_getElem? g
  exact h _ r _ (List.mem_of_getElem? (getD_get (by rw [hw _ r]; exact hj)))
theorem symQ_sm {M : List (List Rat)} {n m : Nat} (h : AllM m M) (hl : M.length = n) (hw : Wide n M) : AllM m (symQ n M) := fun r hr q hq => by
  unfold symQ at hr
  obtain ⟨k, hk, rfl⟩ := List.mem_map.mp hr
  obtain ⟨j, hj, rfl⟩ := List.mem_map.mp hq
  rw [List.mem_range] at hk hj
  split
  · exact at2_sm h hl hw hj hk
  · exact at2_sm h hl hw hk hj
theorem symQ_sym (n : Nat) (M : List (List Rat)) : symQ n M = transQ (symQ n M) n := by
  refine (sym_iff (symQ_len n M) (symQ_wide n M)).mpr fun i j hi hj => ?_
  unfold symQ
  rw [at2_fun hi hj, at2_fun hj hi]
  by_cases h1 : j < i
  · rw [if_pos h1, if_neg (by omega)]
  · by_cases h2 : i < j
    · rw [if_neg h1, if_pos h2]
    · have : i = j := by omega
      subst this
      rfl
def set2 (M : List (List Rat)) (j k : Nat) (q : Rat) : List (List Rat) := M.set j ((M.getD j []).set k q)
theorem set2_len (M : List (List Rat)) (j k : Nat) (q : Rat) : (set2 M j k q).length = M.length := by unfold set2; rw [List.length_set]
theorem set2_mem {M : List (List Rat)} {j k : Nat} {q : Rat} {r : List Rat} (h : r ∈ set2 M j k q) (hj : j < M.length) : r ∈ M ∨ r = (M.getD j []).set k q := List.mem_or_eq_of_mem_set h
theorem set2_wide {M : List (List Rat)} {n j k : Nat} {q : Rat} (hw : Wide n M) (hj : j < M.length) : Wide n (set2 M j k q) := fun r hr => by
  rcases set2_mem hr hj with h | h
  · exact hw r h
  · rw [h, List.length_set]
    exact getD_wide hw hj
theorem set2_sm {M : List (List Rat)} {m j k : Nat} {q : Rat} (h : AllM m M) (hq : SmB m q) (hj : j < M.length) : AllM m (set2 M j k q) := fun r hr x hx => by
  rcases set2_mem hr hj with e | e
  · exact h r e x hx
  · subst e
    rcases List.mem_or_eq_of_mem_set hx with e | e
    · exact h _ (List.mem_of_getElem? (getD_get hj)) x e
    · exact e ▸ hq
theorem getD_set {α : Type} {xs : List α} {i j : Nat} {x d : α} (h : i < xs.length) : (xs.set i x).getD j d = if j = i then x else xs.getD j d := by
  rw [List.getD_eq_getElem?_getD, List.getD_eq_getElem?_getD, List.getElem?_set]
  by_cases e : i = j
  · subst e
    rw [if_pos rfl, if_pos h, if_pos rfl]
    rfl
  · rw [if_neg e, if_neg (fun z => e z.symm)]
theorem at2_set2 {M : List (List Rat)} {n j k a b : Nat} {q : Rat} (hw : Wide n M) (hj : j < M.length) (hk : k < n) : at2 (set2 M j k q) a b = if a = j ∧ b = k then q else at2 M a b := by
  unfold at2 set2
  rw [getD_set hj]
  by_cases e : a = j
  · subst e
    rw [if_pos rfl, getD_set (by rw [getD_wide hw hj]; exact hk)]
    by_cases e2 : b = k
    · rw [if_pos e2, if_pos ⟨rfl, e2⟩]
    · rw [if_neg e2, if_neg (fun z => e2 z.2)]
  · rw [if_neg e, if_neg (fun z => e z.1)]
theorem due_ok {M : List (List Rat)} {n j k : Nat} {q : Rat} (hl : M.length = n) (hw : Wide n M) (hs : M = transQ M n) (hj : j < n) (hk : k < n) (hjk : j ≠ k) :
    decide (at2 (set2 M j k q) j k = at2 (set2 M j k q) k j) = decide (set2 M j k q = transQ (set2 M j k q) n) := by
  refine decide_eq_decide.mpr ?_
  rw [sym_iff (by rw [set2_len]; exact hl) (set2_wide hw (by omega))]
  have s := (sym_iff hl hw).mp hs
  constructor
  · intro h a b ha hb
    rw [at2_set2 hw (by omega) hk, at2_set2 hw (by omega) hk, if_pos ⟨rfl, rfl⟩, if_neg (fun z => hjk z.2)] at h
    rw [at2_set2 hw (by omega) hk, at2_set2 hw (by omega) hk]
    by_cases h1 : a = j ∧ b = k
    · obtain ⟨rfl, rfl⟩ := h1
      rw [if_pos ⟨rfl, rfl⟩, if_neg (fun z => hjk z.2)]
      exact h
    · rw [if_neg h1]
      by_cases h2 : b = j ∧ a = k
      · obtain ⟨rfl, rfl⟩ := h2
        rw [if_pos ⟨rfl, rfl⟩]
        exact h.symm
      · rw [if_neg h2]
        exact s a b ha hb
  · intro h
    exact h j k hj hk
end Pn
namespace Pn
open PySem L2 Evl
/-- a list of rows of pairs, each row at a place of its own -/
def SqZ (st : Addr × Addr) (p : Addr) (zs : List V) (M : List (List Rat)) (H : Hp) : Prop := H p = some (.lst zs) ∧ zs.length = M.length ∧ p ≠ st.1 ∧
  (∀ (i : Nat) y, zs[i]? = some y → ∃ r q vs, M[i]? = some r ∧ y = .ref q ∧ q ≠ st.1 ∧ q ≠ p ∧ H q = some (.lst vs) ∧ AllR RP r vs H) ∧ ∀ (i j : Nat) y, zs[i]? = some y → zs[j]? = some y → i = j
theorem SqZ.frS {st : Addr × Addr} {p : Addr} {zs : List V} {M : List (List Rat)} {c : Nat} {H H' : Hp} (h : SqZ st p zs M H) (s : StAt st c H) (f : FrS st H H') : SqZ st p zs M H' := by
  obtain ⟨h1, h2, h3, h4, h5⟩ := h
  refine ⟨f _ _ h3 h1, h2, h3, fun i y hy => ?_, h5⟩
  obtain ⟨r, q, vs, g1, g2, g3, g4, g5, g6⟩ := h4 i y hy
  exact ⟨r, q, vs, g1, g2, g3, g4, f _ _ g3 g5, g6.kept (B := Bs st) kept_rp (fun b hb => by obtain ⟨items, n, h1, _⟩ := s; exact ⟨_, by rw [hb]; exact h1⟩) (fun a o n ha => f a o n ha)⟩
theorem SqZ.lst {st : Addr × Addr} {p : Addr} {zs : List V} {M : List (List Rat)} {H : Hp} (h : SqZ st p zs M H) : LLAt M (.ref p) H := by
  obtain ⟨h1, h2, h3, h4, h5⟩ := h
  refine ⟨p, zs, rfl, h1, h2, fun i x v hx hv => ?_⟩
  obtain ⟨r, q, vs, g1, g2, g3, g4, g5, g6⟩ := h4 i v hv
  rw [hx] at g1
  cases g1
  exact ⟨q, vs, g2, g5, g6⟩
theorem allR_set {r : List Rat} {vs : List V} {H : Hp} {k : Nat} {x : Rat} {v : V} (h : AllR RP r vs H) (hv : PrAt H v x) : AllR RP (r.set k x) (vs.set k v) H := by
  refine ⟨by rw [List.length_set, List.length_set]; exact h.1, fun i a b ha hb => ?_⟩
  rw [List.getElem?_set] at ha hb
  by_cases e : k = i
  · subst e
    rw [if_pos rfl] at ha hb
    split at ha
    · split at hb
      · cases ha
        cases hb
        exact hv
      · cases hb
    · cases ha
  · rw [if_neg e] at ha hb
    exact h.2 i a b ha hb
theorem SqZ.set {st : Addr × Addr} {p q : Addr} {zs vs : List V} {M : List (List Rat)} {H : Hp} {j k : Nat} {v : V} {x : Rat} (h : SqZ st p zs M H) (hj : zs[j]? = some (.ref q)) (hq : H q = some (.lst vs)) (hv : PrAt H v x) : SqZ st p zs (set2 M j k x) (upd H q (.lst (vs.set k v))) := by
  obtain ⟨h1, h2, h3, h4, h5⟩ := h
  obtain ⟨r, q', vs', g1, g2, g3, g4, g5, g6⟩ := h4 j _ hj
  cases g2
  rw [hq] at g5
  injection g5 with g5
  injection g5 with g5
  subst g5
  have hjl : j < M.length := (List.getElem?_eq_some_iff.mp g1).1
  have gr : M.getD j [] = r := by
    rw [getD_get (d := []) hjl] at g1
    exact Option.some.inj g1
  have kp : ∀ r vs1, AllR RP r vs1 H → AllR RP r vs1 (upd H q (.lst (vs.set k v))) := fun r vs1 a => a.kept (B := fun x => x = q) kept_rp (fun b hb => ⟨vs, by rw [hb]; exact hq⟩) (fun a o n ha => (upd_ne n).trans ha)
  refine ⟨(upd_ne (fun e => g4 e.symm)).trans h1, by rw [set2_len]; exact h2, h3, fun i y hy => ?_, h5⟩
  by_cases e : i = j
  · subst e
    rw [hj] at hy
    cases hy
    refine ⟨r.set k x, q, vs.set k v, ?_, rfl, g3, g4, upd_same, kp _ _ (allR_set g6 hv)⟩
    unfold set2
    rw [List.getElem?_set_self hjl, gr]
  · obtain ⟨r2, q2, vs2, a1, a2, a3, a4, a5, a6⟩ := h4 i y hy
    have nq : q2 ≠ q := fun z => e (h5 i j (.ref q) (by rw [hy, a2, z]) hj)
    refine ⟨r2, q2, vs2, ?_, a2, a3, a4, (upd_ne nq).trans a5, kp _ _ a6⟩
    unfold set2
    rw [List.getElem?_set_ne (fun z => e z.symm)]
    exact a1
end Pn
namespace Pn
theorem other_ix {n j k : Nat} {t : Int} (hn : 1 < n) (hj : j < n) (t0 : 0 ≤ t) (t1 : t < (n : Int) - 1) (h : ((j : Int) + 1 + t) % (n : Int) = (k : Int)) : k < n ∧ j ≠ k := by
  have h1 := Int.emod_lt_of_pos ((j : Int) + 1 + t) (b := (n : Int)) (by omega)
  refine ⟨by omega, fun e => ?_⟩
  subst e
  by_cases hh : (j : Int) + 1 + t < n
  · rw [Int.emod_eq_of_lt (by omega) hh] at h
    omega
  · have e2 : ((j : Int) + 1 + t) % (n : Int) = (j : Int) + 1 + t - n := by
      rw [← Int.sub_emod_right, Int.emod_eq_of_lt (by omega) (by omega)]
    omega
end Pn

namespace Pn
open PySem L2 Evl
theorem dotQ_comm : ∀ (a b : List Rat), dotQ a b = dotQ b a
  | [], b => by rw [dotQ_nil, dotQ_nil_right]
  | a :: as, [] => by rw [dotQ_nil_right, dotQ_nil]
  | a :: as, b :: bs => by
    unfold dotQ
    rw [dotQ_comm as bs, Rat.mul_comm]
theorem zerosQ_rep (h w : Nat) : zerosQ h w = (List.range h).map fun _ => List.replicate w (0 : Rat) := by
  unfold zerosQ
  rw [zeroQ_rep]
theorem mulQ_due {a b : List (List Rat)} {w : Nat} : mulQ a b w = a.map fun row => (transQ b w).map fun col => dotQ row col := by
  unfold mulQ applyQ
  refine List.map_congr_left fun row _ => List.map_congr_left fun col _ => dotQ_comm _ _
theorem at2_get {M : List (List Rat)} {n w a b : Nat} (hl : M.length = n) (hw : Wide w M) (ha : a < n) (hb : b < w) : M[a]? = some (M.getD a []) ∧ (M.getD a [])[b]? = some (at2 M a b) := by
  have g := getD_get (xs := M) (d := []) (i := a) (by omega)
  exact ⟨g, getD_get (by rw [hw _ (List.mem_of_getElem? g)]; exact hb)⟩
theorem addM_range {A B : List (List Rat)} {h w : Nat} (l1 : A.length = h) (l2 : B.length = h) (w1 : Wide w A) (w2 : Wide w B) : addM A B = (List.range h).map fun k => (List.range w).map fun j => at2 A k j + at2 B k j := by
  unfold addM
  refine List.ext_getElem? fun i => ?_
  by_cases hi : i < h
  · have g1 := getD_get (xs := A) (d := []) (i := i) (by omega)
    have g2 := getD_get (xs := B) (d := []) (i := i) (by omega)
    rw [List.getElem?_zipWith, g1, g2, List.getElem?_map, List.getElem?_range hi]
    show some _ = some _
    congr 1
    exact (zip_range (f := fun x y => x + y) (w1 _ (List.mem_of_getElem? g1)) (w2 _ (List.mem_of_getElem? g2))).symm
  · rw [List.getElem?_eq_none (by rw [List.length_zipWith]; omega), List.getElem?_eq_none (by rw [List.length_map, List.length_range]; omega)]
theorem ll_of {B : Addr → Prop} {M : List (List Rat)} {v : V} {H : Hp} (h : RowAt B (RowAt B RP) M v H) : LLAt M v H := by
  obtain ⟨a, vs, e, _, h1, h2, h3⟩ := h
  exact ⟨a, vs, e, h1, h2, fun i x v g1 g2 => (h3 i x v g1 g2).lst⟩
theorem kept_ll {B : Addr → Prop} : Kept B (RowAt B (RowAt B RP)) := kept_row (kept_row kept_rp)
theorem kept_mat {B : Addr → Prop} {C : Addr} : Kept B (TupAt (RV C)) := kept_tup (kept_tup kept_rq)
theorem mono_rowll {B : Addr → Prop} {M : List (List Rat)} : Mono (RowAt B (RowAt B RP) M) := fun v H H' e h => mono_row (mono_row mono_rp) M v H H' e h
/-- [_law_row(state, w) for k in range(h)] -/
theorem lc_rows {st : Addr × Addr} {c h w j a b : Nat} {vs : List Nat} {σ : L2.St} {H : Hp} {ta : TA} {E : XK} {Q : VK} (hA : EvA ta σ H [.int (h : Int)]) (hh : h ≤ 1000) (hw1 : w ≤ 1000) (s0 : StAt st c H) (hc : c + (4 * w + 1) * h + 5 < cMax)
    (hw : ∀ x, wipe ((wipe σ vs).set j (some x)) vs = wipe σ vs) (hS : ∀ x : V, ((wipe σ vs).set j (some x))[a]? = some (some (.ref st.1))) (hW : ∀ x : V, ((wipe σ vs).set j (some x))[b]? = some (some (.int (w : Int))))
    (k : ∀ M v H', M.length = h → Wide w M → AllM 40 M → RowAt (Bs st) (RowAt (Bs st) RP) M v H' → StAt st (c + (4 * w + 1) * h) H' → FrS st H H' → Q v H') :
    tLc (iRng1 ta) (gName j) tYes (tCall spRow [] E (tCons (tVar a) (tCons (tVar b) tNil))) vs σ H Q := by
  refine lc_state (st := st) (c := c) (n := h) (cost := 4 * w + 1) (S := fun D i v H => ∃ qs : List Rat, qs.length = w ∧ AllS 40 qs ∧ RowAt (fun a => a = st.1 ∨ a = D) RP qs v H) hA (by omega) s0 hw ?_ ?_ ?_ ?_
  · intro i D H' kk hi s f nD hD hD0 kz
    have hb : (4 * w + 1) * (i + 1) ≤ (4 * w + 1) * h := Nat.mul_le_mul_left _ hi
    rw [Nat.mul_add, Nat.mul_one] at hb
    refine ⟨_, hS _, _, hW _, st, c + (4 * w + 1) * i, w, rfl, s, (by omega), (by omega), fun qs v H2 l sm rA fr s2 f2 => ?_⟩
    refine kz v H2 (s2.mono (by rw [Nat.mul_add]; omega)) f2 ⟨qs, l, sm, ?_⟩
    obtain ⟨a, vs, rfl, nb, h1, h2⟩ := rA
    obtain ⟨a', e', fr⟩ := fr
    cases e'
    refine ⟨a, vs, rfl, fun z => ?_, h1, h2⟩
    rcases z with z | z
    · exact nb z
    · obtain ⟨ys, hy⟩ := hD
      rw [← z, fr] at hy
      cases hy
  · rintro D i v H' H2 c' s f ⟨qs, l, sm, a, vs, e, nb, h1, h2⟩
    exact ⟨qs, l, sm, a, vs, e, nb, f _ _ (fun z => nb (.inl z)) h1, h2.kept (B := Bs st) kept_rp (fun b hb => by obtain ⟨items, n, h1, _⟩ := s; exact ⟨_, by rw [hb]; exact h1⟩) (fun a o n ha => f a o n ha)⟩
  · rintro D i v H' ys zs hD ⟨qs, l, sm, a, vs, e, nb, h1, h2⟩
    exact ⟨qs, l, sm, a, vs, e, nb, (upd_ne (fun z => nb (.inr z))).trans h1, h2.kept (B := fun x => x = D) kept_rp (fun b hb => ⟨ys, by rw [hb]; exact hD⟩) (fun a o n ha => (upd_ne n).trans ha)⟩
  intro D ys H' nD hD0 s f hD hl hy
  obtain ⟨M, m1, m2⟩ := pick hy
  have get : ∀ r ∈ M, ∃ y, r.length = w ∧ AllS 40 r ∧ RowAt (fun a => a = st.1 ∨ a = D) RP r y H' := fun r hr => by
    obtain ⟨i, hi, e⟩ := List.mem_iff_getElem.mp hr
    exact ⟨_, m2 i _ r (List.getElem?_eq_getElem (by omega)) (by rw [List.getElem?_eq_getElem hi, e])⟩
  refine k M _ H' (by omega) (fun r hr => (get r hr).choose_spec.1) (fun r hr => (get r hr).choose_spec.2.1) ⟨D, ys, rfl, nD, hD, m1.symm, fun i x v h1 h2 => ?_⟩ s f
  obtain ⟨_, _, a, vs, e, nb, g1, g2⟩ := m2 i v x h2 h1
  exact ⟨a, vs, e, fun z => nb (.inl z), g1, g2⟩
end Pn
namespace Pn
open PySem L2 Evl
theorem mono_tupE {H H' : Hp} {a : Addr} {o : HO} (h : H a = some o) (e : Ex H H') : H' a = some o := e _ _ h
theorem rv_notB {a b : Bool} {H : Hp} : Evl.RV rNotB (.bl a) (.bl b) H (.bl (!decide (a = b))) := fun H1 _ Q k => ⟨a, b, rfl, rfl, k H1 (Ex.refl H1)⟩
theorem rv_isB {a b : Bool} {H : Hp} : Evl.RV rIsB (.bl a) (.bl b) H (.bl (decide (a = b))) := fun H1 _ Q k => ⟨a, b, rfl, rfl, k H1 (Ex.refl H1)⟩
end Pn

namespace Pn
open PySem L2 Evl
def spRefused (C : Addr) : Sp := fun vs H Q _ => ∃ (x : V) (p : Rat), vs = [x] ∧ RatAt C H x p ∧ SmB 40 p ∧ ∀ H', Ex H H' → Q (.bl true) H'
section
variable {C : Addr} {K : PySem.W.Frag} {ta tb : TE} {σ : L2.St} {H : Hp} {E : XK} {p q : Rat}
theorem ev_refused (ha : EvP ta σ H (fun v H => RatAt C H v p)) (hs : SmB 40 p) : Ev (tCall (spRefused C) [] E (tCons ta tNil)) σ H (.bl true) :=
  ev_of (evp_call1 ha fun v H1 _ r Q2 E2 k2 => ⟨v, p, rfl, r, hs, fun H4 e4 => k2 _ _ e4 rfl⟩)
theorem evp_pair {t b : Int} (ha : Ev ta σ H (.int t)) (hb : Ev tb σ H (.int b)) (h0 : 0 < b) (hl : b.natAbs < 2 ^ 9000) (e : Rat.divInt t b = q) : EvP (tCall spPair [] E (tCons ta (tCons tb tNil))) σ H (fun v H => PrAt H v q) :=
  evp_call2 (fun _ _ _ _ h => h) (evp_of ha) (evp_of hb) fun v u H1 _ ev eu Q2 E2 k2 => by
    subst ev eu
    exact ⟨t, b, rfl, h0, hl, fun r H4 e4 _ pr => k2 r H4 e4 (by rw [← e]; exact pr)⟩
theorem abs_pair {v : V} (h : PairAt H v (if q.num < 0 then -q.num else q.num) (q.den : Int)) : PrAt H v q.abs := by
  obtain ⟨a, e, h1⟩ := h
  refine ⟨a, e, ?_⟩
  rw [h1]
  have e1 : q.abs.num = if q.num < 0 then -q.num else q.num := by
    unfold Rat.abs
    by_cases h : q.num < 0
    · rw [if_pos h, if_neg (by rw [← Rat.num_nonneg]; omega)]
      rfl
    · rw [if_neg h, if_pos (by rw [← Rat.num_nonneg]; omega)]
  have e2 : q.abs.den = q.den := by
    unfold Rat.abs
    split <;> rfl
  rw [e1, e2]
theorem ev_absI {i : Int} (ha : Ev ta σ H (.int i)) : Ev (tCB (fun xs H Q => ∃ i, xs = [V.int i] ∧ Q (.int (if i < 0 then -i else i)) H) (tCons ta tNil)) σ H (.int (if i < 0 then -i else i)) := fun H1 e Q k => ha H1 e _ fun H2 e2 => ⟨i, rfl, k H2 e2⟩
end
theorem neg_neg_div (t b : Int) : Rat.divInt (0 - t) (0 - b) = Rat.divInt t b := by
  rw [Int.zero_sub, Int.zero_sub, Rat.neg_divInt_neg]
end Pn

namespace Pn
open PySem L2 Evl
def spInteger : Sp := fun vs H Q _ => ∃ (st : Addr × Addr) (c : Nat), vs = [.ref st.1] ∧ StAt st c H ∧ c + 20 < cMax ∧ ∀ (n : Int) H', n.natAbs < 2 ^ 100 → StAt st (c + 11) H' → FrS st H H' → Q (.int n) H'
theorem grow {n t : Int} {k : Nat} (h : n.natAbs < 2 ^ k) (t0 : 0 ≤ t) (t1 : t < 1000) : (n * 1000 + t).natAbs < 2 ^ (k + 10) := by
  have e : 2 ^ (k + 10) = 2 ^ k * 1024 := by rw [Nat.pow_add]
  rw [e]
  omega
theorem pickN {e : Int} (e0 : 0 ≤ e) (e1 : e < 5) : ∃ N : Nat, N ≤ 9 ∧ atI [V.int 0, V.int 0, V.int 0, V.int 2, V.int 9] e = some (.int (N : Int)) := by
  have : e = 0 ∨ e = 1 ∨ e = 2 ∨ e = 3 ∨ e = 4 := by omega
  rcases this with rfl | rfl | rfl | rfl | rfl
  · exact ⟨0, by decide, rfl⟩
  · exact ⟨0, by decide, rfl⟩
  · exact ⟨0, by decide, rfl⟩
  · exact ⟨2, by decide, rfl⟩
  · exact ⟨9, by decide, rfl⟩
end Pn
namespace Pn
open PySem L2 Evl
def spRefT : Sp := fun vs H Q _ => ∃ (t : Int), vs = [.int t] ∧ t.natAbs < 2 ^ 200 ∧ ∀ H', Ex H H' → Q (.bl true) H'
section
variable {C : Addr} {K : PySem.W.Frag} {ta tb : TE} {σ : L2.St} {H : Hp} {E : XK}
theorem fq_intV {n : Int} (ha : Ev ta σ H (.int n)) : EvQ C (tMake C (spInit C) [.int 1] E (tCons ta tNil)) σ H (n : Rat) := fun H1 e Q k => ha H1 e _ fun H2 e2 => by
  intro x dx nx ndx nex
  refine ⟨x, dx, n, 1, rfl, upd_same, by decide, by decide, fun H' e => ⟨rfl, ?_⟩⟩
  rw [divInt_one] at e
  subst e
  exact k _ _ (e2.trans (made nx ndx).1) (made nx ndx).2
theorem fq_make {t b : Int} (ha : Ev ta σ H (.int t)) (hb : Ev tb σ H (.int b)) (h0 : b ≠ 0) (hl : b.natAbs < 2 ^ 9000) : EvQ C (tMake C (spInit C) [] E (tCons ta (tCons tb tNil))) σ H (Rat.divInt t b) := fun H1 e Q k => ha H1 e _ fun H2 e2 => hb H2 (e.trans e2) _ fun H3 e3 => by
  intro x dx nx ndx nex
  refine ⟨x, dx, t, b, rfl, upd_same, h0, hl, fun H' e => ⟨rfl, ?_⟩⟩
  subst e
  exact k _ _ ((e2.trans e3).trans (made nx ndx).1) (made nx ndx).2
theorem ev_refT {t : Int} (ha : Ev ta σ H (.int t)) (hs : t.natAbs < 2 ^ 200) : Ev (tCall spRefT [] E (tCons ta tNil)) σ H (.bl true) :=
  ev_of (evp_call1 (evp_of ha) fun v H1 _ ev Q2 E2 k2 => by subst ev; exact ⟨t, rfl, hs, fun H4 e4 => k2 _ _ e4 rfl⟩)
theorem int_pair {n : Int} {v : V} {H : Hp} (h : PairAt H v n 1) : PrAt H v (n : Rat) := by
  obtain ⟨a, e, h1⟩ := h
  exact ⟨a, e, h1⟩
end
end Pn

namespace Pn
open PySem PySem.Spec PyProof.Rows L2 Evl CwR
section
variable {X : Cx} {K : PySem.W.Frag} {a b o : Expr} {rest : List Expr} {ta tb to : TE} {name : Str} {apos cpos pos : Pos} {T id : String} {r : V → List V → Hp → VK → Prop}
theorem pet_one {op} {t : TE} (h : PET X a t) : PET X (.BoolOp op [a] pos) t := fun pins s σ H Q h0 I hw => BoolOp_one (h pins s σ H Q h0 I hw)
theorem pet_and (ha : PE X a ta) (hb : PET X (.BoolOp .And (b :: rest) pos) tb) : PET X (.BoolOp .And (a :: b :: rest) pos) (tAndV ta tb) := by
  intro pins s σ H Q h0 I h
  refine BoolOp_and (wpAny_mono (PySem.wpAny_toks (ha.run pins s σ H _ I h)) (fun v s1 q => ?_) fun _ _ z => z.2)
  obtain ⟨hk, x, H1, I1, r1, q1⟩ := q
  obtain ⟨c, rfl, q1⟩ := q1
  cases r1
  refine wpAny_truthy_bool ?_
  cases c with
  | true => exact hb pins s1 σ H1 Q (Nat.le_trans h0 hk) I1 q1
  | false => exact ⟨.bl false, H1, I1, rfl, q1⟩
theorem pet_bm0 (pa : PlainAttrs T) (slot : Slot T name id) (hty : typeOf (.builtin id) = pure (.type "method_descriptor")) (hm : MtR X id r) (ho : PET X o to)
    (hbase : attributeBase o name X.env (eval o X.env) = eval o X.env := by rfl) (hline : (apos.endLine == cpos.line) = true := by rfl) : PET X (.Call (.Attribute o name apos) [] [] cpos) (tBM0 X.K T r to) := by
  intro pins s σ H Q h0 I h
  refine wpAny_Call_method0_late hbase hline (thn (ho pins s σ H _ h0 I h) fun v s1 ⟨x, H1, I1, r1, ty, q1⟩ => ?_)
  obtain ⟨h1, h2⟩ := tyV_is I1 r1 ty
  exact ⟨T, id, pa, slot, hty, h1, h2, Calls.callWith_builtin rfl (PySem.evalArgs_none (hm pins s1 σ H1 x [] v [] Q I1 r1 .nil q1))⟩
end
section
variable {P : Program} {w : World} {K : PySem.W.Frag} {mg : Str → Option Value} {base : Heap} {x qual : Str} {params : Arguments} {body : List Stmt} {scope : Scope} {dvs : List V} {kws : List (Str × V)} {f : Addr} {fd : FuncData}
theorem okT {CX : CXT} {N ps : List Str} {k : Nat} {sp : Sp} (F : FunD K x qual params body scope dvs kws f fd) (S : FnScope N ps scope) (hnc : ∀ y ∈ scope.names, y.2 ≠ .cell) (hps : 1 ≤ ps.length) (len : ∀ vs H Q E, sp vs H Q E → vs.length = ps.length)
    (hbody : ∀ (cdv : Value) (A : Around) (outer : List Env) (s : Shared) (H : Hp) (vs : List V) (Q : VK) (E : XK), Room k (A.deeper (envOfC qual scope s.heap.objs.size f cdv)) → sp vs H Q E →
      ∃ t, PSsT (cxOf CX P w K mg base N qual scope f cdv A outer s H E) body t ∧ t { nx := fun _ H' => Q .non H', rt := Q } (start N vs) H) : FnOk P w K mg base CX (k + 1) f fd ps sp := by
  obtain ⟨oc, od, dV, kV, doc, pm, an, cdv, ct, osl, rfl, lk, hcd, _, _⟩ := F.ex
  exact fn_ofT lk hcd S hnc hps len fun A outer s H vs Q E hr hsp => hbody cdv A outer s H vs Q E hr hsp
end
/-! ### signs -/
abbrev S (l : List Nat) : Str := ⟨l.toArray⟩
abbrev letS : Str := ("abcdefghijklmnopqrstuvwxyzABCDEFGHIJKLMNOPQRSTUVWXYZ" : Str)
abbrev digS : Str := ("0123456789_" : Str)
abbrev othS : Str := (" -.!\x40[{~/:" : Str)
def LTR : List Nat := letS.cps.toList
def WD : List Nat := (letS ++ digS).cps.toList
def OT : List Nat := othS.cps.toList
def ALL : List Nat := WD ++ OT
theorem wd_all {c : Nat} (h : c ∈ WD) : c ∈ ALL := List.mem_append_left _ h
theorem ot_all {c : Nat} (h : c ∈ OT) : c ∈ ALL := List.mem_append_right _ h
theorem all_small : ∀ c ∈ ALL, c < 128 := by decide +kernel
theorem all_alpha : ∀ c ∈ ALL, Unicode.isAlpha c = decide (c ∈ LTR) := by decide +kernel
theorem all_alnum : ∀ c ∈ ALL, Unicode.isAlnum (if c = 95 then 48 else c) = decide (c ∈ WD) := by decide +kernel
/-- what a name is -/
def nameB (l : List Nat) : Bool := (decide (1 ≤ l.length) && (decide (l.length ≤ 12) && decide (l.headD 0 ∈ LTR))) && l.all fun c => decide (c ∈ WD)
theorem s_len (l : List Nat) : (S l).length = l.length := rfl
theorem ascii_S {l : List Nat} (h : ∀ c ∈ l, c < 128) : Txt.isascii (S l) = true := by
  unfold Txt.isascii
  simp only [List.all_toArray]
  exact List.all_eq_true.mpr fun c hc => decide_eq_true (h c hc)
theorem repl_map : ∀ l : List Nat, StrLaws.replL [95] [48] l = l.map fun c => if c = 95 then 48 else c
  | [] => StrLaws.replL_nil
  | c :: r => by
    by_cases h : c = 95
    · subst h
      rw [StrLaws.replL_hit (by decide) rfl]
      show [48] ++ StrLaws.replL [95] [48] r = _
      rw [repl_map r]
      rfl
    · rw [StrLaws.replL_miss (by simpa using h), repl_map r, List.map_cons, if_neg h]
theorem repl_S (l : List Nat) : Txt.replace (S l) ("_" : Str) ("0" : Str) = S (l.map fun c => if c = 95 then 48 else c) := by
  have h := StrLaws.replace_list (x := S l) (y := ("_" : Str)) (z := ("0" : Str)) (by decide)
  have e1 : ("_" : Str).cps.toList = [95] := by decide +kernel
  have e2 : ("0" : Str).cps.toList = [48] := by decide +kernel
  rw [e1, e2, repl_map] at h
  generalize Txt.replace (S l) ("_" : Str) ("0" : Str) = z at h ⊢
  obtain ⟨cps⟩ := z
  show Str.mk cps = Str.mk _
  congr 1
  rw [← h]
theorem cut_S (l : List Nat) : cutS (S l) none (some 1) = S (l.take 1) := by
  unfold cutS
  rw [HT.sIx_none, Nat.sub_zero, List.drop_zero]
  show Str.mk _ = Str.mk _
  congr 2
  have e : HT.sIx (S l).length (S l).length (some 1) = min 1 l.length := HT.sIx_nat _ _ 1
  rw [e]
  show l.take (min 1 l.length) = l.take 1
  cases l with
  | nil => rfl
  | cons a l => simp
theorem name_eq {l : List Nat} (h : ∀ c ∈ l, c ∈ ALL) (hl : l.length ≤ 12) : (Txt.isalpha (S (l.take 1)) && Txt.isalnum (S (l.map fun c => if c = 95 then 48 else c))) = nameB l := by
  cases l with
  | nil => rfl
  | cons a l =>
    unfold nameB Txt.isalpha Txt.isalnum
    have e1 : decide ((S ((a :: l).take 1)).length > 0) = true := rfl
    have e2 : decide ((S ((a :: l).map fun c => if c = 95 then 48 else c)).length > 0) = true := by
      show decide (((a :: l).map _).length > 0) = true
      simp
    have e3 : (S ((a :: l).take 1)).cps.all Unicode.isAlpha = decide (a ∈ LTR) := by
      show [a].toArray.all Unicode.isAlpha = _
      simp only [List.all_toArray, List.all_cons, List.all_nil, Bool.and_true]
      exact all_alpha a (h a List.mem_cons_self)
    have e4 : (S ((a :: l).map fun c => if c = 95 then 48 else c)).cps.all Unicode.isAlnum = (a :: l).all fun c => decide (c ∈ WD) := by
      show ((a :: l).map fun c => if c = 95 then 48 else c).toArray.all Unicode.isAlnum = _
      rw [List.all_toArray, List.all_map, Bool.eq_iff_iff, List.all_eq_true, List.all_eq_true]
      constructor
      · intro z c hc
        rw [← all_alnum c (h c hc)]
        exact z c hc
      · intro z c hc
        show Unicode.isAlnum (if c = 95 then 48 else c) = true
        rw [all_alnum c (h c hc)]
        exact z c hc
    rw [e1, e2, e3, e4, decide_eq_true hl, decide_eq_true (show 1 ≤ (a :: l).length by simp)]
    rw [Bool.true_and, Bool.true_and, Bool.true_and, Bool.true_and]
    rfl
theorem name_long {l : List Nat} (hl : ¬ l.length ≤ 12) : nameB l = false := by
  unfold nameB
  rw [decide_eq_false hl]
  simp
def spIsName : Sp := fun vs H Q _ => ∃ (l : List Nat), vs = [.str (S l)] ∧ (∀ c ∈ l, c ∈ ALL) ∧ l.length ≤ 100 ∧ ∀ H', Ex H H' → Q (.bl (nameB l)) H'
section
variable {K : PySem.W.Frag} {te ta tb : TE} {σ : L2.St} {H : Hp}
theorem ev_mt {T : String} {z : Str} {b : Bool} {g : Str → Bool} (h : Ev te σ H (.str z)) (hT : T = "str") (e : g z = b) : Ev (tBM0 K T (fun x xs H Q => ∃ a, x = .str a ∧ xs = [] ∧ True ∧ Q (.bl (g a)) H) te) σ H (.bl b) := fun H1 e1 Q k =>
  h H1 e1 _ fun H2 e2 => by
    subst hT e
    exact ⟨rfl, z, rfl, rfl, trivial, k H2 e2⟩
theorem ev_lenStr {z : Str} (h : Ev te σ H (.str z)) (hz : z.length ≤ 100000) : Ev (tCB (fun xs H Q => ∃ z, xs = [.str z] ∧ z.length ≤ sizeLine ∧ Q (.int z.length) H) (tCons te tNil)) σ H (.int (z.length : Int)) := fun H1 e1 Q k =>
  h H1 e1 _ fun H2 e2 => ⟨z, rfl, sz_of hz, k H2 e2⟩
theorem ev_cutS {l : List Nat} (h : Ev te σ H (.str (S l))) (hz : l.length ≤ 100) : Ev (tSl rSlS te tNoPart (tPart (tC (.int 1)))) σ H (.str (S (l.take 1))) := fun H1 e1 Q k =>
  h H1 e1 _ fun H2 e2 => ⟨1, rfl, S l, rfl, sz_of (by show l.length ≤ _; omega), by rw [cut_S]; exact k H2 e2⟩
theorem ev_replS {l : List Nat} (h : Ev te σ H (.str (S l))) (hz : l.length ≤ 100) : Ev (tReplC te ("_" : Str) ("0" : Str)) σ H (.str (S (l.map fun c => if c = 95 then 48 else c))) := fun H1 e1 Q k =>
  h H1 e1 _ fun H2 e2 => ⟨S l, rfl, by show l.length + (l.length + 1) * 1 ≤ _; omega, by rw [repl_S]; exact k H2 e2⟩
theorem ev_inS {c : Nat} {z : Str} (h1 : Ev ta σ H (.str ⟨#[c]⟩)) (h2 : Ev tb σ H (.str z)) : Ev (tOp rInS ta tb) σ H (.bl (decide (c ∈ z.cps.toList))) := ev_op h1 h2 fun H1 _ Q k => ⟨c, z, rfl, rfl, k H1 (Ex.refl _)⟩
theorem ev_addS {x y : Str} (h1 : Ev ta σ H (.str x)) (h2 : Ev tb σ H (.str y)) (hz : x.length + y.length ≤ 100000) : Ev (tOp (fun x y H Q => ∃ i j, x = .str i ∧ y = .str j ∧ i.length + j.length ≤ sizeLine ∧ Q (.str (i ++ j)) H) ta tb) σ H (.str (x ++ y)) := ev_op h1 h2 fun H1 _ Q k => ⟨x, y, rfl, rfl, sz_of hz, k H1 (Ex.refl _)⟩
end
theorem pick7 {e : Int} (h0 : 0 ≤ e) (h1 : e < 7) : ∃ N : Nat, N ≤ 14 ∧ atI [V.int 1, .int 3, .int 11, .int 12, .int 13, .int 14, .int 0] e = some (.int (N : Int)) := by
  obtain ⟨n, rfl⟩ : ∃ n : Nat, e = (n : Int) := ⟨e.toNat, (Int.toNat_of_nonneg h0).symm⟩
  have hn : n < 7 := by omega
  match n, hn with
  | 0, _ => exact ⟨1, by decide, rfl⟩
  | 1, _ => exact ⟨3, by decide, rfl⟩
  | 2, _ => exact ⟨11, by decide, rfl⟩
  | 3, _ => exact ⟨12, by decide, rfl⟩
  | 4, _ => exact ⟨13, by decide, rfl⟩
  | 5, _ => exact ⟨14, by decide, rfl⟩
  | 6, _ => exact ⟨0, by decide, rfl⟩
theorem pickS {l : List Nat} {d : Int} {n : Int} (h0 : 0 ≤ d) (h1 : d < n) (hn : n = (l.length : Int)) : ∃ c, atI l d = some c ∧ c ∈ l := by
  obtain ⟨i, rfl⟩ : ∃ i : Nat, d = (i : Int) := ⟨d.toNat, (Int.toNat_of_nonneg h0).symm⟩
  have hi : i < l.length := by omega
  exact ⟨l[i], atI_nat (List.getElem?_eq_getElem hi), List.getElem_mem hi⟩
theorem push_S (l : List Nat) (c : Nat) : S l ++ (⟨#[c]⟩ : Str) = S (l ++ [c]) := by
  show Str.mk _ = Str.mk _
  congr 1
  simp
theorem s_empty : ("" : Str) = S [] := by decide +kernel
end Pn
namespace Pn
open PySem PySem.Spec PyProof.Rows L2 Evl CwR
section
variable {K : PySem.W.Frag} {σ : L2.St} {H : Hp}
theorem ev_due {l : List Nat} (hw : Ev (tVar 4) σ H (.str (S l))) (hL : ∀ H1, Ev (tVar 2) σ H1 (.str letS)) (hl : l.length ≤ 14) :
    Ev (tAndV (tChain (rI0 fun i j => V.bl (decide (i ≤ j))) (rI0 fun i j => V.bl (decide (i ≤ j))) (tC (.int 1)) (tCB (fun xs H Q => ∃ z, xs = [.str z] ∧ z.length ≤ sizeLine ∧ Q (.int z.length) H) (tCons (tVar 4) tNil)) (tC (.int 12)))
      (tOp rInS (tOp rIxS (tVar 4) (tC (.int 0))) (tVar 2))) σ H (.bl (decide (1 ≤ l.length) && (decide (l.length ≤ 12) && decide (l.headD 0 ∈ LTR)))) := fun H1 e1 Q k => by
  refine hw H1 e1 _ fun H2 e2 => ⟨S l, rfl, sz_of (by show l.length ≤ _; omega), ?_⟩
  refine ⟨_, _, rfl, rfl, _, rfl, ?_⟩
  cases l with
  | nil => exact ifF rfl ⟨false, rfl, k H2 e2⟩
  | cons a l =>
    refine ifT (by show decide ((1 : Int) ≤ ((a :: l).length : Int)) = true; simp; omega) ?_
    refine ⟨_, _, rfl, rfl, _, rfl, ?_⟩
    have e : decide (((S (a :: l)).length : Int) ≤ 12) = decide ((a :: l).length ≤ 12) := decide_eq_decide.mpr (by show ((a :: l).length : Int) ≤ 12 ↔ _; omega)
    rw [e]
    have e1' : decide (1 ≤ (a :: l).length) = true := by simp
    rw [e1', Bool.true_and] at k
    by_cases h : (a :: l).length ≤ 12
    · rw [decide_eq_true h, Bool.true_and] at k
      refine ifT (decide_eq_true h) ?_
      exact ev_inS (ev_op hw ev_c (rv_ixS (by show (a :: l).length ≤ _; omega) (atI_nat (j := 0) rfl))) (hL H) H2 (e1.trans e2) Q fun H3 e3 => k H3 (e2.trans e3)
    · rw [decide_eq_false h, Bool.false_and] at k
      exact ifF (decide_eq_false h) (k H2 e2)
end
end Pn

namespace PnX
open PySem PySem.W PySem.Calls PyProof.Rows
open PySem.HandSPX (excO)
section
variable {P : Program} {w : World} {K : Frag} {A : Around} {h : Heap} {g : Array GenState} {d : Drawn} {t : Nat} {os : OsState}
/-- ValueError.__init__ bound to an exception, called -/
theorem call_mw {u e C t0 N : Addr} {nm q : Str} {bs bm : List Value} {hdct : Bool} {sn : List Str} {sub : List Value} {ab : Bool} {col : Option Bool} {dd : Option Addr} {k0 k1 k2 k3 k5 : Option Value} {rest : List Value} {Q : Value → Shared → Prop} {E : Value → Shared → Prop}
    (hC : h.get? C = some (excClassObj nm q C N bs bm hdct sn sub ab col dd k0 k1 k2 k3 k5 "ValueError.__new__")) (he : h.get? e = some (excO C t0)) (hu : h.get? u = some (kxs_mw "ValueError.__init__" e)) (hrest : rest.length ≤ sizeLine)
    (hq : ∀ h' t1, (∀ b o, b ≠ e → h.get? b = some o → h'.get? b = some o) → h'.get? e = some (excO C t1) → Q .none ⟨h', g, d, t, os⟩) :
    wpAny (model P w) A (call (.ref u) rest) Q E ⟨h, g, d, t, os⟩ := by
  refine wpAny_call (codeAny_of_tree ?_)
  show wpAny _ A.in1 (callAny (.ref u) ⟨rest, []⟩) _ _ _
  simp only [callAny]
  refine wpAny_bind (wpAny_load hu ?_)
  simp only [kxs_mw, show (Value.type "method-wrapper" == Value.type "method" || Value.type "method-wrapper" == Value.type "builtin_function_or_method" || Value.type "method-wrapper" == Value.type "method-wrapper") = true by decide, if_true]
  refine W.KFB.if_so (by decide) ?_
  refine wpAny_bind (check_bound_init F.excBase_ValueError.toExcCallFacts hC he rfl ?_)
  refine wpAny_bind (wpAny_pure (wpAny_pure ?_))
  refine ⟨Code.quiet_builtin _ (by decide +kernel), codeAny_builtin F.excBase_ValueError.initEntry ?_⟩
  rw [Around.under_plainId F.excBase_ValueError.init.plain _]
  wp_walk
  refine hq _ h.objs.size (fun b o hb ho => ?_) ?_
  · rw [Heap.get?_update_other _ _ (Ne.symm hb)]
    exact Heap.get?_push_of_some _ ho
  · rw [Heap.get?_update_self _ (Heap.get?_push_of_some _ he) rfl]
    rfl
end
section
variable {P : Program} {w : World} {A : Around} {E : Value → Shared → Prop} {s : Shared} {env : Env} {c : Code}
theorem wpAt_supcall {o : Expr} {name : Str} {apos pos : Pos} {args : List Expr} {Q : Value → Shared → Prop} (hform : methodCallForm (args.length + ([] : List Keyword).length) (backTo pos (starEach args env)) (backToKw pos (keywordEach [] env)) = true) (hline : (apos.endLine == pos.line) = true)
    (h : _root_.PySem.wpAt (model P w) A c (attributeBase o name env (eval o env)) (fun ov s₁ => ∀ pl, wpAny (model P w) A (getMethod ov name pl) (fun fx s₂ => wpAny (model P w) A (callWith pos fx.1 fx.2 (backTo pos (starEach args env)) []) Q E s₂) E s₁) E s) :
    _root_.PySem.wpAt (model P w) A c (eval (.Call (.Attribute o name apos) args [] pos) env) Q E s := by
  rw [arm_eval_Call]
  refine _root_.PySem.wpAt_bind (_root_.PySem.wpAt_mono h (fun ov s₁ h₁ => _root_.PySem.wpAt_of_wpAny ?_) fun _ _ x => x)
  refine wpAny_bind (wpAny_standAt ?_)
  have hpos : methodCallPos true o env apos pos = pure pos := by unfold methodCallPos; simp [hline]
  unfold methodCall
  rw [hform]
  refine wpAny_bind (wpAny_holding (wpAny_mono (h₁ _) (fun fx s₂ h₂ => ?_) fun _ _ x => x))
  exact wpAny_bind (wpAny_of_eq hpos h₂)
end
/-- what a def of the shape `def __init__(self): super().__init__("..")` in the class at C is, by the written part -/
structure SupI (P : Program) (K : Frag) (C f : Addr) : Prop where
  ex : ∃ (oc : Value) (od : Option Addr) (osl : Array (Option Value)) (fd : FuncData) (cc cda : Addr) (scope : Scope) (m : Str) (j : Nat) (p0 p1 p2 p3 p4 p5 : Pos) (cl : Value) (cld : Option Addr) (csl : Array (Option Value)) (occ : Value) (cdd : Option Addr) (vs : Array Value) (ccs : Array (Option Value)) (file : Str) (tf : Tok) (cd : ClassData) (ar : Arg),
    K.lookup f = some ⟨oc, od, .func fd, osl⟩ ∧ fd.body = .stmts [.Expr (.Call (.Attribute (.Call (.Name "super" p0) [] [] p1) "__init__" p2) [.Constant (.str m) j p3] [] p4) p5] ∧ fd.scope = scope ∧ fd.globals = mainGlobals ∧ fd.builtins = builtinsNs ∧ fd.closure = [(("__class__" : Str), cc)] ∧
    fd.code = .ref cda ∧ codeIn K fd.code fd.qualname = true ∧ (∀ v, bindArgs fd ⟨[v], []⟩ = pure [(("self" : Str), v)]) ∧ (fd.params.posonlyargs ++ fd.params.args).head? = some ar ∧ ar.arg = "self" ∧
    K.lookup cc = some ⟨cl, cld, .cell (some (.ref C)), csl⟩ ∧ K.lookup cda = some ⟨occ, cdd, .fields vs, ccs⟩ ∧ vs[2]? = some (.str file tf) ∧ ((P.main.file : Str) == file) = true ∧
    clsIn K C = some cd ∧ alongIn K "__init__" ((cd.mro.dropWhile (· != .ref C)).drop 1) = some (some (.builtin "ValueError.__init__")) ∧
    (p2.endLine == p4.line) = true ∧ scope.kind = .function ∧ scope.isCoroutine = false ∧ scope.isGenerator = false ∧ scope.names.lookup ("super" : Str) = some .globalImplicit ∧ scope.names.lookup ("__class__" : Str) = some .free ∧ scope.names.lookup ("self" : Str) = some .local ∧ (∀ x ∈ scope.names, x.2 ≠ .cell)
  sup : (P.main.scope.names.lookup ("super" : Str)).isSome = false
  opq : nsIn K cStatics "thirdparty.any" = some none
  mro : mroIn K C (.ref C) = some true
  sbe : subIn K (.ref C) (.type "ValueError") = some true
section
variable {P : Program} {w : World} {K : Frag} {A : Around} {h : Heap} {g : Array GenState} {d : Drawn} {t : Nat} {os : OsState} {R : Result → Shared → Prop} {mg mb : Str → Option Value}
theorem init_sup {C f e t0 N : Addr} {nm q : Str} {bs bm : List Value} {hdct : Bool} {sn : List Str} {sub : List Value} {ab : Bool} {col : Option Bool} {dd : Option Addr} {k0 k1 k2 k3 k5 : Option Value}
    (S : SupI P K C f) (X : K.In h) (G : h.Ns mainGlobals mg) (hm : mg "super" = none) (B : h.Ns builtinsNs mb) (hb : mb "super" = some (.type "super")) (lim : h.NoLimit) (hroom : A.depth < recursionLimit)
    (hC : h.get? C = some (excClassObj nm q C N bs bm hdct sn sub ab col dd k0 k1 k2 k3 k5 "ValueError.__new__")) (he : h.get? e = some (excO C t0))
    (hq : ∀ h' t1 tk, (∀ b o, b ≠ e → h.get? b = some o → h'.get? b = some o) → h'.get? e = some (excO C t1) → R (.ok (.ret .none)) ⟨h', g, d, tk, os⟩) :
    codeAny (model P w) A (.call (.ref f) ⟨[.ref e], []⟩) R ⟨h, g, d, t, os⟩ := by
  obtain ⟨oc, od, osl, fd, cc, cda, scope, m, j, p0, p1, p2, p3, p4, p5, cl, cld, csl, occ, cdd, vs, ccs, file, tf, cd, ar, lk, hbody, hsc, hgl, hbl, hcl, hcode, hcd, hbind, hp, har, hcell, hcda, hvs, hfile, hcls, hal, hline, hk, hco, hgen, hks, hkc, hka, hnc⟩ := S.ex
  have hself := har
  have hD : ∃ oD, h.get? C = some oD ∧ oD.data = .cls cd := by
    unfold clsIn at hcls
    split at hcls
    · rename_i c d cd' sl ho
      cases hcls
      exact ⟨_, X _ _ ho, rfl⟩
    · cases hcls
  obtain ⟨oD, hD1, hD2⟩ := hD
  refine ks_codeAny_call_defAt (fd := fd) (binds := [(("self" : Str), Value.ref e)]) hroom (X _ _ lk) rfl lim (codeRec_of X hcd) hbody (.of_eq (hbind _)) (by rw [hsc]; exact hnc) (by rw [hsc]; intro x hx; rw [List.mem_singleton.mp hx]; exact hka) (fun h₀ hns hk₁ => ?_) (by rw [hsc]; exact hco) (by rw [hsc]; exact hgen) (by rw [hsc]; exact hk)
  have henv : callEnv fd h.objs.size f = ksEnv fd.qualname scope h.objs.size f (.ref cda) cc := by
    unfold callEnv newEnv
    rw [hsc, hgl, hcl, hbl, hcode]
  show _root_.PySem.wpAt _ (A.deeper (callEnv fd h.objs.size f)) (.func _ (callEnv fd h.objs.size f)) (execs _ (callEnv fd h.objs.size f)) _ _ _
  rw [henv]
  have X0 : K.In h₀ := X.keeps hk₁
  have he0 := hk₁ _ _ he
  have hself2 : (fun x => ([(("self" : Str), Value.ref e)] : List (Str × Value)).reverse.lookup x) ar.arg = some (.ref e) := by
    rw [har]
    rfl
  have hint : interactive (ksEnv fd.qualname scope h.objs.size f (.ref cda) cc) = false := by
    show (scope.kind == .module && _) = false
    rw [hk]
    rfl
  refine ks_wpAt_execs_cons (ks_wpAt_Expr_any (wpAt_supcall (args := [.Constant (.str m) j p3]) (env := ksEnv fd.qualname scope h.objs.size f (.ref cda) cc) (pos := p4) rfl hline ?_) hint)
  refine ks_wpAt_super_base (env := ksEnv fd.qualname scope h.objs.size f (.ref cda) cc) hks hkc (by decide +kernel) rfl (X0 _ _ lk) rfl hp rfl (X0 _ _ hcda) rfl hvs hfile S.sup ?_
  refine ks_loadName_global hk hks (loadGlobal_builtin (env := ksEnv fd.qualname scope h.objs.size f (.ref cda) cc) (G.keeps hk₁) hm (B.keeps hk₁) hb ⟨rfl, ?_⟩)
  refine wpAny_loadName_free hk hkc rfl ⟨_, X0 _ _ hcell, rfl⟩ ?_
  refine wpAny_loadName_local hk (by rw [har]; exact hka) hns hself2 ?_
  refine ks_wpAny_isType_cls (hk₁ _ _ hD1) hD2 ⟨rfl, ?_⟩
  refine ks_wpAny_call_super (hk₁ _ _ hD1) hD2 he0 rfl (fun c e => nomatch e) (looks_mroIn X0 S.mro) (fun h1 e1 k1 pl => ?_)
  have X1 : K.In h1 := X0.keeps k1
  have he1 := k1 _ _ he0
  have hCe : e ≠ C := fun z => by
    rw [z, hD1] at he
    cases he
    exact nomatch hD2
  have I1 : InstAt h1 e (excO C t0) C none := ⟨he1, rfl, rfl, trivial⟩
  refine kxs_getMethod kxs_ValueError e1 (looks_opaque X1 S.opq) (l₀ := cd.mro) (fun A Q E s k q => wpAny_bind ((looks_clsIn X1 hcls) A _ E s k (wpAny_pure q))) rfl X1 hal (I1.type.andThen (looks_subIn X1 S.sbe)) hCe (by decide +kernel) ?_
  have k2 : ∀ b o, h1.get? b = some o → (h1.push (kxs_mw "ValueError.__init__" e)).get? b = some o := fun b o z => Heap.get?_push_of_some _ z
  refine kxs_callWith (i := "ValueError.__init__") (x := e) rfl (evalArgs_plain (spliced_cons (Constant_str (k := j) (pos := p3) (spliced_nil ⟨Heap.get?_push_size _ rfl, ?_⟩))))
  refine call_mw (k2 _ _ (k1 _ _ (hk₁ _ _ hC))) (k2 _ _ he1) (Heap.get?_push_size _ rfl) (by show 1 ≤ sizeLine; rw [sizeLine_eq]; omega) (fun h2 t1 k3 e3 => ?_)
  show _root_.PySem.wpAt _ _ _ (execs [] _) _ _ _
  exact _root_.PySem.wpAt_of_wpAny (wpAny_execs_nil (hq _ _ _ (fun b o hb z => k3 b o hb (k2 _ _ (k1 _ _ (hk₁ _ _ z)))) e3))
end
end PnX
namespace Pn
open PySem PySem.Spec PyProof.Rows L2 Evl PnX
section
variable {X : Cx} {x : Str} {C f : Addr} {p pos : Pos}
/-- an own exception made of nothing, its __init__ saying super().__init__("..") -/
theorem pmk_sup (T : OexC X.K C) (S : SupI X.prog X.K C f) (iC : PySem.W.findIn X.K (.ref C) "__init__" = some (some (.ref f))) (tI : PySem.W.typeIn X.K (.ref f) = some (.type "function")) (hr : Room 1 X.A) (hm : X.mg x = some (.ref C)) (hsup : X.mg "super" = none) (hg : Gl X x := by rfl)
    (hdb : (x == ("__debug__" : Str)) = false := by decide) : PMk X (.Call (.Name x p) [] [] pos) (fun _ H Q => Q (.ref C) none H) := by
  intro pins s σ H Q I h
  obtain ⟨nm, q, N, bs, bm, sn, sub, ab, col, dd, k0, k1, k2, k3, k5, hC, hbm⟩ := T.cls
  refine wpAny_Call_Name_kw (ld_glob I hg hm ?_ hdb)
  refine PySem.W.callWith_K0 I.kIn T.kC ?_
  show wpAny _ _ (call (.ref C) []) _ _ _
  have bk := I.bk
  obtain ⟨mb, hb1, hb2⟩ := I.ok.mod.blt
  have hb1 := hb1.keeps bk
  have hgl := I.ok.mod.glob.keeps bk
  have lim := I.nolimit
  have kin := I.kIn
  have fr := I.hok.fresh (a := s.heap.objs.size + 1) (Nat.le_succ _)
  have hb3 : mb "super" = some (.type "super") := (hb2 _ (by decide +kernel)).trans (by rfl)
  obtain ⟨hp, g, dr, tk, os⟩ := s
  have k1' : ∀ b o, hp.get? b = some o → ((hp.push (PySem.W.kdv_tup [])).push (PySem.HandSPX.excO C hp.objs.size)).get? b = some o := fun b o e => Heap.get?_push_of_some _ (Heap.get?_push_of_some _ e)
  have hget : ((hp.push (PySem.W.kdv_tup [])).push (PySem.HandSPX.excO C hp.objs.size)).get? (hp.objs.size + 1) = some (PySem.HandSPX.excO C hp.objs.size) := by heap_get
  have hn : hp.get? (hp.objs.size + 1) = none := by
    cases z : hp.get? (hp.objs.size + 1) with
    | none => rfl
    | some o =>
      exact absurd (Heap.lt_size z) (Nat.not_lt.mpr (Nat.le_succ _))
  refine wpAny_call (PySem.HandSPX.call_own F.excBase_ValueError (fun Y => PySem.HandSPX.refsVE_contains Y bm hbm) (kin _ _ hC) (PySem.W.looks_findIn kin iC) (fun self => PySem.W.bind_fn kin self tI) (Nat.zero_le _) ?_)
  refine init_sup S (kin.keeps k1') (hgl.keeps k1') hsup (hb1.keeps k1') hb3 (lim.keeps k1') (hr.make C [] []).depth (k1' _ _ (kin _ _ hC)) hget (fun h' t1 tk' k2' e2 => ?_)
  refine ⟨rfl, hp.objs.size + 1, _, _, ⟨hp, g, dr, tk, os⟩, H, .ref C, none, rfl, I, fun b o z => k2' b o (fun y => ?_) (k1' b o z), hn, e2, ⟨rfl, rfl⟩, rfl, rfl, fr, rfl, I.bare, raises_own T.exC T.tyC, h⟩
  rw [y, hn] at z
  cases z
end
/-- a def that may raise -/
structure FnX (P : Program) (w : World) (K : PySem.W.Frag) (mg : Str → Option Value) (base : Heap) (k : Nat) (f : Addr) (ps : List Str) (sp : Sp) : Prop where
  ex : ∃ fd, FnOk P w K mg base (L2.CX P w) k f fd ps sp ∧ Binds K fd ps []
  kp : PySem.W.keepIn K (.ref f) = true
def tMakeS (C : Addr) (sp : Sp) (E : L2.St → XK) (t : TA) : TE := fun σ H Q => t σ H fun vs H1 => ∀ x dx, H1 x = none → H1 dx = none → dx ≠ x → sp (.ref x :: vs) (upd (upd H1 dx (.own x)) x (.ins C dx [])) (fun v H2 => v = .non ∧ Q (.ref x) H2) (E σ)
def tMethS (C : Addr) (m : Str) (sp : Sp) (E : L2.St → XK) (ta : TE) (t : TA) : TE := fun σ H Q => ta σ H fun x H1 => ∃ a dx fs, x = .ref a ∧ H1 a = some (.ins C dx fs) ∧ fs.lookup m = none ∧ t σ H1 fun vs H2 => sp (x :: vs) H2 Q (E σ)
section
variable {X : Cx} {W : WX} {k : Nat} {f C : Addr} {ps : List Str} {sp : Sp} {x m : Str} {p pos apos : Pos} {e o : Expr} {es : List Expr} {ta : TE} {t : TA}
theorem run_makeS {CX : CXT} {E : XK} {fd : FuncData} {pins : List (Addr × Obj)} {σ : L2.St} {H : Hp} {s : Shared} {Q : VK} {us : List Value} {vs : List V} (M : Mk X.K C f) (F : FnOk X.prog X.w X.K X.mg X.base CX k f fd ps sp) (hr : Room (k + 1) X.A) (hb : Binds X.K fd ps [])
    (hx : PassesAt CX X σ E) (I : Inv X pins σ H s) (r : Vals vs us)
    (h : ∀ x dx, H x = none → H dx = none → dx ≠ x → sp (.ref x :: vs) (upd (upd H dx (.own x)) x (.ins C dx [])) (fun v H2 => v = .non ∧ Q (.ref x) H2) E) :
    wpAny (model X.prog X.w) X.A (call (.ref C) us) (EP X pins σ Q) X.xe s := by
  have hq := h (s.heap.objs.size + 1) s.heap.objs.size (I.hok.fresh (Nat.le_succ _)) (I.hok.fresh (Nat.le_refl _)) (Nat.ne_of_lt (Nat.lt_succ_self _))
  have I2 := Inv.made (C := C) I
  have r2 : Vals (V.ref (s.heap.objs.size + 1) :: vs) (Value.ref (s.heap.objs.size + 1) :: us) := .cons rfl r
  have hl : (Value.ref (s.heap.objs.size + 1) :: us).length = ps.length := by
    have e := r2.length
    rw [F.len _ _ _ _ hq] at e
    exact e.symm
  have b := hb _ (Value.ref (s.heap.objs.size + 1) :: us) I2.kIn (by rw [List.append_nil]; exact hl)
  rw [List.append_nil] at b
  refine wpAny_call (make_map (f := f) I.kIn M.makes M.init (beq_iff_eq.mp M.fn) (codeAny_mono (F.run _ X.stack _ _ ⟨Value.ref (s.heap.objs.size + 1) :: us, []⟩ (Value.ref (s.heap.objs.size + 1) :: us) _ _ E (hr.make C us [])
    (I2.env0.make C us []) b r2 hq) fun r s' hq' => ?_))
  cases r with
  | error e => exact hx pins _ _ e s' I2 hq'
  | ok fl =>
    cases fl with
    | ret u =>
      obtain ⟨v, H', I3, rv, ev, q3⟩ := I2.after hq'
      subst ev
      exact ⟨rv, ⟨V.ref (s.heap.objs.size + 1), H', I3, rfl, q3⟩⟩
    | next => exact False.elim hq'
    | brk => exact False.elim hq'
    | cont => exact False.elim hq'
theorem pe_makeS (M : Mk X.K C f) (F : FnX X.prog X.w X.K X.mg X.base k f ps sp) (hr : Room (k + 1) X.A) (hm : X.mg x = some (.ref C)) (tk : Takes X W) (ha : PA X (e :: es) t) (hg : Gl X x := by rfl)
    (hdb : (x == ("__debug__" : Str)) = false := by decide) (he : starEach (e :: es) X.env = (false, eval e X.env) :: starEach es X.env := by rfl) (hpl : (backTo pos (starEach es X.env)).any (·.1) = false := by rfl) :
    PE X (.Call (.Name x p) (e :: es) [] pos) (tMakeS C sp (WE W) t) := by
  obtain ⟨fd, F1, b⟩ := F.ex
  refine ⟨fun pins s σ H Q I h => ?_⟩
  refine wpAny_Call_Name_kw (ld_glob I hg hm ?_ hdb)
  refine PySem.W.callWith_K (h₀ := X.base) I.ok.mod.kin M.kp (thn (ha.run pos pins s σ H _ I h) fun us s1 ⟨vs, H1, I1, r, q⟩ => ⟨I1.kIn, ?_⟩) he hpl
  exact run_makeS M F1 hr b (passAt tk σ) I1 r q
theorem pe_methS {pl : Sem Bool} (he : PE X o ta) (c : Cls X.K C) (hm : Meth X.K C m f) (F : FnX X.prog X.w X.K X.mg X.base k f ps sp) (hr : Room k X.A) (tk : Takes X W) (ha : PA X (e :: es) t)
    (hst : starEach (e :: es) X.env = (false, eval e X.env) :: starEach es X.env := by rfl) (hpl : (backTo pos (starEach es X.env)).any (·.1) = false := by rfl)
    (ht : eval (.Call (.Attribute o m apos) (e :: es) [] pos) X.env = (do
      let ov ← eval o X.env
      standAt apos.atName
      let (f, first) ← holding [ov] (getMethod ov m pl)
      callWith pos f first (backTo pos (starEach (e :: es) X.env)) (backToKw pos (keywordEach [] X.env))) := by rfl) :
    PE X (.Call (.Attribute o m apos) (e :: es) [] pos) (tMethS C m sp (WE W) ta t) := by
  obtain ⟨fd, F1, b⟩ := F.ex
  refine ⟨fun pins s σ H Q I h => ?_⟩
  refine PySem.W.methodCall_KW (pl := pl) (thn (he.run pins s σ H _ I h) fun u s1 ⟨x, H1, I1, rx, a, dx, fs, ex, ea, l, q⟩ => ?_) ht
  subst ex
  obtain rfl : u = Value.ref a := rx
  refine getmeth_ok I1 ea c hm l ?_
  refine PySem.W.callWith_K (first := [.ref a]) (h₀ := X.base) I.ok.mod.kin hm.kp (thn (ha.run pos pins s1 σ H1 _ I1 q) fun us s2 ⟨vs, H2, I2, r, q2⟩ => ⟨I2.kIn, ?_⟩) hst hpl
  exact run_fnS (E := WE W) (us := .ref a :: us) (vs := .ref a :: vs) F1 hr b (passAt tk σ) I2 (.cons rfl r) q2
end
/-- Ratio(t, 0): the exception of the class at Z -/
def spInitZ (C Z : Addr) : Sp := fun vs H _ E => ∃ (p dx : Addr) (t : Int), vs = [.ref p, .int t, .int 0] ∧ H p = some (.ins C dx []) ∧ E (.ref Z) none H
/-- a fraction divided by 0 -/
def spOverZ (C Z : Addr) : Sp := fun vs H _ E => ∃ (x y : V) (p : Rat), vs = [x, y] ∧ RatAt C H x p ∧ RatAt C H y 0 ∧ Ok2 p 0 ∧ ∀ H', Ex H H' → E (.ref Z) none H'
end Pn

namespace Pn
open PySem PySem.Spec PyProof.Rows L2 PnX
/-! ### defs with a closure, as the head leaves them -/
abbrev InW : Type := Option (Str × Arguments × FuncBody × Scope × Addr × List Str × Addr)
structure InD where
  at_ : Str × Option Str
  qual : Str
  params : Arguments
  body : List Stmt
  scope : Scope
  sta : Bool := false
/-- the function within a static method -/
def smA (K : PySem.W.Frag) (p : Addr) : Addr := match PySem.W.recIn K p "staticmethod" with
  | some (.ref g :: _) => g
  | _ => 0
def adW (K : PySem.W.Frag) (d : InD) : Addr := if d.sta then smA K (He.fAd K d.at_) else He.fAd K d.at_
def inW (K : PySem.W.Frag) (d : InD) : InW := match K.lookup (adW K d) with
  | some ⟨_, _, .func fd, _⟩ => some (fd.qualname, fd.params, fd.body, fd.scope, fd.globals, fd.closure.map (·.1), fd.builtins)
  | _ => none
def InD.val (d : InD) : InW := some (d.qual, d.params, .stmts d.body, d.scope, mainGlobals, if d.sta then [] else [("__class__" : Str)], builtinsNs)
/-- the written part, and the namespace that super() looks into -/
def asY (g : Addr → Option Obj) (n : Nat) : List Addr := cStatics :: He.asD g n
def obsY (n : Nat) (fa : List He.Fa) (fn : List He.DefD) (ex : PySem.W.Frag → Bool) (ins : List InD) (g : Addr → Option Obj) : He.AlX × List InW := ((He.obsT fa fn [] (He.frT g (asY g n)), ex (He.frT g (asY g n))), ins.map fun d => inW (He.frT g (asY g n)) d)
def hookY (n : Nat) (fa : List He.Fa) (fn : List He.DefD) (ex : PySem.W.Frag → Bool) (ins : List InD) : PySem.W.Hook where
  α := He.AlX × List InW
  obs := fun s => obsY n fa fn ex ins s.heap.get?
  val := fun w => (He.valX fn [] w, ins.map InD.val)
  says := fun w h => ∃ K : PySem.W.Frag, K.In h ∧ He.SaysX fa fn [] [] ex w h K ∧ (ins.map fun d => inW K d) = ins.map InD.val
  of := fun _ _ e => ⟨_, He.frT_in, ⟨congrArg (fun z : He.AlX × List InW => z.1.1) e, congrArg (fun z : He.AlX × List InW => z.1.2) e, (fun _ h => nomatch h), (fun _ h => nomatch h), (fun _ h => nomatch h)⟩, congrArg (fun z : He.AlX × List InW => z.2) e⟩
  keeps := fun _ _ _ ⟨K, hK, c, e⟩ k => ⟨K, PySem.W.Frag.In.keeps hK k, ⟨c.t, c.more, c.hd, c.out, fun p hp => k _ _ (c.empty p hp)⟩, e⟩
theorem obsY_eq {n : Nat} {fa : List He.Fa} {fn : List He.DefD} {ex : PySem.W.Frag → Bool} {ins : List InD} {g : Addr → Option Obj} {s : Shared} (h : ∀ a, g a = s.heap.get? a) : obsY n fa fn ex ins g = (hookY n fa fn ex ins).obs s := by
  have e : g = s.heap.get? := funext h
  rw [e] <;> rfl
/-! ### an own exception class -/
def oexB (K : PySem.W.Frag) (C : Addr) : Bool := match K.lookup C with
  | some ⟨.type "type", _, .cls cd, sl⟩ => (match cd.mro, sl.toList with
    | .ref C' :: bm, [_, _, _, _, some (.builtin n), _] => C' == C && n == "ValueError.__new__" && !cd.hasDel && cd.hasDict && PySem.HandSPX.refsVE bm
    | _, _ => false)
  | _ => false
theorem oex_of {K : PySem.W.Frag} {C : Addr} (q : oexB K C = true) : ∃ nm q N bs bm sn sub ab col dd k0 k1 k2 k3 k5, K.lookup C = some (excClassObj nm q C N bs bm true sn sub ab col dd k0 k1 k2 k3 k5 "ValueError.__new__") ∧ PySem.HandSPX.refsVE bm = true := by
  unfold oexB at q
  split at q
  · rename_i dd cd sl ho
    split at q
    · rename_i C' bm k0 k1 k2 k3 n k5 hm hs
      simp only [Bool.and_eq_true, beq_iff_eq, Bool.not_eq_true'] at q
      obtain ⟨⟨⟨⟨rfl, rfl⟩, hdel⟩, hdict⟩, ht⟩ := q
      obtain ⟨nm, bs, mro, ns, qn, hd, sn, sub, ab, col, del⟩ := cd
      dsimp only at hm hdel hdict
      subst hm hdel hdict
      have hsl : sl = #[k0, k1, k2, k3, some (.builtin "ValueError.__new__"), k5] := by
        obtain ⟨l⟩ := sl
        simp only at hs
        rw [hs]
      subst hsl
      exact ⟨nm, qn, ns, bs, bm, sn, sub, ab, col, dd, k0, k1, k2, k3, k5, ho, ht⟩
    · cases q
  · cases q
/-- all that is asked of the class at C, f its __init__ -/
def supB (K : PySem.W.Frag) (FILE : Str) (C f : Addr) : Bool :=
  (match K.lookup f with
  | some ⟨_, _, .func fd, _⟩ => decide (fd.defaults = .none) && (PySem.W.codeIn K fd.code fd.qualname && ((match fd.closure with
      | [(_, cc)] => (match K.lookup cc with
        | some ⟨_, _, .cell (some (.ref D)), _⟩ => D == C
        | _ => false)
      | _ => false) && (match fd.code with
      | .ref c => (match K.lookup c with
        | some ⟨_, _, .fields vs, _⟩ => (match (vs[2]? : Option Value) with
          | some (Value.str file _) => FILE == file
          | _ => false)
        | _ => false)
      | _ => false)))
  | _ => false) && (decide (PySem.W.nsIn K cStatics "thirdparty.any" = some none) && (decide (PySem.W.mroIn K C (.ref C) = some true) && (decide (PySem.W.subIn K (.ref C) (.type "ValueError") = some true) &&
  (decide (PySem.W.ks_superIn K C C "__init__" = some (some (.builtin "ValueError.__init__"))) && (decide (PySem.W.findIn K (.ref C) "__init__" = some (some (.ref f))) && (decide (PySem.W.typeIn K (.ref f) = some (.type "function")) &&
  (oexB K C && (decide (PySem.W.findIn K (.ref C) "__setattr__" = some (some (.builtin "object.__setattr__"))) && (decide (PySem.W.subIn K (.ref C) (.type "BaseException") = some true) && (decide (PySem.W.typeIn K (.ref C) = some (.type "type")) && PySem.W.keepIn K (.ref C)))))))))))
structure ZDX (P : Program) (K : PySem.W.Frag) (C f : Addr) : Prop where
  ox : OexC K C
  su : SupI P K C f
  ic : PySem.W.findIn K (.ref C) "__init__" = some (some (.ref f))
  ti : PySem.W.typeIn K (.ref f) = some (.type "function")
theorem zdx_of {P : Program} {K : PySem.W.Frag} {FILE : Str} {x : Str} {d : InD} {m : Str} {j : Nat} {p0 p1 p2 p3 p4 p5 : Pos} {ar : Arg} (hat : d.at_ = (x, some ("__init__" : Str))) (hst : d.sta = false) (hI : inW K d = d.val) (q : supB K FILE (He.ga K x) (He.ma K (He.ga K x) "__init__") = true)
    (hb : d.body = [.Expr (.Call (.Attribute (.Call (.Name "super" p0) [] [] p1) "__init__" p2) [.Constant (.str m) j p3] [] p4) p5]) (hl : (p2.endLine == p4.line) = true)
    (hbd : ∀ (fd : FuncData) (v : Value), fd.params = d.params → fd.defaults = .none → bindArgs fd ⟨[v], []⟩ = pure [(("self" : Str), v)]) (hp : (d.params.posonlyargs ++ d.params.args).head? = some ar) (har : ar.arg = "self")
    (hk : d.scope.kind = .function) (hco : d.scope.isCoroutine = false) (hgen : d.scope.isGenerator = false) (hks : d.scope.names.lookup ("super" : Str) = some .globalImplicit) (hkc : d.scope.names.lookup ("__class__" : Str) = some .free) (hka : d.scope.names.lookup ("self" : Str) = some .local) (hnc : ∀ x ∈ d.scope.names, x.2 ≠ .cell)
    (hP1 : ((P.main.file : Str) == FILE) = true) (hP2 : (P.main.scope.names.lookup ("super" : Str)).isSome = false) : ZDX P K (He.ga K x) (He.ma K (He.ga K x) "__init__") := by
  have hf : adW K d = He.ma K (He.ga K x) "__init__" := by unfold adW; rw [hst, hat]; rfl
  unfold inW InD.val at hI
  rw [hf, hst] at hI
  generalize He.ga K x = C at q hI ⊢
  generalize He.ma K C "__init__" = f at q hI ⊢
  unfold supB at q
  obtain ⟨q1, q⟩ := He.ba q
  obtain ⟨q2, q⟩ := He.ba q
  obtain ⟨q3, q⟩ := He.ba q
  obtain ⟨q4, q⟩ := He.ba q
  obtain ⟨q5, q⟩ := He.ba q
  obtain ⟨q6, q⟩ := He.ba q
  obtain ⟨q7, q⟩ := He.ba q
  obtain ⟨q8, q⟩ := He.ba q
  obtain ⟨q9, q⟩ := He.ba q
  obtain ⟨q10, q⟩ := He.ba q
  obtain ⟨q11, q12⟩ := He.ba q
  refine ⟨⟨oex_of q8, of_decide_eq_true q9, of_decide_eq_true q10, of_decide_eq_true q11, q12⟩, ⟨?_, hP2, of_decide_eq_true q2, of_decide_eq_true q3, of_decide_eq_true q4⟩, of_decide_eq_true q6, of_decide_eq_true q7⟩
  cases hlk : K.lookup f with
  | none => rw [hlk] at q1; cases q1
  | some o =>
    obtain ⟨oc, od, dt, osl⟩ := o
    rw [hlk] at q1 hI
    cases dt with
    | func fd =>
      have e := Option.some.inj hI
      have a1 : fd.params = d.params := congrArg (fun z => z.2.1) e
      have a2 : fd.body = .stmts d.body := congrArg (fun z => z.2.2.1) e
      have a3 : fd.scope = d.scope := congrArg (fun z => z.2.2.2.1) e
      have a4 : fd.globals = mainGlobals := congrArg (fun z => z.2.2.2.2.1) e
      have a5 : fd.closure.map (·.1) = [("__class__" : Str)] := congrArg (fun z => z.2.2.2.2.2.1) e
      have a6 : fd.builtins = builtinsNs := congrArg (fun z => z.2.2.2.2.2.2) e
      dsimp only at q1
      obtain ⟨r1, r⟩ := He.ba q1
      obtain ⟨r2, r⟩ := He.ba r
      obtain ⟨r3, r4⟩ := He.ba r
      have r1 := of_decide_eq_true r1
      have q5 := of_decide_eq_true q5
      unfold PySem.W.ks_superIn at q5
      cases hcd : PySem.W.clsIn K C with
      | none => rw [hcd] at q5; cases q5
      | some cd =>
        rw [hcd] at q5
        cases hcl : fd.closure with
        | nil => rw [hcl] at a5; cases a5
        | cons a l =>
          cases l with
          | cons b l => rw [hcl] at a5; exact absurd (congrArg List.length a5) (by simp)
          | nil =>
            obtain ⟨nm, cc⟩ := a
            rw [hcl] at a5 r3
            have en : nm = ("__class__" : Str) := List.cons.inj a5 |>.1
            subst en
            dsimp only at r3
            cases hcc : K.lookup cc with
            | none => rw [hcc] at r3; cases r3
            | some oc2 =>
              obtain ⟨cl, cld, cdt, csl⟩ := oc2
              rw [hcc] at r3
              cases cdt with
              | cell v =>
                cases v with
                | none => cases r3
                | some v =>
                  cases v with
                  | ref D =>
                    have eD : D = C := beq_iff_eq.mp r3
                    subst eD
                    cases hco2 : fd.code with
                    | ref cda =>
                      rw [hco2] at r4
                      dsimp only at r4
                      cases hca : K.lookup cda with
                      | none => rw [hca] at r4; cases r4
                      | some oc3 =>
                        obtain ⟨occ, cdd, fdt, ccs⟩ := oc3
                        rw [hca] at r4
                        cases fdt with
                        | fields vs =>
                          dsimp only at r4
                          cases hv : vs[2]? with
                          | none => rw [hv] at r4; cases r4
                          | some u =>
                            rw [hv] at r4
                            cases u with
                            | str file tf =>
                              have e1 : FILE = file := beq_iff_eq.mp r4
                              rw [e1] at hP1
                              exact ⟨oc, od, osl, fd, cc, cda, d.scope, m, j, p0, p1, p2, p3, p4, p5, cl, cld, csl, occ, cdd, vs, ccs, file, tf, cd, ar, rfl, by rw [a2, hb], a3, a4, a6, hcl, hco2, r2, fun v => hbd fd v a1 r1, by rw [a1]; exact hp, har, hcc, hca, hv, hP1, rfl, q5, hl, hk, hco, hgen, hks, hkc, hka, hnc⟩
                            | _ => cases r4
                        | _ => cases r4
                    | _ => rw [hco2] at r4; cases r4
                  | _ => cases r3
              | _ => cases r3
    | _ => cases q1
end Pn
namespace Pn
open PySem PySem.Spec PyProof.Rows L2 PnX
theorem pss_and {X : Cx} {l : List Stmt} {t : TS} {p : Prop} (h : p → PSs X l t) : PSs X l (fun D σ H => p ∧ t D σ H) := ⟨fun pins s σ H D I q => (h q.1).run pins s σ H D I q.2⟩
def excCB (K : PySem.W.Frag) (D : Addr) : Bool := decide (PySem.W.findIn K (.ref D) "__getattribute__" = some (some (.builtin "BaseException.__getattribute__"))) && (decide (PySem.W.findIn K (.ref D) "__getattr__" = some none) && (decide (PySem.W.subIn K (.ref D) (.type "BaseException") = some true) && (PySem.W.hasDictIn K D &&
  (decide (PySem.W.findIn K (.ref D) "__class__" = some (some (.builtin "object.__class__"))) && (decide (PySem.W.specialIn K (.builtin "object.__class__") "__get__" = some (some (.builtin "getset_descriptor.__get__"))) && (decide (PySem.W.takesIn K (.builtin "object.__class__") = some true) && decide (PySem.W.mroIn K D (.type "object") = some true)))))))
theorem excC_of {K : PySem.W.Frag} {D : Addr} (q : excCB K D = true) : ExcC K D := by
  unfold excCB at q
  obtain ⟨q1, q⟩ := He.ba q
  obtain ⟨q2, q⟩ := He.ba q
  obtain ⟨q3, q⟩ := He.ba q
  obtain ⟨q4, q⟩ := He.ba q
  obtain ⟨q5, q⟩ := He.ba q
  obtain ⟨q6, q⟩ := He.ba q
  obtain ⟨q7, q8⟩ := He.ba q
  exact ⟨of_decide_eq_true q1, of_decide_eq_true q2, of_decide_eq_true q3, q4, of_decide_eq_true q5, of_decide_eq_true q6, of_decide_eq_true q7, of_decide_eq_true q8⟩
end Pn

namespace Pn
open PySem PySem.Spec PySem.W PySem.Calls PyProof.Rows L2 Evl PnX
section
variable {X : Cx} {k : Nat} {f C p : Addr} {ps : List Str} {sp : Sp} {x m : Str} {pos apos : Pos} {e o : Expr} {es : List Expr} {ta : TE} {t : TA}
def rStrOwn (C : Addr) (sp : Sp) : List V → Hp → VK → Prop := fun vs H Q => ∃ x, vs = [x] ∧ rOwn1 C sp E0 x H (fun v H' => (∃ y, v = .str y) ∧ Q v H')
theorem cr_strF (F : FnG X.prog X.w X.K X.mg X.base k f ps sp) (hr : Room (k + 2) X.A) (hs : Meth X.K C "__str__" f) : CallR X (.type "str") (rStrOwn C sp) := by
  obtain ⟨fd, F1, hb⟩ := F.ex
  intro pins s σ H xs us Q I rx h
  obtain ⟨x, rfl, a, dx, fs, rfl, ha, q⟩ := h
  cases rx with
  | cons r1 r2 =>
  cases r2
  cases r1
  obtain ⟨mA, J, _⟩ := ins_get I.hok ha
  obtain ⟨od, J, _⟩ := J.look
  have hr2 := hr.in1.in1
  refine kso_call (C := C) (f := f) (by have := hr2.un; omega) I.kIn J hs.at_ hs.fn ?_
  refine thn (run_fnA (A := X.A.in1.in1) (us := [.ref a]) (vs := [.ref a]) F1 hr2 rfl hb pass0 I (.cons rfl .nil) q) fun v s' z => ?_
  obtain ⟨y, H', I', r', ⟨yy, ey⟩, q'⟩ := z
  subst ey
  obtain ⟨tk, rfl⟩ := r'
  exact ⟨.str yy, H', I', ⟨tk, rfl⟩, q'⟩
end

/-! ### a static method called through its class -/
theorem slot_sm : Slot "staticmethod" (Str.ofString "__get__") "staticmethod.__get__" :=
  Slot.of (by rw [typeLookup_type, builtinLookup_eq_fast]; rfl) (show splitId "staticmethod.__get__" = some ("staticmethod", "__get__") by decide +kernel) (by decide +kernel) (by decide +kernel) (Or.inl (by decide +kernel)) (by rw [isSubtype_type]; rfl) (by decide +kernel)
theorem entry_sm : entryFor table "staticmethod.__get__" = some Builtin.«staticmethod.__get__» := entryFor_of_tree (by rfl)
theorem args_sm (a b c : Value) : argsOk "staticmethod.__get__" ⟨[a, b, c], []⟩ := by
  unfold argsOk
  rfl
theorem sm_get {prog : Program} {w : World} {A : Around} {s : Shared} {K : Frag} {p C : Addr} {R : Result → Shared → Prop} {f obj : Value} {rest : List Value} (X : K.In s.heap) (hp : recIn K p "staticmethod" = some (f :: rest)) (h : R (.ok (.ret f)) s) :
    codeAny (model prog w) A (.call (.builtin "staticmethod.__get__") ⟨[.ref p, obj, .ref C], []⟩) R s := by
  obtain ⟨d, sl, ho⟩ := rec_of X hp
  refine codeAny_call_builtin slot_sm.plain entry_sm (slot_sm.check _ _ _ _ _ [obj, .ref C] [] _ ⟨_, ho, rfl⟩ (args_sm _ _ _) ?_)
  show wpAny _ _ (Builtin.«staticmethod.__get__» ⟨[.ref p, obj, .ref C], []⟩) _ _ _
  unfold Builtin.«staticmethod.__get__»
  rw [dga_cls]
  refine wpAny_bind (nd_pure ?_)
  dsimp only
  refine wpAny_bind ?_
  refine wpAny_bind (nd_load ho ?_)
  exact nd_pure (nd_pure (nd_pure h))

structure SmC (K : Frag) (C : Addr) (m : Str) (p g : Addr) : Prop where
  rd : readsIn K C (.type "type") = true
  ga : specialIn K (.ref C) (Str.ofString "__getattribute__") = some (some (.builtin "type.__getattribute__"))
  at_ : findCls K (.ref C) (.type "type") m = some (.get (.builtin "staticmethod.__get__") (.ref p) .none (.ref C))
  rc : ∃ rest, recIn K p "staticmethod" = some (.ref g :: rest)
section
variable {X : Cx} {W : WX} {k : Nat} {g C p : Addr} {ps : List Str} {sp : Sp} {m : Str} {pos apos : Pos} {e o : Expr} {es : List Expr} {ta : TE} {t : TA}
def tStaS (C : Addr) (sp : Sp) (E : L2.St → XK) (ta : TE) (t : TA) : TE := fun σ H Q => ta σ H fun x H1 => x = .ref C ∧ t σ H1 fun vs H2 => sp vs H2 Q (E σ)
theorem pe_staS {pl : Sem Bool} (he : PE X o ta) (c : SmC X.K C m p g) (F : FnX X.prog X.w X.K X.mg X.base k g ps sp) (hr : Room k X.A) (tk : Takes X W) (ha : PA X (e :: es) t)
    (hst : starEach (e :: es) X.env = (false, eval e X.env) :: starEach es X.env := by rfl) (hpl : (backTo pos (starEach es X.env)).any (·.1) = false := by rfl)
    (ht : eval (.Call (.Attribute o m apos) (e :: es) [] pos) X.env = (do
      let ov ← eval o X.env
      standAt apos.atName
      let (f, first) ← holding [ov] (getMethod ov m pl)
      callWith pos f first (backTo pos (starEach (e :: es) X.env)) (backToKw pos (keywordEach [] X.env))) := by rfl) :
    PE X (.Call (.Attribute o m apos) (e :: es) [] pos) (tStaS C sp (WE W) ta t) := by
  obtain ⟨fd, F1, b⟩ := F.ex
  refine ⟨fun pins s σ H Q I h => ?_⟩
  refine PySem.W.methodCall_KW (pl := pl) (thn (he.run pins s σ H _ I h) fun u s1 ⟨x, H1, I1, rx, ex, q⟩ => ?_) ht
  subst ex
  obtain rfl : u = Value.ref C := rx
  obtain ⟨rest, rc⟩ := c.rc
  refine method_cls I1.kIn c.ga (cls_bind I1.kIn c.rd c.at_ (wpAny_call (sm_get (by exact I1.kIn) rc (handed_on rfl ?_))))
  refine PySem.W.callWith_K (first := []) (h₀ := X.base) I.ok.mod.kin F.kp (thn (ha.run pos pins _ σ H1 _ (I1.tok _) q) fun us s2 ⟨vs, H2, I2, r, q2⟩ => ⟨I2.kIn, ?_⟩) hst hpl
  exact run_fnS (E := WE W) F1 hr b (passAt tk σ) I2 r q2
end
end Pn

namespace Pn
open PySem PySem.Spec PySem.W PySem.Calls PyProof.Rows L2 Evl PnX
open PySem.HandSPX (excO)
/-- a def `__init__` of an own exception class that begins with super().__init__(f"..") -/
structure SupJ (P : Program) (K : Frag) (C f : Addr) (fd : FuncData) (scope : Scope) (cda cc : Addr) (ms : List Expr) (mp : Pos) (rest : List Stmt) : Prop where
  lk : ∃ oc od osl, K.lookup f = some ⟨oc, od, .func fd, osl⟩
  body : ∃ (p0 p1 p2 p4 p5 : Pos), fd.body = .stmts (.Expr (.Call (.Attribute (.Call (.Name "super" p0) [] [] p1) "__init__" p2) [.JoinedStr ms mp] [] p4) p5 :: rest) ∧ (p2.endLine == p4.line) = true
  sc : fd.scope = scope
  gl : fd.globals = mainGlobals
  bl : fd.builtins = builtinsNs
  cl : fd.closure = [(("__class__" : Str), cc)]
  code : fd.code = .ref cda
  cin : codeIn K fd.code fd.qualname = true
  slf : ∃ ar : Arg, (fd.params.posonlyargs ++ fd.params.args).head? = some ar ∧ ar.arg = "self"
  cell : ∃ cl cld csl, K.lookup cc = some ⟨cl, cld, .cell (some (.ref C)), csl⟩
  file : ∃ occ cdd vs ccs fl tf, K.lookup cda = some ⟨occ, cdd, .fields vs, ccs⟩ ∧ vs[2]? = some (.str fl tf) ∧ ((P.main.file : Str) == fl) = true
  cls : ∃ cd : ClassData, clsIn K C = some cd ∧ alongIn K "__init__" ((cd.mro.dropWhile (· != .ref C)).drop 1) = some (some (.builtin "ValueError.__init__"))
  sk : scope.kind = .function
  sco : scope.isCoroutine = false
  sgen : scope.isGenerator = false
  ssup : scope.names.lookup ("super" : Str) = some .globalImplicit
  scls : scope.names.lookup ("__class__" : Str) = some .free
  sslf : scope.names.lookup ("self" : Str) = some .local
  snc : ∀ x ∈ scope.names, x.2 ≠ .cell
  sfr : ∀ x ∈ scope.names, x.2 = .free → x.1 = "__class__"
  sup : (P.main.scope.names.lookup ("super" : Str)).isSome = false
  opq : nsIn K cStatics "thirdparty.any" = some none
  mro : mroIn K C (.ref C) = some true
  sbe : subIn K (.ref C) (.type "ValueError") = some true
def cxC (P : Program) (w : World) (K : Frag) (mg : Str → Option Value) (base : Heap) (N : List Str) (env : Env) (A : Around) (outer : List Env) (s : Shared) (H : Hp) (E : XK) : Cx :=
  { prog := P, w := w, K := K, mg := mg, base := base, A := A.deeper env, N := N, s_0 := s, H_0 := H, env := env, outer := outer, stack := env :: outer, ex := [], fn := fun _ => false, calm := true, pn := [],
    xe := fun e s' => wpAny (model P w) (A.deeper env) (leaving env e) (fun _ s'' => L2.CX P w outer H s E e s'') (fun e' s'' => L2.CX P w outer H s E e' s'') s' }
theorem lookup1 {x : Str} {cc c : Addr} (h : List.lookup x [(("__class__" : Str), cc)] = some c) : x = "__class__" ∧ c = cc := by
  rw [List.lookup_cons] at h
  split at h
  · rename_i e
    exact ⟨eq_of_beq e, (Option.some.inj h).symm⟩
  · cases h
theorem mem_of_lk {l : List (Str × NameKind)} {x : Str} {k : NameKind} (h : List.lookup x l = some k) : (x, k) ∈ l := by
  induction l with
  | nil => cases h
  | cons a l ih =>
    obtain ⟨y, j⟩ := a
    rw [List.lookup_cons] at h
    split at h
    · rename_i e
      rw [eq_of_beq e, Option.some.inj h]
      exact List.mem_cons_self
    · exact List.mem_cons_of_mem _ (ih h)
theorem lk_none {α β : Type} [BEq α] [LawfulBEq α] {l : List (α × β)} {x : α} (h : ∀ p ∈ l, p.1 ≠ x) : List.lookup x l = none := by
  induction l with
  | nil => rfl
  | cons a l ih =>
    obtain ⟨y, j⟩ := a
    rw [List.lookup_cons]
    have : (x == y) = false := by
      rw [beq_eq_false_iff_ne]
      exact fun e => h _ List.mem_cons_self e.symm
    rw [this]
    exact ih fun p hp => h p (List.mem_cons_of_mem _ hp)
theorem lk_app {α β : Type} [BEq α] [LawfulBEq α] {l m : List (α × β)} {x : α} {v : β} (h : List.lookup x l = some v) : List.lookup x (l ++ m) = some v := by
  induction l with
  | nil => cases h
  | cons a l ih =>
    obtain ⟨y, j⟩ := a
    rw [List.cons_append, List.lookup_cons]
    rw [List.lookup_cons] at h
    split at h
    · exact h
    · exact ih h
theorem lk_app2 {α β : Type} [BEq α] [LawfulBEq α] {l m : List (α × β)} {x : α} (h : List.lookup x l = none) : List.lookup x (l ++ m) = List.lookup x m := by
  induction l with
  | nil => rfl
  | cons a l ih =>
    obtain ⟨y, j⟩ := a
    rw [List.cons_append, List.lookup_cons]
    rw [List.lookup_cons] at h
    split at h
    · cases h
    · exact ih h
theorem zip_lookup {ps : List Str} {us : List Value} {i : Nat} {x : Str} {u : Value} (nd : ps.Nodup) (h1 : ps[i]? = some x) (h2 : us[i]? = some u) : (ps.zip us).reverse.lookup x = some u := by
  induction ps generalizing us i with
  | nil => cases h1
  | cons p ps ih =>
    cases us with
    | nil => cases h2
    | cons v us =>
      obtain ⟨n1, n2⟩ := List.nodup_cons.mp nd
      rw [List.zip_cons_cons, List.reverse_cons]
      cases i with
      | zero =>
        cases h1
        cases h2
        rw [lk_app2 (lk_none fun q hq e => n1 (by rw [← e]; exact (List.of_mem_zip (List.mem_reverse.mp hq)).1)), List.lookup_cons, beq_self_eq_true]
      | succ i => exact lk_app (ih n2 h1 h2)
theorem upd_eq {H : Hp} {a : Addr} {o : HO} (h : H a = some o) : upd H a o = H := by
  funext b
  by_cases e : b = a
  · subst e
    rw [upd_same, h]
  · rw [upd_ne e]
section
variable {P : Program} {w : World} {K : Frag} {mg : Str → Option Value} {base : Heap} {k : Nat} {C f cda cc : Addr} {fd : FuncData} {scope : Scope} {N ps : List Str} {sp : Sp} {ms : List Expr} {mp : Pos} {rest : List Stmt}
theorem inv_startC {A : Around} {outer : List Env} {s : Shared} {H : Hp} {E : XK} {us : List Value} {vs : List V} {h₀ : Heap} {t : Nat} (S : SupJ P K C f fd scope cda cc ms mp rest) (hA : A.handled = none) (e0 : Env0 P w K mg base A outer s H)
    (hN : N = ps) (nd : ps.Nodup) (hloc : ∀ x ∈ ps, scope.names.lookup x = some .local) (hl : vs.length = ps.length) (r : Vals vs us) (hns : h₀.Ns s.heap.objs.size fun x => (ps.zip us).reverse.lookup x) (k : ∀ b o, s.heap.get? b = some o → h₀.get? b = some o) :
    L2.Inv (cxC P w K mg base N (ksEnv fd.qualname scope s.heap.objs.size f (.ref cda) cc) A outer s H E) [] (L2.start N vs) H ⟨h₀, s.gens, s.drawn, t, s.os⟩ := by
  obtain ⟨cl, cld, csl, hcell⟩ := S.cell
  have kb := e0.mod.kin _ _ hcell
  subst hN
  refine ⟨⟨e0.mod, S.sk, rfl, rfl, Nat.le_refl _, ?_, ?_, (fun _ _ h => nomatch h), (fun _ => hA), (by show (A.frames.map _) = _; rw [e0.frames]; rfl), Or.inr ⟨rfl, rfl⟩, (fun _ h => nomatch h), e0.bs, e0.bsz, (fun _ _ _ h => nomatch h), (fun _ h => nomatch h), e0.funs, e0.frf⟩, rfl, e0.bare, Un.kept k, ⟨_, hns, ?_⟩, ?_, e0.hok.fresh (Nat.le_refl _), ?_, (fun _ h => nomatch h), e0.hok.kept k, ?_⟩
  · intro x y c h1 h2
    exact (lookup1 h1).1.trans (lookup1 h2).1.symm
  · intro x h
    rcases h with h | h
    · exact absurd rfl (S.snc _ (mem_of_lk h))
    · have e := S.sfr _ (mem_of_lk h) rfl
      subst e
      exact ⟨cc, rfl⟩
  · intro i x v h1 h2 _
    have hi : i < N.length := by
      obtain ⟨z, _⟩ := List.getElem?_eq_some_iff.mp h1
      exact z
    have hx : x ∈ N := List.mem_of_getElem? h1
    have hiv : i < vs.length := by omega
    have e2 : vs[i]? = some v := by
      unfold L2.start at h2
      rw [List.getElem?_append_left (by rw [List.length_map]; exact hiv), List.getElem?_map] at h2
      cases z : vs[i]? with
      | none => rw [z] at h2; cases h2
      | some y => rw [z] at h2; exact congrArg some (Option.some.inj (Option.some.inj h2))
    obtain ⟨u, hu, ru⟩ := r.get e2
    refine ⟨u, ru, Or.inl ⟨hloc x hx, ?_⟩⟩
    exact zip_lookup nd h1 hu
  · intro x c h
    obtain ⟨_, rfl⟩ := lookup1 h
    exact ⟨_, _, k _ _ (e0.bs _ _ kb).1, rfl⟩
  · intro x c h
    obtain ⟨_, rfl⟩ := lookup1 h
    exact (e0.bs _ _ kb).2
  · show (List.map some vs ++ List.replicate (N.length - vs.length) none).length = N.length
    rw [List.length_append, List.length_map, List.length_replicate]
    omega

theorem fn_clo (S : SupJ P K C f fd scope cda cc ms mp rest) (T : OexC K C) (hsup : mg "super" = none) (hps : ps = [("self" : Str), ("text" : Str)]) (hN : N = ps) (hloc : ∀ x ∈ ps, scope.names.lookup x = some .local) (len : ∀ vs H Q E, sp vs H Q E → vs.length = ps.length)
    (hbody : ∀ (env : Env) (A : Around) (outer : List Env) (s : Shared) (H : Hp) (vs : List V) (Q : VK) (E : XK), env = ksEnv fd.qualname scope s.heap.objs.size f (.ref cda) cc → Room k (A.deeper env) → sp vs H Q E →
      ∃ te t2 a v, PE (cxC P w K mg base N env A outer s H E) (.JoinedStr ms mp) te ∧ PSs (cxC P w K mg base N env A outer s H E) rest t2 ∧ vs = [.ref a, v] ∧ H a = some (exo a C none) ∧
        te (L2.start N vs) H (fun _ H1 => H1 a = some (exo a C none) ∧ t2 { nx := fun _ H' => Q .non H', rt := Q } (L2.start N vs) H1)) : FnOk P w K mg base (L2.CX P w) (k + 1) f fd ps sp := by
  refine ⟨len, fun A outer s H args us vs Q E hr e0 hb r hsp => ?_⟩
  have hl := len _ _ _ _ hsp
  have KX := W.Frag.In.keeps e0.mod.kin fun b o e => (e0.bs b o e).1
  have lim := Heap.NoLimit.keeps e0.mod.nolimit fun b o e => (e0.bs b o e).1
  obtain ⟨oc, od, osl, lk⟩ := S.lk
  obtain ⟨p0, p1, p2, p4, p5, hbd, hline⟩ := S.body
  have henv : callEnv fd s.heap.objs.size f = ksEnv fd.qualname scope s.heap.objs.size f (.ref cda) cc := by
    unfold callEnv newEnv
    rw [S.sc, S.gl, S.cl, S.bl, S.code]
  have nd : ps.Nodup := by rw [hps]; decide +kernel
  refine ks_codeAny_call_defAt (fd := fd) (binds := ps.zip us) hr.depth (KX _ _ lk) rfl lim (codeRec_of KX S.cin) hbd hb (by rw [S.sc]; exact S.snc) (by rw [S.sc]; intro x hx; exact hloc _ (List.of_mem_zip hx).1) (fun h₀ hns hk₁ => ?_) (by rw [S.sc]; exact S.sco) (by rw [S.sc]; exact S.sgen) (by rw [S.sc]; exact S.sk)
  rw [henv]
  have I := inv_startC (E := E) (t := s.toks + (ps.zip us).length) S (by exact hr.hd) e0 hN nd hloc hl r hns hk₁
  obtain ⟨te, t2, a, v, he, hst, hvs, ha, hq⟩ := hbody _ A outer s H vs Q E rfl (hr.deeper _) hsp
  subst hvs
  have hus : ∃ u1 u2, us = [u1, u2] := by
    cases r with
    | cons a b => cases b with
      | cons c d => cases d; exact ⟨_, _, rfl⟩
  obtain ⟨u1, u2, rfl⟩ := hus
  have hu1 : u1 = Value.ref a := by
    cases r with
    | cons a b => exact a
  subst hu1
  obtain ⟨ar, hp, har⟩ := S.slf
  obtain ⟨occ, cdd, fvs, ccs, fl, tf, hcda, hvs, hfile⟩ := S.file
  obtain ⟨cd, hcls, hal⟩ := S.cls
  obtain ⟨cl, cld, csl, hcell⟩ := S.cell
  obtain ⟨t0, hae⟩ := exo_at I.hok ha
  obtain ⟨nm, q, NN, bs, bm, sn, sub, ab, col, dd, k0, k1, k2, k3, k5, hC, hbm⟩ := T.cls
  have X0 : K.In h₀ := I.kIn
  have hD : ∃ oD, h₀.get? C = some oD ∧ oD.data = .cls cd := by
    unfold clsIn at hcls
    split at hcls
    · rename_i c d cd' sl ho
      cases hcls
      exact ⟨_, X0 _ _ ho, rfl⟩
    · cases hcls
  obtain ⟨oD, hD1, hD2⟩ := hD
  have hself2 : (fun x => (ps.zip [Value.ref a, u2]).reverse.lookup x) ar.arg = some (.ref a) := by
    rw [har, hps]
    rfl
  have hka : scope.names.lookup ar.arg = some .local := by rw [har]; exact S.sslf
  have hint : interactive (ksEnv fd.qualname scope s.heap.objs.size f (.ref cda) cc) = false := by
    show (scope.kind == .module && _) = false
    rw [S.sk]
    rfl
  obtain ⟨mb, hb1, hb2⟩ := e0.mod.blt
  have hb1 := (hb1.keeps fun b o e => (e0.bs b o e).1).keeps hk₁
  have hg1 := (e0.mod.glob.keeps fun b o e => (e0.bs b o e).1).keeps hk₁
  have hb3 : mb "super" = some (.type "super") := (hb2 _ (by decide +kernel)).trans (by rfl)
  refine ks_wpAt_execs_cons (ks_wpAt_Expr_any (wpAt_supcall (args := [.JoinedStr ms mp]) (env := ksEnv fd.qualname scope s.heap.objs.size f (.ref cda) cc) (pos := p4) rfl hline ?_) hint)
  refine ks_wpAt_super_base (env := ksEnv fd.qualname scope s.heap.objs.size f (.ref cda) cc) S.ssup S.scls (by decide +kernel) rfl (X0 _ _ lk) rfl hp rfl (X0 _ _ hcda) rfl hvs hfile S.sup ?_
  refine ks_loadName_global S.sk S.ssup (loadGlobal_builtin (env := ksEnv fd.qualname scope s.heap.objs.size f (.ref cda) cc) hg1 hsup hb1 hb3 ⟨rfl, ?_⟩)
  refine wpAny_loadName_free S.sk S.scls rfl ⟨_, X0 _ _ hcell, rfl⟩ ?_
  refine wpAny_loadName_local S.sk hka hns hself2 ?_
  refine ks_wpAny_isType_cls hD1 hD2 ⟨rfl, ?_⟩
  refine ks_wpAny_call_super hD1 hD2 hae rfl (fun c e => nomatch e) (looks_mroIn X0 S.mro) (fun h1 e1 k1 pl => ?_)
  have X1 : K.In h1 := X0.keeps k1
  have he1 := k1 _ _ hae
  have hCe : a ≠ C := fun z => by
    rw [z, hD1] at hae
    cases hae
    exact nomatch hD2
  have I1 : InstAt h1 a (excO C t0) C none := ⟨he1, rfl, rfl, trivial⟩
  refine kxs_getMethod kxs_ValueError e1 (looks_opaque X1 S.opq) (l₀ := cd.mro) (fun A Q E s k q => wpAny_bind ((looks_clsIn X1 hcls) A _ E s k (wpAny_pure q))) rfl X1 hal (I1.type.andThen (looks_subIn X1 S.sbe)) hCe (by decide +kernel) ?_
  have k2 : ∀ b o, h1.get? b = some o → (h1.push (kxs_mw "ValueError.__init__" a)).get? b = some o := fun b o z => Heap.get?_push_of_some _ z
  have I1' := Inv.turnedL (ch := []) (t' := 0) I (fun b o _ z => k1 b o z) (fun b h => nomatch h)
  have I2 := fun tt : Nat => ClX.pin_new (t' := tt) (a := h1.objs.size) (o := kxs_mw "ValueError.__init__" a) (h' := h1.push (kxs_mw "ValueError.__init__" a)) I1' k2 (Nat.le_refl _) (Heap.get?_push_size _ rfl) (fun v e => nomatch e)
  refine kxs_callWith (i := "ValueError.__init__") (x := a) rfl (evalArgs_plain (spliced_cons ?_))
  refine thn (he.run _ _ _ _ _ (I2 _) hq) fun y s3 ⟨v3, H3, I3, r3, ha3, hq3⟩ => ?_
  refine spliced_nil ⟨ClX.pin_at I3, ?_⟩
  obtain ⟨t1, hae3⟩ := exo_at I3.hok ha3
  obtain ⟨h3, g3, d3, tk3, os3⟩ := s3
  refine call_mw (I3.kIn _ _ hC) hae3 (ClX.pin_at I3) (by show 1 ≤ sizeLine; rw [sizeLine_eq]; omega) (fun h4 t4 k4 e4 => ?_)
  have I4 := ClX.unpin (Inv.write (x := a) (e := a) (o := exo a C none) (h' := h4) (t' := tk3) I3 (by rw [ha3]; exact trivial) (Or.inl rfl) k4 ⟨_, e4⟩ (exo_ok e4))
  rw [upd_eq ha3] at I4
  refine wpAt_of_wpAny ?_
  refine wpAny_mono (hst.run _ _ _ _ _ I4 hq3) (fun fl s' hs => ?_) (fun e s' hs => hs)
  have fin : ∀ {σ' H' v u}, L2.Inv (cxC P w K mg base N (ksEnv fd.qualname scope s.heap.objs.size f (.ref cda) cc) A outer s H E) [] σ' H' s' → L2.RelV v u → Q v H' → CR (L2.CX P w) outer P w H s Q E (.ok (.ret u)) s' := fun J rv q => ⟨_, _, J.os, J.bare, J.base, J.hok, rv, q⟩
  cases fl with
  | next =>
    obtain ⟨σ', H', J, q⟩ := hs
    exact fin (v := .non) J rfl q
  | brk =>
    obtain ⟨_, _, _, q⟩ := hs
    exact q.elim
  | cont =>
    obtain ⟨_, _, _, q⟩ := hs
    exact q.elim
  | ret u =>
    obtain ⟨v, σ', H', J, rv, q⟩ := hs
    exact fin J rv q
end
end Pn

namespace Pn
open PySem PySem.Spec PyProof.Rows L2 Evl PnX
/-- an own exception that keeps a text: its class at C, its __init__ at f -/
structure BDX (P : Program) (K : PySem.W.Frag) (C f : Addr) (scope : Scope) (ms : List Expr) (mp : Pos) (rest : List Stmt) : Prop where
  ox : OexC K C
  ic : PySem.W.findIn K (.ref C) "__init__" = some (some (.ref f))
  ti : PySem.W.typeIn K (.ref f) = some (.type "function")
  su : ∃ fd sc cda cc, SupJ P K C f fd sc cda cc ms mp rest ∧ (∀ v u, bindArgs fd ⟨[v, u], []⟩ = pure [(("self" : Str), v), (("text" : Str), u)]) ∧ sc = scope
theorem bdx_of {P : Program} {K : PySem.W.Frag} {FILE : Str} {x : Str} {d : InD} {ms : List Expr} {mp : Pos} {rest : List Stmt} {p0 p1 p2 p4 p5 : Pos} {ar : Arg} (hat : d.at_ = (x, some ("__init__" : Str))) (hst : d.sta = false) (hI : inW K d = d.val) (q : supB K FILE (He.ga K x) (He.ma K (He.ga K x) "__init__") = true)
    (hb : d.body = .Expr (.Call (.Attribute (.Call (.Name "super" p0) [] [] p1) "__init__" p2) [.JoinedStr ms mp] [] p4) p5 :: rest) (hl : (p2.endLine == p4.line) = true)
    (hbd : ∀ (fd : FuncData) (v u : Value), fd.params = d.params → fd.defaults = .none → bindArgs fd ⟨[v, u], []⟩ = pure [(("self" : Str), v), (("text" : Str), u)]) (hp : (d.params.posonlyargs ++ d.params.args).head? = some ar) (har : ar.arg = "self")
    (hk : d.scope.kind = .function) (hco : d.scope.isCoroutine = false) (hgen : d.scope.isGenerator = false) (hks : d.scope.names.lookup ("super" : Str) = some .globalImplicit) (hkc : d.scope.names.lookup ("__class__" : Str) = some .free) (hka : d.scope.names.lookup ("self" : Str) = some .local) (hnc : ∀ x ∈ d.scope.names, x.2 ≠ .cell) (hfr : ∀ x ∈ d.scope.names, x.2 = .free → x.1 = "__class__")
    (hP1 : ((P.main.file : Str) == FILE) = true) (hP2 : (P.main.scope.names.lookup ("super" : Str)).isSome = false) : BDX P K (He.ga K x) (He.ma K (He.ga K x) "__init__") d.scope ms mp rest := by
  have hf : adW K d = He.ma K (He.ga K x) "__init__" := by unfold adW; rw [hst, hat]; rfl
  unfold inW InD.val at hI
  rw [hf, hst] at hI
  generalize He.ga K x = C at q hI ⊢
  generalize He.ma K C "__init__" = f at q hI ⊢
  unfold supB at q
  obtain ⟨q1, q⟩ := He.ba q
  obtain ⟨q2, q⟩ := He.ba q
  obtain ⟨q3, q⟩ := He.ba q
  obtain ⟨q4, q⟩ := He.ba q
  obtain ⟨q5, q⟩ := He.ba q
  obtain ⟨q6, q⟩ := He.ba q
  obtain ⟨q7, q⟩ := He.ba q
  obtain ⟨q8, q⟩ := He.ba q
  obtain ⟨q9, q⟩ := He.ba q
  obtain ⟨q10, q⟩ := He.ba q
  obtain ⟨q11, q12⟩ := He.ba q
  refine ⟨⟨oex_of q8, of_decide_eq_true q9, of_decide_eq_true q10, of_decide_eq_true q11, q12⟩, of_decide_eq_true q6, of_decide_eq_true q7, ?_⟩
  cases hlk : K.lookup f with
  | none => rw [hlk] at q1; cases q1
  | some o =>
    obtain ⟨oc, od, dt, osl⟩ := o
    rw [hlk] at q1 hI
    cases dt with
    | func fd =>
      have e := Option.some.inj hI
      have a1 : fd.params = d.params := congrArg (fun z => z.2.1) e
      have a2 : fd.body = .stmts d.body := congrArg (fun z => z.2.2.1) e
      have a3 : fd.scope = d.scope := congrArg (fun z => z.2.2.2.1) e
      have a4 : fd.globals = mainGlobals := congrArg (fun z => z.2.2.2.2.1) e
      have a5 : fd.closure.map (·.1) = [("__class__" : Str)] := congrArg (fun z => z.2.2.2.2.2.1) e
      have a6 : fd.builtins = builtinsNs := congrArg (fun z => z.2.2.2.2.2.2) e
      dsimp only at q1
      obtain ⟨r1, r⟩ := He.ba q1
      obtain ⟨r2, r⟩ := He.ba r
      obtain ⟨r3, r4⟩ := He.ba r
      have r1 := of_decide_eq_true r1
      have q5 := of_decide_eq_true q5
      unfold PySem.W.ks_superIn at q5
      cases hcd : PySem.W.clsIn K C with
      | none => rw [hcd] at q5; cases q5
      | some cd =>
        rw [hcd] at q5
        cases hcl : fd.closure with
        | nil => rw [hcl] at a5; cases a5
        | cons a l =>
          cases l with
          | cons b l => rw [hcl] at a5; exact absurd (congrArg List.length a5) (by simp)
          | nil =>
            obtain ⟨nm, cc⟩ := a
            rw [hcl] at a5 r3
            have en : nm = ("__class__" : Str) := List.cons.inj a5 |>.1
            subst en
            dsimp only at r3
            cases hcc : K.lookup cc with
            | none => rw [hcc] at r3; cases r3
            | some oc2 =>
              obtain ⟨cl, cld, cdt, csl⟩ := oc2
              rw [hcc] at r3
              cases cdt with
              | cell v =>
                cases v with
                | none => cases r3
                | some v =>
                  cases v with
                  | ref D =>
                    have eD : D = C := beq_iff_eq.mp r3
                    subst eD
                    cases hco2 : fd.code with
                    | ref cda =>
                      rw [hco2] at r4
                      dsimp only at r4
                      cases hca : K.lookup cda with
                      | none => rw [hca] at r4; cases r4
                      | some oc3 =>
                        obtain ⟨occ, cdd, fdt, ccs⟩ := oc3
                        rw [hca] at r4
                        cases fdt with
                        | fields vs =>
                          dsimp only at r4
                          cases hv : vs[2]? with
                          | none => rw [hv] at r4; cases r4
                          | some u =>
                            rw [hv] at r4
                            cases u with
                            | str file tf =>
                              have e1 : FILE = file := beq_iff_eq.mp r4
                              rw [e1] at hP1
                              exact ⟨fd, d.scope, cda, cc, ⟨⟨oc, od, osl, hlk⟩, ⟨p0, p1, p2, p4, p5, by rw [a2, hb], hl⟩, a3, a4, a6, hcl, hco2, r2, ⟨ar, by rw [a1]; exact hp, har⟩, ⟨_, _, _, hcc⟩, ⟨_, _, _, _, _, _, hca, hv, hP1⟩, ⟨cd, hcd, q5⟩, hk, hco, hgen, hks, hkc, hka, hnc, hfr, hP2, of_decide_eq_true q2, of_decide_eq_true q3, of_decide_eq_true q4⟩, fun v u => hbd fd v u a1 r1, rfl⟩
                            | _ => cases r4
                        | _ => cases r4
                    | _ => rw [hco2] at r4; cases r4
                  | _ => cases r3
              | _ => cases r3
    | _ => cases q1

/-- the text that is kept -/
def spBad (C : Addr) : Sp := fun vs H Q _ => ∃ (a : Addr) (t : Str), vs = [.ref a, .str t] ∧ t.length ≤ 1000 ∧ (∀ c ∈ t.cps.toList, c < 128) ∧ H a = some (exo a C none) ∧ ∀ d, H d = none → d ≠ a → Q .non (upd (upd H d (exd d [(("text" : Str), .str t)])) a (exo a C (some d)))
theorem repr_len {t : Str} (h : ∀ c ∈ t.cps.toList, c < 128) : (reprText t).length ≤ 10 * t.length + 2 := by
  have z := StrLaws.foldl_repr_len (reprQuote t) t.cps.toList #[reprQuote t] fun c hc => Nat.lt_of_lt_of_le (h c hc) (by decide)
  rw [Array.foldl_toList] at z
  show (Array.push _ _).size ≤ _
  rw [Array.size_push]
  have e : t.cps.toList.length = t.length := rfl
  have e2 : (#[reprQuote t] : Array Nat).size = 1 := rfl
  rw [e, e2] at z
  omega
section
variable {P : Program} {w : World} {K : PySem.W.Frag} {mg : Str → Option Value} {base : Heap} {C f : Addr} {scope : Scope} {m : Str} {j : Nat} {mp c1 n1 n2 b1 b2 b3 b4 b5 : Pos}
theorem fn_bad (B : BDX P K C f scope [.Constant (.str m) j c1, .FormattedValue (.Name "text" n1) 114 none n2] mp [.Assign [.Attribute (.Name "self" b1) "text" b2] (.Name "text" b3) b4]) (hsup : mg "super" = none) (hm : m.length ≤ 1000) (htx : PySem.W.findIn K (.ref C) "text" = some none)
    (hl1 : scope.names.lookup ("self" : Str) = some .local) (hl2 : scope.names.lookup ("text" : Str) = some .local)
    (hsw : ∀ env : Env, env.scope = scope → swapsWith (.Name "text" b3) (some (.Attribute (.Name "self" b1) "text" b2)) b4.line env = pure false) :
    ∃ fd, FnOk P w K mg base (L2.CX P w) 2 f fd [("self" : Str), ("text" : Str)] (spBad C) ∧ Binds K fd [("self" : Str), ("text" : Str)] [] := by
  obtain ⟨fd, sc, cda, cc, S, hb, rfl⟩ := B.su
  refine ⟨fd, fn_clo S B.ox hsup rfl rfl (fun x hx => ?_) (fun vs H Q E h => ?_) (fun env A outer s H vs Q E he hr h => ?_), fun s us _ hl => ?_⟩
  · rcases List.mem_cons.mp hx with rfl | hx
    · exact hl1
    · rw [List.mem_singleton.mp hx]
      exact hl2
  · obtain ⟨a, t, rfl, _⟩ := h
    rfl
  · obtain ⟨a, t, rfl, ht, hc, ha, k⟩ := h
    have nd : [("self" : Str), ("text" : Str)].Nodup := by decide +kernel
    have ee : env.scope = sc := by rw [he]
    have p0 : PE (cxC P w K mg base [("self" : Str), ("text" : Str)] env A outer s H E) (.Name "self" b1) (tVar 0) := pe_var (i := 0) rfl (.inl (by show List.lookup _ env.scope.names = _; rw [ee]; exact hl1))
    have p1 : ∀ p, PE (cxC P w K mg base [("self" : Str), ("text" : Str)] env A outer s H E) (.Name "text" p) (tVar 1) := fun p => pe_var (i := 1) rfl (.inl (by show List.lookup _ env.scope.names = _; rw [ee]; exact hl2))
    have hr2 := repr_len hc
    refine ⟨_, _, a, _, pe_joined (.cons pe_str (.cons (pe_fmtR (p1 n1)) .nil)), pss_one (ps_ost p0 (p1 b3) (hsw env ee)), rfl, ha, ?_⟩
    have l1 : ∀ x y : Str, (x ++ y).length = x.length + y.length := fun x y => by show (Array.append _ _).size = _; exact Array.size_append
    refine ⟨m, rfl, sz_of (by rw [l1]; show 0 + m.length ≤ _; omega), _, rfl, Or.inl ⟨t, rfl, sz_of (by omega), reprText t, rfl, sz_of (by rw [l1, l1]; show 0 + m.length + _ ≤ _; omega), ?_⟩⟩
    refine ⟨ha, _, rfl, _, rfl, a, C, rfl, B.ox, htx, Or.inl ⟨ha, fun dx n ne => ?_⟩⟩
    exact k dx n ne
  · obtain ⟨u1, u2, rfl⟩ : ∃ u1 u2, us = [u1, u2] := by
      rw [List.append_nil] at hl
      match us, hl with
      | [u1, u2], _ => exact ⟨_, _, rfl⟩
    exact BindsTo.of_eq (hb _ _)
end
def stB (K : PySem.W.Frag) (x m : Str) (d : InD) : Bool :=
  (match K.lookup (adW K d) with
  | some ⟨_, _, .func fd, _⟩ => decide (fd.defaults = .none) && PySem.W.codeIn K fd.code fd.qualname
  | _ => false) && (PySem.W.keepIn K (.ref (adW K d)) && (PySem.W.readsIn K (He.ga K x) (.type "type") && (decide (PySem.W.specialIn K (.ref (He.ga K x)) (Str.ofString "__getattribute__") = some (some (.builtin "type.__getattribute__"))) &&
  ((match PySem.W.findCls K (.ref (He.ga K x)) (.type "type") m with
  | some (.get (.builtin g) (.ref p) .none (.ref C)) => g == "staticmethod.__get__" && (p == He.fAd K d.at_ && C == He.ga K x)
  | _ => false) && (match PySem.W.recIn K (He.fAd K d.at_) "staticmethod" with
  | some (.ref _ :: _) => true
  | _ => false)))))
theorem sta_of {K : PySem.W.Frag} {x m : Str} {d : InD} (hst : d.sta = true) (hI : inW K d = d.val) (q : stB K x m d = true) :
    SmC K (He.ga K x) m (He.fAd K d.at_) (adW K d) ∧ ∃ fd, FunD K fd.name d.qual d.params d.body d.scope [] [] (adW K d) fd := by
  unfold stB at q
  obtain ⟨q1, q⟩ := He.ba q
  obtain ⟨q2, q⟩ := He.ba q
  obtain ⟨q3, q⟩ := He.ba q
  obtain ⟨q4, q⟩ := He.ba q
  obtain ⟨q5, q6⟩ := He.ba q
  refine ⟨⟨q3, of_decide_eq_true q4, ?_, ?_⟩, ?_⟩
  · split at q5
    · rename_i g p C hh
      obtain ⟨e1, e⟩ := He.ba q5
      obtain ⟨e2, e3⟩ := He.ba e
      rw [hh, beq_iff_eq.mp e1, beq_iff_eq.mp e2, beq_iff_eq.mp e3]
    · cases q5
  · split at q6
    · rename_i g rest hh
      refine ⟨rest, ?_⟩
      unfold adW smA
      rw [hst, if_pos rfl, hh]
    · cases q6
  · unfold inW InD.val at hI
    rw [hst] at hI
    generalize adW K d = f at q1 q2 hI ⊢
    cases hlk : K.lookup f with
    | none => rw [hlk] at q1; cases q1
    | some o =>
      obtain ⟨oc, od, dt, osl⟩ := o
      rw [hlk] at q1 hI
      cases dt with
      | func fd =>
        have e := Option.some.inj hI
        have a0 : fd.qualname = d.qual := congrArg (fun z => z.1) e
        have a1 : fd.params = d.params := congrArg (fun z => z.2.1) e
        have a2 : fd.body = .stmts d.body := congrArg (fun z => z.2.2.1) e
        have a3 : fd.scope = d.scope := congrArg (fun z => z.2.2.2.1) e
        have a4 : fd.globals = mainGlobals := congrArg (fun z => z.2.2.2.2.1) e
        have a5 : fd.closure.map (·.1) = [] := congrArg (fun z => z.2.2.2.2.2.1) e
        have a6 : fd.builtins = builtinsNs := congrArg (fun z => z.2.2.2.2.2.2) e
        dsimp only at q1
        obtain ⟨r0, r2⟩ := He.ba q1
        have r1 : fd.defaults = .none := of_decide_eq_true r0
        clear r0
        obtain ⟨nm, qn, pr, bd, sc, gl, cl, df, kw, dc, pm, an, cd, ct, bl⟩ := fd
        dsimp only at a0 a1 a2 a3 a4 a5 a6 r1 r2
        have a7 : cl = [] := List.map_eq_nil_iff.mp a5
        subst a0 a1 a2 a3 a4 a7 a6 r1
        exact ⟨_, ⟨⟨oc, od, .none, kw, dc, pm, an, cd, ct, osl, rfl, hlk, r2, Or.inl ⟨rfl, rfl⟩, Or.inl rfl⟩, q2⟩⟩
      | _ => cases q1
structure BadX (P : Program) (w : World) (K : PySem.W.Frag) (mg : Str → Option Value) (base : Heap) (C : Addr) : Prop where
  ox : OexC K C
  ex : ∃ f fd, PySem.W.findIn K (.ref C) "__init__" = some (some (.ref f)) ∧ PySem.W.typeIn K (.ref f) = some (.type "function") ∧ FnOk P w K mg base (L2.CX P w) 2 f fd [("self" : Str), ("text" : Str)] (spBad C) ∧ Binds K fd [("self" : Str), ("text" : Str)] []
theorem bad_of {P : Program} {w : World} {K : PySem.W.Frag} {mg : Str → Option Value} {base : Heap} {C f : Addr} {scope : Scope} {m : Str} {j : Nat} {mp c1 n1 n2 b1 b2 b3 b4 : Pos}
    (B : BDX P K C f scope [.Constant (.str m) j c1, .FormattedValue (.Name "text" n1) 114 none n2] mp [.Assign [.Attribute (.Name "self" b1) "text" b2] (.Name "text" b3) b4]) (hsup : mg "super" = none) (hm : m.length ≤ 1000) (htx : PySem.W.findIn K (.ref C) "text" = some none)
    (hl1 : scope.names.lookup ("self" : Str) = some .local) (hl2 : scope.names.lookup ("text" : Str) = some .local)
    (hsw : ∀ env : Env, env.scope = scope → swapsWith (.Name "text" b3) (some (.Attribute (.Name "self" b1) "text" b2)) b4.line env = pure false) : BadX P w K mg base C := by
  obtain ⟨fd, F, b⟩ := fn_bad (w := w) (mg := mg) (base := base) B hsup hm htx hl1 hl2 hsw
  exact ⟨B.ox, f, fd, B.ic, B.ti, F, b⟩
section
variable {X : Cx} {C : Addr} {x : Str} {p pos : Pos} {e : Expr} {ta : TA}
theorem pmk_bad (B : BadX X.prog X.w X.K X.mg X.base C) (hr : Room 3 X.A) (hm : X.mg x = some (.ref C)) (ha : PA X [e] ta) (hg : Gl X x := by rfl) (hdb : (x == ("__debug__" : Str)) = false := by decide) (he : starEach [e] X.env = (false, eval e X.env) :: starEach [] X.env := by rfl) :
    PMk X (.Call (.Name x p) [e] [] pos) (tMkO C (spBad C) [] ta) := by
  obtain ⟨f, fd, ic, ti, F, b⟩ := B.ex
  exact pmk_oex B.ox ic ti F hr b .nil passL hg hm ha hdb he rfl
end
/-- what is raised with a text -/
theorem mk_bad {C : Addr} {te : TE} {σ : L2.St} {H : Hp} {t : Str} {Q : XK} (h : Ev te σ H (.str t)) (hl : t.length ≤ 1000) (hc : ∀ c ∈ t.cps.toList, c < 128) (k : ∀ d H', Ex H H' → H' d = some (.xd [(("text" : Str), .str t)]) → Q (.ref C) (some d) H') : tMkO C (spBad C) [] (tCons te tNil) σ H Q := by
  refine h H (Ex.refl H) _ fun H1 e1 => ⟨Nat.le_of_ble_eq_true rfl, fun a na => ⟨a, t, rfl, hl, hc, upd_same, fun d nd ne => ⟨rfl, d, [(("text" : Str), V.str t)], upd_same, ?_, ?_, ?_⟩⟩⟩
  · rw [upd_ne ne, upd_same]
  · rwa [upd_ne ne] at nd
  · have nd1 : H1 d = none := by rwa [upd_ne ne] at nd
    refine k d _ (fun b o hb => ?_) upd_same
    have hb1 := e1 _ _ hb
    have n1 : b ≠ d := ne_of_none hb1 nd1
    have n2 : b ≠ a := ne_of_none hb1 na
    rw [upd_ne n1, del_ne n2, upd_ne n2, upd_ne n1, upd_ne n2]
    exact hb1
/-- a static method that may raise -/
structure FnSt (P : Program) (w : World) (K : PySem.W.Frag) (mg : Str → Option Value) (base : Heap) (k : Nat) (C : Addr) (m : Str) (ps : List Str) (sp : Sp) : Prop where
  ex : ∃ p g, SmC K C m p g ∧ FnX P w K mg base k g ps sp
theorem op_mulS {X : Cx} : OpR X (binaryOp .Mult) (fun x y H Q => ∃ z n, x = .str z ∧ y = .int n ∧ MulOk z n ∧ Q (.str (Txt.mul z n)) H) := by
  intro pins s σ H x y u v Q I rx ry h
  obtain ⟨z, n, rfl, rfl, ok, q⟩ := h
  obtain ⟨t1, rfl⟩ := rx
  obtain ⟨t2, rfl⟩ := ry
  exact SB.mul ok fun t' k => ⟨.str (Txt.mul z n), H, I.tok k, ⟨t', rfl⟩, q⟩
section
variable {X : Cx} {W : WX} {k : Nat} {C : Addr} {ps : List Str} {sp : Sp} {m : Str} {pos apos : Pos} {e o : Expr} {es : List Expr} {ta : TE} {t : TA}
theorem pe_sta {pl : Sem Bool} (he : PE X o ta) (F : FnSt X.prog X.w X.K X.mg X.base k C m ps sp) (hr : Room k X.A) (tk : Takes X W) (ha : PA X (e :: es) t)
    (hst : starEach (e :: es) X.env = (false, eval e X.env) :: starEach es X.env := by rfl) (hpl : (backTo pos (starEach es X.env)).any (·.1) = false := by rfl)
    (ht : eval (.Call (.Attribute o m apos) (e :: es) [] pos) X.env = (do
      let ov ← eval o X.env
      standAt apos.atName
      let (f, first) ← holding [ov] (getMethod ov m pl)
      callWith pos f first (backTo pos (starEach (e :: es) X.env)) (backToKw pos (keywordEach [] X.env))) := by rfl) :
    PE X (.Call (.Attribute o m apos) (e :: es) [] pos) (tStaS C sp (WE W) ta t) := by
  obtain ⟨p, g, c, F⟩ := F.ex
  exact pe_staS he c F hr tk ha hst hpl ht
end
end Pn

namespace Pn
open PySem PySem.W PySem.Calls PyProof.Rows L2
theorem kin_classEd {prog : Program} {w : World} {A : Around} {E : Value → Shared → Prop} {s : Shared} {K : Frag} {x D : Addr} {ox od : Obj} {Q : Option Value → Shared → Prop}
    (C : ExcC K D) (X : K.In s.heap) (I : InstAt s.heap x ox D (some od)) (h : Q (some (.ref D)) ⟨s.heap, s.gens, s.drawn, s.toks + 1, s.os⟩) : wpAny (model prog w) A (getAttr? (.ref x) (Str.ofString "__class__")) Q E s := by
  have hcs : (clsIn K D).isSome = true := by
    obtain ⟨cd, hc, _⟩ := any_some C.hd
    rw [hc]; rfl
  have hf := findObj_data (od := od) hcs C.ha C.hn C.ht
  obtain ⟨hp, g, d, t, os⟩ := s
  have L0 := I.type (M := model prog w)
  have L1 := looks_findIn (M := model prog w) X C.hg
  have L2 := looks_findIn (M := model prog w) X C.hk
  have L3 := looks_find (M := model prog w) X I hf
  have sub : Looks (model prog w) hp (isInstance (.ref x) (.type "BaseException")) true := Looks.andThen L0 (looks_subIn X C.hs)
  unfold getAttr?
  refine wpAny_bind (wpAny_mkText ?_)
  unfold getAttrBy?
  refine wpAny_bind (wpAny_attempt (wpAny_holding ?_))
  refine wpAny_bind (L0.at ?_)
  refine wpAny_bind (L1.at ?_)
  dsimp only
  have hx2 : (Value.builtin "BaseException.__getattribute__" == Value.builtin "object.__getattribute__") = false := by decide +kernel
  have hx1 : (onTheHeap (Value.ref D) && (Value.builtin "BaseException.__getattribute__" == Value.builtin "object.__getattribute__")) = false := by rw [hx2, Bool.and_false]
  rw [hx1, if_neg (by decide)]
  unfold getAttrByItsOwn
  refine wpAny_bind ?_
  unfold hookBefore
  rw [if_pos (show onTheHeap (Value.ref D) = true from rfl)]
  refine L2.at ?_
  refine wpAny_bind (wpAny_attempt (wpAny_holding ?_))
  unfold callGetattribute
  rw [Bool.false_and, if_neg (by decide)]
  unfold boundAndCalled
  refine wpAny_bind (wpAny_of_eq (F.excAttr_ValueError.ga.bind (.ref x)) ?_) 
  dsimp only
  have k1 : builtinKind "BaseException.__getattribute__" = some Manifest.AttrKind.slot := by decide +kernel
  have k2 : splitId "BaseException.__getattribute__" = some ("BaseException", "__getattribute__") := by decide +kernel
  have k3 : slotArgs "__getattribute__" 1 ⟨[.ref x, .str (Str.ofString "__class__") t], []⟩ = pure (.ref x, [.str (Str.ofString "__class__") t]) := rfl
  show wpAny (model prog w) A (call (.builtin "BaseException.__getattribute__") [.ref x, .str (Str.ofString "__class__") t]) _ _ _
  refine wpAny_call ?_
  refine codeAny_call_builtin (b := Builtin.«object.__getattribute__») F.excAttr_ValueError.ga.plain F.entry_bexc_ga ?_
  refine check_slot (i := "BaseException.__getattribute__") (owner := "BaseException") (n := "__getattribute__") k1 k2 (by exact sub) (F.args_bexc_ga _ _) ?_
  show wpAny _ _ (Builtin.«object.__getattribute__» _) _ _ _
  unfold Builtin.«object.__getattribute__»
  refine wpAny_bind (wpAny_of_eq k3 ?_)
  refine wpAny_bind (wpAny_pure ?_)
  refine wpAny_bind (L0.at ?_)
  refine wpAny_bind (L3.at ?_)
  show wpAny _ _ (Builtin.ObjectAttr.bindTo _ _ _ _) _ _ _
  unfold Builtin.ObjectAttr.bindTo
  refine wpAny_bind (wpAny_holding (wpAny_call (class_get X I C.hm (wpAny_pure ?_))))
  show wpAny _ _ (handedOut _) _ _ _
  rw [handedOut_of rfl]
  exact wpAny_pure (wpAny_pure h)

theorem cls_at {K : Frag} {D : Addr} {cd : ClassData} {h : Heap} (X : K.In h) (hc : clsIn K D = some cd) : ∃ oD, h.get? D = some oD ∧ oD.data = .cls cd := by
  unfold clsIn at hc
  split at hc
  · rename_i c d cd' sl ho
    cases hc
    exact ⟨_, X _ _ ho, rfl⟩
  · cases hc
theorem kitx_ed {K : Frag} {x D : Addr} {ox od : Obj} (C : ExcC K D) : KitX K (.ref x) (.ref D) (fun h => InstAt h x ox D (some od)) := by
  obtain ⟨cd, hc, _⟩ := any_some C.hd
  refine ⟨fun M h X I => I.type, fun M h X I => ?_, fun h tp dd its n sl X htp => ?_, fun X I k => kin_classEd C X I k⟩
  · obtain ⟨oD, h1, h2⟩ := cls_at X hc
    exact fun A Q E s k q => ks_wpAny_isType_cls (k _ _ h1) h2 q
  · obtain ⟨oD, h1, h2⟩ := cls_at X hc
    refine Bool.eq_false_iff.mpr fun q => ?_
    have e := Value.ref.inj (beq_iff_eq.mp q)
    subst e
    rw [htp] at h1
    cases h1
    exact nomatch h2
def rIsEd (K : Frag) (D a dd : Addr) : List V → Hp → VK → Prop := fun xs H Q => ∃ c cv b fs, xs = [.ref a, c] ∧ (∀ u, RelV c u → u = cv) ∧ kitOne K (.ref D) cv = some b ∧ H dd = some (.xd fs) ∧ Q (.bl b) H
theorem call_isEd {X : Cx} {a D dd : Addr} {oe : Obj} {pn : List (Addr × Obj)} (C : ExcC X.K D) (hz : Zc (.ref D) (some dd) oe) (hf : ∃ vs, oe.data = .fields vs) : CallR (X.suite a ((a, oe) :: pn)) (.builtin "isinstance") (rIsEd X.K D a dd) := by
  intro pins s σ H xs us Q I r h
  obtain ⟨c, cv, b, fs, rfl, hcv, e, hd, q⟩ := h
  cases r with
  | cons rx rr =>
  cases rr with
  | cons rt rr =>
  cases rr
  cases rx
  have ec := hcv _ rt
  subst ec
  obtain ⟨hget, _⟩ := I.pin (a, oe) (List.mem_append.mpr (Or.inl List.mem_cons_self))
  obtain ⟨vs, hv⟩ := hf
  obtain ⟨mA, hns, _⟩ := I.hok _ _ hd
  obtain ⟨oD, hoD⟩ : ∃ oD, s.heap.get? dd = some oD := by
    obtain ⟨o, es, ep, h1, _⟩ := hns
    exact ⟨o, h1⟩
  have J : InstAt s.heap a oe D (some oD) := by
    obtain ⟨oc, od, oda, osl⟩ := oe
    obtain ⟨h1, h2⟩ := hz
    dsimp only at h1 h2 hv
    subst h1 h2 hv
    exact ⟨hget, rfl, rfl, hoD⟩
  exact kia_one (kitx_ed C) I.kIn J e (fun z => nomatch z) fun tk => ⟨.bl b, H, I.kept fun _ _ z => z, rfl, q⟩

end Pn

namespace Pn
open PySem PySem.Spec PyProof.Rows L2 Evl CwR
open PySem.NumText (digitsVal AllDigits)
/-! ### written forms, as lists of signs -/
def intL (i : Int) : List Nat := if i < 0 then 45 :: TL.numL i.natAbs else TL.numL i.natAbs
theorem str_int (i : Int) : Str.ofString (toString i) = S (intL i) := by
  apply TL.ext_tl
  show TL.tl _ = (intL i).toArray.toList
  rw [List.toList_toArray]
  cases i with
  | ofNat n =>
    have h : ¬ Int.ofNat n < 0 := by simp
    unfold intL
    rw [if_neg h]
    exact TL.tl_num n
  | negSucc n =>
    unfold intL
    rw [if_pos (Int.negSucc_lt_zero n)]
    have e : toString (Int.negSucc n) = "-" ++ toString (n + 1) := rfl
    rw [e, TL.tl_ofString, String.toList_append, List.map_append]
    have h := TL.tl_num (n + 1)
    rw [TL.tl_ofString] at h
    have e2 : toString ((n + 1 : Nat) : Int) = toString (n + 1) := rfl
    rw [e2] at h
    rw [h]
    rfl
def CL (q : Rat) : List Nat := intL q.num ++ (if q.den = 1 then [] else 47 :: TL.numL q.den)
def digB (c : Nat) : Bool := decide (48 ≤ c) && decide (c ≤ 57)
def shortB (l : List Nat) : Bool := (decide (0 < l.length) && l.all digB) && decide (l.length ≤ 9)
def partL (l : List Nat) : List Nat × Bool × List Nat := match TL.par [47] [] l with
  | some (a, b) => (a, true, b)
  | none => (l, false, [])
def remL (l : List Nat) : List Nat := if l.take 1 = [45] then l.drop 1 else l
def ivalL (l : List Nat) : Int := if l.take 1 = [45] then -(digitsVal (l.drop 1) : Int) else digitsVal l
def tailL (s : Bool) (t : List Nat) : List Nat := if s then t else [49]
def pread (l : List Nat) : Option Rat :=
  if shortB (remL (partL l).1) = true then
    if (shortB (tailL (partL l).2.1 (partL l).2.2) = true ∧ digitsVal (tailL (partL l).2.1 (partL l).2.2) ≠ 0) then
      if CL (Rat.divInt (ivalL (partL l).1) (digitsVal (tailL (partL l).2.1 (partL l).2.2))) = l then some (Rat.divInt (ivalL (partL l).1) (digitsVal (tailL (partL l).2.1 (partL l).2.2))) else none
    else none
  else none
def digL (l : List Nat) : Option Nat :=
  if (!(decide (1 ≤ l.length) && decide (l.length ≤ 9)) || (decide (l.headD 0 = 48) && decide (1 < l.length))) = true then none else if l.all digB = true then some (digitsVal l) else none
def lread2 (neg : Bool) (ps : List (List Nat)) (t : Nat) : Option (Int × Int) :=
  if (decide (1 < ps.length) || (neg && decide (t = 0))) = true then none else match ps with
  | [] => some ((if neg then -1 else 1) * (t : Int), 1)
  | p1 :: _ => match digL p1 with
    | none => none
    | some b => if (decide (b < 2) || decide (Nat.gcd t b ≠ 1)) = true then none else some ((if neg then -1 else 1) * (t : Int), (b : Int))
def lread (l : List Nat) : Option (Int × Int) :=
  match TL.spl [47] 0 [] (remL l) with
  | [] => none
  | p0 :: ps => match digL p0 with
    | none => none
    | some t => lread2 (decide (l.take 1 = [45])) ps t
/-! ### digits -/
theorem dv_snoc (l : List Nat) (c : Nat) : digitsVal (l ++ [c]) = digitsVal l * 10 + (c - 48) := by
  unfold digitsVal
  rw [List.foldl_append]
  rfl
theorem allDig {l : List Nat} (h : l.all digB = true) : AllDigits l := fun c hc => by
  have := List.all_eq_true.mp h c hc
  unfold digB at this
  simpa using this
theorem dig_all {l : List Nat} (h : AllDigits l) : l.all digB = true := List.all_eq_true.mpr fun c hc => by
  obtain ⟨a, b⟩ := h c hc
  unfold digB
  rw [decide_eq_true a, decide_eq_true b]
  rfl
theorem revInd {P : List Nat → Prop} (h0 : P []) (h1 : ∀ l c, P l → P (l ++ [c])) (l : List Nat) : P l := by
  rw [← List.reverse_reverse l]
  induction l.reverse with
  | nil => exact h0
  | cons c l ih =>
    rw [List.reverse_cons]
    exact h1 _ _ ih
theorem dv_lt {l : List Nat} : AllDigits l → digitsVal l < 10 ^ l.length := by
  refine revInd (P := fun l => AllDigits l → digitsVal l < 10 ^ l.length) (fun _ => by decide) (fun l c ih h => ?_) l
  have h1 := ih fun d hd => h d (List.mem_append_left _ hd)
  have h2 := h c (List.mem_append_right _ (List.mem_singleton.mpr rfl))
  rw [dv_snoc, List.length_append, List.length_singleton, Nat.pow_succ]
  omega
theorem dv_lt9 {l : List Nat} (h : AllDigits l) (hl : l.length ≤ 9) : digitsVal l < 10 ^ 9 := Nat.lt_of_lt_of_le (dv_lt h) (Nat.pow_le_pow_right (by decide) hl)
theorem numL_hd (n : Nat) (h : 1 ≤ n) : (TL.numL n).headD 0 ≠ 48 := by
  induction n using Nat.strongRecOn with
  | ind n ih =>
    by_cases hn : n < 10
    · rw [TL.numL_lt hn]
      show 48 + n ≠ 48
      omega
    · rw [TL.numL_step (by omega)]
      have z := ih (n / 10) (by omega) (by omega)
      have y := TL.numL_ne (n / 10)
      cases e : TL.numL (n / 10) with
      | nil => exact absurd e y
      | cons a l =>
        rw [e] at z
        exact z
theorem numL_dv {l : List Nat} : AllDigits l → l ≠ [] → (l.headD 0 ≠ 48 ∨ l.length = 1) → TL.numL (digitsVal l) = l := by
  refine revInd (P := fun l => AllDigits l → l ≠ [] → (l.headD 0 ≠ 48 ∨ l.length = 1) → TL.numL (digitsVal l) = l) (fun _ h => absurd rfl h) (fun l c ih h _ h2 => ?_) l
  have hc := h c (List.mem_append_right _ (List.mem_singleton.mpr rfl))
  rw [dv_snoc]
  cases l with
  | nil =>
    have e : digitsVal [] * 10 + (c - 48) = c - 48 := by show 0 * 10 + _ = _; omega
    rw [e, TL.numL_lt (by omega)]
    show [48 + (c - 48)] = [c]
    congr 1
    omega
  | cons a l =>
    have h3 : (a :: l).headD 0 ≠ 48 := by
      rcases h2 with h2 | h2
      · exact h2
      · simp at h2
    have e := ih (fun d hd => h d (List.mem_append_left _ hd)) (List.cons_ne_nil _ _) (Or.inl h3)
    have pos : 1 ≤ digitsVal (a :: l) := by
      by_cases z : digitsVal (a :: l) = 0
      · rw [z] at e
        have e0 : TL.numL 0 = [48] := TL.numL_lt (by decide)
        rw [e0] at e
        rw [← e] at h3
        exact absurd rfl h3
      · omega
    rw [TL.numL_step (by omega)]
    have e1 : (digitsVal (a :: l) * 10 + (c - 48)) / 10 = digitsVal (a :: l) := by omega
    have e2 : 48 + (digitsVal (a :: l) * 10 + (c - 48)) % 10 = c := by omega
    rw [e1, e2, e]
theorem numL_le9 {n : Nat} (h : n < 10 ^ 9) : (TL.numL n).length ≤ 9 := TL.numL_len (by decide) h
theorem numL_pos (n : Nat) : 0 < (TL.numL n).length := List.length_pos_iff.mpr (TL.numL_ne n)
theorem short_numL {n : Nat} (h : n < 10 ^ 9) : shortB (TL.numL n) = true := by
  unfold shortB
  rw [decide_eq_true (numL_pos n), dig_all (TL.numL_digits n), decide_eq_true (numL_le9 h)]
  rfl
theorem dig_numL {n : Nat} (h : n < 10 ^ 9) : digL (TL.numL n) = some n := by
  unfold digL
  have c : ((!(decide (1 ≤ (TL.numL n).length) && decide ((TL.numL n).length ≤ 9)) || (decide ((TL.numL n).headD 0 = 48) && decide (1 < (TL.numL n).length)))) = false := by
    rw [decide_eq_true (show 1 ≤ (TL.numL n).length from numL_pos n), decide_eq_true (numL_le9 h)]
    by_cases hn : n < 10
    · rw [TL.numL_lt hn]
      simp
    · rw [decide_eq_false (numL_hd n (by omega))]
      rfl
  rw [c, if_neg (by decide), dig_all (TL.numL_digits n), if_pos rfl]
  congr 1
  exact TL.numL_val n
theorem dig_some {l : List Nat} {n : Nat} (h : digL l = some n) : l = TL.numL n ∧ n < 10 ^ 9 := by
  unfold digL at h
  split at h
  · cases h
  · rename_i c
    split at h
    · rename_i d
      have e := Option.some.inj h
      subst e
      simp only [Bool.or_eq_true, Bool.not_eq_true', Bool.and_eq_false_iff, Bool.and_eq_true, decide_eq_true_eq, decide_eq_false_iff_not, not_or, not_and] at c
      obtain ⟨c1, c2⟩ := c
      have hl : 1 ≤ l.length ∧ l.length ≤ 9 := by omega
      have ha := allDig d
      refine ⟨(numL_dv ha (by intro z; rw [z] at hl; simp at hl) ?_).symm, dv_lt9 ha hl.2⟩
      by_cases z : l.headD 0 = 48
      · exact Or.inr (by have := c2 z; omega)
      · exact Or.inl z
    · cases h
/-! ### the two readers -/
theorem numL_no {n c : Nat} (h : c < 48 ∨ 57 < c) : c ∉ TL.numL n := TL.numL_free h
theorem numL_take (n : Nat) (m : List Nat) : (TL.numL n ++ m).take 1 ≠ [45] := by
  cases e : TL.numL n with
  | nil => exact absurd e (TL.numL_ne n)
  | cons a l =>
    intro h
    have z : a = 45 := (List.cons.inj h).1
    exact numL_no (n := n) (c := 45) (by omega) (by rw [e, z]; exact List.mem_cons_self)
theorem rem_int (i : Int) (m : List Nat) : remL (intL i ++ m) = TL.numL i.natAbs ++ m ∧ ((intL i ++ m).take 1 = [45] ↔ i < 0) := by
  unfold intL remL
  by_cases h : i < 0
  · rw [if_pos h]
    exact ⟨by simp, by simp [h]⟩
  · rw [if_neg h, if_neg (numL_take _ _)]
    exact ⟨rfl, fun z => absurd z (numL_take _ _), fun z => absurd z h⟩
theorem ival_int (i : Int) : ivalL (intL i) = i := by
  have z := rem_int i []
  rw [List.append_nil] at z
  unfold ivalL
  by_cases h : i < 0
  · rw [if_pos (z.2.mpr h)]
    unfold intL
    rw [if_pos h]
    show -((digitsVal (TL.numL i.natAbs) : Nat) : Int) = i
    rw [TL.numL_val]
    omega
  · rw [if_neg fun y => h (z.2.mp y)]
    unfold intL
    rw [if_neg h, TL.numL_val]
    omega
theorem int_no (i : Int) : 47 ∉ intL i := by
  unfold intL
  split
  · intro h
    rcases List.mem_cons.mp h with h | h
    · cases h
    · exact numL_no (by omega) h
  · exact numL_no (by omega)
def Bd (q : Rat) : Prop := q.num.natAbs < 10 ^ 9 ∧ q.den < 10 ^ 9
theorem lread_CL {q : Rat} (h : Bd q) : lread (CL q) = some (q.num, (q.den : Int)) := by
  obtain ⟨h1, h2⟩ := h
  obtain ⟨r1, r2⟩ := rem_int q.num (if q.den = 1 then [] else 47 :: TL.numL q.den)
  unfold lread
  have e : remL (CL q) = TL.numL q.num.natAbs ++ (if q.den = 1 then [] else 47 :: TL.numL q.den) := r1
  have e2 : decide ((CL q).take 1 = [45]) = decide (q.num < 0) := decide_eq_decide.mpr r2
  rw [e, e2]
  have sg : (if decide (q.num < 0) = true then (-1 : Int) else 1) * (q.num.natAbs : Int) = q.num := by
    by_cases z : q.num < 0
    · rw [if_pos (decide_eq_true z)]; omega
    · rw [if_neg (by rw [decide_eq_false z]; decide)]; omega
  have ng : (decide (q.num < 0) && decide (q.num.natAbs = 0)) = false := by
    by_cases z : q.num < 0
    · rw [decide_eq_false (show ¬ q.num.natAbs = 0 by omega), Bool.and_false]
    · rw [decide_eq_false z, Bool.false_and]
  by_cases hd : q.den = 1
  · rw [if_pos hd, List.append_nil, TL.spl_last1 (numL_no (by omega)), List.nil_append]
    dsimp only
    rw [dig_numL h1]
    dsimp only
    unfold lread2
    rw [ng]
    dsimp only
    rw [if_neg (by decide), sg, hd]
    rfl
  · rw [if_neg hd]
    have z := TL.spl_part1 (s := 47) (S := []) (p := TL.numL q.num.natAbs) (rest := TL.numL q.den) (acc := []) (numL_no (by omega))
    have z2 : TL.numL q.num.natAbs ++ 47 :: TL.numL q.den = TL.numL q.num.natAbs ++ ([47] ++ TL.numL q.den) := rfl
    rw [z2, z, TL.spl_last1 (numL_no (by omega)), List.nil_append, List.nil_append]
    dsimp only
    rw [dig_numL h1]
    dsimp only
    unfold lread2
    rw [ng]
    dsimp only
    rw [if_neg (show ¬ ((decide (1 < [TL.numL q.den].length) || false) = true) from fun z => nomatch z), dig_numL h2]
    dsimp only
    have pd := q.den_pos
    have cp : Nat.gcd q.num.natAbs q.den = 1 := q.reduced
    rw [decide_eq_false (show ¬ q.den < 2 by omega), decide_eq_false (show ¬ Nat.gcd q.num.natAbs q.den ≠ 1 by rw [cp]; decide), if_neg (by decide), sg]
theorem pread_CL {q : Rat} (h : Bd q) : pread (CL q) = some q := by
  obtain ⟨h1, h2⟩ := h
  have rr := rem_int q.num []
  rw [List.append_nil, List.append_nil] at rr
  have sn : shortB (remL (intL q.num)) = true := by rw [rr.1]; exact short_numL h1
  by_cases hd : q.den = 1
  · have e : partL (CL q) = (intL q.num, false, []) := by
      unfold CL
      rw [if_pos hd, List.append_nil]
      unfold partL
      rw [TL.par_none1 (int_no q.num)]
    unfold pread
    rw [e]
    dsimp only
    have q1 : Rat.divInt (ivalL (intL q.num)) (digitsVal (tailL false [])) = q := by
      rw [ival_int]
      show Rat.divInt q.num ((1 : Nat) : Int) = q
      rw [← hd]
      exact Rat.num_divInt_den q
    rw [if_pos sn, if_pos ⟨by decide +kernel, by decide +kernel⟩, q1, if_pos rfl]
  · have e : partL (CL q) = (intL q.num, true, TL.numL q.den) := by
      unfold CL
      rw [if_neg hd]
      unfold partL
      have z2 : intL q.num ++ 47 :: TL.numL q.den = intL q.num ++ ([47] ++ TL.numL q.den) := rfl
      rw [z2, TL.par_part1 (int_no q.num), List.nil_append]
    unfold pread
    rw [e]
    dsimp only
    have q1 : Rat.divInt (ivalL (intL q.num)) (digitsVal (tailL true (TL.numL q.den))) = q := by
      rw [ival_int]
      show Rat.divInt q.num ((digitsVal (TL.numL q.den) : Nat) : Int) = q
      rw [TL.numL_val]
      exact Rat.num_divInt_den q
    have pd := q.den_pos
    rw [if_pos sn, if_pos ⟨short_numL h2, by show digitsVal (TL.numL q.den) ≠ 0; rw [TL.numL_val]; omega⟩, q1, if_pos rfl]
theorem short_dig {l : List Nat} (h : shortB l = true) : AllDigits l ∧ l.length ≤ 9 ∧ l ≠ [] := by
  unfold shortB at h
  simp only [Bool.and_eq_true, decide_eq_true_eq] at h
  exact ⟨allDig h.1.2, h.2, List.length_pos_iff.mp h.1.1⟩
theorem pread_some {l : List Nat} {q : Rat} (h : pread l = some q) : CL q = l ∧ Bd q := by
  unfold pread at h
  split at h
  · rename_i c1
    split at h
    · rename_i c2
      split at h
      · rename_i c3
        have e := Option.some.inj h
        rw [e] at c3
        refine ⟨c3, ?_⟩
        obtain ⟨a1, a2, a3⟩ := short_dig c1
        obtain ⟨b1, b2, b3⟩ := short_dig c2.1
        rw [← e]
        have hb : ((digitsVal (tailL (partL l).2.1 (partL l).2.2) : Nat) : Int) ≠ 0 := by have := c2.2; omega
        refine ⟨Nat.lt_of_le_of_lt (num_le _ _) ?_, Nat.lt_of_le_of_lt (den_le _ _ hb) (by rw [Int.natAbs_natCast]; exact dv_lt9 b1 b2)⟩
        generalize (partL l).1 = w at a1 a2 ⊢
        unfold ivalL
        unfold remL at a1 a2
        split
        · rename_i c
          rw [if_pos c] at a1 a2
          rw [Int.natAbs_neg, Int.natAbs_natCast]
          exact dv_lt9 a1 a2
        · rename_i c
          rw [if_neg c] at a1 a2
          rw [Int.natAbs_natCast]
          exact dv_lt9 a1 a2
      · cases h
    · cases h
  · cases h
theorem rem_back (l : List Nat) : l = if decide (l.take 1 = [45]) = true then 45 :: remL l else remL l := by
  by_cases h : l.take 1 = [45]
  · rw [if_pos (decide_eq_true h)]
    unfold remL
    rw [if_pos h]
    cases l with
    | nil => cases h
    | cons a l =>
      have : a = 45 := (List.cons.inj h).1
      rw [this]
      rfl
  · rw [if_neg (by rw [decide_eq_false h]; decide)]
    unfold remL
    rw [if_neg h]
theorem spl_cons (l : List Nat) : ∃ a r, TL.spl [47] 0 [] l = a :: r := by
  by_cases h : 47 ∈ l
  · obtain ⟨p, r, rfl, hp⟩ := List.eq_append_cons_of_mem h
    have z := TL.spl_part1 (s := 47) (S := []) (p := p) (rest := r) (acc := []) hp
    exact ⟨_, _, z⟩
  · exact ⟨_, _, TL.spl_last1 h⟩
theorem spl_two {l p0 : List Nat} {ps : List (List Nat)} (h : TL.spl [47] 0 [] l = p0 :: ps) (hl : ¬ 1 < ps.length) : (ps = [] ∧ l = p0) ∨ ∃ p1, ps = [p1] ∧ l = p0 ++ 47 :: p1 := by
  by_cases hm : 47 ∈ l
  · obtain ⟨p, r, rfl, hp⟩ := List.eq_append_cons_of_mem hm
    have z : TL.spl [47] 0 [] (p ++ 47 :: r) = p :: TL.spl [47] 0 [] r := TL.spl_part1 (s := 47) (S := []) (p := p) (rest := r) (acc := []) hp
    rw [z] at h
    obtain ⟨rfl, e2⟩ := List.cons.inj h
    right
    by_cases hr : 47 ∈ r
    · obtain ⟨p', r', rfl, hp'⟩ := List.eq_append_cons_of_mem hr
      have z2 : TL.spl [47] 0 [] (p' ++ 47 :: r') = p' :: TL.spl [47] 0 [] r' := TL.spl_part1 (s := 47) (S := []) (p := p') (rest := r') (acc := []) hp'
      obtain ⟨x, y, z3⟩ := spl_cons r'
      rw [z2, z3] at e2
      rw [← e2] at hl
      simp at hl
    · have z2 : TL.spl [47] 0 [] r = [r] := TL.spl_last1 hr
      rw [z2] at e2
      exact ⟨r, e2.symm, rfl⟩
  · have z : TL.spl [47] 0 [] l = [l] := TL.spl_last1 hm
    rw [z] at h
    obtain ⟨rfl, e2⟩ := List.cons.inj h
    exact Or.inl ⟨e2.symm, rfl⟩
theorem intL_sg {neg : Bool} {t : Nat} (h : (neg && decide (t = 0)) = false) : intL ((if neg then -1 else 1) * (t : Int)) = if neg = true then 45 :: TL.numL t else TL.numL t := by
  cases neg with
  | true =>
    have ht : t ≠ 0 := by simpa using h
    have e : (-1 : Int) * (t : Int) = -(t : Int) := by omega
    have e2 : (-(t : Int)).natAbs = t := by omega
    have e3 : (-(t : Int)) < 0 := by omega
    show intL ((-1 : Int) * (t : Int)) = 45 :: TL.numL t
    unfold intL
    rw [e, if_pos e3, e2]
  | false =>
    have e : (1 : Int) * (t : Int) = (t : Int) := by omega
    have e3 : ¬ ((t : Int)) < 0 := by omega
    show intL ((1 : Int) * (t : Int)) = TL.numL t
    unfold intL
    rw [e, if_neg e3, Int.natAbs_natCast]
theorem abs_sg (neg : Bool) (t : Nat) : ((if neg then -1 else 1) * (t : Int)).natAbs = t := by
  cases neg
  · rw [if_neg (by decide)]; omega
  · rw [if_pos rfl]; omega
theorem lread_some {l : List Nat} {n d : Int} (h : lread l = some (n, d)) : ∃ q : Rat, q.num = n ∧ (q.den : Int) = d ∧ CL q = l ∧ Bd q := by
  unfold lread at h
  have hb := rem_back l
  generalize decide (l.take 1 = [45]) = neg at h hb
  generalize remL l = body at h hb
  split at h
  · cases h
  · rename_i p0 ps hs
    split at h
    · cases h
    · rename_i t ht
      obtain ⟨e0, b0⟩ := dig_some ht
      unfold lread2 at h
      split at h
      · cases h
      · rename_i c
        rw [Bool.or_eq_true, not_or] at c
        obtain ⟨c1, c2⟩ := c
        have c1 : ¬ 1 < ps.length := fun z => c1 (decide_eq_true z)
        have c2 : (neg && decide (t = 0)) = false := by simpa using c2
        rcases spl_two hs c1 with ⟨rfl, rfl⟩ | ⟨p1, rfl, rfl⟩
        · dsimp only at h
          obtain ⟨rfl, rfl⟩ := Prod.mk.inj (Option.some.inj h)
          refine ⟨(((if neg then -1 else 1) * (t : Int) : Int) : Rat), rfl, rfl, ?_, ?_⟩
          · unfold CL
            rw [if_pos (show (Rat.den (((if neg then -1 else 1) * (t : Int) : Int) : Rat)) = 1 from rfl), List.append_nil]
            show intL ((if neg then -1 else 1) * (t : Int)) = l
            rw [intL_sg c2, hb, e0]
          · refine ⟨?_, by show (1 : Nat) < _; decide⟩
            show (((if neg then -1 else 1) * (t : Int)) : Int).natAbs < _
            rw [abs_sg]
            exact b0
        · dsimp only at h
          split at h
          · cases h
          · rename_i b hbb
            obtain ⟨e1, b1⟩ := dig_some hbb
            split at h
            · cases h
            · rename_i c3
              rw [Bool.or_eq_true, not_or] at c3
              obtain ⟨c3, c4⟩ := c3
              have c3 : ¬ b < 2 := fun z => c3 (decide_eq_true z)
              have c4 : Nat.gcd t b = 1 := Decidable.byContradiction fun z => c4 (decide_eq_true z)
              obtain ⟨rfl, rfl⟩ := Prod.mk.inj (Option.some.inj h)
              refine ⟨⟨(if neg then -1 else 1) * (t : Int), b, by omega, by rw [abs_sg]; exact c4⟩, rfl, rfl, ?_, ?_, b1⟩
              · unfold CL
                rw [if_neg (show ¬ b = 1 by omega)]
                show intL ((if neg then -1 else 1) * (t : Int)) ++ 47 :: TL.numL b = l
                rw [intL_sg c2, hb, e0, e1]
                cases neg <;> rfl
              · show (((if neg then -1 else 1) * (t : Int)) : Int).natAbs < _
                rw [abs_sg]
                exact b0
/-- the law's reader is the program's -/
theorem lread_pread (l : List Nat) : lread l = (pread l).map fun q => (q.num, (q.den : Int)) := by
  cases hp : pread l with
  | some q =>
    obtain ⟨e, b⟩ := pread_some hp
    rw [← e]
    exact lread_CL b
  | none =>
    cases hl : lread l with
    | none => rfl
    | some nd =>
      obtain ⟨n, d⟩ := nd
      obtain ⟨q, _, _, e, b⟩ := lread_some hl
      rw [← e, pread_CL b] at hp
      cases hp
end Pn
namespace Pn
open PySem PySem.Spec PyProof.Rows L2 Evl CwR
open PySem.NumText (digitsVal AllDigits)
/-! ### the program's reader -/
theorem s_app (l m : List Nat) : S l ++ S m = S (l ++ m) := by
  show Str.mk _ = Str.mk _
  congr 1
  simp
theorem s_slash : ("/" : Str) = S [47] := by decide +kernel
theorem s_minus : ("-" : Str) = S [45] := by decide +kernel
theorem s_nil : Str.empty = S [] := by decide +kernel
theorem s_lenL (l : List Nat) : (S l).length = l.length := rfl
theorem s_inj {l m : List Nat} : S l = S m ↔ l = m := ⟨fun h => by
  have := congrArg TL.tl h
  simpa using this, fun h => by rw [h]⟩
def spShort : Sp := fun vs H Q _ => ∃ l, vs = [.str (S l)] ∧ (∀ c ∈ l, c < 128) ∧ l.length ≤ 100 ∧ ∀ H', Ex H H' → Q (.bl (shortB l)) H'
theorem uni_dig : ∀ c, c < 128 → Unicode.isDigit c = digB c := by decide +kernel
theorem isdigit_S {l : List Nat} (h : ∀ c ∈ l, c < 128) : Txt.isdigit (S l) = (decide (0 < l.length) && l.all digB) := by
  unfold Txt.isdigit
  have e : (S l).cps.all Unicode.isDigit = l.all digB := by
    show l.toArray.all Unicode.isDigit = _
    rw [List.all_toArray]
    rw [Bool.eq_iff_iff, List.all_eq_true, List.all_eq_true]
    exact ⟨fun z c hc => by rw [← uni_dig c (h c hc)]; exact z c hc, fun z c hc => by rw [uni_dig c (h c hc)]; exact z c hc⟩
  rw [e]
  rfl
theorem short_eq (l : List Nat) : (true && ((decide (0 < l.length) && l.all digB) && decide ((l.length : Int) ≤ 9))) = shortB l := by
  unfold shortB
  have e : decide ((l.length : Int) ≤ 9) = decide (l.length ≤ 9) := decide_eq_decide.mpr (by omega)
  rw [Bool.true_and, e]
def Bd40 (q : Rat) : Prop := q.num.natAbs < 10 ^ 40 ∧ q.den < 10 ^ 40
theorem Bd.big {q : Rat} (h : Bd q) : Bd40 q := ⟨Nat.lt_of_lt_of_le h.1 (by decide), Nat.lt_of_lt_of_le h.2 (by decide)⟩
theorem intL_len {i : Int} {k : Nat} (hk : 0 < k) (h : i.natAbs < 10 ^ k) : (intL i).length ≤ k + 1 := by
  have := TL.numL_len hk h
  unfold intL
  split
  · rw [List.length_cons]; omega
  · omega
theorem CL_len {q : Rat} (h : Bd40 q) : (CL q).length ≤ 82 := by
  have a := intL_len (by decide) h.1
  have b := TL.numL_len (by decide) h.2
  unfold CL
  rw [List.length_append]
  split
  · rw [List.length_nil]; omega
  · rw [List.length_cons]; omega
theorem numL_asc (n : Nat) : ∀ c ∈ TL.numL n, c < 128 := fun c hc => by
  have := TL.numL_digits n c hc
  omega
theorem intL_asc (i : Int) : ∀ c ∈ intL i, c < 128 := fun c hc => by
  unfold intL at hc
  split at hc
  · rcases List.mem_cons.mp hc with h | h
    · omega
    · exact numL_asc _ c h
  · exact numL_asc _ c hc
theorem CL_asc (q : Rat) : ∀ c ∈ CL q, c < 128 := fun c hc => by
  unfold CL at hc
  rcases List.mem_append.mp hc with h | h
  · exact intL_asc _ c h
  · split at h
    · cases h
    · rcases List.mem_cons.mp h with h | h
      · omega
      · exact numL_asc _ c h
theorem log_ok {n : Nat} (h : n < 10 ^ 40) : n.log2 < 1920 := by
  by_cases z : n = 0
  · rw [z]; decide
  · exact (Nat.log2_lt z).mpr (Nat.lt_of_lt_of_le h (by decide +kernel))
def spStr (C : Addr) : Sp := fun vs H Q _ => ∃ (x : V) (q : Rat), vs = [x] ∧ RatAt C H x q ∧ Bd40 q ∧ ∀ H', Ex H H' → Q (.str (S (CL q))) H'
theorem CL_one {q : Rat} (h : q.den = 1) : CL q = intL q.num := by
  unfold CL
  rw [if_pos h, List.append_nil]
theorem intL_nat (n : Nat) : intL (n : Int) = TL.numL n := by
  unfold intL
  rw [if_neg (by omega), Int.natAbs_natCast]
theorem CL_join {q : Rat} (h : ¬ q.den = 1) : Str.empty ++ Str.ofString (toString q.num) ++ ("/" : Str) ++ Str.ofString (toString ((q.den : Nat) : Int)) = S (CL q) := by
  rw [str_int, str_int, s_slash, s_nil, s_app, s_app, s_app, intL_nat]
  unfold CL
  rw [if_neg h, List.nil_append, List.append_assoc]
  rfl
theorem fm1 {i : Int} (h : i.natAbs < 10 ^ 40) : (Str.empty ++ Str.ofString (toString i)).length ≤ sizeLine := by
  rw [str_int, s_nil, s_app, List.nil_append]
  have := intL_len (by decide) h
  exact sz_of (show (intL i).length ≤ 100000 by omega)
theorem fm2 {i : Int} (h : i.natAbs < 10 ^ 40) : (Str.empty ++ Str.ofString (toString i) ++ ("/" : Str)).length ≤ sizeLine := by
  rw [str_int, s_slash, s_nil, s_app, s_app, List.nil_append]
  have := intL_len (by decide) h
  exact sz_of (show (intL i ++ [47]).length ≤ 100000 by rw [List.length_append]; show _ + 1 ≤ _; omega)
theorem fm3 {q : Rat} (h : Bd40 q) (hd : ¬ q.den = 1) : (Str.empty ++ Str.ofString (toString q.num) ++ ("/" : Str) ++ Str.ofString (toString ((q.den : Nat) : Int))).length ≤ sizeLine := by
  rw [CL_join hd]
  have := CL_len h
  exact sz_of (by rw [s_lenL]; omega)
theorem part_S (l : List Nat) : Txt.partition (S l) ("/" : Str) = (S (partL l).1, (if (partL l).2.1 then ("/" : Str) else Str.empty), S (partL l).2.2) := by
  have e : TL.tl ("/" : Str) = [47] := by decide +kernel
  rw [TL.partition_par _ _ (by rw [e]; decide), e, TL.tl_mk]
  unfold partL
  cases TL.par [47] [] l with
  | none => dsimp only; rw [s_nil]; rfl
  | some ab => obtain ⟨a, b⟩ := ab; rfl
theorem remp_S (l : List Nat) : Txt.removeprefix (S l) ("-" : Str) = S (remL l) := by
  apply TL.ext_tl
  rw [StrLaws.removeprefix_eq]
  have e : TL.tl ("-" : Str) = [45] := by decide +kernel
  have hat : (decide (0 + ("-" : Str).length ≤ (S l).length) && Builtin.Str.subAt (S l) ("-" : Str) 0) = true ↔ TL.pre [45] l = true := by
    have z := TL.at_iff (x := S l) (y := ("-" : Str)) (by rw [e]; decide) 0
    rw [e] at z
    rw [Bool.and_eq_true, decide_eq_true_iff]
    exact z
  have hl : ("-" : Str).length = 1 := by decide +kernel
  have hp : TL.pre [45] l = true ↔ l.take 1 = [45] := beq_iff_eq
  unfold remL
  by_cases h : l.take 1 = [45]
  · rw [if_pos h, if_pos (hat.mpr (hp.mpr h)), hl]
    show TL.tl ⟨(List.take (l.length - 1) (l.drop 1)).toArray⟩ = TL.tl (S (l.drop 1))
    rw [List.take_of_length_le (by rw [List.length_drop]; omega)]
  · rw [if_neg h, if_neg (fun z => h (hp.mp (hat.mp z)))]
section
variable {C : Addr} {K : PySem.W.Frag} {te ta tb : TE} {σ : L2.St} {H : Hp} {E : XK} {l m : List Nat} {q : Rat}
theorem ev_short (h : Ev te σ H (.str (S l))) (hc : ∀ c ∈ l, c < 128) (hl : l.length ≤ 100) : Ev (tCall spShort [] E (tCons te tNil)) σ H (.bl (shortB l)) :=
  ev_of (evp_call1 (evp_of h) fun v H1 _ ev Q2 E2 k2 => by subst ev; exact ⟨l, rfl, hc, hl, fun H4 e4 => k2 _ _ e4 rfl⟩)
theorem ev_remp (h : Ev te σ H (.str (S l))) (hl : l.length ≤ 100) : Ev (tM1 (fun x xs H Q => ∃ a b, x = .str a ∧ xs = [.str b] ∧ a.length ≤ sizeLine ∧ Q (.str (Txt.removeprefix a b)) H) te (tC (.str ("-" : Str)))) σ H (.str (S (remL l))) := fun H1 e1 Q k =>
  h H1 e1 _ fun H2 e2 => ⟨⟨_, rfl⟩, S l, ("-" : Str), rfl, rfl, sz_of (by show l.length ≤ _; omega), by rw [remp_S]; exact k H2 e2⟩
theorem int_dig (h : AllDigits l) (h0 : l ≠ []) (hl : l.length ≤ 9) : intText? (S l) = some (digitsVal l : Int) := by
  have z := intText_digits (x := S l) (by show AllDigits l.toArray.toList; rw [List.toList_toArray]; exact h) (by show l.toArray.toList ≠ []; rw [List.toList_toArray]; exact h0) (by show l.length ≤ _; omega)
  exact z
theorem ev_intS (h : Ev te σ H (.str (S l))) (hs : shortB l = true) : Ev (tCB (fun xs H Q => ∃ a n, xs = [.str a] ∧ intText? a = some n ∧ a.length ≤ 640 ∧ Q (.int n) H) (tCons te tNil)) σ H (.int (digitsVal l : Int)) := fun H1 e1 Q k => by
  obtain ⟨a, b, c⟩ := short_dig hs
  exact h H1 e1 _ fun H2 e2 => ⟨S l, _, rfl, int_dig a c b, by show l.length ≤ _; omega, k H2 e2⟩
theorem ev_intH (h : Ev te σ H (.str (S l))) (hs : shortB (remL l) = true) : Ev (tCB (fun xs H Q => ∃ a n, xs = [.str a] ∧ intText? a = some n ∧ a.length ≤ 640 ∧ Q (.int n) H) (tCons te tNil)) σ H (.int (ivalL l)) := fun H1 e1 Q k => by
  obtain ⟨a, b, c⟩ := short_dig hs
  unfold ivalL at k
  unfold remL at a b c
  by_cases z : l.take 1 = [45]
  · rw [if_pos z] at a b c
    rw [if_pos z] at k
    have el : l = 45 :: l.drop 1 := by
      cases l with
      | nil => cases z
      | cons x l =>
        have : x = 45 := (List.cons.inj z).1
        rw [this]
        rfl
    refine h H1 e1 _ fun H2 e2 => ⟨S l, _, rfl, intText_neg (cs := l.drop 1) (by show l.toArray.toList = _; rw [List.toList_toArray]; exact el) a c ?_, ?_, k H2 e2⟩
    all_goals
      show l.length ≤ _
      rw [el, List.length_cons]
      omega
  · rw [if_neg z] at a b c
    rw [if_neg z] at k
    exact h H1 e1 _ fun H2 e2 => ⟨S l, _, rfl, int_dig a c b, by show l.length ≤ _; omega, k H2 e2⟩
theorem ev_strQ (h : EvQ C te σ H q) (hb : Bd40 q) : Ev (tCB (rStrOwn C (spStr C)) (tCons te tNil)) σ H (.str (S (CL q))) := fun H1 e1 Q k =>
  h H1 e1 _ fun v H2 e2 r => by
    obtain ⟨a, dx, rfl, h1⟩ := id r
    exact ⟨_, rfl, a, dx, _, rfl, h1, _, q, rfl, r, hb, fun H3 e3 => ⟨⟨_, rfl⟩, k H3 (e2.trans e3)⟩⟩
theorem rem_le (l : List Nat) : (remL l).length ≤ l.length := by
  unfold remL
  split
  · rw [List.length_drop]; omega
  · omega
theorem rem_asc {l : List Nat} (h : ∀ c ∈ l, c < 128) : ∀ c ∈ remL l, c < 128 := fun c hc => by
  unfold remL at hc
  split at hc
  · exact h c (List.mem_of_mem_drop hc)
  · exact h c hc
theorem par_bits (l : List Nat) : ∀ acc, match TL.par [47] acc l with
    | some (a, b) => a.length + b.length ≤ acc.length + l.length ∧ (∀ c ∈ a, c ∈ acc ∨ c ∈ l) ∧ (∀ c ∈ b, c ∈ l)
    | none => True := by
  induction l with
  | nil => intro acc; exact True.intro
  | cons x l ih =>
    intro acc
    by_cases hx : x = 47
    · subst hx
      have e : TL.par [47] acc (47 :: l) = some (acc, l) := TL.par_hit (by rfl)
      rw [e]
      exact ⟨by rw [List.length_cons]; omega, fun c hc => Or.inl hc, fun c hc => List.mem_cons_of_mem _ hc⟩
    · have e : TL.par [47] acc (x :: l) = TL.par [47] (acc ++ [x]) l := TL.par_miss (TL.pre_of_head [] l hx)
      rw [e]
      have z := ih (acc ++ [x])
      cases hp : TL.par [47] (acc ++ [x]) l with
      | none => exact True.intro
      | some ab =>
        obtain ⟨a, b⟩ := ab
        rw [hp] at z
        obtain ⟨z1, z2, z3⟩ := z
        refine ⟨by rw [List.length_append, List.length_singleton] at z1; rw [List.length_cons]; omega, fun c hc => ?_, fun c hc => List.mem_cons_of_mem _ (z3 c hc)⟩
        rcases z2 c hc with y | y
        · rcases List.mem_append.mp y with y | y
          · exact Or.inl y
          · rw [List.mem_singleton.mp y]
            exact Or.inr List.mem_cons_self
        · exact Or.inr (List.mem_cons_of_mem _ y)
theorem part_ok {l : List Nat} (h : ∀ c ∈ l, c < 128) : (partL l).1.length ≤ l.length ∧ (partL l).2.2.length ≤ l.length ∧ (∀ c ∈ (partL l).1, c < 128) ∧ (∀ c ∈ (partL l).2.2, c < 128) := by
  have z := par_bits l []
  unfold partL
  cases hp : TL.par [47] [] l with
  | none => exact ⟨Nat.le_refl _, Nat.zero_le _, h, fun c hc => nomatch hc⟩
  | some ab =>
    obtain ⟨a, b⟩ := ab
    rw [hp] at z
    obtain ⟨z1, z2, z3⟩ := z
    rw [List.length_nil, Nat.zero_add] at z1
    refine ⟨by show a.length ≤ _; omega, by show b.length ≤ _; omega, fun c hc => ?_, fun c hc => h c (z3 c hc)⟩
    rcases z2 c hc with y | y
    · cases y
    · exact h c y
theorem tail_ok {s : Bool} {t : List Nat} (h : ∀ c ∈ t, c < 128) (hl : t.length ≤ 100) : (∀ c ∈ tailL s t, c < 128) ∧ (tailL s t).length ≤ 100 := by
  unfold tailL
  cases s
  · exact ⟨fun c hc => by rw [List.mem_singleton.mp hc]; decide, by show 1 ≤ 100; decide⟩
  · exact ⟨h, hl⟩
end
def spOf (C Z : Addr) : Sp := fun vs H Q E => ∃ l, vs = [.str (S l)] ∧ (∀ c ∈ l, c < 128) ∧ l.length ≤ 100 ∧ (∀ q, pread l = some q → ∀ v H', Ex H H' → RatAt C H' v q → Q v H') ∧ (pread l = none → ∀ d H', Ex H H' → H' d = some (.xd [(("text" : Str), .str (S l))]) → E (.ref Z) (some d) H')
end Pn
namespace Pn
open PySem PySem.Spec PyProof.Rows L2 Evl CwR
open PySem.NumText (digitsVal AllDigits)
def optN : Option Nat → V
  | none => .non
  | some n => .int (n : Int)
def spDig : Sp := fun vs H Q _ => ∃ l, vs = [.str (S l)] ∧ l.length ≤ 100 ∧ ∀ H', Ex H H' → Q (optN (digL l)) H'
def OptPr (H : Hp) (r : V) : Option (Int × Int) → Prop
  | none => r = .non
  | some (n, d) => PairAt H r n d
def spRead : Sp := fun vs H Q _ => ∃ l, vs = [.str (S l)] ∧ l.length ≤ 100 ∧ ∀ r H', Ex H H' → OptPr H' r (lread l) → Q r H'
theorem mem_dig (c : Nat) : decide (c ∈ (("0123456789" : Str)).cps.toList) = digB c := by
  have e : (("0123456789" : Str)).cps.toList = [48, 49, 50, 51, 52, 53, 54, 55, 56, 57] := by decide +kernel
  rw [e]
  unfold digB
  rw [← Bool.decide_and]
  refine decide_eq_decide.mpr ?_
  simp only [List.mem_cons, List.not_mem_nil, or_false]
  omega
theorem split_S (l : List Nat) : Txt.split (S l) ("/" : Str) = (TL.spl [47] 0 [] l).map S := by
  have e : TL.tl ("/" : Str) = [47] := by decide +kernel
  have h := TL.split_spl (S l) ("/" : Str) (by rw [e]; decide) (TL.kind_ok (by decide +kernel))
  rw [e] at h
  have h2 : TL.tl (S l) = l := List.toList_toArray
  rw [h2] at h
  rw [← h, List.map_map]
  symm
  have h3 : (S ∘ TL.tl) = id := by
    funext x
    exact TL.mk_tl x
  rw [h3, List.map_id]
section
variable {te ta tb : TE} {σ : L2.St} {H : Hp}
theorem ev_chain9 {n a b : Int} (h : Ev te σ H (.int n)) : Ev (tChain (rI0 fun i j => V.bl (decide (i ≤ j))) (rI0 fun i j => V.bl (decide (i ≤ j))) (tC (.int a)) te (tC (.int b))) σ H (.bl (decide (a ≤ n) && decide (n ≤ b))) := fun H1 e1 Q k =>
  h H1 e1 _ fun H2 e2 => by
    refine ⟨_, _, rfl, rfl, _, rfl, ?_⟩
    cases hc : decide (a ≤ n) with
    | true =>
      rw [hc, Bool.true_and] at k
      refine ifT rfl ?_
      exact ⟨_, _, rfl, rfl, k H2 e2⟩
    | false =>
      rw [hc, Bool.false_and] at k
      exact ifF rfl (k H2 e2)
end
end Pn
namespace Pn
open PySem PySem.Spec PyProof.Rows L2 Evl CwR
def RS (l : List Nat) (v : V) (_ : Hp) : Prop := v = .str (S l)
theorem mono_rs : MonoR RS := fun _ _ _ _ _ h => h
section
variable {K : PySem.W.Frag} {te ta tb : TE} {σ : L2.St} {H : Hp} {E : XK} {l : List Nat}
theorem ev_dig (h : Ev te σ H (.str (S l))) (hl : l.length ≤ 100) : Ev (tCall spDig [] E (tCons te tNil)) σ H (optN (digL l)) :=
  ev_of (evp_call1 (evp_of h) fun v H1 _ ev Q2 E2 k2 => by subst ev; exact ⟨l, rfl, hl, fun H4 e4 => k2 _ _ e4 rfl⟩)
theorem ev_common {a b : Nat} (ha : Ev ta σ H (.int (a : Int))) (hb : Ev tb σ H (.int (b : Int))) (h : b < 2 ^ 1000000) : Ev (tCall spCommon [] E (tCons ta (tCons tb tNil))) σ H (.int ((Nat.gcd a b : Nat) : Int)) :=
  ev_of (evp_call2 (fun _ _ _ _ h => h) (evp_of ha) (evp_of hb) fun v u H1 _ ev eu Q2 E2 k2 => by
    subst ev eu
    exact ⟨a, b, rfl, h, k2 _ _ (Ex.refl _) rfl⟩)
theorem spl_bits (l : List Nat) : ∀ acc, (TL.spl [47] 0 acc l).length ≤ l.length + 1 ∧ ∀ p ∈ TL.spl [47] 0 acc l, p.length ≤ acc.length + l.length := by
  induction l with
  | nil => intro acc; rw [TL.spl_nil]; exact ⟨by show 1 ≤ 1; decide, fun p hp => by rw [List.mem_singleton.mp hp]; exact Nat.le_add_right _ _⟩
  | cons x l ih =>
    intro acc
    by_cases hx : x = 47
    · subst hx
      have e : TL.spl [47] 0 acc (47 :: l) = acc :: TL.spl [47] 0 [] l := TL.spl_hit (by rfl)
      rw [e]
      obtain ⟨z1, z2⟩ := ih []
      refine ⟨by rw [List.length_cons, List.length_cons]; omega, fun p hp => ?_⟩
      rcases List.mem_cons.mp hp with h | h
      · rw [h, List.length_cons]; omega
      · have := z2 p h
        rw [List.length_nil] at this
        rw [List.length_cons]; omega
    · have e : TL.spl [47] 0 acc (x :: l) = TL.spl [47] 0 (acc ++ [x]) l := TL.spl_miss (TL.pre_of_head [] l hx)
      rw [e]
      obtain ⟨z1, z2⟩ := ih (acc ++ [x])
      refine ⟨by rw [List.length_cons]; omega, fun p hp => ?_⟩
      have := z2 p hp
      rw [List.length_append, List.length_singleton] at this
      rw [List.length_cons]; omega
theorem lst_rs {H : Hp} {p : Addr} {ps : List (List Nat)} (h : H p = some (.lst ((ps.map S).map V.str))) : LstAt RS ps (.ref p) H := ⟨p, _, rfl, h, by rw [List.length_map, List.length_map], fun i x v h1 h2 => by
  rw [List.map_map, List.getElem?_map, h1] at h2
  exact (Option.some.inj h2).symm⟩
theorem cut_D (l : List Nat) (n : Nat) : cutS (S l) (some (n : Int)) none = S (l.drop n) := by
  unfold cutS
  rw [HT.sIx_none]
  show Str.mk _ = Str.mk _
  congr 2
  have e : HT.sIx (S l).length 0 (some (n : Int)) = min n l.length := HT.sIx_nat _ _ n
  rw [e]
  show (l.drop (min n l.length)).take (l.length - min n l.length) = l.drop n
  rw [List.take_of_length_le (by rw [List.length_drop]; omega)]
  by_cases h : n ≤ l.length
  · rw [Nat.min_eq_left h]
  · rw [Nat.min_eq_right (by omega), List.drop_length, List.drop_eq_nil_of_le (by omega)]
theorem cut_T (l : List Nat) (n : Nat) : cutS (S l) none (some (n : Int)) = S (l.take n) := by
  unfold cutS
  rw [HT.sIx_none, Nat.sub_zero, List.drop_zero]
  show Str.mk _ = Str.mk _
  congr 2
  have e : HT.sIx (S l).length (S l).length (some (n : Int)) = min n l.length := HT.sIx_nat _ _ n
  rw [e]
  show l.take (min n l.length) = l.take n
  by_cases h : n ≤ l.length
  · rw [Nat.min_eq_left h]
  · rw [Nat.min_eq_right (by omega), List.take_length, List.take_of_length_le (by omega)]
theorem ev_cutT {n : Nat} (h : Ev te σ H (.str (S l))) (hn : Ev tb σ H (.int (n : Int))) (hz : l.length ≤ 100) : Ev (tSl rSlS te tNoPart (tPart tb)) σ H (.str (S (l.take n))) := fun H1 e1 Q k =>
  h H1 e1 _ fun H2 e2 => hn H2 (e1.trans e2) _ fun H3 e3 => ⟨(n : Int), rfl, S l, rfl, sz_of (by show l.length ≤ _; omega), by rw [cut_T]; exact k H3 (e2.trans e3)⟩
theorem ev_cutD {n : Nat} (h : Ev te σ H (.str (S l))) (hn : Ev tb σ H (.int (n : Int))) (hz : l.length ≤ 100) : Ev (tSl rSlS te (tPart tb) tNoPart) σ H (.str (S (l.drop n))) := fun H1 e1 Q k =>
  h H1 e1 _ fun H2 e2 => hn H2 (e1.trans e2) _ fun H3 e3 => ⟨(n : Int), rfl, S l, rfl, sz_of (by show l.length ≤ _; omega), by rw [cut_D]; exact k H3 (e2.trans e3)⟩
end
end Pn
namespace Pn
open PySem PySem.Spec PyProof.Rows L2 Evl CwR
def spFits : Sp := fun vs H Q _ => ∃ l, vs = [.str (S l)] ∧ (∀ c ∈ l, c < 128) ∧ l.length ≤ 100 ∧ ∀ H', Ex H H' → Q (.bl true) H'
section
variable {K : PySem.W.Frag} {te ta tb : TE} {σ : L2.St} {H : Hp} {E : XK} {l : List Nat}
theorem evp_read (h : Ev te σ H (.str (S l))) (hl : l.length ≤ 100) : EvP (tCall spRead [] E (tCons te tNil)) σ H (fun v H => OptPr H v (lread l)) :=
  evp_call1 (evp_of h) fun v H1 _ ev Q2 E2 k2 => by subst ev; exact ⟨l, rfl, hl, fun r H4 e4 pr => k2 r H4 e4 pr⟩
theorem ev_fits (h : Ev te σ H (.str (S l))) (hc : ∀ c ∈ l, c < 128) (hl : l.length ≤ 100) : Ev (tCall spFits [] E (tCons te tNil)) σ H (.bl true) :=
  ev_of (evp_call1 (evp_of h) fun v H1 _ ev Q2 E2 k2 => by subst ev; exact ⟨l, rfl, hc, hl, fun H4 e4 => k2 _ _ e4 rfl⟩)
theorem ev_xf {a dd C : Addr} {f : Str} {fs : List (Str × V)} {v : V} (h : Ev te σ H (.ref a)) (hd : H dd = some (.xd fs)) (hf : fs.lookup f = some v) : Ev (tXf a (.ref C) (some dd) C f te) σ H v := fun H1 e1 Q k =>
  h H1 e1 _ fun H2 e2 => ⟨rfl, rfl, dd, fs, v, rfl, e2 _ _ (e1 _ _ hd), hf, k H2 e2⟩
theorem ev_isEd {a dd D S : Addr} {fs : List (Str × V)} (h : Ev te σ H (.ref a)) (hd : H dd = some (.xd fs)) (hk : PySem.W.kitOne K (.ref D) (.ref S) = some true) : Ev (tCB (rIsEd K D a dd) (tCons te (tCons (tC (.ref S)) tNil))) σ H (.bl true) := fun H1 e1 Q k =>
  h H1 e1 _ fun H2 e2 => ⟨.ref S, .ref S, true, fs, rfl, (fun u hu => hu), hk, e2 _ _ (e1 _ _ hd), k H2 e2⟩
end
end Pn
namespace Pn
open PySem PySem.Spec PyProof.Rows L2 Evl CwR
def spCh : Sp := fun vs H Q _ => ∃ (st : Addr × Addr) (c : Nat) (l : List Nat) (v : V) (q : Rat), vs = [.ref st.1, .str (S l), v] ∧ StAt st c H ∧ c + 10 < cMax ∧ (∀ c ∈ l, c < 128) ∧ l.length ≤ 40 ∧ PrAt H v q ∧ Bd q ∧ ∀ l' H', (∀ c ∈ l', c < 128) → l'.length ≤ 100 → StAt st (c + 4) H' → FrS st H H' → Q (.str (S l')) H'
theorem asc_app {l m : List Nat} (h : ∀ c ∈ l, c < 128) (k : ∀ c ∈ m, c < 128) : ∀ c ∈ l ++ m, c < 128 := fun c hc => (List.mem_append.mp hc).elim (h c) (k c)
/-- one of written texts -/
def OneOf (n : Nat) (v : V) : Prop := ∃ l, v = .str (S l) ∧ (∀ c ∈ l, c < 128) ∧ l.length ≤ n
theorem one_of {n : Nat} (l : List Nat) {z : Str} (e : z = S l) (h : ∀ c ∈ l, c < 128) (k : l.length ≤ n) : OneOf n (.str z) := ⟨l, by rw [e], h, k⟩
theorem pick_one {xs : List V} {n : Nat} {e : Int} (h : ∀ x ∈ xs, OneOf n x) (h0 : 0 ≤ e) (h1 : e < (xs.length : Int)) : ∃ l, atI xs e = some (.str (S l)) ∧ (∀ c ∈ l, c < 128) ∧ l.length ≤ n := by
  obtain ⟨i, rfl⟩ : ∃ i : Nat, e = (i : Int) := ⟨e.toNat, (Int.toNat_of_nonneg h0).symm⟩
  have hi : i < xs.length := by omega
  obtain ⟨l, e1, e2, e3⟩ := h _ (List.getElem_mem hi)
  exact ⟨l, by rw [← e1]; exact atI_nat (List.getElem?_eq_getElem hi), e2, e3⟩
end Pn
namespace Pn
open PySem PySem.Spec PyProof.Rows L2 Evl CwR
theorem seven {d : Int} (h0 : 0 ≤ d) (h1 : d < 5) : MulOk ("7" : Str) (7 + d) ∧ ∃ m, Txt.mul ("7" : Str) (7 + d) = S m ∧ (∀ c ∈ m, c < 128) ∧ m.length ≤ 11 := by
  have : d = 0 ∨ d = 1 ∨ d = 2 ∨ d = 3 ∨ d = 4 := by omega
  rcases this with rfl | rfl | rfl | rfl | rfl
  · exact ⟨⟨by decide +kernel, by decide +kernel, by decide +kernel⟩, List.replicate 7 55, by decide +kernel, by decide, by decide⟩
  · exact ⟨⟨by decide +kernel, by decide +kernel, by decide +kernel⟩, List.replicate 8 55, by decide +kernel, by decide, by decide⟩
  · exact ⟨⟨by decide +kernel, by decide +kernel, by decide +kernel⟩, List.replicate 9 55, by decide +kernel, by decide, by decide⟩
  · exact ⟨⟨by decide +kernel, by decide +kernel, by decide +kernel⟩, List.replicate 10 55, by decide +kernel, by decide, by decide⟩
  · exact ⟨⟨by decide +kernel, by decide +kernel, by decide +kernel⟩, List.replicate 11 55, by decide +kernel, by decide, by decide⟩
abbrev poolS : Str := ("0123456789/-+ ._eE,x" : Str)
theorem pool_asc : ∀ c ∈ poolS.cps.toList, c < 128 := by decide +kernel
theorem pool_len : poolS.cps.toList.length = 20 := by decide +kernel
theorem plus_one : ∀ x ∈ [V.str ("+" : Str), V.str ("-" : Str), V.str ("0" : Str)], OneOf 3 x := fun x hx => by
  simp only [List.mem_cons, List.not_mem_nil, or_false] at hx
  rcases hx with rfl | rfl | rfl
  · exact one_of [43] (by decide +kernel) (by decide) (by decide)
  · exact one_of [45] (by decide +kernel) (by decide) (by decide)
  · exact one_of [48] (by decide +kernel) (by decide) (by decide)
theorem bot_one : ∀ x ∈ [V.str ("/1" : Str), V.str ("/7" : Str)], OneOf 3 x := fun x hx => by
  simp only [List.mem_cons, List.not_mem_nil, or_false] at hx
  rcases hx with rfl | rfl
  · exact one_of [47, 49] (by decide +kernel) (by decide) (by decide)
  · exact one_of [47, 55] (by decide +kernel) (by decide) (by decide)
theorem pre_one : ∀ x ∈ [V.str ("" : Str), V.str ("-" : Str), V.str ("1/" : Str), V.str ("-5/" : Str)], OneOf 3 x := fun x hx => by
  simp only [List.mem_cons, List.not_mem_nil, or_false] at hx
  rcases hx with rfl | rfl | rfl | rfl
  · exact one_of [] (by decide +kernel) (by decide) (by decide)
  · exact one_of [45] (by decide +kernel) (by decide) (by decide)
  · exact one_of [49, 47] (by decide +kernel) (by decide) (by decide)
  · exact one_of [45, 53, 47] (by decide +kernel) (by decide) (by decide)
theorem chr_one {x : Nat} (h : x < 128) : ∀ y ∈ [V.str ⟨#[x]⟩, V.str ⟨#[x]⟩, V.str ("" : Str)], OneOf 3 y := fun y hy => by
  simp only [List.mem_cons, List.not_mem_nil, or_false] at hy
  rcases hy with rfl | rfl | rfl
  · exact ⟨[x], rfl, fun c hc => by rw [List.mem_singleton.mp hc]; exact h, by show 1 ≤ 3; decide⟩
  · exact ⟨[x], rfl, fun c hc => by rw [List.mem_singleton.mp hc]; exact h, by show 1 ≤ 3; decide⟩
  · exact one_of [] (by decide +kernel) (by decide) (by decide)
section
variable {K : PySem.W.Frag} {te ta tb : TE} {σ : L2.St} {H : Hp} {E : XK} {l m : List Nat} {v : V} {n d : Int} {i : Nat}
theorem ev_strI {j : Int} (h : Ev te σ H (.int j)) (hb : j.natAbs < 10 ^ 40) : Ev (tCB (fun xs H Q => ∃ i, xs = [V.int i] ∧ i.natAbs.log2 < 1920 ∧ Q (V.str (Str.ofString (toString i))) H) (tCons te tNil)) σ H (.str (S (intL j))) := fun H1 e1 Q k =>
  h H1 e1 _ fun H2 e2 => ⟨j, rfl, log_ok hb, by rw [str_int]; exact k H2 e2⟩
theorem ev_addL (h1 : Ev ta σ H (.str (S l))) (h2 : Ev tb σ H (.str (S m))) (hz : l.length + m.length ≤ 100000) : Ev (tOp (fun x y H Q => ∃ i j, x = .str i ∧ y = .str j ∧ i.length + j.length ≤ sizeLine ∧ Q (.str (i ++ j)) H) ta tb) σ H (.str (S (l ++ m))) := by
  rw [← s_app]
  exact ev_addS h1 h2 hz
theorem ev_pr0 (pr : PairAt H v n d) (h : σ[i]? = some (some v)) : Ev (tOp (rIxT K) (tVar i) (tC (.int 0))) σ H (.int n) := fun H1 e1 Q k => by
  obtain ⟨a, rfl, ha⟩ := pr
  exact ⟨_, h, a, [.int n, .int d], _, _, rfl, rfl, SqT.of (e1 _ _ ha), atI_nat (j := 0) rfl, k H1 (Ex.refl _)⟩
theorem ev_pr1 (pr : PairAt H v n d) (h : σ[i]? = some (some v)) : Ev (tOp (rIxT K) (tVar i) (tC (.int 1))) σ H (.int d) := fun H1 e1 Q k => by
  obtain ⟨a, rfl, ha⟩ := pr
  exact ⟨_, h, a, [.int n, .int d], _, _, rfl, rfl, SqT.of (e1 _ _ ha), atI_nat (j := 1) rfl, k H1 (Ex.refl _)⟩
theorem ev_mulS {x y : Int} {a b : Nat} (h1 : Ev ta σ H (.int x)) (h2 : Ev tb σ H (.int y)) (hx : x.natAbs < 2 ^ a) (hy : y.natAbs < 2 ^ b) (a0 : 0 < a) (b0 : 0 < b) (h : a + b ≤ 9000) : Ev (tOp (rI CMulW fun i j => V.int (i * j)) ta tb) σ H (.int (x * y)) :=
  ev_op h1 h2 fun H1 _ Q k => ⟨_, _, rfl, rfl, mulW hx hy a0 b0 h, k H1 (Ex.refl _)⟩
end
end Pn
namespace Pn
open PySem PySem.Spec PyProof.Rows L2 Evl CwR
theorem StAt.updD {st : Addr × Addr} {c : Nat} {H : Hp} {D : Addr} {o : HO} (h : StAt st c H) (n1 : D ≠ st.1) (n2 : D ≠ st.2) : StAt st c (upd H D o) := by
  obtain ⟨items, m, h1, h2, h3, h4, h5, h6⟩ := h
  exact ⟨items, m, (upd_ne n1.symm).trans h1, (upd_ne n2.symm).trans h2, h3, h4, h5, h6⟩
theorem lc_ints {K : PySem.W.Frag} {st : Addr × Addr} {c j t : Nat} {te : TE} {vs : List Nat} {σ : L2.St} {H : Hp} {a : Addr} {ns : List Int} {B : Int → Prop} {Q : VK} (hσ : σ[t]? = some (some (.ref a))) (ha : H a = some (.lst (ns.map V.int))) (na : a ≠ st.1) (hn : ns.length ≤ 1000) (s0 : StAt st c H)
    (hw : ∀ x, wipe ((wipe σ vs).set j (some x)) vs = wipe σ vs)
    (he : ∀ (i : Nat) (x : Int) (H' : Hp) (K : VK), ns[i]? = some x → StAt st (c + i) H' → (∀ (y : Int) (H2 : Hp), StAt st (c + i + 1) H2 → FrS st H' H2 → B y → K (.int y) H2) → te ((wipe σ vs).set j (some (.int x))) H' K)
    (k : ∀ (D : Addr) (ms : List Int) (H' : Hp), D ≠ st.1 → H D = none → StAt st (c + ns.length) H' → FrS st H H' → H' D = some (.lst (ms.map V.int)) → ms.length = ns.length → (∀ y ∈ ms, B y) → Q (.ref D) H') :
    tLc (iList K (tVar t)) (gName j) tYes te vs σ H Q := by
  refine ⟨_, hσ, a, rfl, ⟨_, SqL.of ha⟩, fun D hD0 => ?_⟩
  have nD : D ≠ st.1 := s0.fresh hD0
  have nD2 : D ≠ st.2 := s0.fresh2 hD0
  have naD : a ≠ D := ne_of_none ha hD0
  have eN : Ex H (upd H D (.lst [])) := Ex.new hD0
  have w := walk_list (K := K) (a := a) (xs := ns.map V.int)
  rw [List.length_map] at w
  refine lc_it (w := w) (fun i H' => StAt st (c + i) H' ∧ FrS st H H' ∧ H' a = some (.lst (ns.map V.int)) ∧ ∃ ms : List Int, H' D = some (.lst (ms.map V.int)) ∧ ms.length = i ∧ ∀ y ∈ ms, B y)
    ⟨s0.ex eN, .of eN, eN _ _ ha, [], upd_same, rfl, fun y z => nomatch z⟩ (fun i H' _ p => SqL.of p.2.2.1) ?_ ?_
  · rintro i x H' H2 hi ⟨p1, p2, pa, ms, p3, p4, p5⟩ ⟨y1, y2⟩
    subst y1
    obtain ⟨u, rfl, hu⟩ := mapInt y2
    refine ⟨hw _, ?_⟩
    show te _ H2 _
    refine he i u H2 _ hu p1 fun v H3 q1 q2 q3 => ?_
    have d3 := q2 _ _ nD p3
    refine ⟨ms.map V.int, d3, sz_lt (by rw [List.length_map]; omega), q1.updD nD nD2, fun b o nb hb => ?_, (upd_ne naD).trans (q2 _ _ na pa), ms ++ [v], ?_, by rw [List.length_append, p4]; rfl, fun y hy => ?_⟩
    · rw [upd_ne (ne_of_none hb hD0)]
      exact q2 b o nb (p2 b o nb hb)
    · rw [upd_same, List.map_append]
      rfl
    · rcases List.mem_append.mp hy with h | h
      · exact p5 y h
      · rw [List.mem_singleton.mp h]
        exact q3
  · rintro H' ⟨p1, p2, pa, ms, p3, p4, p5⟩
    exact k D ms H' nD hD0 p1 p2 p3 p4 p5
end Pn
namespace Pn
open PySem PySem.Spec PyProof.Rows L2 Evl CwR
section
variable {C : Addr} {K : PySem.W.Frag} {te ta tb : TE} {σ : L2.St} {H : Hp} {E : XK} {v : V} {q : Rat} {i : Nat}
theorem ev_ixZ {D : Addr} {ms : List Int} {t j : Nat} {x : Int} (hσ : σ[t]? = some (some (.ref D))) (hD : H D = some (.lst (ms.map V.int))) (hx : ms[j]? = some x) : Ev (tOp (rIxL K) (tVar t) (tC (.int (j : Int)))) σ H (.int x) := fun H1 e1 Q k =>
  ⟨_, hσ, D, ms.map V.int, (j : Int), _, rfl, rfl, SqL.of (e1 _ _ hD), atI_nat (by rw [List.getElem?_map, hx]; rfl), k H1 (Ex.refl _)⟩
theorem ev_max {x y : Int} (ha : Ev ta σ H (.int x)) (hb : Ev tb σ H (.int y)) : Ev (tCB (fun xs H Q => ∃ i j, xs = [V.int i, V.int j] ∧ Q (V.int (if j > i then j else i)) H) (tCons ta (tCons tb tNil))) σ H (.int (if y > x then y else x)) := fun H1 e1 Q k =>
  ha H1 e1 _ fun H2 e2 => hb H2 (e1.trans e2) _ fun H3 e3 => ⟨x, y, rfl, k H3 (e2.trans e3)⟩
theorem ev_strPr {E1 : XK} (pr : PrAt H v q) (hb : Bd40 q) (h : σ[i]? = some (some v)) :
    Ev (tCB (rStrOwn C (spStr C)) (tCons (tMake C (spInit C) [] E1 (tCons (tOp (rIxT K) (tVar i) (tC (.int 0))) (tCons (tOp (rIxT K) (tVar i) (tC (.int 1))) tNil))) tNil)) σ H (.str (S (CL q))) := by
  have hd : ((q.den : Nat) : Int) ≠ 0 := by have := q.den_pos; omega
  have hq : Rat.divInt q.num ((q.den : Nat) : Int) = q := Rat.num_divInt_den q
  have z := fq_make (C := C) (E := E1) (ev_pr0 (K := K) pr h) (ev_pr1 (K := K) pr h) hd (by rw [Int.natAbs_natCast]; exact Nat.lt_of_lt_of_le hb.2 (Nat.le_trans (show 10 ^ 40 ≤ 2 ^ 200 by decide) (Nat.pow_le_pow_right (by decide) (by decide))))
  rw [hq] at z
  exact ev_strQ z hb
end
theorem bd_int {q : Rat} (h : Bd q) : Bd ((q.num : Int) : Rat) := ⟨h.1, by show (1 : Nat) < _; decide⟩
theorem bd_neg {q : Rat} (h : Bd q) : Bd (-q) := ⟨by rw [Rat.neg_num, Int.natAbs_neg]; exact h.1, by rw [Rat.neg_den]; exact h.2⟩
theorem pr_neg {H : Hp} {v : V} {q : Rat} (h : PairAt H v (0 - q.num) (q.den : Int)) : PrAt H v (-q) := by
  show PairAt H v (-q).num ((-q).den : Int)
  rw [Rat.neg_num, Rat.neg_den, ← Int.zero_sub]
  exact h
theorem pr_int {H : Hp} {v : V} {q : Rat} (h : PairAt H v q.num 1) : PrAt H v ((q.num : Int) : Rat) := h
theorem CL_mk {q : Rat} : (if (!decide (V.int ((q.den : Nat) : Int) = V.int 1)) = true then intL q.num ++ [47] ++ intL ((q.den : Nat) : Int) else intL q.num) = CL q := by
  unfold CL
  by_cases h : q.den = 1
  · rw [if_pos h, if_neg, List.append_nil]
    rw [decide_eq_true (by rw [h]; rfl)]
    decide
  · rw [if_neg h, if_pos, intL_nat, List.append_assoc]
    · rfl
    · rw [decide_eq_false (fun z => h (by have := V.int.inj z; omega))]
      rfl
theorem lt1000 {y t : Int} {i : Nat} (h0 : 0 ≤ y) (h : y < 1000 ^ i) (t0 : 0 ≤ t) (t1 : t < 1000) : 0 ≤ y * 1000 + t ∧ y * 1000 + t < 1000 ^ (i + 1) := by
  rw [Int.pow_succ]
  omega
theorem pow3 {i : Nat} (h : i ≤ 3) : (1000 : Int) ^ i ≤ 10 ^ 9 := by
  have : i = 0 ∨ i = 1 ∨ i = 2 ∨ i = 3 := by omega
  rcases this with rfl | rfl | rfl | rfl <;> decide
end Pn
namespace Pn
open PySem PySem.Spec PyProof.Rows L2 Evl CwR
theorem op_raw {r : R2} {ta tb : TE} {σ : L2.St} {H : Hp} {Q : VK} (x : V) (ha : Ev ta σ H x) (k : ∀ H1, Ex H H1 → tb σ H1 fun y H2 => r x y H2 Q) : tOp r ta tb σ H Q := ha H (Ex.refl H) _ fun H1 e1 => k H1 e1
theorem ev_pow {σ : L2.St} {H : Hp} {i j : Int} (h : CPow i j) : Ev (tOp (rI CPow fun i j => V.int (i ^ j.toNat)) (tC (.int i)) (tC (.int j))) σ H (.int (i ^ j.toNat)) := ev_op ev_c ev_c fun H1 _ Q k => ⟨_, _, rfl, rfl, h, k H1 (Ex.refl _)⟩
theorem e9 : (10 : Int) ^ (9 : Int).toNat = 1000000000 := by decide +kernel
theorem e18 : (10 : Int) ^ (18 : Int).toNat = 1000000000000000000 := by decide +kernel
theorem e24 : (10 : Int) ^ (24 : Int).toNat = 1000000000000000000000000 := by decide +kernel
theorem e25 : (10 : Int) ^ (25 : Int).toNat = 10000000000000000000000000 := by decide +kernel
theorem pick3 {e : Int} (h0 : 0 ≤ e) (h1 : e < 3) : ∃ x : Int, atI [V.int 1, .int ((10 : Int) ^ (9 : Int).toNat), .int ((10 : Int) ^ (18 : Int).toNat)] e = some (.int x) ∧ 0 < x ∧ x.natAbs < 2 ^ 62 := by
  have : e = 0 ∨ e = 1 ∨ e = 2 := by omega
  rcases this with rfl | rfl | rfl
  · exact ⟨1, atI_nat (j := 0) rfl, by decide, by decide⟩
  · exact ⟨_, atI_nat (j := 1) rfl, by rw [e9]; decide, by rw [e9]; decide⟩
  · exact ⟨_, atI_nat (j := 2) rfl, by rw [e18]; decide, by rw [e18]; decide⟩
end Pn


namespace Row
open PySem PySem.Spec PyProof.Rows L2 Evl Pn
def top (i : Nat) : Stmt := PySem.Challenge.pw_plumbnet_k04_written_forms_of_fractions.main.body.getD i (.Pass ⟨0, 0, 0, 0⟩)
abbrev s__wall : Stmt := top 1
abbrev s_BadNumber_init : Stmt := inClass (top 4) 0
abbrev s_ZeroDivisor_init : Stmt := inClass (top 5) 0
abbrev s_Ratio_init : Stmt := inClass (top 8) 0
abbrev s_Ratio_of : Stmt := inClass (top 8) 1
abbrev s_Ratio_over : Stmt := inClass (top 8) 2
abbrev s_Ratio_add : Stmt := inClass (top 8) 3
abbrev s_Ratio_sub : Stmt := inClass (top 8) 4
abbrev s_Ratio_mul : Stmt := inClass (top 8) 5
abbrev s_Ratio_neg : Stmt := inClass (top 8) 6
abbrev s_Ratio_abs : Stmt := inClass (top 8) 7
abbrev s_Ratio_eq : Stmt := inClass (top 8) 8
abbrev s_Ratio_ne : Stmt := inClass (top 8) 9
abbrev s_Ratio_lt : Stmt := inClass (top 8) 10
abbrev s_Ratio_le : Stmt := inClass (top 8) 11
abbrev s_Ratio_gt : Stmt := inClass (top 8) 12
abbrev s_Ratio_ge : Stmt := inClass (top 8) 13
abbrev s_Ratio_str : Stmt := inClass (top 8) 14
abbrev s_is_short : Stmt := top 9
abbrev s__law_tape : Stmt := top 11
abbrev s__law_draw : Stmt := top 12
abbrev s__law_take : Stmt := top 13
abbrev s__law_common : Stmt := top 14
abbrev s__law_pair : Stmt := top 15
abbrev s__law_is : Stmt := top 16
abbrev s__law_digits : Stmt := top 17
abbrev s__law_read : Stmt := top 18
abbrev s__law_changed : Stmt := top 19
abbrev s__law_fits : Stmt := top 20
abbrev s_law : Stmt := top 21
def d__law_tape : He.DefD := ⟨("_law_tape", none), "_law_tape", "_law_tape", defArgs s__law_tape, defBody s__law_tape, defScope s__law_tape, [], []⟩
def d__law_draw : He.DefD := ⟨("_law_draw", none), "_law_draw", "_law_draw", defArgs s__law_draw, defBody s__law_draw, defScope s__law_draw, [], []⟩
def d__law_take : He.DefD := ⟨("_law_take", none), "_law_take", "_law_take", defArgs s__law_take, defBody s__law_take, defScope s__law_take, [], []⟩
def d__law_common : He.DefD := ⟨("_law_common", none), "_law_common", "_law_common", defArgs s__law_common, defBody s__law_common, defScope s__law_common, [], []⟩
def d__law_pair : He.DefD := ⟨("_law_pair", none), "_law_pair", "_law_pair", defArgs s__law_pair, defBody s__law_pair, defScope s__law_pair, [], []⟩
def d__law_digits : He.DefD := ⟨("_law_digits", none), "_law_digits", "_law_digits", defArgs s__law_digits, defBody s__law_digits, defScope s__law_digits, [], []⟩
def d__law_read : He.DefD := ⟨("_law_read", none), "_law_read", "_law_read", defArgs s__law_read, defBody s__law_read, defScope s__law_read, [], []⟩
def d_is_short : He.DefD := ⟨("is_short", none), "is_short", "is_short", defArgs s_is_short, defBody s_is_short, defScope s_is_short, [], []⟩
def d_Ratio_init : He.DefD := ⟨("Ratio", some "__init__"), "__init__", "Ratio.__init__", defArgs s_Ratio_init, defBody s_Ratio_init, defScope s_Ratio_init, [.int 1], []⟩
def d_Ratio_str : He.DefD := ⟨("Ratio", some "__str__"), "__str__", "Ratio.__str__", defArgs s_Ratio_str, defBody s_Ratio_str, defScope s_Ratio_str, [], []⟩
def d__law_is : He.DefD := ⟨("_law_is", none), "_law_is", "_law_is", defArgs s__law_is, defBody s__law_is, defScope s__law_is, [], []⟩
def d__law_fits : He.DefD := ⟨("_law_fits", none), "_law_fits", "_law_fits", defArgs s__law_fits, defBody s__law_fits, defScope s__law_fits, [], []⟩
def d__law_changed : He.DefD := ⟨("_law_changed", none), "_law_changed", "_law_changed", defArgs s__law_changed, defBody s__law_changed, defScope s__law_changed, [], []⟩
def d_law : He.DefD := ⟨("law", none), "law", "law", defArgs s_law, defBody s_law, defScope s_law, [], []⟩
def d_Ratio_of : He.DefD := ⟨("Ratio", some "of"), "of", "Ratio.of", defArgs s_Ratio_of, defBody s_Ratio_of, defScope s_Ratio_of, [], []⟩
def fn : List He.DefD := [d__law_tape, d__law_draw, d__law_take, d__law_common, d__law_pair, d__law_digits, d__law_read, d_is_short, d_Ratio_init, d_Ratio_str, d__law_is, d__law_fits, d__law_changed, d_law]
def fa : List He.Fa := [.glo "_law_tape", .glo "_law_take", .free "range", .glo "_law_pair", .free "max", .free "str", .glo "_law_fits", .meth "Ratio" "__str__", .mkr "Ratio", .glo "Ratio", .glo "_law_changed", .free "int", .glo "_law_draw", .free "len", .glo "_law_common", .free "abs", .glo "_law_read", .glo "BadNumber", .glo "SurveyError", .free "isinstance", .glo "_law_is", .glo "_law_digits", .free "super", .glo "is_short", .int "MOST_DIGITS" 9, .free "bool", .glo "law", .cls "Ratio", .noat "Ratio" "top", .noat "Ratio" "bottom", .exm "BadNumber" "BadNumber" true]
def exR (K : PySem.W.Frag) : Bool := PySem.W.selfFirst K (He.ga K "Ratio") && (decide (PySem.W.nsIn K mainGlobals "gcd" = some (some (.builtin "math.gcd"))) && riB K (He.ga K "Ratio"))
abbrev FILE : Str := (PySem.Challenge.pw_plumbnet_k04_written_forms_of_fractions).main.file
def d_ZDi : InD := ⟨("BadNumber", some "__init__"), "BadNumber.__init__", defArgs s_BadNumber_init, defBody s_BadNumber_init, defScope s_BadNumber_init, false⟩
def d_RO : InD := ⟨("Ratio", some "of"), "Ratio.of", defArgs s_Ratio_of, defBody s_Ratio_of, defScope s_Ratio_of, true⟩
def ins : List InD := [d_ZDi, d_RO]
def exZ (K : PySem.W.Frag) : Bool := supB K FILE (He.ga K "BadNumber") (He.ma K (He.ga K "BadNumber") "__init__") && (excCB K (He.ga K "BadNumber") && (xfB K (He.ga K "BadNumber") && (decide (PySem.W.findIn K (.ref (He.ga K "BadNumber")) "text" = some none) && (decide (PySem.W.kitOne K (.ref (He.ga K "BadNumber")) (.ref (He.ga K "SurveyError")) = some true) && stB K "Ratio" "of" d_RO))))
def ex (K : PySem.W.Frag) : Bool := exR K && exZ K
theorem texm {K : PySem.W.Frag} {mg : Str → Option Value} (T : Tx fa fn ex K mg) : PySem.W.exmOne K (.ref (He.ga K "BadNumber")) (.ref (He.ga K "BadNumber")) = some true := He.exm_ok (T.c.fact 30 rfl)
theorem tec {K : PySem.W.Frag} {mg : Str → Option Value} (T : Tx fa fn ex K mg) : ExcC K (He.ga K "BadNumber") := excC_of (He.ba (He.ba (He.ba T.e).2).2).1
theorem txf {K : PySem.W.Frag} {mg : Str → Option Value} (T : Tx fa fn ex K mg) : XfC K (He.ga K "BadNumber") := xfB_ok (He.ba (He.ba (He.ba (He.ba T.e).2).2).2).1
theorem ttx {K : PySem.W.Frag} {mg : Str → Option Value} (T : Tx fa fn ex K mg) : PySem.W.findIn K (.ref (He.ga K "BadNumber")) "text" = some none := of_decide_eq_true (He.ba (He.ba (He.ba (He.ba (He.ba T.e).2).2).2).2).1
theorem tk1 {K : PySem.W.Frag} {mg : Str → Option Value} (T : Tx fa fn ex K mg) : PySem.W.kitOne K (.ref (He.ga K "BadNumber")) (.ref (He.ga K "SurveyError")) = some true := of_decide_eq_true (He.ba (He.ba (He.ba (He.ba (He.ba (He.ba T.e).2).2).2).2).2).1
theorem tst {K : PySem.W.Frag} {mg : Str → Option Value} (T : Tx fa fn ex K mg) : stB K "Ratio" "of" d_RO = true := (He.ba (He.ba (He.ba (He.ba (He.ba (He.ba T.e).2).2).2).2).2).2
theorem tself {K : PySem.W.Frag} {mg : Str → Option Value} (T : Tx fa fn ex K mg) : PySem.W.selfFirst K (He.ga K "Ratio") = true := (He.ba (He.ba T.e).1).1
theorem tgcd {K : PySem.W.Frag} {mg : Str → Option Value} (T : Tx fa fn ex K mg) : mg "gcd" = some (.builtin "math.gcd") := by
  obtain ⟨h, X, G⟩ := T.h
  exact PySem.W.mg_of X G (of_decide_eq_true (He.ba (He.ba (He.ba T.e).1).2).1)
theorem tcl {K : PySem.W.Frag} {mg : Str → Option Value} (T : Tx fa fn ex K mg) : Cls K (He.ga K "Ratio") := T.cls 27 rfl
theorem tri {K : PySem.W.Frag} {mg : Str → Option Value} (T : Tx fa fn ex K mg) : Ri K (He.ga K "Ratio") := ri_of (tcl T) (He.ba (He.ba (He.ba T.e).1).2).2
theorem ttop {K : PySem.W.Frag} {mg : Str → Option Value} (T : Tx fa fn ex K mg) : NoAttr K (He.ga K "Ratio") "top" := T.noat 28 rfl
theorem tbot {K : PySem.W.Frag} {mg : Str → Option Value} (T : Tx fa fn ex K mg) : NoAttr K (He.ga K "Ratio") "bottom" := T.noat 29 rfl

section
variable {P : Program} {K : PySem.W.Frag} {mg : Str → Option Value} {base : Heap}
abbrev N__law_tape : List Str := ["script", "tape", "cell", "number", "k", "first"]
theorem sc__law_tape : FnScope N__law_tape ["script"] (defScope s__law_tape) := ⟨rfl, rfl, rfl, by decide +kernel, rfl, by decide +kernel, by decide +kernel⟩
theorem okF__law_tape {w : World} (T : Tx fa fn ex K mg) {fd : FuncData} (F : FunD K d__law_tape.name d__law_tape.qual d__law_tape.params d__law_tape.body d__law_tape.scope (d__law_tape.dvs K) (d__law_tape.kws K) (He.fAd K d__law_tape.at_) fd)  : FnOk P w K mg base CX0 1 (He.ga K "_law_tape") fd ["script"] (spTape K) := by
  have nd : (N__law_tape).Nodup := sc__law_tape.nd
  refine F.ok sc__law_tape (fun vs H Q E h => ?_) (fun cdv A outer s H vs Q E hr h => ?_)
  · obtain ⟨_, _, rfl, _⟩ := h
    rfl
  · obtain ⟨a, ns, rfl, hS, hn, k⟩ := h
    refine ⟨_, PSs.nox (pss_cons (ps_set (i := 1) nd rfl (by first | exact Or.inl rfl | exact Or.inr rfl) (pe_lst pa_nil))
      (pss_cons (ps_for PassesOwn.never rfl (pi_listK (K := K) rfl (pv 0)) (pg_name (i := 2) nd rfl (by first | exact Or.inl rfl | exact Or.inr rfl))
      (pss_cons (ps_set (i := 3) nd rfl (by first | exact Or.inl rfl | exact Or.inr rfl) (pe_op op_mul pe_int (pe_callTy call_intI (by rfl) (T.free 11 rfl) (by decide +kernel) (pa_cons (pv 2) pa_nil))))
      (Evl.pss_cut (ps_if (pt_cmpR op_lt (pv 3) pe_int (nomark _)) (pss_one (ps_set (i := 3) nd rfl (by first | exact Or.inl rfl | exact Or.inr rfl) (pe_op op_sub (pe_un un_neg pe_int) (pv 3))))
      pss_nil)
      (pss_one (ps_if (pt_cmpR op_ge (pv 3) (pe_op op_pow pe_int pe_int) (nomark _)) (pss_one (ps_for PassesOwn.never rfl (pi_range1 rfl (T.free 2 rfl) (pa_cons pe_int pa_nil)) (pg_name (i := 4) nd rfl (by first | exact Or.inl rfl | exact Or.inr rfl))
      (pss_one (ps_if (pt_cmpR op_gt (pv 3) pe_int (nomark _)) (pss_cons (ps_expr (pe_bm PySem.F.plainAttrs_list PySem.F.slot_list_append PySem.F.type_list_append mt_append (pv 1) (pa_cons (pe_op op_mod (pe_callTy call_intI (by rfl) (T.free 11 rfl) (by decide +kernel) (pa_cons (pv 3) pa_nil)) pe_int) pa_nil)))
      (pss_one (ps_set (i := 3) nd rfl (by first | exact Or.inl rfl | exact Or.inr rfl) (pe_op op_fdiv (pv 3) pe_int))))
      pss_nil))))
      (pss_one (ps_for PassesOwn.never rfl (pi_range1 rfl (T.free 2 rfl) (pa_cons pe_int pa_nil)) (pg_name (i := 4) nd rfl (by first | exact Or.inl rfl | exact Or.inr rfl))
      (pss_cons (ps_set (i := 5) nd rfl (by first | exact Or.inl rfl | exact Or.inr rfl) (pe_op op_mod (pe_callTy call_intI (by rfl) (T.free 11 rfl) (by decide +kernel) (pa_cons (pe_op op_add (pe_op op_add (pe_op op_mul (pv 3) pe_int) (pe_op op_mul (pv 4) pe_int)) pe_int) pa_nil)) pe_int))
      (pss_one (ps_expr (pe_bm PySem.F.plainAttrs_list PySem.F.slot_list_append PySem.F.type_list_append mt_append (pv 1) (pa_cons (pe_op op_mod (pe_callTy call_intI (by rfl) (T.free 11 rfl) (by decide +kernel) (pa_cons (pe_op op_add (pe_op op_mul (pv 5) pe_int) (pe_op op_fdiv (pv 5) pe_int)) pa_nil)) pe_int) pa_nil))))))))))))
      (pss_one (ps_ret (pv 1))))), ?_⟩
    refine ⟨Nat.zero_le _, fun p hp => ?_⟩
    refine ⟨_, rfl, a, rfl, ⟨_, ex_sq hS (Ex.new hp)⟩, for_list (K := K) (a := a) (xs := ns.map V.int) (fun i σ H' => ∃ (v2 v3 v4 v5 : Option V) (items : List Int), σ = [some (.ref a), some (.ref p), v2, v3, v4, v5] ∧ TapeI p H H' items ∧ items.length ≤ 40 * i)
      ⟨_, _, _, _, [], rfl, ⟨hp, Ex.new hp, upd_same, fun x hx => nomatch hx⟩, Nat.le_refl _⟩ (fun i σ H' _ ⟨_, _, _, _, _, _, t, _⟩ => ex_sq hS t.2.1) ?_ ?_⟩
    · rintro i y σ H' hi ⟨v2, v3, v4, v5, items, rfl, hI, hlen⟩
      have hi63 : i < ns.length := by
        have q := (List.getElem?_eq_some_iff.mp hi).1
        rw [List.length_map] at q
        exact q
      obtain ⟨u, rfl, _⟩ := mapInt hi
      refine ⟨_, rfl, _, rfl, _, _, rfl, rfl, .inl ⟨by decide, by decide⟩, ?_⟩
      refine ⟨fun σ' H2 => ∃ n : Int, 0 ≤ n ∧ σ' = [some (.ref a), some (.ref p), some (.int u), some (.int n), v4, v5] ∧ H2 = H', ?_, ?_⟩
      · refine ⟨_, rfl, _, _, rfl, rfl, _, rfl, ?_⟩
        refine ifB (fun hc => ?_) (fun hc => ?_)
        · have c := of_decide_eq_true hc
          refine ⟨_, rfl, _, rfl, _, _, rfl, rfl, ?_⟩
          exact ⟨_, by omega, rfl, rfl⟩
        · have c := of_decide_eq_false hc
          exact ⟨_, by omega, rfl, rfl⟩
      · rintro σ' H2 ⟨n, n0, rfl, rfl⟩
        refine ⟨_, rfl, _, _, rfl, rfl, ⟨by decide, by decide, by decide⟩, _, _, rfl, rfl, _, rfl, ?_⟩
        refine ifB (fun hc => ?_) (fun hc => ?_)
        · refine ⟨_, rfl, by decide, by decide, for_range (lo := 0) (n := 40) (fun j σ H' => ∃ (v4 v5 : Option V) (n : Int) (items : List Int), 0 ≤ n ∧ σ = [some (.ref a), some (.ref p), some (.int u), some (.int n), v4, v5] ∧ TapeI p H H' items ∧ items.length ≤ 40 * i + j)
            ⟨_, _, _, items, n0, rfl, hI, hlen⟩ ?_ ?_⟩
          · rintro j σ H2 hj ⟨v4, v5, n, items, n0, rfl, hI, hlen⟩
            refine ⟨_, rfl, _, _, rfl, rfl, _, rfl, ?_⟩
            refine ifB (fun hc => ?_) (fun hc => ?_)
            · refine ⟨_, rfl, .inl ⟨rfl, _, SqL.of hI.2.2.1⟩, _, rfl, _, rfl, _, _, rfl, rfl, (by decide : (0 : Int) < 1000), _, _, _, rfl, rfl, hI.2.2.1, (by rw [List.length_map]; exact sz_lt (by omega)), ?_⟩
              refine ⟨_, rfl, _, _, rfl, rfl, ⟨by decide, by decide⟩, ?_⟩
              have m0 := Int.emod_nonneg n (by decide : (1000 : Int) ≠ 0)
              have m1 := Int.emod_lt_of_pos n (by decide : (0 : Int) < 1000)
              refine ⟨_, _, _, _, ?_, rfl, hI.push m0 (Int.lt_trans m1 (by decide)), ?_⟩
              · exact Int.ediv_nonneg n0 (by decide)
              · rw [List.length_append, List.length_singleton]
                omega
            · exact ⟨_, _, n, items, n0, rfl, hI, by omega⟩
          · rintro σ H2 ⟨v4, v5, n, items, n0, rfl, hI, hlen⟩
            exact ⟨_, _, _, _, items, rfl, hI, by omega⟩
        · refine ⟨_, rfl, by decide, by decide, for_range (lo := 0) (n := 3) (fun j σ H' => ∃ (v4 v5 : Option V) (items : List Int), σ = [some (.ref a), some (.ref p), some (.int u), some (.int n), v4, v5] ∧ TapeI p H H' items ∧ items.length ≤ 40 * i + j)
            ⟨_, _, items, rfl, hI, hlen⟩ ?_ ?_⟩
          · rintro j σ H2 hj ⟨v4, v5, items, rfl, hI, hlen⟩
            refine ⟨_, rfl, _, _, rfl, rfl, .inr ⟨by decide, by decide⟩, _, rfl, _, _, rfl, rfl, .inr ⟨by decide, by decide⟩, _, _, rfl, rfl, _, _, rfl, rfl, _, rfl, _, _, rfl, rfl, (by decide : (0 : Int) < 2147483629), ?_⟩
            refine ⟨_, rfl, .inl ⟨rfl, _, SqL.of hI.2.2.1⟩, _, rfl, _, _, rfl, rfl, .inr ⟨by decide, by decide⟩, _, rfl, _, _, rfl, rfl, ⟨by decide, by decide⟩, _, _, rfl, rfl, _, rfl, _, _, rfl, rfl, (by decide : (0 : Int) < 2147483629), _, _, _, rfl, rfl, hI.2.2.1, (by rw [List.length_map]; exact sz_lt (by omega)), ?_⟩
            refine ⟨_, _, _, rfl, hI.push (Int.emod_nonneg _ (by decide)) (Int.emod_lt_of_pos _ (by decide)), ?_⟩
            rw [List.length_append, List.length_singleton]
            omega
          · rintro σ H2 ⟨v4, v5, items, rfl, hI, hlen⟩
            exact ⟨_, _, _, _, items, rfl, hI, by omega⟩
    · rintro σ H' ⟨v2, v3, v4, v5, items, rfl, hI, hlen⟩
      rw [List.length_map] at hlen
      exact ⟨_, rfl, k _ _ _ hI (by omega)⟩
theorem ok__law_tape {w : World} (T : Tx fa fn ex K mg)  : FnG P w K mg base 1 (He.ga K "_law_tape") ["script"] (spTape K) := by
  obtain ⟨fd, F⟩ := T.c.def_ 0 (d := d__law_tape) rfl
  exact ⟨⟨fd, okF__law_tape T F , FunD.bindsN F fun _ _ _ _ _ _ us hl => match us, hl with | [_], _ => rfl⟩, F.kp⟩

abbrev N__law_draw : List Str := ["tape", "at", "many", "number"]
theorem sc__law_draw : FnScope N__law_draw ["tape", "at", "many"] (defScope s__law_draw) := ⟨rfl, rfl, rfl, by decide +kernel, rfl, by decide +kernel, by decide +kernel⟩
theorem okF__law_draw {w : World} (T : Tx fa fn ex K mg) {fd : FuncData} (F : FunD K d__law_draw.name d__law_draw.qual d__law_draw.params d__law_draw.body d__law_draw.scope (d__law_draw.dvs K) (d__law_draw.kws K) (He.fAd K d__law_draw.at_) fd)  : FnOk P w K mg base CX0 1 (He.ga K "_law_draw") fd ["tape", "at", "many"] (spDraw) := by
  have nd : (N__law_draw).Nodup := sc__law_draw.nd
  refine F.ok sc__law_draw (fun vs H Q E h => ?_) (fun cdv A outer s H vs Q E hr h => ?_)
  · obtain ⟨_, _, _, _, rfl, _⟩ := h
    rfl
  · obtain ⟨tp, items, n, many, rfl, hT, hI, hl, hn, h0, k⟩ := h
    refine ⟨_, PSs.nox (pss_cons (ps_if (pt_cmpR op_lt (pv 1) (pe_callB (call_lenK (K := K) rfl) (by rfl) (T.free 13 rfl) (by decide +kernel) (pa_cons (pv 0) pa_nil)) (nomark _)) (pss_one (ps_ret (pe_op op_mod (pe_callTy call_intI (by rfl) (T.free 11 rfl) (by decide +kernel) (pa_cons (pe_ix (ix_listK (K := K) rfl) (pv 0) (pv 1) (fun _ _ => rfl)) pa_nil)) (pv 2))))
      pss_nil)
      (pss_cons (ps_set (i := 3) nd rfl (by first | exact Or.inl rfl | exact Or.inr rfl) pe_int)
      (Evl.pss_cut (ps_if (pt_cmpR op_gt (pe_callB (call_lenK (K := K) rfl) (by rfl) (T.free 13 rfl) (by decide +kernel) (pa_cons (pv 0) pa_nil)) pe_int (nomark _)) (pss_one (ps_set (i := 3) nd rfl (by first | exact Or.inl rfl | exact Or.inr rfl) (pe_ix (ix_listK (K := K) rfl) (pv 0) (pe_op op_mod (pe_callTy call_intI (by rfl) (T.free 11 rfl) (by decide +kernel) (pa_cons (pv 1) pa_nil)) (pe_callB (call_lenK (K := K) rfl) (by rfl) (T.free 13 rfl) (by decide +kernel) (pa_cons (pv 0) pa_nil))) (fun _ _ => rfl))))
      pss_nil)
      (pss_one (ps_ret (pe_op op_mod (pe_op op_mod (pe_callTy call_intI (by rfl) (T.free 11 rfl) (by decide +kernel) (pa_cons (pe_op op_add (pe_op op_mul (pe_op op_mul (pe_op op_add (pv 3) (pv 1)) (pe_op op_add (pv 1) pe_int)) pe_int) (pe_op op_mul (pv 1) pe_int)) pa_nil)) pe_int) (pv 2))))))), ?_⟩
    have hnn : (n : Int) ≤ 1000000000 := by have : n ≤ 1000000000 := hn; omega
    refine ⟨_, rfl, _, rfl, tp, _, rfl, .inl (SqL.of hT), _, _, rfl, rfl, _, rfl, ?_⟩
    rw [List.length_map]
    refine ifB (fun hc => ?_) (fun hc => ?_)
    · have c : n < items.length := by have := of_decide_eq_true hc; omega
      refine ⟨_, rfl, _, rfl, tp, _, _, _, rfl, rfl, SqL.of hT, at_map c, _, rfl, _, rfl, _, _, rfl, rfl, h0, ?_⟩
      exact k _ (Int.emod_nonneg _ (by omega)) (Int.emod_lt_of_pos _ h0)
    · refine ⟨fun σ' H2 => ∃ m : Int, σ' = [some (.ref tp), some (.int (n : Int)), some (.int many), some (.int m)] ∧ H2 = H, ?_, ?_⟩
      · refine ⟨_, rfl, tp, _, rfl, .inl (SqL.of hT), _, _, rfl, rfl, _, rfl, ?_⟩
        rw [List.length_map]
        refine ifB (fun hc => ?_) (fun hc => ?_)
        · have c : 0 < items.length := by have := of_decide_eq_true hc; omega
          have c1 : (0 : Int) < (items.length : Int) := by omega
          have m0 := Int.emod_nonneg (n : Int) (Int.ne_of_gt c1)
          have m1 := Int.emod_lt_of_pos (n : Int) c1
          obtain ⟨v, hv⟩ := at_mapI m0 m1
          refine ⟨_, rfl, _, rfl, _, rfl, _, rfl, tp, _, rfl, .inl (SqL.of hT), _, _, rfl, rfl, ?_⟩
          rw [List.length_map]
          refine ⟨c1, tp, _, _, _, rfl, rfl, SqL.of hT, hv, ?_⟩
          exact ⟨_, rfl, rfl⟩
        · exact ⟨_, rfl, rfl⟩
      · rintro σ' H2 ⟨m, rfl, rfl⟩
        refine ⟨_, rfl, _, rfl, _, _, rfl, rfl, _, rfl, _, _, rfl, rfl, _, _, rfl, rfl, .inr ⟨by omega, by omega⟩, _, _, rfl, rfl, .inr ⟨by decide, by decide⟩, _, rfl, _, _, rfl, rfl, .inr ⟨by decide, by decide⟩, _, _, rfl, rfl, _, rfl, _, _, rfl, rfl, (by decide : (0 : Int) < 65521), _, rfl, _, _, rfl, rfl, h0, ?_⟩
        exact k _ (Int.emod_nonneg _ (by omega)) (Int.emod_lt_of_pos _ h0)
theorem ok__law_draw {w : World} (T : Tx fa fn ex K mg)  : FnG P w K mg base 1 (He.ga K "_law_draw") ["tape", "at", "many"] (spDraw) := by
  obtain ⟨fd, F⟩ := T.c.def_ 1 (d := d__law_draw) rfl
  exact ⟨⟨fd, okF__law_draw T F , FunD.bindsN F fun _ _ _ _ _ _ us hl => match us, hl with | [_, _, _], _ => rfl⟩, F.kp⟩

abbrev N__law_take : List Str := ["state", "many"]
theorem sc__law_take : FnScope N__law_take ["state", "many"] (defScope s__law_take) := ⟨rfl, rfl, rfl, by decide +kernel, rfl, by decide +kernel, by decide +kernel⟩
theorem okF__law_take {w : World} (T : Tx fa fn ex K mg) {fd : FuncData} (F : FunD K d__law_take.name d__law_take.qual d__law_take.params d__law_take.body d__law_take.scope (d__law_take.dvs K) (d__law_take.kws K) (He.fAd K d__law_take.at_) fd) (G__law_draw : FnG P w K mg base 1 (He.ga K "_law_draw") ["tape", "at", "many"] (spDraw)) : FnOk P w K mg base CX0 2 (He.ga K "_law_take") fd ["state", "many"] (spTake) := by
  have nd : (N__law_take).Nodup := sc__law_take.nd
  refine F.ok sc__law_take (fun vs H Q E h => ?_) (fun cdv A outer s H vs Q E hr h => ?_)
  · obtain ⟨_, _, _, rfl, _⟩ := h
    rfl
  · obtain ⟨st, c, many, rfl, hs, hc, h0, k⟩ := h
    refine ⟨_, PSs.nox (pss_cons (ps_asg (pe_op op_add (pe_ix (ix_listK (K := K) rfl) (pv 0) pe_int (fun _ _ => rfl)) pe_int) (pg_sub (pv 0) pe_int set_list))
      (pss_one (ps_ret (pe_callF G__law_draw (hr.mono (by decide)) (T.glo 12 rfl) (pa_cons (pe_ix (ix_listK (K := K) rfl) (pv 0) pe_int (fun _ _ => rfl)) (pa_cons (pe_ix (ix_listK (K := K) rfl) (pv 0) pe_int (fun _ _ => rfl)) (pa_cons (pv 1) pa_nil))))))), ?_⟩
    obtain ⟨items, n, h1, h2, h3, h4, h5, h6⟩ := id hs
    refine ⟨_, rfl, st.1, _, _, _, rfl, rfl, SqL.of h1, atI_nat (j := 1) rfl, _, _, rfl, rfl, _, rfl, st.1, _, _, 1, rfl, rfl, h1, rfl, ?_⟩
    refine ⟨_, rfl, st.1, _, _, _, rfl, rfl, SqL.of upd_same, atI_nat (j := 0) rfl, _, rfl, st.1, _, _, _, rfl, rfl, SqL.of upd_same, atI_nat (j := 1) rfl, _, rfl, ?_⟩
    refine ⟨st.2, items, n + 1, many, rfl, (upd_ne h3.symm).trans h2, h4, h5, (by omega), h0, fun d d0 d1 => ?_⟩
    exact k d _ d0 d1 ⟨items, n + 1, upd_same, (upd_ne h3.symm).trans h2, h3, h4, h5, by omega⟩ (FrS.refl st H).upd
theorem ok__law_take {w : World} (T : Tx fa fn ex K mg) (G__law_draw : FnG P w K mg base 1 (He.ga K "_law_draw") ["tape", "at", "many"] (spDraw)) : FnG P w K mg base 2 (He.ga K "_law_take") ["state", "many"] (spTake) := by
  obtain ⟨fd, F⟩ := T.c.def_ 2 (d := d__law_take) rfl
  exact ⟨⟨fd, okF__law_take T F G__law_draw, FunD.bindsN F fun _ _ _ _ _ _ us hl => match us, hl with | [_, _], _ => rfl⟩, F.kp⟩

abbrev N__law_common : List Str := ["one", "other", "k", "rest"]
theorem sc__law_common : FnScope N__law_common ["one", "other"] (defScope s__law_common) := ⟨rfl, rfl, rfl, by decide +kernel, rfl, by decide +kernel, by decide +kernel⟩
theorem okF__law_common {w : World} (T : Tx fa fn ex K mg) {fd : FuncData} (F : FunD K d__law_common.name d__law_common.qual d__law_common.params d__law_common.body d__law_common.scope (d__law_common.dvs K) (d__law_common.kws K) (He.fAd K d__law_common.at_) fd)  : FnOk P w K mg base CX0 1 (He.ga K "_law_common") fd ["one", "other"] (spCommon) := by
  have nd : (N__law_common).Nodup := sc__law_common.nd
  refine F.ok sc__law_common (fun vs H Q E h => ?_) (fun cdv A outer s H vs Q E hr h => ?_)
  · obtain ⟨_, _, rfl, _⟩ := h
    rfl
  · obtain ⟨a, b, rfl, hb, k⟩ := h
    refine ⟨_, PSs.nox (pss_cons (ps_for PassesOwn.never rfl (pi_range1 rfl (T.free 2 rfl) (pa_cons (pe_op op_add (pe_op op_mul pe_int (pe_bits (pv 1))) pe_int) pa_nil)) (pg_name (i := 2) nd rfl (by first | exact Or.inl rfl | exact Or.inr rfl))
      (pss_cons (ps_if (pt_cmpR op_eq (pv 1) pe_int (nomark _)) (pss_one ps_break)
      pss_nil)
      (pss_cons (ps_set (i := 3) nd rfl (by first | exact Or.inl rfl | exact Or.inr rfl) (pe_op op_mod (pe_callTy call_intI (by rfl) (T.free 11 rfl) (by decide +kernel) (pa_cons (pv 0) pa_nil)) (pv 1)))
      (pss_cons (ps_set (i := 0) nd rfl (by first | exact Or.inl rfl | exact Or.inr rfl) (pv 1))
      (pss_one (ps_set (i := 1) nd rfl (by first | exact Or.inl rfl | exact Or.inr rfl) (pv 3)))))))
      (pss_one (ps_ret (pv 0)))), ?_⟩
    have B1 := bits_lt hb
    have B2 := bits_le hb
    refine ⟨_, rfl, _, rfl, _, _, rfl, rfl, .inl ⟨by decide, by decide⟩, _, _, rfl, rfl, ?_⟩
    generalize hB : Builtin.Int.intBits (b : Int) = B at B1 B2 ⊢
    refine ⟨_, rfl, by omega, by omega, ?_⟩
    refine for_range (lo := 0) (n := (2 * (B : Int) + 3).toNat) (fun i σ H' => ∃ (x y : Nat) (v2 v3 : Option V), σ = [some (.int (x : Int)), some (.int (y : Int)), v2, v3] ∧ EucI a b B i x y ∧ H' = H)
      ⟨a, b, _, _, rfl, euc_start a b B, rfl⟩ ?_ ?_
    · rintro i σ H' hi ⟨x, y, v2, v3, rfl, hE, rfl⟩
      refine ⟨_, rfl, rfl, _, rfl, ?_⟩
      refine ifB (fun hc => ?_) (fun hc => ?_)
      · have y0 : y = 0 := by have := V.int.inj (of_decide_eq_true hc); omega
        subst y0
        refine ⟨_, rfl, ?_⟩
        rw [euc_zero hE]
        exact k
      · have y0 : y ≠ 0 := fun e => of_decide_eq_false hc (by rw [e]; rfl)
        refine ⟨_, rfl, _, rfl, _, rfl, _, _, rfl, rfl, (by omega), _, rfl, _, rfl, ?_⟩
        refine ⟨y, x % y, some (.int (0 + (i : Int))), some (.int ((x : Int) % (y : Int))), ?_, euc_turn B1 hE y0, rfl⟩
        rw [Int.natCast_emod]
        rfl
    · rintro σ H' ⟨x, y, v2, v3, rfl, hE, rfl⟩
      refine ⟨_, rfl, ?_⟩
      have e : (2 * (B : Int) + 3).toNat = 2 * B + 3 := by omega
      rw [e] at hE
      rw [euc_end hE]
      exact k
theorem ok__law_common {w : World} (T : Tx fa fn ex K mg)  : FnG P w K mg base 1 (He.ga K "_law_common") ["one", "other"] (spCommon) := by
  obtain ⟨fd, F⟩ := T.c.def_ 3 (d := d__law_common) rfl
  exact ⟨⟨fd, okF__law_common T F , FunD.bindsN F fun _ _ _ _ _ _ us hl => match us, hl with | [_, _], _ => rfl⟩, F.kp⟩

abbrev N__law_pair : List Str := ["top", "bottom", "common"]
theorem sc__law_pair : FnScope N__law_pair ["top", "bottom"] (defScope s__law_pair) := ⟨rfl, rfl, rfl, by decide +kernel, rfl, by decide +kernel, by decide +kernel⟩
theorem okF__law_pair {w : World} (T : Tx fa fn ex K mg) {fd : FuncData} (F : FunD K d__law_pair.name d__law_pair.qual d__law_pair.params d__law_pair.body d__law_pair.scope (d__law_pair.dvs K) (d__law_pair.kws K) (He.fAd K d__law_pair.at_) fd) (G__law_common : FnG P w K mg base 1 (He.ga K "_law_common") ["one", "other"] (spCommon)) : FnOk P w K mg base CX0 2 (He.ga K "_law_pair") fd ["top", "bottom"] (spPair) := by
  have nd : (N__law_pair).Nodup := sc__law_pair.nd
  refine F.ok sc__law_pair (fun vs H Q E h => ?_) (fun cdv A outer s H vs Q E hr h => ?_)
  · obtain ⟨_, _, rfl, _⟩ := h
    rfl
  · obtain ⟨t, b, rfl, hb, hl, k⟩ := h
    refine ⟨_, PSs.nox (pss_cons (ps_set (i := 2) nd rfl (by first | exact Or.inl rfl | exact Or.inr rfl) (pe_callF G__law_common (hr.mono (by decide)) (T.glo 14 rfl) (pa_cons (pe_callB call_abs (by rfl) (T.free 15 rfl) (by decide +kernel) (pa_cons (pv 0) pa_nil)) (pa_cons (pv 1) pa_nil))))
      (pss_one (ps_ret (pe_tup (pa_cons (pe_op op_fdivX (pv 0) (pv 2)) (pa_cons (pe_op op_fdivX (pv 1) (pv 2)) pa_nil)))))), ?_⟩
    have hb' : (b.natAbs : Int) = b := Int.natAbs_of_nonneg (Int.le_of_lt hb)
    obtain ⟨e1, e2⟩ := init_pos (t := t) hb
    have ha : (if t < 0 then -t else t) = (t.natAbs : Int) := by
      by_cases h : t < 0
      · rw [if_pos h]; omega
      · rw [if_neg h]; omega
    refine ⟨_, rfl, _, rfl, _, rfl, ?_⟩
    rw [ha, ← hb']
    refine ⟨t.natAbs, b.natAbs, rfl, Nat.lt_of_lt_of_le hl (Nat.pow_le_pow_right (by decide) (by decide)), ?_⟩
    rw [hb']
    refine ⟨_, rfl, _, rfl, _, _, rfl, rfl, gcd_log (Int.ne_of_gt hb) hl, _, rfl, _, rfl, _, _, rfl, rfl, gcd_log (Int.ne_of_gt hb) hl, (by show 2 ≤ sizeLine; decide), fun p hp => ?_⟩
    refine k _ _ (Ex.new hp) ⟨p, rfl, hp⟩ ⟨p, rfl, ?_⟩
    rw [upd_same]
    dsimp only
    rw [e1, e2]
theorem ok__law_pair {w : World} (T : Tx fa fn ex K mg) (G__law_common : FnG P w K mg base 1 (He.ga K "_law_common") ["one", "other"] (spCommon)) : FnG P w K mg base 2 (He.ga K "_law_pair") ["top", "bottom"] (spPair) := by
  obtain ⟨fd, F⟩ := T.c.def_ 4 (d := d__law_pair) rfl
  exact ⟨⟨fd, okF__law_pair T F G__law_common, FunD.bindsN F fun _ _ _ _ _ _ us hl => match us, hl with | [_, _], _ => rfl⟩, F.kp⟩

abbrev N__law_digits : List Str := ["text", "char"]
theorem sc__law_digits : FnScope N__law_digits ["text"] (defScope s__law_digits) := ⟨rfl, rfl, rfl, by decide +kernel, rfl, by decide +kernel, by decide +kernel⟩
theorem okF__law_digits {w : World} (T : Tx fa fn ex K mg) {fd : FuncData} (F : FunD K d__law_digits.name d__law_digits.qual d__law_digits.params d__law_digits.body d__law_digits.scope (d__law_digits.dvs K) (d__law_digits.kws K) (He.fAd K d__law_digits.at_) fd)  : FnOk P w K mg base CX0 1 (He.ga K "_law_digits") fd ["text"] (spDig) := by
  have nd : (N__law_digits).Nodup := sc__law_digits.nd
  refine F.ok sc__law_digits (fun vs H Q E h => ?_) (fun cdv A outer s H vs Q E hr h => ?_)
  · obtain ⟨_, rfl, _⟩ := h
    rfl
  · obtain ⟨l, rfl, hl, k⟩ := h
    refine ⟨_, PSs.nox (pss_cons (ps_if (PW.pt (pw_or (pt_not (pt_chain op_le op_le pe_int (pe_callB call_len_str (by rfl) (T.free 13 rfl) (by decide +kernel) (pa_cons (pv 0) pa_nil)) pe_int)) (pw_or1 (PW.pt (pw_and (pt_cmpR op_eq (pe_ix ix_str (pv 0) pe_int (fun _ _ => rfl)) pe_str (nomark _)) (pw_and1 (pt_cmpR op_gt (pe_callB call_len_str (by rfl) (T.free 13 rfl) (by decide +kernel) (pa_cons (pv 0) pa_nil)) pe_int (nomark _)))))))) (pss_one (ps_ret pe_non))
      pss_nil)
      (pss_cons (ps_for PassesOwn.never rfl (pi_str (pv 0)) (pg_name (i := 1) nd rfl (by first | exact Or.inl rfl | exact Or.inr rfl))
      (pss_one (ps_if (pt_cmpR op_notIn_sign (pv 1) pe_str (by with_unfolding_all rfl)) (pss_one (ps_ret pe_non))
      pss_nil)))
      (pss_one (ps_ret (pe_callTy call_int_str (by rfl) (T.free 11 rfl) (by decide +kernel) (pa_cons (pv 0) pa_nil)))))), ?_⟩
    have VV : ∀ (i : Nat) (z : V) (σ : L2.St) (H1 : Hp), σ[i]? = some (some z) → Ev (tVar i) σ H1 z := fun _ _ _ _ h => ev_var h
    have LN : ∀ (σ : L2.St) (H1 : Hp), σ[0]? = some (some (V.str (S l))) → Ev (tCB (fun xs H Q => ∃ z, xs = [.str z] ∧ z.length ≤ sizeLine ∧ Q (.int z.length) H) (tCons (tVar 0) tNil)) σ H1 (.int (l.length : Int)) := fun _ _ h => ev_lenStr (VV 0 _ _ _ h) (by show l.length ≤ _; omega)
    refine q_when (b := !(decide (1 ≤ l.length) && decide (l.length ≤ 9)) || (decide (l.headD 0 = 48) && decide (1 < l.length))) ?cn0 (fun h H2 e2 => ?_) (fun h H2 e2 => ?_)
    case cn0 =>
      have c1 : (decide ((1 : Int) ≤ (l.length : Int)) && decide ((l.length : Int) ≤ 9)) = (decide (1 ≤ l.length) && decide (l.length ≤ 9)) := by
        congr 1 <;> exact decide_eq_decide.mpr (by omega)
      have c2 : decide ((1 : Int) < (l.length : Int)) = decide (1 < l.length) := decide_eq_decide.mpr (by omega)
      refine et_or (et_not (et_test (ev_is (ev_chain9 (LN _ _ rfl)) (congrArg V.bl c1)))) fun h => ?_
      cases l with
      | nil => cases h
      | cons a l =>
        have c3 : decide (V.str ⟨#[a]⟩ = V.str ("0" : Str)) = decide (a = 48) := decide_eq_decide.mpr ⟨fun z => by
          have y := congrArg TL.tl (V.str.inj z)
          have e0 : TL.tl ("0" : Str) = [48] := by decide +kernel
          rw [e0] at y
          exact (List.cons.inj y).1, fun z => by rw [z]; decide +kernel⟩
        exact et_is (et_and (et_test (ev_op (ev_op (VV 0 _ _ _ rfl) ev_c (rv_ixS (by show (a :: l).length ≤ _; omega) (atI_nat (j := 0) rfl))) ev_c (rv_eq rfl))) fun _ => et_test (ev_op (LN _ _ rfl) ev_c rv_I0)) (by rw [c3, c2]; rfl)
    · have e : digL l = none := by
        unfold digL
        rw [if_pos h]
      rw [e] at k
      exact s_ret ev_c fun H3 e3 => k H3 (e2.trans e3)
    have h2 : ¬ ((!(decide (1 ≤ l.length) && decide (l.length ≤ 9)) || (decide (l.headD 0 = 48) && decide (1 < l.length))) = true) := by rw [h]; decide
    refine ⟨_, rfl, _, rfl, for_it (walk_str (z := S l)) (fun j σ H' => ∃ v1, σ = [some (.str (S l)), v1] ∧ Ex H H' ∧ (l.take j).all digB = true) ⟨none, rfl, e2, rfl⟩ (fun _ _ _ _ _ => True.intro) ?_ ?_⟩
    · rintro j x σ H3 H4 hj ⟨v1, rfl, e3, ha⟩ ⟨y1, c, y2, rfl⟩
      subst y1
      have hc : l[j]? = some c := by
        have h : l.toArray[j]? = some c := y2
        rw [List.getElem?_toArray] at h
        exact h
      refine s_when (b := !(digB c)) (et_test (ev_is (ev_op (ev_var rfl) ev_c fun H1 _ Q k => ⟨c, _, rfl, rfl, k H1 (Ex.refl _)⟩) (by rw [mem_dig]))) (fun hb H5 e5 => ?_) (fun hb H5 e5 => ?_)
      · have e : digL l = none := by
          unfold digL
          rw [if_neg h2, if_neg]
          intro z
          have := List.all_eq_true.mp z c (List.mem_of_getElem? hc)
          rw [this] at hb
          cases hb
        rw [e] at k
        exact s_ret ev_c fun H6 e6 => k H6 ((e3.trans e5).trans e6)
      · refine ⟨_, rfl, e3.trans e5, ?_⟩
        rw [List.take_add_one, hc, List.all_append, ha, Option.toList_some, List.all_cons, List.all_nil, Bool.and_true, Bool.true_and]
        simpa using hb
    · rintro σ H3 ⟨v1, rfl, e3, ha⟩
      have hz : (S l).cps.size = l.length := rfl
      rw [hz, List.take_length] at ha
      have hsh : shortB l = true := by
        simp only [Bool.or_eq_true, Bool.not_eq_true', Bool.and_eq_false_iff, Bool.and_eq_true, decide_eq_true_eq, decide_eq_false_iff_not, not_or, not_and] at h2
        unfold shortB
        rw [ha, decide_eq_true (show 0 < l.length by omega), decide_eq_true (show l.length ≤ 9 by omega)]
        rfl
      have e : digL l = some (PySem.NumText.digitsVal l) := by
        unfold digL
        rw [if_neg h2, if_pos ha]
      rw [e] at k
      exact s_ret (ev_intS (VV 0 _ _ _ rfl) hsh) fun H6 e6 => k H6 (e3.trans e6)
theorem ok__law_digits {w : World} (T : Tx fa fn ex K mg)  : FnG P w K mg base 1 (He.ga K "_law_digits") ["text"] (spDig) := by
  obtain ⟨fd, F⟩ := T.c.def_ 5 (d := d__law_digits) rfl
  exact ⟨⟨fd, okF__law_digits T F , FunD.bindsN F fun _ _ _ _ _ _ us hl => match us, hl with | [_], _ => rfl⟩, F.kp⟩

abbrev N__law_read : List Str := ["text", "sign", "body", "pieces", "top", "bottom"]
theorem sc__law_read : FnScope N__law_read ["text"] (defScope s__law_read) := ⟨rfl, rfl, rfl, by decide +kernel, rfl, by decide +kernel, by decide +kernel⟩
theorem okF__law_read {w : World} (T : Tx fa fn ex K mg) {fd : FuncData} (F : FunD K d__law_read.name d__law_read.qual d__law_read.params d__law_read.body d__law_read.scope (d__law_read.dvs K) (d__law_read.kws K) (He.fAd K d__law_read.at_) fd) (G__law_digits : FnG P w K mg base 1 (He.ga K "_law_digits") ["text"] (spDig)) (G__law_common : FnG P w K mg base 1 (He.ga K "_law_common") ["one", "other"] (spCommon)) : FnOk P w K mg base CX0 2 (He.ga K "_law_read") fd ["text"] (spRead) := by
  have nd : (N__law_read).Nodup := sc__law_read.nd
  refine F.ok sc__law_read (fun vs H Q E h => ?_) (fun cdv A outer s H vs Q E hr h => ?_)
  · obtain ⟨_, rfl, _⟩ := h
    rfl
  · obtain ⟨l, rfl, hl, k⟩ := h
    refine ⟨_, PSs.nox (pss_cons (ps_set (i := 1) nd rfl (by first | exact Or.inl rfl | exact Or.inr rfl) pe_int)
      (pss_cons (ps_set (i := 2) nd rfl (by first | exact Or.inl rfl | exact Or.inr rfl) (pv 0))
      (Evl.pss_cut (ps_if (pt_cmpR op_eq (pe_slice sl_str (pv 0) po_none (po_some pe_int)) pe_str (nomark _)) (pss_cons (ps_set (i := 1) nd rfl (by first | exact Or.inl rfl | exact Or.inr rfl) (pe_un un_neg pe_int))
      (pss_one (ps_set (i := 2) nd rfl (by first | exact Or.inl rfl | exact Or.inr rfl) (pe_slice sl_str (pv 0) (po_some pe_int) po_none))))
      pss_nil)
      (pss_cons (ps_set (i := 3) nd rfl (by first | exact Or.inl rfl | exact Or.inr rfl) (pe_split (pv 2) pe_str))
      (pss_cons (ps_set (i := 4) nd rfl (by first | exact Or.inl rfl | exact Or.inr rfl) (pe_callF G__law_digits (hr.mono (by decide)) (T.glo 21 rfl) (pa_cons (pe_ix (ix_listK (K := K) rfl) (pv 3) pe_int (fun _ _ => rfl)) pa_nil)))
      (pss_cons (ps_if (PW.pt (pw_or (pt_cmpR op_isN (pv 4) pe_non (nomark _)) (pw_or (pt_cmpR op_gt (pe_callB (call_lenK (K := K) rfl) (by rfl) (T.free 13 rfl) (by decide +kernel) (pa_cons (pv 3) pa_nil)) pe_int (nomark _)) (pw_or1 (PW.pt (pw_and (pt_cmpR op_lt (pv 1) pe_int (nomark _)) (pw_and1 (pt_cmpR op_eq (pv 4) pe_int (nomark _))))))))) (pss_one (ps_ret pe_non))
      pss_nil)
      (pss_cons (ps_if (pt_cmpR op_eq (pe_callB (call_lenK (K := K) rfl) (by rfl) (T.free 13 rfl) (by decide +kernel) (pa_cons (pv 3) pa_nil)) pe_int (nomark _)) (pss_one (ps_ret (pe_tup (pa_cons (pe_op op_mulW (pv 1) (pv 4)) (pa_cons pe_int pa_nil)))))
      pss_nil)
      (pss_cons (ps_set (i := 5) nd rfl (by first | exact Or.inl rfl | exact Or.inr rfl) (pe_callF G__law_digits (hr.mono (by decide)) (T.glo 21 rfl) (pa_cons (pe_ix (ix_listK (K := K) rfl) (pv 3) pe_int (fun _ _ => rfl)) pa_nil)))
      (pss_cons (ps_if (PW.pt (pw_or (pt_cmpR op_isN (pv 5) pe_non (nomark _)) (pw_or (pt_cmpR op_lt (pv 5) pe_int (nomark _)) (pw_or1 (pt_cmpR op_ne (pe_callF G__law_common (hr.mono (by decide)) (T.glo 14 rfl) (pa_cons (pv 4) (pa_cons (pv 5) pa_nil))) pe_int (nomark _)))))) (pss_one (ps_ret pe_non))
      pss_nil)
      (pss_one (ps_ret (pe_tup (pa_cons (pe_op op_mulW (pv 1) (pv 4)) (pa_cons (pv 5) pa_nil)))))))))))))), ?_⟩
    have VV : ∀ (i : Nat) (z : V) (σ : L2.St) (H1 : Hp), σ[i]? = some (some z) → Ev (tVar i) σ H1 z := fun _ _ _ _ h => ev_var h
    have hrl := rem_le l
    refine q_asg ev_c fun H1 e1 => ?_
    refine q_asg (VV 0 _ _ _ rfl) fun H2 e2 => ?_
    obtain ⟨p0, ps, hps⟩ := spl_cons (remL l)
    have U : lread l = match digL p0 with | none => none | some t => lread2 (decide (l.take 1 = [45])) ps t := by
      unfold lread
      rw [hps] <;> rfl
    obtain ⟨sb1, sb2⟩ := spl_bits (remL l) []
    rw [hps] at sb1 sb2
    rw [List.length_nil] at sb2
    have lp0 : p0.length ≤ 100 := by have := sb2 p0 List.mem_cons_self; omega
    have X2 := e1.trans e2
    refine ⟨fun σ' H' => σ' = [some (.str (S l)), some (.int (if decide (l.take 1 = [45]) = true then -1 else 1)), some (.str (S (remL l))), none, none, none] ∧ Ex H H', ?_, ?_⟩
    · have cd : decide (V.str (S (l.take 1)) = V.str ("-" : Str)) = decide (l.take 1 = [45]) := by
        rw [s_minus]
        exact decide_eq_decide.mpr ⟨fun z => s_inj.mp (V.str.inj z), fun z => by rw [z]⟩
      refine s_when (b := decide (l.take 1 = [45])) (et_test (ev_is (ev_op (ev_cutT (n := 1) (VV 0 _ _ _ rfl) ev_c hl) ev_c (rv_eq rfl)) (congrArg V.bl cd))) (fun h H3 e3 => ?_) (fun h H3 e3 => ?_)
      · refine ⟨_, rfl, ?_⟩
        refine s_asg (ev_cutD (n := 1) (VV 0 _ _ _ rfl) ev_c hl) fun H4 e4 => ?_
        refine ⟨?_, (X2.trans e3).trans e4⟩
        have er : remL l = l.drop 1 := by
          unfold remL
          rw [if_pos (of_decide_eq_true h)]
        rw [if_pos h, er]
        rfl
      · refine ⟨?_, X2.trans e3⟩
        have er : remL l = l := by
          unfold remL
          rw [if_neg (of_decide_eq_false h)]
        rw [if_neg (by rw [h]; decide), er]
        rfl
    rintro σ' H3 ⟨rfl, e3⟩
    generalize decide (l.take 1 = [45]) = neg at U ⊢
    refine ⟨_, rfl, ⟨_, rfl⟩, S (remL l), ("/" : Str), rfl, rfl, (by decide +kernel), sz_of (by show (remL l).length + 2 ≤ _; omega), fun p hp => ?_⟩
    rw [split_S, hps]
    have hL := lst_rs (H := upd H3 p (HO.lst (((p0 :: ps).map S).map V.str))) upd_same
    have X4 := e3.trans (Ex.new (o := HO.lst (((p0 :: ps).map S).map V.str)) hp)
    generalize upd H3 p (HO.lst (((p0 :: ps).map S).map V.str)) = H4 at hL X4 ⊢
    have VL : ∀ (σ : L2.St) (H' : Hp), Ex H4 H' → σ[3]? = some (some (V.ref p)) → EvP (tVar 3) σ H' (LstAt RS (p0 :: ps)) := fun σ H' e h => evp_var (fun v H H' e h => mono_lst mono_rs _ v H H' e h) (mono_lst mono_rs _ _ _ _ e hL) h
    have IX : ∀ (j : Nat) (x : List Nat) (σ : L2.St) (H' : Hp), Ex H4 H' → σ[3]? = some (some (V.ref p)) → (p0 :: ps)[j]? = some x → Ev (tOp (rIxL K) (tVar 3) (tC (.int (j : Int)))) σ H' (.str (S x)) := fun j x σ H' e h hx => ev_of (EvP.imp (evp_ixL mono_rs (VL σ H' e h) ev_c hx) fun _ _ _ r => r)
    dsimp only
    show tSeq (tAsg _ _) _ _ [some (.str (S l)), some (.int (if neg = true then -1 else 1)), some (.str (S (remL l))), some (.ref p), none, none] _
    refine q_asg (ev_dig (IX 0 p0 _ _ (Ex.refl _) rfl rfl) lp0) fun H5 e5 => ?_
    show tSeq (tIfS _ _ _) _ _ [some (.str (S l)), some (.int (if neg = true then -1 else 1)), some (.str (S (remL l))), some (.ref p), some (optN (digL p0)), none] _
    cases ht : digL p0 with
    | none =>
      rw [ht] at U
      rw [U] at k
      refine q_when (b := true) (et_is (et_or (b := true) (et_test (ev_op (VV 4 _ _ _ rfl) ev_c fun H1 _ Q k => ⟨rfl, k H1 (Ex.refl _)⟩)) fun h => nomatch h) rfl) (fun _ H6 e6 => ?_) (fun h => nomatch h)
      exact s_ret ev_c fun H7 e7 => k _ _ (((X4.trans e5).trans e6).trans e7) rfl
    | some t =>
    rw [ht] at U
    dsimp only at U
    obtain ⟨et, bt⟩ := dig_some ht
    have LE : ∀ (σ : L2.St) (H' : Hp), Ex H4 H' → σ[3]? = some (some (V.ref p)) → Ev (tCB (rLen2 K) (tCons (tVar 3) tNil)) σ H' (.int ((p0 :: ps).length : Int)) := fun σ H' e h => ev_lenL (VL σ H' e h)
    refine q_when (b := decide (1 < ps.length) || (neg && decide (t = 0))) ?cn1 (fun h H6 e6 => ?_) (fun h H6 e6 => ?_)
    case cn1 =>
      have c1 : decide ((2 : Int) < ((p0 :: ps).length : Int)) = decide (1 < ps.length) := decide_eq_decide.mpr (by rw [List.length_cons]; omega)
      have c2 : decide ((if neg = true then -1 else 1 : Int) < 0) = neg := by cases neg <;> rfl
      have c3 : decide (V.int (t : Int) = V.int 0) = decide (t = 0) := decide_eq_decide.mpr ⟨fun z => by have := V.int.inj z; omega, fun z => by rw [z]; rfl⟩
      refine et_is (et_or (a := false) (et_test (ev_op (VV 4 _ _ _ rfl) ev_c fun H1 _ Q k => ⟨rfl, k H1 (Ex.refl _)⟩)) fun _ => et_or (et_test (ev_is (ev_op (LE _ _ e5 rfl) ev_c rv_I0) (congrArg V.bl c1))) fun _ => et_and (et_test (ev_is (ev_op (VV 1 _ _ _ rfl) ev_c rv_I0) (congrArg V.bl c2))) fun _ => et_test (ev_is (ev_op (VV 4 _ _ _ rfl) ev_c (rv_eq rfl)) (congrArg V.bl c3))) rfl
    · have e : lread2 neg ps t = none := by
        unfold lread2
        rw [if_pos h]
      rw [U, e] at k
      exact s_ret ev_c fun H7 e7 => k _ _ (((X4.trans e5).trans e6).trans e7) rfl
    have hn : ¬ ((decide (1 < ps.length) || (neg && decide (t = 0))) = true) := by rw [h]; decide
    have E6 := e5.trans e6
    have sgm : CMulW (if neg = true then -1 else 1) (t : Int) := mulW (n := 10) (m := 40) (by cases neg <;> decide) (by rw [Int.natAbs_natCast]; exact Nat.lt_of_lt_of_le bt (by decide)) (by decide) (by decide) (by decide)
    cases ps with
    | nil =>
      have e : lread2 neg [] t = some ((if neg then -1 else 1) * (t : Int), 1) := by
        unfold lread2
        rw [if_neg hn]
      rw [U, e] at k
      refine q_when (b := true) (et_test (ev_is (ev_op (LE _ _ E6 rfl) ev_c (rv_eq rfl)) rfl)) (fun _ H7 e7 => ?_) (fun h => nomatch h)
      exact s_retP (evp_pairI (ev_op (VV 1 _ _ _ rfl) (VV 4 _ _ _ rfl) fun H1 _ Q k => ⟨_, _, rfl, rfl, sgm, k H1 (Ex.refl _)⟩) ev_c) fun r H8 e8 pr => k r H8 ((((X4.trans e5).trans e6).trans e7).trans e8) pr
    | cons p1 ps =>
      have hps0 : ps = [] := by
        cases ps with
        | nil => rfl
        | cons x y =>
          exfalso
          apply hn
          rw [decide_eq_true (by rw [List.length_cons, List.length_cons]; omega)]
          rfl
      subst hps0
      have lp1 : p1.length ≤ 100 := by have := sb2 p1 (List.mem_cons_of_mem _ List.mem_cons_self); omega
      refine q_when (b := false) (et_test (ev_is (ev_op (LE _ _ E6 rfl) ev_c (rv_eq rfl)) rfl)) (fun h => nomatch h) (fun _ H7 e7 => ?_)
      have E7 := E6.trans e7
      refine q_asg (ev_dig (IX 1 p1 _ _ E7 rfl rfl) lp1) fun H8 e8 => ?_
      show tSeq (tIfS _ _ _) _ _ [some (.str (S l)), some (.int (if neg = true then -1 else 1)), some (.str (S (remL l))), some (.ref p), some (.int (t : Int)), some (optN (digL p1))] _
      have E8 := X4.trans (E7.trans e8)
      cases hb : digL p1 with
      | none =>
        have e : lread2 neg [p1] t = none := by
          unfold lread2
          rw [if_neg hn]
          dsimp only
          rw [hb]
        rw [U, e] at k
        refine q_when (b := true) (et_is (et_or (b := true) (et_test (ev_op (VV 5 _ _ _ rfl) ev_c fun H1 _ Q k => ⟨rfl, k H1 (Ex.refl _)⟩)) fun h => nomatch h) rfl) (fun _ H9 e9 => ?_) (fun h => nomatch h)
        exact s_ret ev_c fun HA eA => k _ _ ((E8.trans e9).trans eA) rfl
      | some b =>
        obtain ⟨eb, bb⟩ := dig_some hb
        have e : lread2 neg [p1] t = if (decide (b < 2) || decide (Nat.gcd t b ≠ 1)) = true then none else some ((if neg then -1 else 1) * (t : Int), (b : Int)) := by
          unfold lread2
          rw [if_neg hn]
          dsimp only
          rw [hb]
        refine q_when (b := decide (b < 2) || decide (Nat.gcd t b ≠ 1)) ?cn2 (fun h H9 e9 => ?_) (fun h H9 e9 => ?_)
        case cn2 =>
          have c1 : decide ((b : Int) < 2) = decide (b < 2) := decide_eq_decide.mpr (by omega)
          have c2 : (!decide (V.int ((Nat.gcd t b : Nat) : Int) = V.int 1)) = decide (Nat.gcd t b ≠ 1) := by
            rw [← decide_not]
            exact decide_eq_decide.mpr ⟨fun z y => z (by rw [y]; rfl), fun z y => z (by have := V.int.inj y; omega)⟩
          refine et_is (et_or (a := false) (et_test (ev_op (VV 5 _ _ _ rfl) ev_c fun H1 _ Q k => ⟨rfl, k H1 (Ex.refl _)⟩)) fun _ => et_or (et_test (ev_is (ev_op (VV 5 _ _ _ rfl) ev_c rv_I0) (congrArg V.bl c1))) fun _ => et_test (ev_is (ev_op (ev_common (VV 4 _ _ _ rfl) (VV 5 _ _ _ rfl) (Nat.lt_of_lt_of_le bb (Nat.le_trans (show 10 ^ 9 ≤ 2 ^ 40 by decide) (Nat.pow_le_pow_right (by decide) (by decide))))) ev_c (rv_ne rfl)) (congrArg V.bl c2))) rfl
        · rw [if_pos h] at e
          rw [U, e] at k
          exact s_ret ev_c fun HA eA => k _ _ ((E8.trans e9).trans eA) rfl
        · rw [if_neg (by rw [h]; decide)] at e
          rw [U, e] at k
          exact s_retP (evp_pairI (ev_op (VV 1 _ _ _ rfl) (VV 4 _ _ _ rfl) fun H1 _ Q k => ⟨_, _, rfl, rfl, sgm, k H1 (Ex.refl _)⟩) (VV 5 _ _ _ rfl)) fun r HA eA pr => k r HA ((E8.trans e9).trans eA) pr
theorem ok__law_read {w : World} (T : Tx fa fn ex K mg) (G__law_digits : FnG P w K mg base 1 (He.ga K "_law_digits") ["text"] (spDig)) (G__law_common : FnG P w K mg base 1 (He.ga K "_law_common") ["one", "other"] (spCommon)) : FnG P w K mg base 2 (He.ga K "_law_read") ["text"] (spRead) := by
  obtain ⟨fd, F⟩ := T.c.def_ 6 (d := d__law_read) rfl
  exact ⟨⟨fd, okF__law_read T F G__law_digits G__law_common, FunD.bindsN F fun _ _ _ _ _ _ us hl => match us, hl with | [_], _ => rfl⟩, F.kp⟩

abbrev N_is_short : List Str := ["word"]
theorem sc_is_short : FnScope N_is_short ["word"] (defScope s_is_short) := ⟨rfl, rfl, rfl, by decide +kernel, rfl, by decide +kernel, by decide +kernel⟩
theorem okF_is_short {w : World} (T : Tx fa fn ex K mg) {fd : FuncData} (F : FunD K d_is_short.name d_is_short.qual d_is_short.params d_is_short.body d_is_short.scope (d_is_short.dvs K) (d_is_short.kws K) (He.fAd K d_is_short.at_) fd)  : FnOk P w K mg base CX0 1 (He.ga K "is_short") fd ["word"] (spShort) := by
  have nd : (N_is_short).Nodup := sc_is_short.nd
  refine F.ok sc_is_short (fun vs H Q E h => ?_) (fun cdv A outer s H vs Q E hr h => ?_)
  · obtain ⟨_, rfl, _⟩ := h
    rfl
  · obtain ⟨l, rfl, hc, hl, k⟩ := h
    refine ⟨_, PSs.nox (pss_one (ps_ret (pe_and (pe_bm0 PySem.F.plainAttrs_str PySem.F.slot_str_isascii PySem.F.type_str_isascii mt_isascii (pv 0)) (pe_and (pe_bm0 PySem.F.plainAttrs_str PySem.F.slot_str_isdigit PySem.F.type_str_isdigit mt_isdigit (pv 0)) (pe_one (pe_cmpR op_le (pe_callB call_len_str (by rfl) (T.free 13 rfl) (by decide +kernel) (pa_cons (pv 0) pa_nil)) (pe_glob (v := .int 9) rfl (T.int 24 rfl).choose_spec ⟨_, rfl⟩) (nomark _))))))), ?_⟩
    have V0 : ∀ H1, Ev (tVar 0) [some (V.str (S l))] H1 (.str (S l)) := fun _ => ev_var rfl
    exact s_ret (ev_is (ev_andV (ev_mt (V0 _) rfl (ascii_S hc)) fun _ => ev_andV (ev_mt (g := Txt.isdigit) (V0 _) rfl (isdigit_S hc)) fun _ => ev_op (ev_lenStr (V0 _) (by show l.length ≤ _; omega)) ev_c rv_I0) (congrArg V.bl (short_eq l))) fun H2 e2 => k H2 e2
theorem ok_is_short {w : World} (T : Tx fa fn ex K mg)  : FnG P w K mg base 1 (He.ga K "is_short") ["word"] (spShort) := by
  obtain ⟨fd, F⟩ := T.c.def_ 7 (d := d_is_short) rfl
  exact ⟨⟨fd, okF_is_short T F , FunD.bindsN F fun _ _ _ _ _ _ us hl => match us, hl with | [_], _ => rfl⟩, F.kp⟩

abbrev N_Ratio_init : List Str := ["self", "top", "bottom", "common"]
theorem sc_Ratio_init : FnScope N_Ratio_init ["self", "top", "bottom"] (defScope s_Ratio_init) := ⟨rfl, rfl, rfl, by decide +kernel, rfl, by decide +kernel, by decide +kernel⟩
theorem okF_Ratio_init {w : World} (T : Tx fa fn ex K mg) {fd : FuncData} (F : FunD K d_Ratio_init.name d_Ratio_init.qual d_Ratio_init.params d_Ratio_init.body d_Ratio_init.scope (d_Ratio_init.dvs K) (d_Ratio_init.kws K) (He.fAd K d_Ratio_init.at_) fd)  : FnOk P w K mg base CX0 1 (He.ma K (He.ga K "Ratio") "__init__") fd ["self", "top", "bottom"] (spInit (He.ga K "Ratio")) := by
  have nd : (N_Ratio_init).Nodup := sc_Ratio_init.nd
  refine F.ok sc_Ratio_init (fun vs H Q E h => ?_) (fun cdv A outer s H vs Q E hr h => ?_)
  · obtain ⟨_, _, _, _, rfl, _⟩ := h
    rfl
  · obtain ⟨p, dx, t, b, rfl, hp, hb, hl, k⟩ := h
    refine ⟨_, PSs.nox (pss_cons (ps_if (pt_cmpR op_eq (pv 2) pe_int (nomark _)) (pss_one ps_never)
      pss_nil)
      (pss_cons (ps_set (i := 3) nd rfl (by first | exact Or.inl rfl | exact Or.inr rfl) (pe_callBfun cr_gcd rfl (tgcd T) (pa_cons (pv 1) (pa_cons (pv 2) pa_nil))))
      (pss_cons (ps_if (pt_cmpR op_lt (pv 2) pe_int (nomark _)) (pss_one (ps_set (i := 3) nd rfl (by first | exact Or.inl rfl | exact Or.inr rfl) (pe_un un_neg (pv 3))))
      pss_nil)
      (pss_cons (ps_fld (pv 0) (pe_op op_fdivX (pv 1) (pv 3)) rfl)
      (pss_one (ps_fld (pv 0) (pe_op op_fdivX (pv 2) (pv 3)) rfl)))))), ?_⟩
    obtain ⟨g1, g2⟩ := gcd_log (t := t) hb hl
    refine ⟨_, rfl, rfl, _, rfl, ?_⟩
    refine ifF (dec_ne hb) ?_
    refine ⟨_, rfl, _, rfl, _, _, rfl, ?_⟩
    refine ⟨_, rfl, _, _, rfl, rfl, _, rfl, ?_⟩
    refine ifB (fun hc => ?_) (fun hc => ?_)
    · obtain ⟨e1, e2⟩ := init_neg (t := t) (of_decide_eq_true hc)
      refine ⟨_, rfl, _, rfl, ?_⟩
      refine ⟨_, rfl, _, rfl, _, _, rfl, rfl, gcd_logN hb hl, _, rfl, p, _, dx, _, rfl, hp, tcl T, ttop T, by show 0 < 1000; decide, ?_⟩
      refine ⟨_, rfl, _, rfl, _, _, rfl, rfl, gcd_logN hb hl, _, rfl, p, _, dx, _, rfl, upd_same, tcl T, tbot T, by show 1 < 1000; decide, ?_⟩
      refine k _ ?_
      rw [upd_upd, putF_top, putF_bot, e1, e2]
      rfl
    · obtain ⟨e1, e2⟩ := init_pos (t := t) (b := b) (by have := of_decide_eq_false hc; omega)
      refine ⟨_, rfl, _, rfl, _, _, rfl, rfl, gcd_log hb hl, _, rfl, p, _, dx, _, rfl, hp, tcl T, ttop T, by show 0 < 1000; decide, ?_⟩
      refine ⟨_, rfl, _, rfl, _, _, rfl, rfl, gcd_log hb hl, _, rfl, p, _, dx, _, rfl, upd_same, tcl T, tbot T, by show 1 < 1000; decide, ?_⟩
      refine k _ ?_
      rw [upd_upd, putF_top, putF_bot, e1, e2]
      rfl
theorem ok_Ratio_init {w : World} (T : Tx fa fn ex K mg)  : FnG P w K mg base 1 (He.ma K (He.ga K "Ratio") "__init__") ["self", "top", "bottom"] (spInit (He.ga K "Ratio")) := by
  obtain ⟨fd, F⟩ := T.c.def_ 8 (d := d_Ratio_init) rfl
  exact ⟨⟨fd, okF_Ratio_init T F , (by obtain ⟨ds, v, b⟩ := FunD.binds1 (ps := ["self", "top", "bottom"]) F 3 1 (List.cons_ne_nil _ _) rfl (fun _ _ _ _ _ _ _ us its hu hi => match us, its, hu, hi with | [_, _, _], [_], _, _ => ⟨_, rfl, rfl⟩); cases v; exact b)⟩, F.kp⟩
theorem ok_Ratio_init1 {w : World} (T : Tx fa fn ex K mg) : FnD1 P w K mg base 1 (He.ma K (He.ga K "Ratio") "__init__") ["self", "top", "bottom"] [.int 1] (spInit (He.ga K "Ratio")) := by
  obtain ⟨fd, F⟩ := T.c.def_ 8 (d := d_Ratio_init) rfl
  obtain ⟨ds, v, b⟩ := FunD.binds1 (ps := ["self", "top", "bottom"]) F 2 0 (List.cons_ne_nil _ _) rfl (fun _ _ _ _ _ _ _ us its hu hi => match us, its, hu, hi with | [_, _], [_], _, _ => ⟨_, rfl, rfl⟩)
  exact ⟨⟨fd, ds, okF_Ratio_init T F, v, b⟩, F.kp⟩

abbrev N_Ratio_str : List Str := ["self"]
theorem sc_Ratio_str : FnScope N_Ratio_str ["self"] (defScope s_Ratio_str) := ⟨rfl, rfl, rfl, by decide +kernel, rfl, by decide +kernel, by decide +kernel⟩
theorem okF_Ratio_str {w : World} (T : Tx fa fn ex K mg) {fd : FuncData} (F : FunD K d_Ratio_str.name d_Ratio_str.qual d_Ratio_str.params d_Ratio_str.body d_Ratio_str.scope (d_Ratio_str.dvs K) (d_Ratio_str.kws K) (He.fAd K d_Ratio_str.at_) fd)  : FnOk P w K mg base CX0 1 (He.ma K (He.ga K "Ratio") "__str__") fd ["self"] (spStr (He.ga K "Ratio")) := by
  have nd : (N_Ratio_str).Nodup := sc_Ratio_str.nd
  refine F.ok sc_Ratio_str (fun vs H Q E h => ?_) (fun cdv A outer s H vs Q E hr h => ?_)
  · obtain ⟨_, _, rfl, _⟩ := h
    rfl
  · obtain ⟨x, q, rfl, ⟨a, da, rfl, ha⟩, hq, k⟩ := h
    refine ⟨_, PSs.nox (pss_cons (ps_if (pt_cmpR op_eq (pe_fldK (K := K) rfl (pv 0) rfl) pe_int (nomark _)) (pss_one (ps_ret (pe_callTy call_str_int (by rfl) (T.free 5 rfl) (by decide +kernel) (pa_cons (pe_fldK (K := K) rfl (pv 0) rfl) pa_nil))))
      pss_nil)
      (pss_one (ps_ret (pe_joined (.cons (pe_fmt (pe_fldK (K := K) rfl (pv 0) rfl)) (.cons pe_str (.cons (pe_fmt (pe_fldK (K := K) rfl (pv 0) rfl)) .nil))))))), ?_⟩
    have hd : ((q.den : Nat) : Int).natAbs < 10 ^ 40 := by rw [Int.natAbs_natCast]; exact hq.2
    refine ⟨_, rfl, _, _, _, _, _, rfl, ha, tcl T, tbot T, ratO_bot _, rfl, _, rfl, ?_⟩
    refine ifB (fun hc => ?_) (fun hc => ?_)
    · have h1 : q.den = 1 := by
        have := V.int.inj (of_decide_eq_true hc)
        omega
      refine ⟨_, rfl, _, _, _, _, _, rfl, ha, tcl T, ttop T, ratO_top _, _, rfl, log_ok hq.1, ?_⟩
      rw [str_int, ← CL_one h1]
      exact k _ (Ex.refl _)
    · have h1 : ¬ q.den = 1 := fun z => of_decide_eq_false hc (by rw [z]; rfl)
      refine ⟨_, rfl, _, _, _, _, _, rfl, ha, tcl T, ttop T, ratO_top _, .inr ⟨_, rfl, log_ok hq.1, _, rfl, fm1 hq.1, _, rfl, fm2 hq.1, _, rfl, _, _, _, _, _, rfl, ha, tcl T, tbot T, ratO_bot _, .inr ⟨_, rfl, log_ok hd, _, rfl, fm3 hq h1, ?_⟩⟩⟩
      show Q (.str (Str.empty ++ Str.ofString (toString q.num) ++ ("/" : Str) ++ Str.ofString (toString ((q.den : Nat) : Int)))) H
      rw [CL_join h1]
      exact k _ (Ex.refl _)
theorem ok_Ratio_str {w : World} (T : Tx fa fn ex K mg)  : FnG P w K mg base 1 (He.ma K (He.ga K "Ratio") "__str__") ["self"] (spStr (He.ga K "Ratio")) := by
  obtain ⟨fd, F⟩ := T.c.def_ 9 (d := d_Ratio_str) rfl
  exact ⟨⟨fd, okF_Ratio_str T F , FunD.bindsN F fun _ _ _ _ _ _ us hl => match us, hl with | [_], _ => rfl⟩, F.kp⟩

abbrev N_Ratio_of : List Str := ["text", "head", "slash", "tail", "ratio"]
theorem sc_Ratio_of : FnScope N_Ratio_of ["text"] (defScope s_Ratio_of) := ⟨rfl, rfl, rfl, by decide +kernel, rfl, by decide +kernel, by decide +kernel⟩
theorem okF_Ratio_of {w : World} (T : Tx fa fn ex K mg) (Z : BadX P w K mg base (He.ga K "BadNumber")) {nm : Str} {g : Addr} {fd : FuncData} (F : FunD K nm d_Ratio_of.qual d_Ratio_of.params d_Ratio_of.body d_Ratio_of.scope [] [] g fd) (G_is_short : FnG P w K mg base 1 (He.ga K "is_short") ["word"] (spShort)) (G_Ratio_init : FnG P w K mg base 1 (He.ma K (He.ga K "Ratio") "__init__") ["self", "top", "bottom"] (spInit (He.ga K "Ratio"))) (G_Ratio_str : FnG P w K mg base 1 (He.ma K (He.ga K "Ratio") "__str__") ["self"] (spStr (He.ga K "Ratio"))) : FnOk P w K mg base (L2.CX P w) 5 g fd ["text"] (spOf (He.ga K "Ratio") (He.ga K "BadNumber")) := by
  have nd : (N_Ratio_of).Nodup := sc_Ratio_of.nd
  refine F.ok (CX := L2.CX P w) sc_Ratio_of (fun vs H Q E h => ?_) (fun cdv A outer s H vs Q E hr h => ?_)
  · obtain ⟨_, rfl, _⟩ := h
    rfl
  · obtain ⟨l, rfl, hc, hl, kq, ke⟩ := h
    refine ⟨_, (pss_cons (ps_asg (pe_partition (pv 0) pe_str) (pg_tup rfl (pgs_cons (pg_name (i := 1) nd rfl (by first | exact Or.inl rfl | exact Or.inr rfl)) (pgs_cons (pg_name (i := 2) nd rfl (by first | exact Or.inl rfl | exact Or.inr rfl)) (pgs_cons (pg_name (i := 3) nd rfl (by first | exact Or.inl rfl | exact Or.inr rfl)) pgs_nil)))))
      (pss_cons (ps_if (pt_not (pt_val (pe_callF G_is_short (hr.mono (by decide)) (T.glo 23 rfl) (pa_cons (pe_m1 PySem.F.slot_str_removeprefix PySem.F.type_str_removeprefix mt_removeprefix (pv 1) pe_str) pa_nil)))) (pss_one (ps_raise rfl (takes_of rfl rfl rfl rfl) (pmk_bad Z (hr.mono (by decide)) (T.glo 17 rfl) (pa_cons (pv 0) pa_nil))))
      pss_nil)
      (Evl.pss_cut (ps_if (pt_cmpR op_eq (pv 2) pe_str (nomark _)) (pss_one (ps_set (i := 3) nd rfl (by first | exact Or.inl rfl | exact Or.inr rfl) pe_str))
      pss_nil)
      (pss_cons (ps_if (PW.pt (pw_or (pt_not (pt_val (pe_callF G_is_short (hr.mono (by decide)) (T.glo 23 rfl) (pa_cons (pv 3) pa_nil)))) (pw_or1 (pt_cmpR op_eq (pe_callTy call_int_str (by rfl) (T.free 11 rfl) (by decide +kernel) (pa_cons (pv 3) pa_nil)) pe_int (nomark _))))) (pss_one (ps_raise rfl (takes_of rfl rfl rfl rfl) (pmk_bad Z (hr.mono (by decide)) (T.glo 17 rfl) (pa_cons (pv 0) pa_nil))))
      pss_nil)
      (pss_cons (ps_set (i := 4) nd rfl (by first | exact Or.inl rfl | exact Or.inr rfl) (pe_makeF (T.mkr 8 rfl) G_Ratio_init (hr.mono (by decide)) (T.glo 9 rfl) (pa_cons (pe_callTy call_int_str (by rfl) (T.free 11 rfl) (by decide +kernel) (pa_cons (pv 1) pa_nil)) (pa_cons (pe_callTy call_int_str (by rfl) (T.free 11 rfl) (by decide +kernel) (pa_cons (pv 3) pa_nil)) pa_nil))))
      (pss_cons (ps_if (pt_cmpR op_ne (pe_callTy (cr_strF G_Ratio_str (hr.mono (by decide)) (T.meth 7 rfl)) (by rfl) (T.free 5 rfl) (by decide +kernel) (pa_cons (pv 4) pa_nil)) (pv 0) (nomark _)) (pss_one (ps_raise rfl (takes_of rfl rfl rfl rfl) (pmk_bad Z (hr.mono (by decide)) (T.glo 17 rfl) (pa_cons (pv 0) pa_nil))))
      pss_nil)
      (pss_one (ps_ret (pv 4))))))))), ?_⟩
    obtain ⟨p1, p2, p3, p4⟩ := part_ok hc
    have KE : ∀ {te : TE} {σ : L2.St} {H' : Hp}, pread l = none → Ex H H' → Ev te σ H' (.str (S l)) → tMkO (He.ga K "BadNumber") (spBad (He.ga K "BadNumber")) [] (tCons te tNil) σ H' (fun cls d H2 => E cls d H2) := fun hn e h => mk_bad h (by show l.length ≤ _; omega) (by show ∀ c ∈ l.toArray.toList, _; rw [List.toList_toArray]; exact hc) fun d H2 e2 hd => ke hn d H2 (e.trans e2) hd
    refine ⟨_, rfl, ⟨_, rfl⟩, S l, ("/" : Str), rfl, rfl, (by decide +kernel), sz_of (by show l.length ≤ _; omega), fun p hp => ?_⟩
    rw [part_S]
    have hx := Ex.new (o := HO.tup [V.str (S (partL l).1), V.str (if (partL l).2.1 then ("/" : Str) else Str.empty), V.str (S (partL l).2.2)]) hp
    refine ⟨p, _, rfl, SqT.of upd_same, rfl, _, _, rfl, _, _, rfl, _, _, rfl, rfl, ?_⟩
    generalize upd H p (HO.tup [V.str (S (partL l).1), V.str (if (partL l).2.1 then ("/" : Str) else Str.empty), V.str (S (partL l).2.2)]) = H1 at hx ⊢
    have U : pread l = if shortB (remL (partL l).1) = true then (if (shortB (tailL (partL l).2.1 (partL l).2.2) = true ∧ PySem.NumText.digitsVal (tailL (partL l).2.1 (partL l).2.2) ≠ 0) then if CL (Rat.divInt (ivalL (partL l).1) (PySem.NumText.digitsVal (tailL (partL l).2.1 (partL l).2.2))) = l then some (Rat.divInt (ivalL (partL l).1) (PySem.NumText.digitsVal (tailL (partL l).2.1 (partL l).2.2))) else none else none) else none := rfl
    have VV : ∀ (i : Nat) (z : V) (σ : L2.St) (H1 : Hp), σ[i]? = some (some z) → Ev (tVar i) σ H1 z := fun _ _ _ _ h => ev_var h
    have A0 := tail_ok (s := (partL l).2.1) p4 (by omega)
    generalize (partL l).2.1 = sl at U A0 ⊢
    generalize (partL l).2.2 = tl at U A0 p2 p4 ⊢
    generalize (partL l).1 = hd at U p1 p3 ⊢
    dsimp only
    show tSeq (tIfS _ _ _) _ _ [some (.str (S l)), some (.str (S hd)), some (.str (if sl then ("/" : Str) else Str.empty)), some (.str (S tl)), none] H1
    refine q_when (b := !(shortB (remL hd))) ?cn0 (fun h H2 e2 => ?_) (fun h H2 e2 => ?_)
    case cn0 => exact et_not (et_test (ev_short (ev_remp (VV 1 _ _ _ rfl) (by omega)) (rem_asc p3) (by have := rem_le hd; omega)))
    · have h1 : ¬ shortB (remL hd) = true := by
        rw [Bool.not_eq_true'] at h
        rw [h]
        decide
      rw [if_neg h1] at U
      exact KE U (hx.trans e2) (VV 0 _ _ _ rfl)
    have h1 : shortB (remL hd) = true := by
      rw [Bool.not_eq_false'] at h
      exact h
    rw [if_pos h1] at U
    refine ⟨fun σ' H' => σ' = [some (.str (S l)), some (.str (S hd)), some (.str (if sl then ("/" : Str) else Str.empty)), some (.str (S (tailL sl tl))), none] ∧ Ex H H', ?_, ?_⟩
    · refine s_when (et_test (ev_op (VV 2 _ _ _ rfl) ev_c (rv_eq rfl))) (fun h H3 e3 => ?_) (fun h H3 e3 => ?_)
      · have hs : sl = false := by
          cases sl
          · rfl
          · exact absurd (V.str.inj (of_decide_eq_true h)) (by decide +kernel)
        subst hs
        refine ⟨?_, (hx.trans e2).trans e3⟩
        have e1 : ("1" : Str) = S [49] := by decide +kernel
        show [some (V.str (S l)), some (.str (S hd)), some (.str (if false = true then ("/" : Str) else Str.empty)), some (.str ("1" : Str)), none] = _
        rw [e1]
        rfl
      · have hs : sl = true := by
          cases sl
          · exact absurd (decide_eq_true (rfl : V.str Str.empty = V.str Str.empty)) (by rw [← Bool.not_eq_true] at h; exact h)
          · rfl
        subst hs
        exact ⟨rfl, (hx.trans e2).trans e3⟩
    rintro σ' H3 ⟨rfl, e3⟩
    generalize tailL sl tl = tt at U A0 ⊢
    obtain ⟨A1, A2⟩ := A0
    refine q_when (b := !(shortB tt) || decide (PySem.NumText.digitsVal tt = 0)) ?cnd (fun h H4 e4 => ?_) (fun h H4 e4 => ?_)
    case cnd =>
      cases hs : shortB tt with
      | false => exact et_is (et_or (et_not (et_test (b := false) (by rw [← hs]; exact ev_short (VV 3 _ _ _ rfl) A1 A2))) (b := true) fun z => nomatch z) rfl
      | true => exact et_is (et_or (et_not (et_test (b := true) (by rw [← hs]; exact ev_short (VV 3 _ _ _ rfl) A1 A2))) fun _ => et_test (ev_op (ev_intS (VV 3 _ _ _ rfl) hs) ev_c (rv_eq rfl))) (by
          show (false || decide (V.int ((PySem.NumText.digitsVal tt : Nat) : Int) = V.int 0)) = (false || decide (PySem.NumText.digitsVal tt = 0))
          congr 1
          exact decide_eq_decide.mpr ⟨fun z => by have := V.int.inj z; omega, fun z => by rw [z]; rfl⟩)
    · have h2 : ¬ (shortB tt = true ∧ PySem.NumText.digitsVal tt ≠ 0) := fun ⟨z1, z2⟩ => by
        rw [z1, decide_eq_false z2] at h
        cases h
      rw [if_neg h2] at U
      exact KE U (e3.trans e4) (VV 0 _ _ _ rfl)
    have h2 : shortB tt = true ∧ PySem.NumText.digitsVal tt ≠ 0 := by
      cases hs : shortB tt with
      | false => rw [hs] at h; cases h
      | true =>
        rw [hs] at h
        exact ⟨rfl, of_decide_eq_false h⟩
    rw [if_pos h2] at U
    obtain ⟨d1, d2, d3⟩ := short_dig h2.1
    have hb : ((PySem.NumText.digitsVal tt : Nat) : Int) ≠ 0 := by have := h2.2; omega
    have hb9 := dv_lt9 d1 d2
    have hbig : ((PySem.NumText.digitsVal tt : Nat) : Int).natAbs < 2 ^ 9000 := by
      rw [Int.natAbs_natCast]
      exact Nat.lt_of_lt_of_le hb9 (Nat.le_trans (show 10 ^ 9 ≤ 2 ^ 40 by decide) (Nat.pow_le_pow_right (by decide) (by decide)))
    have hi9 : (ivalL hd).natAbs < 10 ^ 9 := by
      obtain ⟨a1, a2, a3⟩ := short_dig h1
      unfold remL at a1 a2
      unfold ivalL
      split
      · rename_i c
        rw [if_pos c] at a1 a2
        rw [Int.natAbs_neg, Int.natAbs_natCast]
        exact dv_lt9 a1 a2
      · rename_i c
        rw [if_neg c] at a1 a2
        rw [Int.natAbs_natCast]
        exact dv_lt9 a1 a2
    have bq : Bd (Rat.divInt (ivalL hd) (PySem.NumText.digitsVal tt)) := ⟨Nat.lt_of_le_of_lt (num_le _ _) hi9, Nat.lt_of_le_of_lt (den_le _ _ hb) (by rw [Int.natAbs_natCast]; exact hb9)⟩
    refine q_asgQ (fq_make (ev_intH (VV 1 _ _ _ rfl) h1) (ev_intS (VV 3 _ _ _ rfl) h2.1) hb hbig) fun v H5 e5 r5 => ?_
    generalize Rat.divInt (ivalL hd) (PySem.NumText.digitsVal tt) = q at U bq r5 ⊢
    show tSeq (tIfS _ _ _) _ _ [some (.str (S l)), some (.str (S hd)), some (.str (if sl then ("/" : Str) else Str.empty)), some (.str (S tt)), some v] _
    refine q_when (et_test (ev_op (ev_strQ (fq_var (i := 4) r5 rfl) bq.big) (VV 0 _ _ _ rfl) (rv_ne rfl))) (fun h H6 e6 => ?_) (fun h H6 e6 => ?_)
    · have h3 : ¬ CL q = l := fun z => by
        rw [z] at h
        simp at h
      rw [if_neg h3] at U
      exact KE U (((e3.trans e4).trans e5).trans e6) (VV 0 _ _ _ rfl)
    · have h3 : CL q = l := by
        have z := s_inj.mp (V.str.inj (of_decide_eq_true (by simpa using h)))
        exact z
      rw [if_pos h3] at U
      refine ⟨v, rfl, ?_⟩
      exact kq q U v _ (((e3.trans e4).trans e5).trans e6) (r5.mono e6)
theorem ok_Ratio_of {w : World} (T : Tx fa fn ex K mg) (Z : BadX P w K mg base (He.ga K "BadNumber")) (hS : SmC K (He.ga K "Ratio") "of" (He.fAd K d_RO.at_) (adW K d_RO) ∧ ∃ fd, FunD K fd.name d_RO.qual d_RO.params d_RO.body d_RO.scope [] [] (adW K d_RO) fd) (G_is_short : FnG P w K mg base 1 (He.ga K "is_short") ["word"] (spShort)) (G_Ratio_init : FnG P w K mg base 1 (He.ma K (He.ga K "Ratio") "__init__") ["self", "top", "bottom"] (spInit (He.ga K "Ratio"))) (G_Ratio_str : FnG P w K mg base 1 (He.ma K (He.ga K "Ratio") "__str__") ["self"] (spStr (He.ga K "Ratio"))) : FnSt P w K mg base 5 (He.ga K "Ratio") "of" ["text"] (spOf (He.ga K "Ratio") (He.ga K "BadNumber")) := by
  obtain ⟨c, fd, F⟩ := hS
  exact ⟨_, _, c, ⟨fd, okF_Ratio_of T Z F G_is_short G_Ratio_init G_Ratio_str, FunD.bindsN F fun _ _ _ _ _ _ us hl => match us, hl with | [_], _ => rfl⟩, F.kp⟩

abbrev N__law_is : List Str := ["actual", "pair"]
theorem sc__law_is : FnScope N__law_is ["actual", "pair"] (defScope s__law_is) := ⟨rfl, rfl, rfl, by decide +kernel, rfl, by decide +kernel, by decide +kernel⟩
theorem okF__law_is {w : World} (T : Tx fa fn ex K mg) {fd : FuncData} (F : FunD K d__law_is.name d__law_is.qual d__law_is.params d__law_is.body d__law_is.scope (d__law_is.dvs K) (d__law_is.kws K) (He.fAd K d__law_is.at_) fd)  : FnOk P w K mg base CX0 2 (He.ga K "_law_is") fd ["actual", "pair"] (spIs (He.ga K "Ratio")) := by
  have nd : (N__law_is).Nodup := sc__law_is.nd
  refine F.ok sc__law_is (fun vs H Q E h => ?_) (fun cdv A outer s H vs Q E hr h => ?_)
  · obtain ⟨_, _, _, rfl, _⟩ := h
    rfl
  · obtain ⟨x, y, q, rfl, ⟨a, da, rfl, ha⟩, ⟨b, rfl, hb⟩, k⟩ := h
    refine ⟨_, PSs.nox (pss_cons (ps_if (PW.pt (pw_or (pt_not (pt_val (pe_callB (call_isiKK (K := K) rfl) (by rfl) (T.free 19 rfl) (by decide +kernel) (pa_cons (pv 0) (pa_cons (pe_glob (v := .ref (He.ga K "Ratio")) rfl (T.glo 9 rfl) rfl) pa_nil))))) (pw_or (pt_val (pe_callB (call_isiKK (K := K) rfl) (by rfl) (T.free 19 rfl) (by decide +kernel) (pa_cons (pe_fldK (K := K) rfl (pv 0) rfl) (pa_cons (pe_bltn (v := .ty "bool") (by rfl) (T.free 25 rfl) (by decide +kernel) rfl) pa_nil)))) (pw_or1 (pt_val (pe_callB (call_isiKK (K := K) rfl) (by rfl) (T.free 19 rfl) (by decide +kernel) (pa_cons (pe_fldK (K := K) rfl (pv 0) rfl) (pa_cons (pe_bltn (v := .ty "bool") (by rfl) (T.free 25 rfl) (by decide +kernel) rfl) pa_nil)))))))) (pss_one (ps_ret pe_bl))
      pss_nil)
      (pss_one (ps_ret (pe_and (pe_callB (call_isiKK (K := K) rfl) (by rfl) (T.free 19 rfl) (by decide +kernel) (pa_cons (pe_fldK (K := K) rfl (pv 0) rfl) (pa_cons (pe_bltn (v := .ty "int") (by rfl) (T.free 11 rfl) (by decide +kernel) rfl) pa_nil))) (pe_one (pe_cmpR (op_tupEq (K := K) rfl (hr.mono (by decide))) (pe_tup (pa_cons (pe_fldK (K := K) rfl (pv 0) rfl) (pa_cons (pe_fldK (K := K) rfl (pv 0) rfl) pa_nil))) (pv 1) (nomark _))))))), ?_⟩
    refine ⟨_, rfl, _, _, _, _, _, rfl, .own _, (tri T).ty ha, (tri T).me, _, rfl, ?_⟩
    refine ifF rfl ?_
    refine ⟨_, rfl, _, _, _, _, _, rfl, ha, tcl T, ttop T, ratO_top _, _, _, _, _, false, rfl, .ty _, .base (.int _), kit_ty (by decide +kernel), _, rfl, ?_⟩
    refine ifF rfl ?_
    refine ⟨_, rfl, _, _, _, _, _, rfl, ha, tcl T, tbot T, ratO_bot _, _, _, _, _, false, rfl, .ty _, .base (.int _), kit_ty (by decide +kernel), _, rfl, ?_⟩
    refine ifF rfl ?_
    refine ⟨_, rfl, _, _, _, _, _, rfl, ha, tcl T, ttop T, ratO_top _, _, _, _, _, true, rfl, .ty _, .base (.int _), kit_ty (by decide +kernel), _, rfl, ?_⟩
    refine ifT rfl ?_
    refine ⟨_, rfl, _, _, _, _, _, rfl, ha, tcl T, ttop T, ratO_top _, _, rfl, _, _, _, _, _, rfl, ha, tcl T, tbot T, ratO_bot _, (by show 2 ≤ sizeLine; decide), fun p hp => ?_⟩
    refine ⟨_, rfl, pair_same upd_same (Ex.new hp _ _ hb), fun H' e => ?_⟩
    exact k _ ((Ex.new hp).trans e)
theorem ok__law_is {w : World} (T : Tx fa fn ex K mg)  : FnG P w K mg base 2 (He.ga K "_law_is") ["actual", "pair"] (spIs (He.ga K "Ratio")) := by
  obtain ⟨fd, F⟩ := T.c.def_ 10 (d := d__law_is) rfl
  exact ⟨⟨fd, okF__law_is T F , FunD.bindsN F fun _ _ _ _ _ _ us hl => match us, hl with | [_, _], _ => rfl⟩, F.kp⟩

abbrev N__law_fits : List Str := ["text", "due", "actual", "e"]
theorem sc__law_fits : FnScope N__law_fits ["text"] (defScope s__law_fits) := ⟨rfl, rfl, rfl, by decide +kernel, rfl, by decide +kernel, by decide +kernel⟩
theorem okF__law_fits {w : World} (T : Tx fa fn ex K mg) {fd : FuncData} (F : FunD K d__law_fits.name d__law_fits.qual d__law_fits.params d__law_fits.body d__law_fits.scope (d__law_fits.dvs K) (d__law_fits.kws K) (He.fAd K d__law_fits.at_) fd) (G__law_read : FnG P w K mg base 2 (He.ga K "_law_read") ["text"] (spRead)) (G_Ratio_of : FnSt P w K mg base 5 (He.ga K "Ratio") "of" ["text"] (spOf (He.ga K "Ratio") (He.ga K "BadNumber"))) (G__law_is : FnG P w K mg base 2 (He.ga K "_law_is") ["actual", "pair"] (spIs (He.ga K "Ratio"))) : FnOk P w K mg base CX0 6 (He.ga K "_law_fits") fd ["text"] (spFits) := by
  have nd : (N__law_fits).Nodup := sc__law_fits.nd
  refine F.ok sc__law_fits (fun vs H Q E h => ?_) (fun cdv A outer s H vs Q E hr h => ?_)
  · obtain ⟨_, rfl, _⟩ := h
    rfl
  · obtain ⟨l, rfl, hc, hl, k⟩ := h
    refine ⟨_, PSs.nox (pss_cons (ps_set (i := 1) nd rfl (by first | exact Or.inl rfl | exact Or.inr rfl) (pe_callF G__law_read (hr.mono (by decide)) (T.glo 16 rfl) (pa_cons (pv 0) pa_nil))) (pss_cons (ps_try_as (i := 3) (ts := fun a cls d => fun D σ H => (cls = Value.ref (He.ga K "BadNumber") ∧ ∃ dd, d = some dd) ∧ tRet (tAndV (tOp (fun x y H Q => y = V.non ∧ Q (V.bl (decide (x = V.non))) H) (tVar 1) (tC .non)) (tAndV (tOp rEq (tXf a cls d (He.ga K "BadNumber") "text" (tVar 3)) (tVar 0)) (tCB (rIsEd K (He.ga K "BadNumber") a (d.getD 0)) (tCons (tVar 3) (tCons (tC (.ref (He.ga K "SurveyError"))) tNil))))) D σ H) rfl rfl nd rfl rfl ⟨rfl, by decide, .inl (T.glo 17 rfl)⟩ takes0 (fun W pn xe tk po => pss_one (ps_set (i := 2) nd rfl (by first | exact Or.inl rfl | exact Or.inr rfl) (pe_sta (pe_glob (v := .ref (He.ga K "Ratio")) rfl (T.glo 9 rfl) rfl) G_Ratio_of (hr.mono (by decide)) tk (pa_cons (pv 0) pa_nil)))) (fun a oe cls d pn hz hv => pss_and fun hh => by
      obtain ⟨rfl, dd, rfl⟩ := hh
      exact (pss_one (ps_ret (pe_and (pe_cmpR op_isN (pv 1) pe_non (nomark _)) (pe_and (pe_cmpR op_eq (pe_xf (txf T) (ttx T) hz hv (pv 3)) (pv 0) (nomark _)) (pe_one (pe_callB (call_isEd (tec T) hz hv) (by rfl) (T.free 19 rfl) (by decide +kernel) (pa_cons (pv 3) (pa_cons (pe_glob (v := .ref (He.ga K "SurveyError")) rfl (T.glo 18 rfl) rfl) pa_nil))))))))))
      (pss_one (ps_ret (pe_and (pe_cmpR op_notN (pv 1) pe_non (nomark _)) (pe_one (pe_callF G__law_is (hr.mono (by decide)) (T.glo 20 rfl) (pa_cons (pv 2) (pa_cons (pv 1) pa_nil))))))))), ?_⟩
    have VV : ∀ (i : Nat) (z : V) (σ : L2.St) (H1 : Hp), σ[i]? = some (some z) → Ev (tVar i) σ H1 z := fun _ _ _ _ h => ev_var h
    refine q_asgT (evp_read (VV 0 _ _ _ rfl) hl H (Ex.refl _) _ fun v1 H1 e1 r1 => ?_)
    rw [lread_pread] at r1
    refine ⟨rfl, _, rfl, l, rfl, hc, hl, fun q hq v H2 e2 r => ?_, fun hn d H2 e2 hd => ?_⟩
    · rw [hq] at r1
      have r1 : PairAt H1 v1 q.num (q.den : Int) := r1
      have r2 : PrAt H2 v1 q := mono_pair _ _ _ e2 r1
      obtain ⟨a, ea, _⟩ := id r1
      subst ea
      dsimp only [gName]
      show tRet (tAndV _ _) _ [some (.str (S l)), some (.ref a), some v, none] _
      exact s_ret (ev_is (ev_andV (a := true) (ev_op (VV 1 _ _ _ rfl) ev_c fun H1 _ Q k => ⟨rfl, k H1 (Ex.refl _)⟩) fun _ => ev_is2 (fq_var (i := 2) r rfl) (vP mono_pair r2 _ _ 1 (Ex.refl _) rfl)) rfl) fun H3 e3 => k H3 ((e1.trans e2).trans e3)
    · rw [hn] at r1
      have r1 : v1 = .non := r1
      subst r1
      refine ⟨true, texm T, fun _ a na => ⟨⟨rfl, d, rfl⟩, ?_⟩, fun h => nomatch h⟩
      show tRet (tAndV _ _) _ [some (.str (S l)), some .non, none, some (.ref a)] _
      exact s_ret (ev_is (ev_andV (a := true) (ev_op (VV 1 _ _ _ rfl) ev_c fun H1 _ Q k => ⟨rfl, k H1 (Ex.refl _)⟩) fun _ => ev_andV (ev_op (ev_xf (VV 3 _ _ _ rfl) hd rfl) (VV 0 _ _ _ rfl) (rv_eq rfl)) fun _ => ev_isEd (VV 3 _ _ _ rfl) hd (tk1 T)) (by rw [decide_eq_true rfl]; rfl)) fun H3 e3 => k H3 ((e1.trans e2).trans e3)
theorem ok__law_fits {w : World} (T : Tx fa fn ex K mg) (G__law_read : FnG P w K mg base 2 (He.ga K "_law_read") ["text"] (spRead)) (G_Ratio_of : FnSt P w K mg base 5 (He.ga K "Ratio") "of" ["text"] (spOf (He.ga K "Ratio") (He.ga K "BadNumber"))) (G__law_is : FnG P w K mg base 2 (He.ga K "_law_is") ["actual", "pair"] (spIs (He.ga K "Ratio"))) : FnG P w K mg base 6 (He.ga K "_law_fits") ["text"] (spFits) := by
  obtain ⟨fd, F⟩ := T.c.def_ 11 (d := d__law_fits) rfl
  exact ⟨⟨fd, okF__law_fits T F G__law_read G_Ratio_of G__law_is, FunD.bindsN F fun _ _ _ _ _ _ us hl => match us, hl with | [_], _ => rfl⟩, F.kp⟩

abbrev N__law_changed : List Str := ["state", "text", "pair", "way", "times", "at", "char"]
theorem sc__law_changed : FnScope N__law_changed ["state", "text", "pair"] (defScope s__law_changed) := ⟨rfl, rfl, rfl, by decide +kernel, rfl, by decide +kernel, by decide +kernel⟩
theorem okF__law_changed {w : World} (T : Tx fa fn ex K mg) {fd : FuncData} (F : FunD K d__law_changed.name d__law_changed.qual d__law_changed.params d__law_changed.body d__law_changed.scope (d__law_changed.dvs K) (d__law_changed.kws K) (He.fAd K d__law_changed.at_) fd) (G__law_take : FnG P w K mg base 2 (He.ga K "_law_take") ["state", "many"] (spTake)) : FnOk P w K mg base CX0 3 (He.ga K "_law_changed") fd ["state", "text", "pair"] (spCh) := by
  have nd : (N__law_changed).Nodup := sc__law_changed.nd
  refine F.ok sc__law_changed (fun vs H Q E h => ?_) (fun cdv A outer s H vs Q E hr h => ?_)
  · obtain ⟨_, _, _, _, _, rfl, _⟩ := h
    rfl
  · obtain ⟨st, c, l, v, q, rfl, s0, hcm, hc, hl, hv, hq, k⟩ := h
    refine ⟨_, PSs.nox (pss_cons (ps_set (i := 3) nd rfl (by first | exact Or.inl rfl | exact Or.inr rfl) (pe_callF G__law_take (hr.mono (by decide)) (T.glo 1 rfl) (pa_cons (pv 0) (pa_cons pe_int pa_nil))))
      (pss_cons (ps_if (pt_cmpR op_lt (pv 3) pe_int (nomark _)) (pss_one (ps_ret (pe_op op_add_str (pe_ix (ix_listK (K := K) rfl) (pe_lst (pa_cons pe_str (pa_cons pe_str (pa_cons pe_str pa_nil)))) (pv 3) (fun _ _ => rfl)) (pv 1))))
      pss_nil)
      (pss_cons (ps_if (pt_cmpR op_lt (pv 3) pe_int (nomark _)) (pss_one (ps_ret (pe_op op_add_str (pv 1) (pe_ix (ix_listK (K := K) rfl) (pe_lst (pa_cons pe_str (pa_cons pe_str pa_nil))) (pe_op op_sub (pv 3) pe_int) (fun _ _ => rfl)))))
      pss_nil)
      (pss_cons (ps_if (pt_cmpR op_eq (pv 3) pe_int (nomark _)) (pss_cons (ps_set (i := 4) nd rfl (by first | exact Or.inl rfl | exact Or.inr rfl) (pe_op op_add pe_int (pe_callF G__law_take (hr.mono (by decide)) (T.glo 1 rfl) (pa_cons (pv 0) (pa_cons pe_int pa_nil)))))
      (pss_one (ps_ret (pe_op op_add_str (pe_op op_add_str (pe_callTy call_str_int (by rfl) (T.free 5 rfl) (by decide +kernel) (pa_cons (pe_op op_mulW (pe_ix (ix_tupK (K := K) rfl) (pv 2) pe_int (fun _ _ => rfl)) (pv 4)) pa_nil)) pe_str) (pe_callTy call_str_int (by rfl) (T.free 5 rfl) (by decide +kernel) (pa_cons (pe_op op_mulW (pe_ix (ix_tupK (K := K) rfl) (pv 2) pe_int (fun _ _ => rfl)) (pv 4)) pa_nil))))))
      pss_nil)
      (pss_cons (ps_if (pt_cmpR op_eq (pv 3) pe_int (nomark _)) (pss_one (ps_ret (pe_op op_add_str (pe_ix (ix_listK (K := K) rfl) (pe_lst (pa_cons pe_str (pa_cons pe_str (pa_cons pe_str (pa_cons pe_str pa_nil))))) (pe_callF G__law_take (hr.mono (by decide)) (T.glo 1 rfl) (pa_cons (pv 0) (pa_cons pe_int pa_nil))) (fun _ _ => rfl)) (pe_op op_mulS pe_str (pe_op op_add pe_int (pe_callF G__law_take (hr.mono (by decide)) (T.glo 1 rfl) (pa_cons (pv 0) (pa_cons pe_int pa_nil))))))))
      pss_nil)
      (pss_cons (ps_set (i := 5) nd rfl (by first | exact Or.inl rfl | exact Or.inr rfl) (pe_callF G__law_take (hr.mono (by decide)) (T.glo 1 rfl) (pa_cons (pv 0) (pa_cons (pe_op op_add (pe_callB call_len_str (by rfl) (T.free 13 rfl) (by decide +kernel) (pa_cons (pv 1) pa_nil)) pe_int) pa_nil))))
      (pss_cons (ps_set (i := 6) nd rfl (by first | exact Or.inl rfl | exact Or.inr rfl) (pe_ix ix_str pe_str (pe_callF G__law_take (hr.mono (by decide)) (T.glo 1 rfl) (pa_cons (pv 0) (pa_cons pe_int pa_nil))) (fun _ _ => rfl)))
      (pss_one (ps_ret (pe_op op_add_str (pe_op op_add_str (pe_slice sl_str (pv 1) po_none (po_some (pv 5))) (pe_ix (ix_listK (K := K) rfl) (pe_lst (pa_cons (pv 6) (pa_cons (pv 6) (pa_cons pe_str pa_nil)))) (pe_callF G__law_take (hr.mono (by decide)) (T.glo 1 rfl) (pa_cons (pv 0) (pa_cons pe_int pa_nil))) (fun _ _ => rfl))) (pe_slice sl_str (pv 1) (po_some (pe_op op_add (pv 5) (pe_callTy call_intB (by rfl) (T.free 11 rfl) (by decide +kernel) (pa_cons (pe_cmpR op_gt (pv 3) pe_int (nomark _)) pa_nil)))) po_none))))))))))), ?_⟩
    have VV : ∀ (i : Nat) (z : V) (σ : L2.St) (H1 : Hp), σ[i]? = some (some z) → Ev (tVar i) σ H1 z := fun _ _ _ _ h => ev_var h
    have END : ∀ {l' : List Nat} {H' : Hp} {d : Nat}, (∀ c ∈ l', c < 128) → l'.length ≤ 100 → StAt st d H' → d ≤ c + 4 → FrS st H H' → Q (.str (S l')) H' := fun h1 h2 s hd f => k _ _ h1 h2 (s.mono hd) f
    refine ⟨_, rfl, st, c, 11, rfl, s0, (by omega), by decide, fun way H1 w0 w1 s1 f1 => ?_⟩
    dsimp only [gName]
    show tSeq (tIfS _ _ _) _ _ [some (.ref st.1), some (.str (S l)), some v, some (.int way), none, none, none] _
    refine q_when (b := decide (way < 3)) (et_test (ev_op (VV 3 _ _ _ rfl) ev_c rv_I0)) (fun h H2 e2 => ?_) (fun h H2 e2 => ?_)
    · obtain ⟨x, x1, x2, x3⟩ := pick_one plus_one w0 (by show way < 3; exact of_decide_eq_true h)
      refine ⟨(by show 3 ≤ sizeLine; decide), fun L hL => ?_⟩
      refine ⟨_, rfl, L, _, way, _, rfl, rfl, SqL.of upd_same, x1, ?_⟩
      refine ⟨_, rfl, _, _, rfl, rfl, sz_of (by show x.length + l.length ≤ _; omega), ?_⟩
      rw [Pn.s_app]
      exact END (asc_app x2 hc) (by rw [List.length_append]; omega) ((s1.ex e2).ex (Ex.new hL)) (by omega) ((f1.trans (.of e2)).trans (.of (Ex.new hL)))
    have hw3 := of_decide_eq_false h
    refine q_when (b := decide (way < 5)) (et_test (ev_op (VV 3 _ _ _ rfl) ev_c rv_I0)) (fun h H3 e3 => ?_) (fun h H3 e3 => ?_)
    · obtain ⟨x, x1, x2, x3⟩ := pick_one (e := way - 3) bot_one (by omega) (by have := of_decide_eq_true h; show way - 3 < 2; omega)
      refine ⟨_, rfl, (by show 2 ≤ sizeLine; decide), fun L hL => ?_⟩
      refine ⟨_, rfl, _, _, rfl, rfl, L, _, way - 3, _, rfl, rfl, SqL.of upd_same, x1, ?_⟩
      refine ⟨_, _, rfl, rfl, sz_of (by show l.length + x.length ≤ _; omega), ?_⟩
      rw [Pn.s_app]
      exact END (asc_app hc x2) (by rw [List.length_append]; omega) (((s1.ex e2).ex e3).ex (Ex.new hL)) (by omega) (((f1.trans (.of e2)).trans (.of e3)).trans (.of (Ex.new hL)))
    have hw5 := of_decide_eq_false h
    have s3 := (s1.ex e2).ex e3
    have f3 := (f1.trans (.of e2)).trans (.of e3)
    refine q_when (b := decide (V.int way = V.int 5)) (et_test (ev_op (VV 3 _ _ _ rfl) ev_c (rv_eq rfl))) (fun h H4 e4 => ?_) (fun h H4 e4 => ?_)
    · refine ⟨_, rfl, st, _, 5, rfl, s3.ex e4, (by omega), by decide, fun t H5 t0 t1 s5 f5 => ?_⟩
      refine ⟨_, _, rfl, rfl, ?_⟩
      dsimp only [gName]
      show tRet (tOp _ _ _) _ [some (.ref st.1), some (.str (S l)), some v, some (.int way), some (.int (1 + t)), none, none] _
      have f5 := (f3.trans (.of e4)).trans f5
      have pr : PairAt H5 v q.num (q.den : Int) := hv.monoS s0 f5
      have t40 : (1 + t).natAbs < 2 ^ 10 := by omega
      have b1 : q.num.natAbs < 2 ^ 40 := Nat.lt_of_lt_of_le hq.1 (by decide)
      have b2 : ((q.den : Nat) : Int).natAbs < 2 ^ 40 := by rw [Int.natAbs_natCast]; exact Nat.lt_of_lt_of_le hq.2 (by decide)
      have m1 := natAbs_mul_lt b1 t40
      have m2 := natAbs_mul_lt b2 t40
      have z1 : (q.num * (1 + t)).natAbs < 10 ^ 16 := Nat.lt_of_lt_of_le m1 (by decide)
      have z2 : (((q.den : Nat) : Int) * (1 + t)).natAbs < 10 ^ 16 := Nat.lt_of_lt_of_le m2 (by decide)
      have l1 := intL_len (by decide) z1
      have l2 := intL_len (by decide) z2
      rw [s_slash]
      refine s_ret (ev_addL (ev_addL (ev_strI (ev_mulS (ev_pr0 pr rfl) (VV 4 _ _ _ rfl) b1 t40 (by decide) (by decide) (by decide)) (Nat.lt_of_lt_of_le z1 (by decide))) ev_c (by show _ + 1 ≤ _; omega)) (ev_strI (ev_mulS (ev_pr1 pr rfl) (VV 4 _ _ _ rfl) b2 t40 (by decide) (by decide) (by decide)) (Nat.lt_of_lt_of_le z2 (by decide))) (by rw [List.length_append]; show _ + 1 + _ ≤ _; omega)) fun H6 e6 => ?_
      exact END (asc_app (asc_app (intL_asc _) (by decide)) (intL_asc _)) (by rw [List.length_append, List.length_append]; show _ + 1 + _ ≤ _; omega) (s5.ex e6) (by omega) (f5.trans (.of e6))
    have s4 := s3.ex e4
    have f4 := f3.trans (.of e4)
    refine q_when (b := decide (V.int way = V.int 6)) (et_test (ev_op (VV 3 _ _ _ rfl) ev_c (rv_eq rfl))) (fun h H5 e5 => ?_) (fun h H5 e5 => ?_)
    · refine ⟨(by show 4 ≤ sizeLine; decide), fun L hL => ?_⟩
      have s5 := (s4.ex e5).ex (Ex.new (o := .lst [V.str ("" : Str), V.str ("-" : Str), V.str ("1/" : Str), V.str ("-5/" : Str)]) hL)
      have hLs := (s4.ex e5).fresh hL
      refine ⟨_, rfl, st, _, 4, rfl, s5, (by omega), by decide, fun e H6 d0 d1 s6 f6 => ?_⟩
      obtain ⟨x, x1, x2, x3⟩ := pick_one (e := e) pre_one d0 d1
      refine ⟨L, _, e, _, rfl, rfl, SqL.of (f6 L _ hLs upd_same), x1, ?_⟩
      refine ⟨_, rfl, st, _, 5, rfl, s6, (by omega), by decide, fun d H7 g0 g1 s7 f7 => ?_⟩
      obtain ⟨mo, m, m1, m2, m3⟩ := seven g0 g1
      refine ⟨_, _, rfl, rfl, _, _, rfl, rfl, mo, ?_⟩
      rw [m1]
      refine ⟨_, _, rfl, rfl, sz_of (by show x.length + m.length ≤ _; omega), ?_⟩
      rw [Pn.s_app]
      exact END (asc_app x2 m2) (by rw [List.length_append]; omega) s7 (by omega) ((((f4.trans (.of e5)).trans (.of (Ex.new hL))).trans f6).trans f7)
    have s5 := s4.ex e5
    have f5 := f4.trans (.of e5)
    refine ⟨_, rfl, _, rfl, S l, rfl, sz_of (by show l.length ≤ _; omega), _, _, rfl, rfl, st, _, _, rfl, s5, (by omega), (by show (0 : Int) < (l.length : Int) + 1; omega), fun an H6 a0 a1 s6 f6 => ?_⟩
    dsimp only [gName]
    refine ⟨_, rfl, st, _, 20, rfl, s6, (by omega), by decide, fun d H7 d0 d1 s7 f7 => ?_⟩
    obtain ⟨x, x1, x2⟩ := pickS (l := poolS.cps.toList) d0 d1 (by rw [pool_len]; rfl)
    refine ⟨_, _, x, rfl, rfl, (by decide +kernel), x1, ?_⟩
    dsimp only [gName]
    show tRet (tOp _ _ _) _ [some (.ref st.1), some (.str (S l)), some v, some (.int way), none, some (.int an), some (.str ⟨#[x]⟩)] _
    obtain ⟨n, rfl⟩ : ∃ n : Nat, an = (n : Int) := ⟨an.toNat, (Int.toNat_of_nonneg a0).symm⟩
    refine (ev_cutT (n := n) (VV 1 _ _ _ rfl) (VV 5 _ _ _ rfl) (by omega)) _ (Ex.refl _) _ fun H8 e8 => ?_
    refine ⟨_, rfl, _, rfl, (by show 3 ≤ sizeLine; decide), fun L hL => ?_⟩
    have s8 := (s7.ex e8).ex (Ex.new (o := .lst [V.str ⟨#[x]⟩, V.str ⟨#[x]⟩, V.str ("" : Str)]) hL)
    have hLs := (s7.ex e8).fresh hL
    refine ⟨_, rfl, st, _, 3, rfl, s8, (by omega), by decide, fun e H9 g0 g1 s9 f9 => ?_⟩
    obtain ⟨y, y1, y2, y3⟩ := pick_one (e := e) (chr_one (pool_asc x x2)) g0 g1
    refine ⟨L, _, e, _, rfl, rfl, SqL.of (f9 L _ hLs upd_same), y1, ?_⟩
    refine ⟨_, _, rfl, rfl, sz_of (by show (l.take n).length + y.length ≤ _; rw [List.length_take]; omega), ?_⟩
    have tot : ∀ (m : Nat), (l.take n).length + y.length + (l.drop m).length ≤ 100 := fun m => by rw [List.length_take, List.length_drop]; omega
    refine (ev_cutD (n := n + if decide (8 < way) = true then 1 else 0) (VV 1 _ _ _ rfl) (ev_is (ev_op (VV 5 _ _ _ rfl) (ev_intB (ev_op (VV 3 _ _ _ rfl) ev_c rv_I0)) rv_I0) ?cst) (by omega)) _ (Ex.refl _) _ fun HA eA => ?_
    case cst =>
      congr 1
      split <;> omega
    refine ⟨_, _, rfl, rfl, sz_of ?_, ?_⟩
    · show (S (l.take n) ++ S y).length + _ ≤ _
      rw [Pn.s_app]
      show (l.take n ++ y).length + (l.drop _).length ≤ _
      rw [List.length_append]
      exact Nat.le_trans (tot _) (by decide)
    · rw [Pn.s_app, Pn.s_app]
      refine END (asc_app (asc_app (fun z hz => hc z (List.mem_of_mem_take hz)) y2) fun z hz => hc z (List.mem_of_mem_drop hz)) ?_ (s9.ex eA) (by omega) ((((((f5.trans f6).trans f7).trans (.of e8)).trans (.of (Ex.new hL))).trans f9).trans (.of eA))
      rw [List.length_append, List.length_append]
      exact tot _
theorem ok__law_changed {w : World} (T : Tx fa fn ex K mg) (G__law_take : FnG P w K mg base 2 (He.ga K "_law_take") ["state", "many"] (spTake)) : FnG P w K mg base 3 (He.ga K "_law_changed") ["state", "text", "pair"] (spCh) := by
  obtain ⟨fd, F⟩ := T.c.def_ 12 (d := d__law_changed) rfl
  exact ⟨⟨fd, okF__law_changed T F G__law_take, FunD.bindsN F fun _ _ _ _ _ _ us hl => match us, hl with | [_, _, _], _ => rfl⟩, F.kp⟩

abbrev N_law : List Str := ["script", "state", "groups", "numbers", "k", "number", "pair", "text", "top", "long"]
theorem sc_law : FnScope N_law ["script"] (defScope s_law) := ⟨rfl, rfl, rfl, by decide +kernel, rfl, by decide +kernel, by decide +kernel⟩
theorem okF_law {w : World} (T : Tx fa fn ex K mg) {fd : FuncData} (F : FunD K d_law.name d_law.qual d_law.params d_law.body d_law.scope (d_law.dvs K) (d_law.kws K) (He.fAd K d_law.at_) fd) (G__law_tape : FnG P w K mg base 1 (He.ga K "_law_tape") ["script"] (spTape K)) (G__law_take : FnG P w K mg base 2 (He.ga K "_law_take") ["state", "many"] (spTake)) (G__law_pair : FnG P w K mg base 2 (He.ga K "_law_pair") ["top", "bottom"] (spPair)) (G__law_fits : FnG P w K mg base 6 (He.ga K "_law_fits") ["text"] (spFits)) (G_Ratio_str : FnG P w K mg base 1 (He.ma K (He.ga K "Ratio") "__str__") ["self"] (spStr (He.ga K "Ratio"))) (G_Ratio_init : FnG P w K mg base 1 (He.ma K (He.ga K "Ratio") "__init__") ["self", "top", "bottom"] (spInit (He.ga K "Ratio"))) (G__law_changed : FnG P w K mg base 3 (He.ga K "_law_changed") ["state", "text", "pair"] (spCh)) : FnOk P w K mg base CX0 7 (He.ga K "law") fd ["script"] (spLaw K) := by
  have nd : (N_law).Nodup := sc_law.nd
  refine F.ok sc_law (fun vs H Q E h => ?_) (fun cdv A outer s H vs Q E hr h => ?_)
  · obtain ⟨_, _, rfl, _⟩ := h
    rfl
  · obtain ⟨a, ns, rfl, hS, hn, k⟩ := h
    refine ⟨_, PSs.nox (pss_cons (ps_set (i := 1) nd rfl (by first | exact Or.inl rfl | exact Or.inr rfl) (pe_lst (pa_cons (pe_callF G__law_tape (hr.mono (by decide)) (T.glo 0 rfl) (pa_cons (pv 0) pa_nil)) (pa_cons pe_int pa_nil))))
      (pss_cons (ps_set (i := 2) nd rfl (by first | exact Or.inl rfl | exact Or.inr rfl) (pe_op op_add pe_int (pe_callF G__law_take (hr.mono (by decide)) (T.glo 1 rfl) (pa_cons (pv 1) (pa_cons pe_int pa_nil)))))
      (pss_cons (ps_set (i := 3) nd rfl (by first | exact Or.inl rfl | exact Or.inr rfl) (pe_lst (pa_cons pe_int (pa_cons pe_int pa_nil))))
      (pss_cons (ps_for PassesOwn.never rfl (pi_range1 rfl (T.free 2 rfl) (pa_cons (pv 2) pa_nil)) (pg_name (i := 4) nd rfl (by first | exact Or.inl rfl | exact Or.inr rfl))
      (pss_one (ps_setLc (i := 3) (own := [("number", 5)]) (g := gName 5) rfl nd rfl rfl (sw_true rfl rfl rfl (by decide +kernel)) (pi_listK (K := K) rfl (pv 3)) (blkOk_by (own := [("number", 5)]) (N := N_law) (sc := defScope s_law) (by decide +kernel)) (fun _ _ _ _ _ => by exact (pg_name (i := 5) nd rfl (by first | exact Or.inl rfl | exact Or.inr rfl))) (fun _ _ _ _ _ => by exact (pts_nil)) (fun _ _ _ _ _ => by exact ((pe_op op_add (pe_op op_mulW (pv 5) pe_int) (pe_callF G__law_take (hr.mono (by decide)) (T.glo 1 rfl) (pa_cons (pv 1) (pa_cons pe_int pa_nil)))))))))
      (pss_cons (ps_set (i := 6) nd rfl (by first | exact Or.inl rfl | exact Or.inr rfl) (pe_callF G__law_pair (hr.mono (by decide)) (T.glo 3 rfl) (pa_cons (pe_ix (ix_listK (K := K) rfl) (pv 3) pe_int (fun _ _ => rfl)) (pa_cons (pe_callB (call_max2 (by rfl)) (by rfl) (T.free 4 rfl) (by decide +kernel) (pa_cons pe_int (pa_cons (pe_ix (ix_listK (K := K) rfl) (pv 3) pe_int (fun _ _ => rfl)) pa_nil))) pa_nil))))
      (Evl.pss_cut (ps_if (pt_cmpR op_eq (pe_callF G__law_take (hr.mono (by decide)) (T.glo 1 rfl) (pa_cons (pv 1) (pa_cons pe_int pa_nil))) pe_int (nomark _)) (pss_one (ps_set (i := 6) nd rfl (by first | exact Or.inl rfl | exact Or.inr rfl) (pe_tup (pa_cons (pe_ix (ix_tupK (K := K) rfl) (pv 6) pe_int (fun _ _ => rfl)) (pa_cons pe_int pa_nil)))))
      pss_nil)
      (Evl.pss_cut (ps_if (pt_cmpR op_eq (pe_callF G__law_take (hr.mono (by decide)) (T.glo 1 rfl) (pa_cons (pv 1) (pa_cons pe_int pa_nil))) pe_int (nomark _)) (pss_one (ps_set (i := 6) nd rfl (by first | exact Or.inl rfl | exact Or.inr rfl) (pe_tup (pa_cons (pe_op op_sub pe_int (pe_ix (ix_tupK (K := K) rfl) (pv 6) pe_int (fun _ _ => rfl))) (pa_cons (pe_ix (ix_tupK (K := K) rfl) (pv 6) pe_int (fun _ _ => rfl)) pa_nil)))))
      pss_nil)
      (pss_cons (ps_set (i := 7) nd rfl (by first | exact Or.inl rfl | exact Or.inr rfl) (pe_callTy call_str_int (by rfl) (T.free 5 rfl) (by decide +kernel) (pa_cons (pe_ix (ix_tupK (K := K) rfl) (pv 6) pe_int (fun _ _ => rfl)) pa_nil)))
      (Evl.pss_cut (ps_if (pt_cmpR op_ne (pe_ix (ix_tupK (K := K) rfl) (pv 6) pe_int (fun _ _ => rfl)) pe_int (nomark _)) (pss_one (ps_set (i := 7) nd rfl (by first | exact Or.inl rfl | exact Or.inr rfl) (pe_op op_add_str (pe_op op_add_str (pv 7) pe_str) (pe_callTy call_str_int (by rfl) (T.free 5 rfl) (by decide +kernel) (pa_cons (pe_ix (ix_tupK (K := K) rfl) (pv 6) pe_int (fun _ _ => rfl)) pa_nil)))))
      pss_nil)
      (pss_cons (ps_if (PW.pt (pw_or (pt_cmpR op_ne (pe_callTy (cr_strF G_Ratio_str (hr.mono (by decide)) (T.meth 7 rfl)) (by rfl) (T.free 5 rfl) (by decide +kernel) (pa_cons (pe_makeF (T.mkr 8 rfl) G_Ratio_init (hr.mono (by decide)) (T.glo 9 rfl) (pa_cons (pe_ix (ix_tupK (K := K) rfl) (pv 6) pe_int (fun _ _ => rfl)) (pa_cons (pe_ix (ix_tupK (K := K) rfl) (pv 6) pe_int (fun _ _ => rfl)) pa_nil))) pa_nil)) (pv 7) (nomark _)) (pw_or1 (pt_not (pt_val (pe_callF G__law_fits (hr.mono (by decide)) (T.glo 6 rfl) (pa_cons (pv 7) pa_nil))))))) (pss_one (ps_ret pe_bl))
      pss_nil)
      (pss_cons (ps_for PassesOwn.never rfl (pi_range1 rfl (T.free 2 rfl) (pa_cons pe_int pa_nil)) (pg_name (i := 4) nd rfl (by first | exact Or.inl rfl | exact Or.inr rfl))
      (pss_one (ps_if (pt_not (pt_val (pe_callF G__law_fits (hr.mono (by decide)) (T.glo 6 rfl) (pa_cons (pe_callF G__law_changed (hr.mono (by decide)) (T.glo 10 rfl) (pa_cons (pv 1) (pa_cons (pv 7) (pa_cons (pv 6) pa_nil)))) pa_nil)))) (pss_one (ps_ret pe_bl))
      pss_nil)))
      (pss_cons (ps_set (i := 8) nd rfl (by first | exact Or.inl rfl | exact Or.inr rfl) (pe_op op_add (pe_op op_add (pe_op op_mulW (pe_ix (ix_tupK (K := K) rfl) (pv 6) pe_int (fun _ _ => rfl)) (pe_op op_pow pe_int pe_int)) (pe_op op_pow pe_int pe_int)) (pe_callF G__law_take (hr.mono (by decide)) (T.glo 1 rfl) (pa_cons (pv 1) (pa_cons pe_int pa_nil)))))
      (pss_cons (ps_set (i := 9) nd rfl (by first | exact Or.inl rfl | exact Or.inr rfl) (pe_callF G__law_pair (hr.mono (by decide)) (T.glo 3 rfl) (pa_cons (pv 8) (pa_cons (pe_op op_add pe_int (pe_op op_mulW (pe_ix (ix_tupK (K := K) rfl) (pv 6) pe_int (fun _ _ => rfl)) (pe_ix (ix_listK (K := K) rfl) (pe_lst (pa_cons pe_int (pa_cons (pe_op op_pow pe_int pe_int) (pa_cons (pe_op op_pow pe_int pe_int) pa_nil)))) (pe_callF G__law_take (hr.mono (by decide)) (T.glo 1 rfl) (pa_cons (pv 1) (pa_cons pe_int pa_nil))) (fun _ _ => rfl)))) pa_nil))))
      (pss_cons (ps_set (i := 7) nd rfl (by first | exact Or.inl rfl | exact Or.inr rfl) (pe_callTy call_str_int (by rfl) (T.free 5 rfl) (by decide +kernel) (pa_cons (pe_ix (ix_tupK (K := K) rfl) (pv 9) pe_int (fun _ _ => rfl)) pa_nil)))
      (Evl.pss_cut (ps_if (pt_cmpR op_ne (pe_ix (ix_tupK (K := K) rfl) (pv 9) pe_int (fun _ _ => rfl)) pe_int (nomark _)) (pss_one (ps_set (i := 7) nd rfl (by first | exact Or.inl rfl | exact Or.inr rfl) (pe_op op_add_str (pe_op op_add_str (pv 7) pe_str) (pe_callTy call_str_int (by rfl) (T.free 5 rfl) (by decide +kernel) (pa_cons (pe_ix (ix_tupK (K := K) rfl) (pv 9) pe_int (fun _ _ => rfl)) pa_nil)))))
      pss_nil)
      (pss_one (ps_ret (pe_and (pe_cmpR op_eq (pe_callTy (cr_strF G_Ratio_str (hr.mono (by decide)) (T.meth 7 rfl)) (by rfl) (T.free 5 rfl) (by decide +kernel) (pa_cons (pe_makeF (T.mkr 8 rfl) G_Ratio_init (hr.mono (by decide)) (T.glo 9 rfl) (pa_cons (pe_ix (ix_tupK (K := K) rfl) (pv 9) pe_int (fun _ _ => rfl)) (pa_cons (pe_ix (ix_tupK (K := K) rfl) (pv 9) pe_int (fun _ _ => rfl)) pa_nil))) pa_nil)) (pv 7) (nomark _)) (pe_one (pe_callF G__law_fits (hr.mono (by decide)) (T.glo 6 rfl) (pa_cons (pv 7) pa_nil))))))))))))))))))))), ?_⟩
    refine ⟨_, rfl, a, ns, rfl, hS, hn, fun p H1 items t tl => ?_⟩
    refine ⟨(by show 2 ≤ sizeLine; decide), fun st hst => ?_⟩
    have s0 := stAt_new t tl hst
    have VV : ∀ (i : Nat) (z : V) (σ : L2.St) (H1 : Hp), σ[i]? = some (some z) → Ev (tVar i) σ H1 z := fun _ _ _ _ h => ev_var h
    have cM : cMax = 1000000000 := rfl
    dsimp only [gName]
    refine ⟨_, rfl, (st, p), 0, 3, rfl, s0, (by rw [cM]; decide), by decide, fun g H2 g0 g1 s1 f1 => ?_⟩
    refine ⟨_, _, rfl, rfl, ?_⟩
    dsimp only [gName]
    refine ⟨(by show 2 ≤ sizeLine; decide), fun L hL => ?_⟩
    dsimp only [gName]
    obtain ⟨gn, rfl⟩ : ∃ n : Nat, g = (n : Int) := ⟨g.toNat, (Int.toNat_of_nonneg g0).symm⟩
    refine ⟨_, rfl, _, rfl, by omega, by omega, for_range (lo := 0) (n := (1 + (gn : Int)).toNat) (fun i σ H' => ∃ (D : Addr) (ms : List Int) (v4 : Option V), σ = [some (.ref a), some (.ref st), some (.int (1 + (gn : Int))), some (.ref D), v4, none, none, none, none, none] ∧ D ≠ st ∧ H' D = some (.lst (ms.map V.int)) ∧ ms.length = 2 ∧ (∀ y ∈ ms, 0 ≤ y ∧ y < 1000 ^ i) ∧ StAt (st, p) (1 + 2 * i) H') ⟨L, [0, 0], none, rfl, s1.fresh hL, upd_same, rfl, fun y hy => ?_, s1.ex (Ex.new hL)⟩ ?_ ?_⟩
    · have : y = 0 := by simpa using hy
      rw [this]
      exact ⟨by decide, by decide⟩
    · rintro i σ H3 hi ⟨D, ms, v4, rfl, nD, hD, hl, hb, s3⟩
      have hi3 : i < 3 := by omega
      refine s_asgT (lc_ints (st := (st, p)) (c := 1 + 2 * i) (B := fun y => 0 ≤ y ∧ y < 1000 ^ (i + 1)) rfl hD nD (by omega) s3 (fun _ => rfl) (fun m x H4 K2 hx sx kk => ?_) (fun D' ms' H4 nD' _ s4 _ hD' hl' hb' => ?_))
      · have hb1 := hb x (List.mem_of_getElem? hx)
        have hm : m < 2 := by rw [← hl]; exact (List.getElem?_eq_some_iff.mp hx).1
        have hx9 := pow3 (i := i) (by omega)
        have hx2 : x.natAbs < 2 ^ 40 := by
          have : x.natAbs < 10 ^ 9 := by omega
          exact Nat.lt_of_lt_of_le this (by decide)
        refine ⟨_, rfl, _, _, rfl, rfl, mulW (n := 40) (m := 10) hx2 (by decide) (by decide) (by decide) (by decide), _, rfl, (st, p), _, 1000, rfl, sx, (by rw [cM]; omega), by decide, fun t H5 t0 t1 s5 f5 => ?_⟩
        refine ⟨_, _, rfl, rfl, ?_⟩
        exact kk _ _ s5 f5 (lt1000 hb1.1 hb1.2 t0 t1)
      · rw [hl] at s4
        exact ⟨D', ms', _, rfl, nD', hD', by rw [hl', hl], hb', s4.mono (by omega)⟩
    rintro σ H3 ⟨D, ms, v4, rfl, nD, hD, hl, hb, s3⟩
    have hg : (1 + (gn : Int)).toNat ≤ 3 := by omega
    have P3 := pow3 hg
    have s3 := s3.mono (show 1 + 2 * (1 + (gn : Int)).toNat ≤ 7 by omega)
    have hb9 : ∀ y ∈ ms, 0 ≤ y ∧ y < 10 ^ 9 := fun y hy => ⟨(hb y hy).1, by have := (hb y hy).2; omega⟩
    obtain ⟨m0, m1, rfl⟩ : ∃ m0 m1, ms = [m0, m1] := by
      match ms, hl with
      | [x, y], _ => exact ⟨_, _, rfl⟩
    have b0 := hb9 m0 (by simp)
    have b1 := hb9 m1 (by simp)
    generalize hmx : (if m1 > 1 then m1 else 1) = mx
    have mx0 : 0 < mx := by rw [← hmx]; split <;> omega
    have mx1 : mx < 10 ^ 9 := by rw [← hmx]; split <;> omega
    refine q_asgT (evp_pair (q := Rat.divInt m0 mx) (ev_ixZ (j := 0) rfl hD rfl) (ev_is (ev_max ev_c (ev_ixZ (j := 1) rfl hD rfl)) (congrArg V.int hmx)) mx0 (Nat.lt_of_lt_of_le (show mx.natAbs < 10 ^ 9 by omega) (Nat.le_trans (show 10 ^ 9 ≤ 2 ^ 40 by decide) (Nat.pow_le_pow_right (by decide) (by decide)))) rfl H3 (Ex.refl _) _ fun v6 H4 e4 r4 => ?_)
    have bq : Bd (Rat.divInt m0 mx) := ⟨Nat.lt_of_le_of_lt (num_le _ _) (by omega), Nat.lt_of_le_of_lt (den_le _ _ (by omega)) (by omega)⟩
    generalize Rat.divInt m0 mx = q at r4 bq
    have s4 := s3.ex e4
    show tCut (tIfS _ _ _) _ _ [some (.ref a), some (.ref st), some (.int (1 + (gn : Int))), some (.ref D), v4, none, some v6, none, none, none] _
    refine ⟨fun σ' H' => ∃ (v : V) (q : Rat), σ' = [some (.ref a), some (.ref st), some (.int (1 + (gn : Int))), some (.ref D), v4, none, some v, none, none, none] ∧ PrAt H' v q ∧ Bd q ∧ StAt (st, p) 8 H', ?_, ?_⟩
    · refine ⟨_, rfl, (st, p), _, 3, rfl, s4, (by rw [cM]; decide), by decide, fun d H5 d0 d1 s5 f5 => ?_⟩
      have r5 := r4.monoS s4 f5
      refine ⟨rfl, _, rfl, ?_⟩
      refine ifB (fun _ => ?_) (fun _ => ?_)
      · refine s_asgT (evp_pairI (ev_pr0 r5 rfl) ev_c H5 (Ex.refl _) _ fun w H6 e6 rw => ?_)
        exact ⟨w, _, rfl, pr_int rw, bd_int bq, s5.ex e6⟩
      · exact ⟨v6, q, rfl, r5, bq, s5⟩
    rintro σ' H5 ⟨v, q, rfl, r5, bq, s5⟩
    refine ⟨fun σ' H' => ∃ (v : V) (q : Rat), σ' = [some (.ref a), some (.ref st), some (.int (1 + (gn : Int))), some (.ref D), v4, none, some v, none, none, none] ∧ PrAt H' v q ∧ Bd q ∧ StAt (st, p) 9 H', ?_, ?_⟩
    · refine ⟨_, rfl, (st, p), _, 2, rfl, s5, (by rw [cM]; decide), by decide, fun d H6 d0 d1 s6 f6 => ?_⟩
      have r6 := r5.monoS s5 f6
      refine ⟨rfl, _, rfl, ?_⟩
      refine ifB (fun _ => ?_) (fun _ => ?_)
      · refine s_asgT (evp_pairI (ev_op ev_c (ev_pr0 r6 rfl) rv_I0) (ev_pr1 r6 rfl) H6 (Ex.refl _) _ fun w H7 e7 rw => ?_)
        exact ⟨w, _, rfl, pr_neg rw, bd_neg bq, s6.ex e7⟩
      · exact ⟨v, q, rfl, r6, bq, s6⟩
    rintro σ' H6 ⟨v, q, rfl, r6, bq, s6⟩
    have b40 := bq.big
    have den40 : ((q.den : Nat) : Int).natAbs < 10 ^ 40 := by rw [Int.natAbs_natCast]; exact b40.2
    refine q_asg (ev_strI (ev_pr0 r6 rfl) b40.1) fun H7 e7 => ?_
    have r7 := mono_pair _ _ _ e7 r6
    have s7 := s6.ex e7
    have iL := intL_len (by decide) b40.1
    have dL := intL_len (by decide) den40
    show tCut (tIfS _ _ _) _ _ [some (.ref a), some (.ref st), some (.int (1 + (gn : Int))), some (.ref D), v4, none, some v, some (.str (S (intL q.num))), none, none] _
    refine ⟨fun σ' H' => σ' = [some (.ref a), some (.ref st), some (.int (1 + (gn : Int))), some (.ref D), v4, none, some v, some (.str (S (CL q))), none, none] ∧ PrAt H' v q ∧ StAt (st, p) 9 H', ?_, ?_⟩
    · refine s_when (et_test (ev_op (ev_pr1 r7 rfl) ev_c (rv_ne rfl))) (fun h H8 e8 => ?_) (fun h H8 e8 => ?_)
      · rw [s_slash]
        refine s_asg (ev_addL (ev_addL (VV 7 _ _ _ rfl) ev_c (by show _ + 1 ≤ _; omega)) (ev_strI (ev_pr1 (mono_pair _ _ _ e8 r7) rfl) den40) (by rw [List.length_append]; show _ + 1 + _ ≤ _; omega)) fun H9 e9 => ?_
        refine ⟨?_, mono_pair _ _ _ (e8.trans e9) r7, (s7.ex e8).ex e9⟩
        rw [← CL_mk (q := q), if_pos h]
        rfl
      · refine ⟨?_, mono_pair _ _ _ e8 r7, s7.ex e8⟩
        rw [← CL_mk (q := q), if_neg (by rw [h]; decide)]
    rintro σ' H8 ⟨rfl, r8, s8⟩
    have cl := CL_len b40
    refine q_when (b := false) (et_is (et_or (et_test (ev_op (ev_strPr r8 b40 rfl) (VV 7 _ _ _ rfl) (rv_ne rfl))) fun _ => et_not (et_test (ev_fits (VV 7 _ _ _ rfl) (CL_asc q) (by omega)))) (by rw [decide_eq_true (rfl : V.str (S (CL q)) = V.str (S (CL q)))]; rfl)) (fun h => nomatch h) (fun _ H9 e9 => ?_)
    have r9 := mono_pair _ _ _ e9 r8
    have s9 := s8.ex e9
    refine ⟨_, rfl, by decide, by decide, for_range (lo := 0) (n := 4) (fun i σ H' => ∃ (w4 : Option V), σ = [some (.ref a), some (.ref st), some (.int (1 + (gn : Int))), some (.ref D), w4, none, some v, some (.str (S (CL q))), none, none] ∧ PrAt H' v q ∧ StAt (st, p) (9 + 4 * i) H') ⟨_, rfl, r9, s9⟩ ?_ ?_⟩
    · rintro i σ HA hi ⟨w4, rfl, rA, sA⟩
      dsimp only [gName]
      have cl22 : (CL q).length ≤ 40 := by
        have a1 := intL_len (by decide) bq.1
        have a2 := TL.numL_len (by decide) bq.2
        unfold CL
        rw [List.length_append]
        split
        · rw [List.length_nil]; omega
        · rw [List.length_cons]; omega
      refine ⟨_, rfl, _, rfl, _, rfl, (st, p), _, CL q, v, q, rfl, sA, (by rw [cM]; omega), CL_asc q, cl22, rA, bq, fun l' HB h1 h2 sB fB => ?_⟩
      refine ⟨l', rfl, h1, h2, fun HC eC => ?_⟩
      refine ⟨true, rfl, ?_⟩
      refine ifF rfl ?_
      exact ⟨_, rfl, mono_pair _ _ _ eC (rA.monoS sA fB), (sB.ex eC).mono (by omega)⟩
    rintro σ HA ⟨w4, rfl, rA, sA⟩
    have sA := sA.mono (show 9 + 4 * 4 ≤ 25 by decide)
    dsimp only
    show tSeq (tAsg _ _) _ _ [some (.ref a), some (.ref st), some (.int (1 + (gn : Int))), some (.ref D), w4, none, some v, some (.str (S (CL q))), none, none] _
    have nb : q.num.natAbs < 2 ^ 40 := Nat.lt_of_lt_of_le bq.1 (by decide)
    have db : ((q.den : Nat) : Int).natAbs < 2 ^ 40 := by rw [Int.natAbs_natCast]; exact Nat.lt_of_lt_of_le bq.2 (by decide)
    refine q_asgT (op_raw _ (ev_op (ev_mulS (ev_pr0 rA rfl) (ev_pow ⟨by decide, by decide, by decide⟩) nb (show ((10 : Int) ^ (25 : Int).toNat).natAbs < 2 ^ 90 by rw [e25]; decide) (by decide) (by decide) (by decide)) (ev_pow ⟨by decide, by decide, by decide⟩) rv_I0) fun HB eB => ?_)
    refine ⟨_, rfl, (st, p), _, 1000, rfl, sA.ex eB, (by rw [cM]; decide), by decide, fun t HC t0 t1 sC fC => ?_⟩
    refine ⟨_, _, rfl, rfl, ?_⟩
    have rC : PrAt HC v q := (mono_pair _ _ _ eB rA).monoS (sA.ex eB) fC
    dsimp only
    have tb : (q.num * (10 : Int) ^ (25 : Int).toNat + (10 : Int) ^ (24 : Int).toNat + t).natAbs < 10 ^ 40 := by
      rw [e25, e24]
      have := bq.1
      omega
    generalize q.num * (10 : Int) ^ (25 : Int).toNat + (10 : Int) ^ (24 : Int).toNat + t = top at tb ⊢
    show tSeq (tAsg _ _) _ _ [some (.ref a), some (.ref st), some (.int (1 + (gn : Int))), some (.ref D), w4, none, some v, some (.str (S (CL q))), some (.int top), none] _
    refine q_asgT ?_
    refine ⟨_, rfl, ?_⟩
    refine op_raw _ ev_c fun HC2 eC2 => ?_
    have rC2 := mono_pair _ _ _ eC2 rC
    refine op_raw _ (ev_pr1 rC2 rfl) fun HD eD0 => ?_
    have eD := eC2.trans eD0
    refine ⟨_, _, rfl, rfl, ⟨by decide, by decide, by decide⟩, _, _, rfl, rfl, ⟨by decide, by decide, by decide⟩, (by show 3 ≤ sizeLine; decide), fun L2' hL2 => ?_⟩
    have sD := (sC.ex eD).ex (Ex.new (o := .lst [V.int 1, .int ((10 : Int) ^ (9 : Int).toNat), .int ((10 : Int) ^ (18 : Int).toNat)]) hL2)
    have hLs := (sC.ex eD).fresh hL2
    refine ⟨_, rfl, (st, p), _, 3, rfl, sD, (by rw [cM]; decide), by decide, fun e HE g0' g1' sE fE => ?_⟩
    obtain ⟨x, x1, x2, x3⟩ := pick3 g0' g1'
    refine ⟨L2', _, e, _, rfl, rfl, SqL.of (fE L2' _ hLs upd_same), x1, ?_⟩
    have hden : (0 : Int) < ((q.den : Nat) : Int) := by have := q.den_pos; omega
    have mm := natAbs_mul_lt db x3
    have mp := Int.mul_pos hden x2
    refine ⟨_, _, rfl, rfl, mulW (n := 40) (m := 62) db x3 (by decide) (by decide) (by decide), _, _, rfl, rfl, ?_⟩
    generalize ((q.den : Nat) : Int) * x = dx at mm mp ⊢
    have bot0 : 0 < 1 + dx := by omega
    have bot1 : (1 + dx).natAbs < 10 ^ 40 := by
      have : (2 : Nat) ^ (40 + 62) + 1 < 10 ^ 40 := by decide
      omega
    refine ⟨top, 1 + dx, rfl, bot0, Nat.lt_of_lt_of_le bot1 (Nat.le_trans (show 10 ^ 40 ≤ 2 ^ 200 by decide) (Nat.pow_le_pow_right (by decide) (by decide))), fun r HF eF _ pr => ?_⟩
    have b40' : Bd40 (Rat.divInt top (1 + dx)) := ⟨Nat.lt_of_le_of_lt (num_le _ _) tb, Nat.lt_of_le_of_lt (den_le _ _ (by omega)) bot1⟩
    generalize Rat.divInt top (1 + dx) = q2 at pr b40'
    have den40' : ((q2.den : Nat) : Int).natAbs < 10 ^ 40 := by rw [Int.natAbs_natCast]; exact b40'.2
    have iL' := intL_len (by decide) b40'.1
    have dL' := intL_len (by decide) den40'
    have cl' := CL_len b40'
    show tSeq (tAsg _ _) _ _ [some (.ref a), some (.ref st), some (.int (1 + (gn : Int))), some (.ref D), w4, none, some v, some (.str (S (CL q))), some (.int top), some r] _
    refine q_asg (ev_strI (ev_pr0 pr rfl) b40'.1) fun HG eG => ?_
    have pr2 := mono_pair _ _ _ eG pr
    show tCut (tIfS _ _ _) _ _ [some (.ref a), some (.ref st), some (.int (1 + (gn : Int))), some (.ref D), w4, none, some v, some (.str (S (intL q2.num))), some (.int top), some r] _
    refine ⟨fun σ' H' => σ' = [some (.ref a), some (.ref st), some (.int (1 + (gn : Int))), some (.ref D), w4, none, some v, some (.str (S (CL q2))), some (.int top), some r] ∧ PrAt H' r q2, ?_, ?_⟩
    · refine s_when (et_test (ev_op (ev_pr1 pr2 rfl) ev_c (rv_ne rfl))) (fun h H8 e8 => ?_) (fun h H8 e8 => ?_)
      · rw [s_slash]
        refine s_asg (ev_addL (ev_addL (VV 7 _ _ _ rfl) ev_c (by show _ + 1 ≤ _; omega)) (ev_strI (ev_pr1 (mono_pair _ _ _ e8 pr2) rfl) den40') (by rw [List.length_append]; show _ + 1 + _ ≤ _; omega)) fun H9 e9 => ?_
        refine ⟨?_, mono_pair _ _ _ (e8.trans e9) pr2⟩
        rw [← CL_mk (q := q2), if_pos h]
        rfl
      · refine ⟨?_, mono_pair _ _ _ e8 pr2⟩
        rw [← CL_mk (q := q2), if_neg (by rw [h]; decide)]
    rintro σ' HI ⟨rfl, prI⟩
    exact s_ret (ev_is (ev_andV (ev_op (ev_strPr prI b40' rfl) (VV 7 _ _ _ rfl) (rv_eq rfl)) fun _ => ev_fits (VV 7 _ _ _ rfl) (CL_asc q2) (by omega)) (by rw [decide_eq_true (rfl : V.str (S (CL q2)) = V.str (S (CL q2)))]; rfl)) fun HJ _ => k HJ

end
abbrev R : PySem.W.OpenRow := PySem.W.OpenLaw.row PySem.Challenge.rw_plumbnet_k04_written_forms_of_fractions
abbrev hk : PySem.W.Hook := hookY 5 fa fn ex ins
def ob (s : PySem.W.SharedT) : He.AlX × List InW := obsY 5 fa fn ex ins (HandSHeadRun.getT s)
theorem ob_eq (s : PySem.W.SharedT) : ob s = hk.obs s.abs := obsY_eq (HandSHeadRun.getT_eq s)
theorem run (w : World) : HandSHeadRun.RunEqI R (PySem.W.view R.prog [0, 21]) hk ob 20000 (["_wall", "__name__", "SurveyError", "BadNumber", "ZeroDivisor", "MOST_DIGITS", "Ratio", "is_short", "_law_tape", "_law_draw", "_law_take", "_law_common", "_law_pair", "_law_is", "_law_digits", "_law_read", "_law_changed", "_law_fits"]) w := by
  unfold HandSHeadRun.RunEqI
  kernel_rfl
theorem facts {P : Program} {w : World} {K : PySem.W.Frag} {h h0 : Heap} {mg : Str → Option Value} {f : Addr} (X : K.In h) (G : h.Ns mainGlobals mg) (hfa : mg ("law" : Str) = some (.ref f)) (c : He.SaysX fa fn [] [] ex w h0 K) (eI : (ins.map fun d => inW K d) = ins.map InD.val) (hP1 : ((P.main.file : Str) == FILE) = true) (hP2 : (P.main.scope.names.lookup ("super" : Str)).isSome = false) :
    ∃ fd : FuncData, (∀ (s : Shared) (v : Value), BindsTo s fd ⟨[v], []⟩ [("script", v)]) ∧ ∀ base : Heap, K.In base → base.Ns mainGlobals mg → FnOk P w K mg base CX0 7 f fd ["script"] (spLaw K) := by
  have T : Tx fa fn ex K mg := ⟨c.t.d, c.more, h, X, G⟩
  have Zb : ∀ base : Heap, BadX P w K mg base (He.ga K "BadNumber") := fun base => bad_of (bdx_of (FILE := FILE) (d := d_ZDi) rfl rfl (List.cons.inj eI).1 (He.ba (He.ba T.e).2).1 rfl (by rfl) (fun fd v u h1 h2 => by
    obtain ⟨_, _, _, _, _, _, _, _, _, _, _, _, _, _, _⟩ := fd
    cases h1
    cases h2
    rfl) rfl rfl rfl rfl rfl (by rfl) (by rfl) (by rfl) (by decide +kernel) (by decide +kernel) hP1 hP2) (T.free 22 rfl) (by decide +kernel) (ttx T) (by rfl) (by rfl) (fun env h => by
    obtain ⟨_, _, _, _, _, _, _, _, _⟩ := env
    cases h
    rfl)
  have hS := sta_of (d := d_RO) rfl (List.cons.inj (List.cons.inj eI).2).1 (tst T)
  obtain ⟨fd, F⟩ := T.c.def_ 13 (d := d_law) rfl
  have e := hfa.symm.trans (T.glo 26 rfl)
  cases e
  refine ⟨fd, fun s v => FunD.bindsA (ps := ["script"]) F (fun _ _ _ _ _ _ us hl => match us, hl with | [_], _ => rfl) s [v] rfl, fun base _ _ => ?_⟩
  · 
    have Z := Zb base
    have g__law_tape : FnG P w K mg base 1 (He.ga K "_law_tape") ["script"] (spTape K) := ok__law_tape T 
    have g__law_draw : FnG P w K mg base 1 (He.ga K "_law_draw") ["tape", "at", "many"] (spDraw) := ok__law_draw T 
    have g__law_take : FnG P w K mg base 2 (He.ga K "_law_take") ["state", "many"] (spTake) := ok__law_take T g__law_draw
    have g__law_common : FnG P w K mg base 1 (He.ga K "_law_common") ["one", "other"] (spCommon) := ok__law_common T 
    have g__law_pair : FnG P w K mg base 2 (He.ga K "_law_pair") ["top", "bottom"] (spPair) := ok__law_pair T g__law_common
    have g__law_digits : FnG P w K mg base 1 (He.ga K "_law_digits") ["text"] (spDig) := ok__law_digits T 
    have g__law_read : FnG P w K mg base 2 (He.ga K "_law_read") ["text"] (spRead) := ok__law_read T g__law_digits g__law_common
    have g_is_short : FnG P w K mg base 1 (He.ga K "is_short") ["word"] (spShort) := ok_is_short T 
    have g_Ratio_init : FnG P w K mg base 1 (He.ma K (He.ga K "Ratio") "__init__") ["self", "top", "bottom"] (spInit (He.ga K "Ratio")) := ok_Ratio_init T 
    have g_Ratio_str : FnG P w K mg base 1 (He.ma K (He.ga K "Ratio") "__str__") ["self"] (spStr (He.ga K "Ratio")) := ok_Ratio_str T 
    have g_Ratio_of : FnSt P w K mg base 5 (He.ga K "Ratio") "of" ["text"] (spOf (He.ga K "Ratio") (He.ga K "BadNumber")) := ok_Ratio_of T Z hS g_is_short g_Ratio_init g_Ratio_str
    have g__law_is : FnG P w K mg base 2 (He.ga K "_law_is") ["actual", "pair"] (spIs (He.ga K "Ratio")) := ok__law_is T 
    have g__law_fits : FnG P w K mg base 6 (He.ga K "_law_fits") ["text"] (spFits) := ok__law_fits T g__law_read g_Ratio_of g__law_is
    have g__law_changed : FnG P w K mg base 3 (He.ga K "_law_changed") ["state", "text", "pair"] (spCh) := ok__law_changed T g__law_take
    exact okF_law T F g__law_tape g__law_take g__law_pair g__law_fits g_Ratio_str g_Ratio_init g__law_changed
end Row
open PySem PySem.W PySem.Calls PyProof.Rows
theorem PySem.Challenge.cw_plumbnet_k04_written_forms_of_fractions_holds : PySem.Challenge.rw_plumbnet_k04_written_forms_of_fractions.Holds := by
  w_on; o_law
  refine HandSHeadRun.head_imp (r := OpenLaw.row PySem.Challenge.rw_plumbnet_k04_written_forms_of_fractions) (q := view (OpenLaw.row PySem.Challenge.rw_plumbnet_k04_written_forms_of_fractions).prog [0, 21]) (H := Row.hk) (ob := Row.ob) (M := 20000) (loose := ["_wall", "__name__", "SurveyError", "BadNumber", "ZeroDivisor", "MOST_DIGITS", "Ratio", "is_short", "_law_tape", "_law_draw", "_law_take", "_law_common", "_law_pair", "_law_is", "_law_digits", "_law_read", "_law_changed", "_law_fits"]) (d := HandSHeadRun.topDef (OpenLaw.row PySem.Challenge.rw_plumbnet_k04_written_forms_of_fractions).prog 21) (kwd := []) Row.ob_eq
    Row.run (by kernel_rfl) (by kernel_rfl) (by kernel_rfl) (by rfl) (by first | assumption | decide +kernel) (by decide +kernel) ⟨rfl, rfl, rfl, rfl, rfl, by decide +kernel⟩ ?hw ?hc
  case hw => w_witness2
  case hc =>
    refine L2.walk_ofE (l := PySem.Challenge.rw_plumbnet_k04_written_forms_of_fractions) (n := 63) (k := 7) (x := "script") (CX := L2.CX0) rfl (by decide) (by kernel_rfl) ⟨rfl, by decide, by decide⟩ ?F (fun _ _ _ _ z => z)
    intro w mg fa h Y G hmg0
    obtain ⟨K, KX, c, eI⟩ := Y
    have hmg : mg ("law" : PySem.Str) = some (.ref fa) := by
      have e : (HandSHeadRun.topDef (OpenLaw.row PySem.Challenge.rw_plumbnet_k04_written_forms_of_fractions).prog 21).name = ("law" : PySem.Str) := by kernel_rfl
      rw [← e]
      exact hmg0
    obtain ⟨fd, hb, hF⟩ := Row.facts (P := (PySem.Challenge.rw_plumbnet_k04_written_forms_of_fractions).prog) (w := w) KX G hmg c eI (by kernel_rfl) (by kernel_rfl)
    exact ⟨K, fd, Pn.spLaw K, KX, hb, fun H a ns hl _ hS => ⟨a, ns, rfl, hS, hl, fun _ => rfl⟩, hF⟩
#print axioms PySem.Challenge.cw_plumbnet_k04_written_forms_of_fractions_holds
