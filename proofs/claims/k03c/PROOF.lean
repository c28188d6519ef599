import PyProof.Rows.All
import Wide.All
import OpenK.AllK
import Wide.FinOn
import HandS.ForMost
import HandS.Wide
import HandS.Gcd
import HandS.Codes
import HandS.IsInst
import HandS.ClsMeth
import HandS.Property
import HandS.OwnEq
import HandS.Defaults
import KE.KEqSeq
import KE.KOpsOwn
import PyProof.InstEq
import HandS.Star
import HandS.Exc
import HandS.TryMany
import HandS.EndTab
import HandS.List
import PyProof.ReprRoads
import HandS.FStr
import HandS.Strs
import KE.KFmtOwn
import HandS.WordsExc
import HandS.Small
import HandS.ExcInit
import HandS.ExcField
import HandS.Lambda
import HandS.AnyAll
import HandS.Style
import KE.RegKIsAll
import KE.KNestM
import PySem.Challenge.RW_anyfifth_k03_ratios_reckoned
set_option Elab.async false
set_option maxRecDepth 100000
set_option maxHeartbeats 4000000
/-! Rules of our own: static methods, comparisons by the text's own operators. -/
namespace Own
open PySem PySem.Spec PyProof.Rows L2
open AutoSeq1 (wpAny_loadPart')

section
variable {X : Cx} {pins : List (Addr × Obj)} {σ : L2.St} {H : Hp} {s : Shared} {C p f : Addr} {mc : Value} {m : Str} {A : Around} {E : Value → Shared → Prop}
/-- C.m is a static method: its record at p, its def at f -/
structure SMet (K : PySem.W.Frag) (C : Addr) (mc : Value) (m : Str) (p f : Addr) : Prop where
  at_ : PySem.W.findCls K (.ref C) mc m = some (.get (.builtin "staticmethod.__get__") (.ref p) .none (.ref C))
  rc : ∃ rest, PySem.W.recIn K p "staticmethod" = some (.ref f :: rest)
  kp : PySem.W.keepIn K (.ref f) = true
theorem getsm_ok {b : Bool} {Q : Value → Shared → Prop} (I : Inv X pins σ H s) (r : ClX.CRead X.K C mc) (k : SMet X.K C mc m p f) (h : ∀ s', Inv X pins σ H s' → Q (.ref f) s') : wpAny (model X.prog X.w) A (getAttr (.ref C) m b) Q E s := by
  obtain ⟨rest, hp⟩ := k.rc
  refine PySem.W.cls_bind I.kIn r.rd k.at_ ?_
  refine wpAny_call (PySem.W.sm_get (s := { s with toks := s.toks + 1 }) I.kIn hp (PySem.W.handed_on rfl ?_))
  exact h _ (I.tok _)
def tSMeth (C : Addr) (sp : Sp) (E : XK) (ta : TE) (t : TA) : TE := fun σ H Q => ta σ H fun x H1 => x = .ref C ∧ t σ H1 fun vs H2 => sp (vs ++ []) H2 Q E
end
section
variable {X : Cx} {CX : CXT} {k : Nat} {C p f : Addr} {mc : Value} {sp : Sp} {E : XK} {o e : Expr} {es : List Expr} {m : Str} {pos apos : Pos} {ta : TE} {t : TA} {pl : Sem Bool} {fd : FuncData} {ps : List Str}
theorem pe_smeth (r : ClX.CRead X.K C mc) (c : SMet X.K C mc m p f) (F : FnOk X.prog X.w X.K X.mg X.base CX k f fd ps sp) (hr : Room k X.A) (hb : Binds X.K fd ps []) (hx : Passes CX X E) (he : PE X o ta) (ha : PA X (e :: es) t)
    (hst : starEach (e :: es) X.env = (false, eval e X.env) :: starEach es X.env := by rfl) (hpl : (backTo pos (starEach es X.env)).any (·.1) = false := by rfl)
    (ht : eval (.Call (.Attribute o m apos) (e :: es) [] pos) X.env = (do
      let ov ← eval o X.env
      standAt apos.atName
      let (f, first) ← holding [ov] (getMethod ov m pl)
      callWith pos f first (backTo pos (starEach (e :: es) X.env)) (backToKw pos (keywordEach [] X.env))) := by rfl) :
    PE X (.Call (.Attribute o m apos) (e :: es) [] pos) (tSMeth C sp E ta t) := by
  refine ⟨fun pins s σ H Q I h => ?_⟩
  refine PySem.W.methodCall_KW (pl := pl) (thn (he.run pins s σ H _ I h) fun u s1 ⟨x, H1, I1, rx, ex, q⟩ => ?_) ht
  subst ex
  obtain rfl : u = Value.ref C := rx
  refine PySem.W.method_cls I1.kIn r.ga (getsm_ok I1 r c fun s2 I2 => ?_)
  refine PySem.W.callWith_K (first := []) (h₀ := X.base) I.ok.mod.kin c.kp (thn (ha.run pos pins s2 σ H1 _ I2 q) fun us s3 ⟨vs, H2, I3, rv, q2⟩ => ⟨I3.kIn, ?_⟩) hst hpl
  exact run_fn F hr hb .nil hx I3 rv q2
end

theorem pe_gref {X : Cx} {x : Str} {a : Addr} {pos : Pos} (hg : Gl X x) (hm : X.mg x = some (.ref a)) (hd : (x == ("__debug__" : Str)) = false := by decide) : PE X (.Name x pos) (tC (.ref a)) := pe_glob hg hm rfl hd
/-! ### calls with keywords alone -/
def tMethK0 (C : Addr) (m : Str) (n : Nat) (sp : Sp) (gV : List V → List V → List V) (E : XK) (ta : TE) (tk : TA) : TE := fun σ H Q => ta σ H fun x H1 => ∃ a dx fs, x = .ref a ∧ H1 a = some (.ins C dx fs) ∧ fs.lookup m = none ∧
  tk σ H1 fun zs H2 => zs.length = n ∧ sp (gV [x] zs) H2 Q E
section
variable {X : Cx} {CX : CXT} {k : Nat} {C p f : Addr} {sp : Sp} {E : XK} {o : Expr} {m : Str} {pos apos : Pos} {ta : TE} {tk : TA} {pl : Sem Bool} {fd : FuncData} {ps ks : List Str} {kws : List Keyword}
  {g : List Value → List Value → List Value} {gV : List V → List V → List V}
theorem pe_methK0 (he : PE X o ta) (c : Cls X.K C) (hm : Meth X.K C m f) (F : FnOk X.prog X.w X.K X.mg X.base CX k f fd ps sp) (hr : Room k X.A) (hb : KBn X.K fd ps 1 ks g gV) (hx : Passes CX X E) (hkw : PK X kws tk)
    (hall : (backToKw pos (keywordEach kws X.env)).all (·.1.isSome) = true := by rfl) (hks : (backToKw pos (keywordEach kws X.env)).filterMap (·.1) = ks := by rfl)
    (hpl : ((backTo pos (starEach [] X.env)).any (·.1) || (backToKw pos (keywordEach kws X.env)).any (·.1.isNone)) = false := by rfl)
    (ht : eval (.Call (.Attribute o m apos) [] kws pos) X.env = (do
      let ov ← eval o X.env
      standAt apos.atName
      let (f, first) ← holding [ov] (getMethod ov m pl)
      callWith pos f first (backTo pos (starEach [] X.env)) (backToKw pos (keywordEach kws X.env))) := by rfl) :
    PE X (.Call (.Attribute o m apos) [] kws pos) (tMethK0 C m ks.length sp gV E ta tk) := by
  refine ⟨fun pins s σ H Q I h => ?_⟩
  refine PySem.W.methodCall_KW (pl := pl) (thn (he.run pins s σ H _ I h) fun u s1 ⟨x, H1, I1, rx, a, dx, fs, ex, ea, l, q⟩ => ?_) ht
  subst ex
  obtain rfl : u = Value.ref a := rx
  refine getmeth_ok I1 ea c hm l ?_
  refine PySem.W.callWith_KW0 (first := [.ref a]) (h₀ := X.base) I.ok.mod.kin hm.kp hall (thn (hkw.run pos pins s1 σ H1 _ I1 q) fun ws s2 ⟨zs, H2, I2, rz, hl, q2⟩ => ⟨I2.kIn, ?_⟩) hpl
  rw [hks]
  exact run_fnN (us := [.ref a]) (vs := [.ref a]) F hr hb hx I2 (.cons rfl .nil) rz rfl hl q2
end
/-! ### comparisons by own operators -/
section
variable {X : Cx} {CX : CXT} {k : Nat} {C f : Addr} {fd : FuncData} {ps : List Str} {sp : Sp} {E : XK} {op : CmpOp}
/-- the left one is an instance with the operator -/
def rOwnC (K : PySem.W.Frag) (C : Addr) (sp : Sp) (E : XK) : R2 := fun x y H Q => ∃ a dx fs t, x = .ref a ∧ H a = some (.ins C dx fs) ∧ TyX K H y t ∧ PySem.W.notFirst K C t = true ∧ sp [x, y] H (fun v H' => (∃ b, v = .bl b) ∧ Q v H') E
theorem op_ownC (F : FnOk X.prog X.w X.K X.mg X.base CX k f fd ps sp) (hr : Room k X.A) (hs : PySem.W.findIn X.K (.ref C) (cmpInfo op).2.1 = some (some (.ref f))) (hf : PySem.W.isFn X.K (.ref f) = true) (hb : Binds X.K fd ps []) (hx : Passes CX X E)
    (hop : ∀ a b, compareOp op a b = richCompare op a b := by intros; rfl) : OpR X (compareOp op) (rOwnC X.K C sp E) := by
  intro pins s σ H x y u v Q I rx ry h
  obtain ⟨a, dx, fs, t, rfl, ha, ty, nf, hsp⟩ := h
  cases rx
  obtain ⟨mA, J, _⟩ := ins_get I.hok ha
  obtain ⟨od, J, _⟩ := J.look
  obtain ⟨m, hF⟩ := I.fr
  obtain ⟨Pk, Z, pk, _⟩ := kit_of I ry ty
  rw [hop]
  refine PySem.W.cmp_K (op := op) (tb := t) hr.units0 hF I.ok.mod.kin J (Z.ty _ _ I.kIn pk) nf hs hf ?_
  have r2 : Vals [V.ref a, y] [Value.ref a, v] := .cons rfl (.cons ry .nil)
  refine wpAny_mono (run_fn F hr hb .nil hx I r2 hsp) (fun w s' q => ?_) fun _ _ e => e
  obtain ⟨v', H', I', rv, ⟨b, rfl⟩, q⟩ := q
  cases rv
  exact ⟨.bl b, H', I', rfl, q⟩

/-- an int on the left, an instance with the reflected operator on the right -/
def rReflC (C : Addr) (sp : Sp) (E : XK) : R2 := fun x y H Q => ∃ i a dx fs, x = .int i ∧ y = .ref a ∧ H a = some (.ins C dx fs) ∧ sp [y, x] H (fun v H' => (∃ b, v = .bl b) ∧ Q v H') E
theorem op_reflC {id : String} {B : Builtin} (F : FnOk X.prog X.w X.K X.mg X.base CX k f fd ps sp) (hr : Room k X.A) (hs : PySem.W.findIn X.K (.ref C) (cmpInfo op).2.2 = some (some (.ref f))) (hf : PySem.W.isFn X.K (.ref f) = true)
    (hsub : PySem.W.subIn X.K (.ref C) (.type "int") = some false) (hb : Binds X.K fd ps []) (hx : Passes CX X E)
    (slot : Slot "int" (cmpInfo op).2.1 id) (entry : entryFor table id = some B) (args : ∀ a b, argsOk id ⟨[a, b], []⟩)
    (dec : ∀ (b : Int) (u : Tok) (l : Addr) (C dx : Addr), Meets (B ⟨[.int b u, .ref l], []⟩) (fun _ R s => s.heap.get? l = some (PySem.W.instObj C dx) ∧ R (.ok (.ret .notImplemented)) s))
    (hne : op ≠ .Eq ∧ op ≠ .NotEq) (hop : ∀ a b, compareOp op a b = richCompare op a b := by intros; rfl) : OpR X (compareOp op) (rReflC C sp E) := by
  intro pins s σ H x y u v Q I rx ry h
  obtain ⟨i, a, dx, fs, rfl, rfl, ha, hsp⟩ := h
  obtain ⟨t, rfl⟩ := rx
  cases ry
  obtain ⟨mA, O, _⟩ := ins_get I.hok ha
  obtain ⟨od, J, _⟩ := O.look
  have ho : s.heap.get? a = some (PySem.W.instObj C dx) := by
    obtain ⟨_, _, _, e, _⟩ := I.hok a _ ha
    exact e
  have KX := I.kIn
  rw [hop]
  have one : wpAny (model X.prog X.w) X.A (tryCompare (.ref a) (cmpInfo op).2.2 (.int i t)) (fun r s' => ∃ v, r = some v ∧ EP X pins σ Q v s') X.xe s := by
    unfold tryCompare
    have r2 : Vals [V.ref a, V.int i] [Value.ref a, Value.int i t] := .cons rfl (.cons ⟨t, rfl⟩ .nil)
    refine wpAny_bind (PySem.W.ifBound_K KX J hs hf (wpAny_mono (run_fn F hr hb .nil hx I r2 hsp) (fun v s' hv => ?_) fun _ _ e => e))
    obtain ⟨v', H', I', rv, ⟨b, rfl⟩, q⟩ := hv
    cases rv
    exact wpAny_pure ⟨_, rfl, .bl b, H', I', rfl, q⟩
  have hT := typeIs_int s i t
  unfold richCompare
  simp only [hT.oneThing_none]
  refine wpAny_holding (wpAny_bind (wpAny_cRoomFor hr.units0 ?_))
  refine wpAny_bind (wpAny_typeOf hT (wpAny_bind (J.type.here ?_)))
  have hne1 : (Value.type "int" != Value.ref C) = true := rfl
  simp only [hne1, if_true]
  refine wpAny_bind ((PySem.W.looks_subIn KX hsub).here ?_)
  simp only [Bool.false_eq_true, if_false, Bool.not_false, if_true]
  refine wpAny_bind (m := tryCompare (.int i t) _ (.ref a)) (wpAny_tryCompare_declines hT slot (call_meets slot hT entry (args _ _) (dec i t a C dx) ⟨ho, rfl, ?_⟩))
  refine wpAny_bind (wpAny_mono one (fun r s' z => ?_) fun _ _ e => e)
  obtain ⟨v, rfl, hq⟩ := z
  exact wpAny_pure hq
end
theorem int_le_dec (b : Int) (u : Tok) (l : Addr) (C dx : Addr) :
    Meets (Builtin.«int.__le__» ⟨[.int b u, .ref l], []⟩) (fun _ R s => s.heap.get? l = some (PySem.W.instObj C dx) ∧ R (.ok (.ret .notImplemented)) s) :=
  .of_wp fun prog w A R s h => by obtain ⟨hp, g, d, tk, os⟩ := s; obtain ⟨hl, h⟩ := h; wp_walk using wpAny_loadPart' hl, wpAny_load hl; exact ⟨_, rfl, h⟩
theorem int_lt_dec (b : Int) (u : Tok) (l : Addr) (C dx : Addr) :
    Meets (Builtin.«int.__lt__» ⟨[.int b u, .ref l], []⟩) (fun _ R s => s.heap.get? l = some (PySem.W.instObj C dx) ∧ R (.ok (.ret .notImplemented)) s) :=
  .of_wp fun prog w A R s h => by obtain ⟨hp, g, d, tk, os⟩ := s; obtain ⟨hl, h⟩ := h; wp_walk using wpAny_loadPart' hl, wpAny_load hl; exact ⟨_, rfl, h⟩
end Own
set_option maxRecDepth 100000
set_option maxHeartbeats 4000000
/-! Rules of our own: arithmetic by the text's own operators, != by its own ==, abs and minus. -/
namespace Own
open PySem PySem.Spec PyProof.Rows L2
open AutoSeq1 (wpAny_loadPart')
theorem relV_back {v : V} {u : Value} {s' : Shared} {Q : Value → Shared → Prop} (r : RelV v u) (q : Q u s') : PySem.W.CmpBack Q u s' := by
  cases v <;> first | (obtain ⟨t, rfl⟩ := r; exact q) | (obtain rfl := r; exact q)
section
variable {X : Cx} {CX : CXT} {k : Nat} {C f : Addr} {fd : FuncData} {ps : List Str} {sp : Sp} {E : XK} {op : Operator}
/-- an own method in the place of an operator: an instance at the left, the same class or an int at the right -/
def rOwnB (C : Addr) (sp : Sp) (E : XK) : R2 := fun x y H Q => ∃ a dx fs, x = .ref a ∧ H a = some (.ins C dx fs) ∧ ((∃ j, y = .int j) ∨ ∃ b dy gs, y = .ref b ∧ H b = some (.ins C dy gs)) ∧ sp [x, y] H Q E
theorem op_ownB {fo ro rc : Option Value} (F : FnOk X.prog X.w X.K X.mg X.base CX k f fd ps sp) (hr : Room k X.A) (hs : PySem.W.findIn X.K (.ref C) (PySem.dunder op.info.2) = some (some (.ref f))) (hf : PySem.W.isFn X.K (.ref f) = true)
    (hc : PySem.W.selfFirst X.K C = true) (hR : PySem.W.findIn X.K (.ref C) (dunderR op.info.2) = some rc) (hp : rc = none ∨ ∃ g : Addr, rc = some (.ref g)) (h1 : PySem.W.findIn X.K (.type "int") (PySem.dunder op.info.2) = some fo)
    (h2 : PySem.W.findIn X.K (.type "int") (dunderR op.info.2) = some ro) (hsub : PySem.W.subIn X.K (.type "int") (.ref C) = some false) (hb : Binds X.K fd ps []) (hx : Passes CX X E) : OpR X (binaryOp op) (rOwnB C sp E) := by
  intro pins s σ H x y u v Q I rx ry h
  obtain ⟨a, dx, fs, rfl, ha, hy, hsp⟩ := h
  cases rx
  obtain ⟨mA, J, _⟩ := ins_get I.hok ha
  obtain ⟨od, J, _⟩ := J.look
  obtain ⟨m, hF⟩ := I.fr
  have r2 : Vals [V.ref a, y] [Value.ref a, v] := .cons rfl (.cons ry .nil)
  have fin : wpAny (model X.prog X.w) X.A (call (.ref f) [.ref a, v]) (PySem.W.CmpBack (EP X pins σ Q)) X.xe s := wpAny_mono (run_fn F hr hb .nil hx I r2 hsp) (fun w s' q => by
    obtain ⟨v', H', I', rv, q⟩ := q
    exact relV_back rv ⟨v', H', I', rv, q⟩) fun _ _ e => e
  rcases hy with ⟨j, rfl⟩ | ⟨b, dy, gs, rfl, hb'⟩
  · obtain ⟨t, rfl⟩ := ry
    exact PySem.W.ksp_binT (T := "int") hF I.ok.mod.kin J rfl hc hs hf hR hp h1 h2 hsub fin
  · cases ry
    obtain ⟨mB, J', _⟩ := ins_get I.hok hb'
    obtain ⟨od', J', _⟩ := J'.look
    exact PySem.W.binop_K hF I.ok.mod.kin J J'.type hc hs hf fin

/-- an int at the left, an instance with the reflected operator at the right -/
def rReflB (C : Addr) (sp : Sp) (E : XK) : R2 := fun x y H Q => ∃ i a dx fs, x = .int i ∧ y = .ref a ∧ H a = some (.ins C dx fs) ∧ sp [y, x] H Q E
theorem op_reflB {f0 : Addr} {id : String} {B : Builtin} (F : FnOk X.prog X.w X.K X.mg X.base CX k f fd ps sp) (hr : Room k X.A) (hs : PySem.W.findIn X.K (.ref C) (dunderR op.info.2) = some (some (.ref f))) (hf : PySem.W.isFn X.K (.ref f) = true)
    (hs0 : PySem.W.findIn X.K (.ref C) (PySem.dunder op.info.2) = some (some (.ref f0))) (hc : PySem.W.selfFirst X.K C = true) (hsub : PySem.W.subIn X.K (.ref C) (.type "int") = some false) (hb : Binds X.K fd ps []) (hx : Passes CX X E)
    (fills : fillsNumberSlot (.type "int") op.info.2 = pure true) (slot : Slot "int" (PySem.dunder op.info.2) id) (entry : entryFor table id = some B) (args : ∀ a b, argsOk id ⟨[a, b], []⟩)
    (dec : ∀ (b : Int) (u : Tok) (l : Addr) (C dx : Addr), Meets (B ⟨[.int b u, .ref l], []⟩) (fun _ R s => s.heap.get? l = some (PySem.W.instObj C dx) ∧ R (.ok (.ret .notImplemented)) s)) : OpR X (binaryOp op) (rReflB C sp E) := by
  intro pins s σ H x y u v Q I rx ry h
  obtain ⟨i, a, dx, fs, rfl, rfl, ha, hsp⟩ := h
  obtain ⟨t, rfl⟩ := rx
  cases ry
  obtain ⟨mA, O, _⟩ := ins_get I.hok ha
  obtain ⟨od, J, _⟩ := O.look
  have ho : s.heap.get? a = some (PySem.W.instObj C dx) := by
    obtain ⟨_, _, _, e, _⟩ := I.hok a _ ha
    exact e
  have KX := I.kIn
  obtain ⟨cd, rest, hcd, hm⟩ := PySem.W.ksp_first hc
  rcases hi : op.info with ⟨sym, nm⟩
  rw [hi] at hs hs0 fills slot
  dsimp only at hs hs0 fills slot
  have one : wpAny (model X.prog X.w) X.A (tryMethod (.ref a) (dunderR nm) (.int i t)) (fun r s' => ∃ v, r = some v ∧ EP X pins σ Q v s') X.xe s := by
    have r2 : Vals [V.ref a, V.int i] [Value.ref a, Value.int i t] := .cons rfl (.cons ⟨t, rfl⟩ .nil)
    refine PySem.W.ksp_try KX J hs hf (wpAny_mono (run_fn F hr hb .nil hx I r2 hsp) (fun v s' hv => ?_) fun _ _ e => e)
    obtain ⟨v', H', I', rv, q⟩ := hv
    exact relV_back rv ⟨v', H', I', rv, q⟩
  have hT := typeIs_int s i t
  have L3 : PySem.W.Looks (model X.prog X.w) s.heap (fillsNumberSlot (.ref C) nm) true := PySem.W.fills_K KX hcd hm hs0
  have hne : (Value.type "int" == Value.ref C) = false := Bool.eq_false_iff.mpr fun q => by cases beq_iff_eq.mp q
  have hpy : numberSlotInPython (.type "int") nm = pure false := rfl
  simp only [binaryOp, hi]
  refine wpAny_holding (wpAny_bind ?_)
  unfold binaryOp1
  refine wpAny_bind (wpAny_typeOf hT (wpAny_bind (J.type.here (wpAny_bind (wpAny_of_eq fills ?_)))))
  simp only [hne, Bool.false_eq_true, if_false]
  refine wpAny_bind (L3.here ?_)
  simp only [Bool.and_self, if_true]
  refine wpAny_bind ((PySem.W.looks_subIn KX hsub).here ?_)
  simp only [Bool.false_eq_true, if_false, pure_bind, Bool.not_false, Bool.and_self, if_true, hpy]
  refine wpAny_bind (wpAny_tryMethod_declines hT slot (call_meets slot hT entry (args _ _) (dec i t a C dx) ⟨ho, rfl, ?_⟩))
  dsimp only
  refine wpAny_bind (wpAny_mono one (fun r s' z => ?_) fun _ _ e => e)
  obtain ⟨v, rfl, hq⟩ := z
  exact wpAny_bind (wpAny_rule (wpAny_pure (wpAny_pure hq)))

/-- minus an instance -/
def rNeg (C : Addr) (sp : Sp) (E : XK) : V → Hp → VK → Prop := fun x H Q => ∃ a dx fs, x = .ref a ∧ H a = some (.ins C dx fs) ∧ sp [x] H Q E
theorem un_ownNeg (F : FnOk X.prog X.w X.K X.mg X.base CX k f fd ps sp) (hr : Room k X.A) (hs : PySem.W.findIn X.K (.ref C) "__neg__" = some (some (.ref f))) (hf : PySem.W.isFn X.K (.ref f) = true) (hb : Binds X.K fd ps []) (hx : Passes CX X E) :
    UnR X (unaryOp .USub) (rNeg C sp E) := by
  intro pins s σ H x v Q I rx h
  obtain ⟨a, dx, fs, rfl, ha, hsp⟩ := h
  cases rx
  obtain ⟨mA, J, _⟩ := ins_get I.hok ha
  obtain ⟨od, J, _⟩ := J.look
  obtain ⟨m, hF⟩ := I.fr
  exact PySem.W.ksp_neg hF I.ok.mod.kin J hs hf (run_fn F hr hb .nil hx I (vs := [.ref a]) (.cons rfl .nil) hsp)

/-- at any place below the body -/
theorem run_fnA {pins : List (Addr × Obj)} {σ : L2.St} {H : Hp} {s : Shared} {Q : VK} {us : List Value} {vs : List V} {A : Around} (F : FnOk X.prog X.w X.K X.mg X.base CX k f fd ps sp) (hr : Room k A) (hA : A.frames = X.A.frames) (hb : Binds X.K fd ps []) (hx : Passes CX X E)
    (I : Inv X pins σ H s) (r : Vals vs us) (h : sp vs H Q E) : wpAny (model X.prog X.w) A (call (.ref f) us) (EP X pins σ Q) X.xe s := by
  have hl : us.length = ps.length := by rw [← r.length]; exact F.len _ _ _ _ h
  have e0 : Env0 X.prog X.w X.K X.mg X.base A X.stack s H := by
    have e := I.env0
    exact ⟨by rw [hA]; exact e.frames, e.mod, e.bs, e.bsz, e.funs, e.frf, e.hok, e.bare⟩
  refine wpAny_call (codeAny_mono (F.run A X.stack s H ⟨us, []⟩ us vs Q E hr e0 (by
    have := hb s us I.kIn (by rw [List.append_nil]; exact hl)
    rwa [List.append_nil] at this) r h) fun r s' hq => ?_)
  cases r with
  | error e => exact hx pins σ H s e s' I hq
  | ok fl =>
    cases fl with
    | ret u => exact I.after hq
    | next => exact False.elim hq
    | brk => exact False.elim hq
    | cont => exact False.elim hq

/-! ### == and != by an own == -/
/-- an own ==: gives a bool -/
def rEqL (C : Addr) (sp : Sp) (E : XK) (g : Bool → Bool) : R2 := fun x y H Q => ∃ a dx fs, x = .ref a ∧ H a = some (.ins C dx fs) ∧ ((∃ j, y = .int j) ∨ ∃ b dy gs, y = .ref b ∧ H b = some (.ins C dy gs)) ∧ sp [x, y] H (fun v H' => ∃ b, v = .bl b ∧ Q (.bl (g b)) H') E
def rEqR (C : Addr) (sp : Sp) (E : XK) (g : Bool → Bool) : R2 := fun x y H Q => ∃ i a dx fs, x = .int i ∧ y = .ref a ∧ H a = some (.ins C dx fs) ∧ sp [y, x] H (fun v H' => ∃ b, v = .bl b ∧ Q (.bl (g b)) H') E
theorem op_eqL (F : FnOk X.prog X.w X.K X.mg X.base CX k f fd ps sp) (hr : Room k X.A) (hs : PySem.W.findIn X.K (.ref C) "__eq__" = some (some (.ref f))) (hf : PySem.W.isFn X.K (.ref f) = true) (hn : PySem.W.notFirst X.K C (.type "int") = true) (hb : Binds X.K fd ps []) (hx : Passes CX X E) :
    OpR X (compareOp .Eq) (rEqL C sp E fun b => b) := by
  intro pins s σ H x y u v Q I rx ry h
  obtain ⟨a, dx, fs, rfl, ha, hy, hsp⟩ := h
  cases rx
  obtain ⟨mA, J, _⟩ := ins_get I.hok ha
  obtain ⟨od, J, _⟩ := J.look
  obtain ⟨m, hF⟩ := I.fr
  have r2 : Vals [V.ref a, y] [Value.ref a, v] := .cons rfl (.cons ry .nil)
  have fin : wpAny (model X.prog X.w) X.A (call (.ref f) [.ref a, v]) (PySem.W.CmpBack (EP X pins σ Q)) X.xe s := wpAny_mono (run_fn F hr hb .nil hx I r2 hsp) (fun w s' q => by
    obtain ⟨v', H', I', rv, b, rfl, q⟩ := q
    cases rv
    exact ⟨.bl b, H', I', rfl, q⟩) fun _ _ e => e
  show wpAny (model X.prog X.w) X.A (richCompare .Eq (.ref a) v) (EP X pins σ Q) X.xe s
  rcases hy with ⟨j, rfl⟩ | ⟨b, dy, gs, rfl, hb'⟩
  · obtain ⟨t, rfl⟩ := ry
    exact PySem.W.cmp_K (op := .Eq) (tb := .type "int") hr.units0 hF I.ok.mod.kin J (PySem.W.Looks.of_pure rfl) hn hs hf fin
  · cases ry
    obtain ⟨mB, J', _⟩ := ins_get I.hok hb'
    obtain ⟨od', J', _⟩ := J'.look
    exact PySem.W.cmp_K (op := .Eq) (tb := .ref C) hr.units0 hF I.ok.mod.kin J J'.type (by simp [PySem.W.notFirst]) hs hf fin
theorem bind_ne (self : Value) : bindSpecial (.builtin "object.__ne__") self = pure (.builtin "object.__ne__", [self]) :=
  (Slot.of (T := "object") (name := "__ne__") (owner := "object") (n := "__ne__") (by rw [typeLookup_type, builtinLookup_eq_fast]; kernel_rfl) (by decide +kernel) (by decide +kernel) (by decide +kernel)
    (.inl (by decide +kernel)) (by rw [isSubtype_type]; kernel_rfl)).bind self
theorem plain_ne : plainId "object.__ne__" = true := by decide +kernel
/-- x.__ne__(y) of an instance without its own one -/
theorem try_ne {pins : List (Addr × Obj)} {σ : L2.St} {H : Hp} {s : Shared} {a dx : Addr} {fs : List (Str × V)} {y : V} {v : Value} {Q : VK} (F : FnOk X.prog X.w X.K X.mg X.base CX k f fd ps sp) (hr : Room (k + 1) X.A) (hs : PySem.W.findIn X.K (.ref C) "__eq__" = some (some (.ref f)))
    (hn : PySem.W.findIn X.K (.ref C) "__ne__" = some (some (.builtin "object.__ne__"))) (hO : PySem.W.subIn X.K (.ref C) (.type "object") = some true) (hf : PySem.W.isFn X.K (.ref f) = true) (hb : Binds X.K fd ps []) (hx : Passes CX X E) (I : Inv X pins σ H s)
    (ha : H a = some (.ins C dx fs)) (ry : RelV y v) (hsp : sp [.ref a, y] H (fun v H' => ∃ b, v = .bl b ∧ Q (.bl (!b)) H') E) :
    wpAny (model X.prog X.w) X.A (tryCompare (.ref a) "__ne__" v) (fun r s' => ∃ w, r = some w ∧ EP X pins σ Q w s') X.xe s := by
  obtain ⟨mA, J, _⟩ := ins_get I.hok ha
  obtain ⟨od, J, _⟩ := J.look
  have KX := I.kIn
  have r2 : Vals [V.ref a, y] [Value.ref a, v] := .cons rfl (.cons ry .nil)
  have inner : wpAny (model X.prog X.w) X.A.in1 (Builtin.«object.__ne__» ⟨[.ref a, v], []⟩) (fun fin s' => ∃ b, fin = .done (.ret (.bool b)) ∧ EP X pins σ Q (.bool b) s') X.xe s := by
    unfold Builtin.«object.__ne__»
    repeat (first | with_reducible refine wpAny_cRoomFor hr.in1.units0 ?_ | ((fail_if_success (with_reducible show wpAny _ _ (callSpecialIfBound? _ _ _) _ _ _)); wp_step))
    refine (PySem.W.ifBound_K KX J hs hf (wpAny_mono (run_fnA F hr.in1 rfl hb hx I r2 hsp) (fun w s' q => ?_) fun _ _ e => e))
    obtain ⟨v', H', I', rv, b, rfl, q⟩ := q
    cases rv
    exact wpAny_bind (wpAny_truthy_bool (wpAny_pure ⟨_, rfl, .bl (!b), H', I', rfl, q⟩))
  unfold tryCompare
  simp only [callSpecialIfBound?, bindSpecialIfBound?]
  refine wpAny_bind (wpAny_holding (wpAny_bind (wpAny_bind (wpAny_bind (J.type.here ((PySem.W.looks_findIn KX hn).here ?_))))))
  refine wpAny_bind (wpAny_askSetting (wpAny_ite ?_))
  have t2 : PySem.W.Looks (model X.prog X.w) s.heap (isInstance (.ref a) (.type "object")) true := J.type.andThen (PySem.W.looks_subIn KX hO)
  have fin : wpAny (model X.prog X.w) X.A (call (.builtin "object.__ne__") ([.ref a] ++ [v]) >>= fun v => pure (some v)) (fun r s' => wpAny (model X.prog X.w) X.A (match (motive := Option Value → Sem (Option Value)) r with
      | some .notImplemented | none => pure none
      | some v => pure (some v)) (fun r s' => ∃ w, r = some w ∧ EP X pins σ Q w s') X.xe s') X.xe s := by
    refine wpAny_bind (wpAny_call (codeAny_call_builtin plain_ne PySem.F.cmpEntry_ne (PySem.W.check_slot PySem.F.cmpKind_ne PySem.F.cmpSplit_ne t2 (PySem.F.cmpArgs_ne _ _) (wpAny_mono inner (fun fin s' q => ?_) fun _ _ e => e))))
    obtain ⟨b, rfl, q⟩ := q
    exact wpAny_pure (wpAny_pure ⟨_, rfl, q⟩)
  split
  · exact wpAny_bind (wpAny_of_eq (bind_ne _) (wpAny_pure (by exact fin)))
  · exact wpAny_tryCatch (wpAny_bind (wpAny_of_eq (bind_ne _) (wpAny_pure (by exact fin))))
end
end Own
set_option maxRecDepth 100000
set_option maxHeartbeats 4000000
namespace Own
open PySem PySem.Spec PyProof.Rows L2
open AutoSeq1 (wpAny_loadPart')
section
variable {X : Cx} {CX : CXT} {k : Nat} {C f : Addr} {fd : FuncData} {ps : List Str} {sp : Sp} {E : XK}
theorem op_neL (F : FnOk X.prog X.w X.K X.mg X.base CX k f fd ps sp) (hr : Room (k + 1) X.A) (hs : PySem.W.findIn X.K (.ref C) "__eq__" = some (some (.ref f))) (hn : PySem.W.findIn X.K (.ref C) "__ne__" = some (some (.builtin "object.__ne__")))
    (hO : PySem.W.subIn X.K (.ref C) (.type "object") = some true) (hf : PySem.W.isFn X.K (.ref f) = true) (hN : PySem.W.notFirst X.K C (.type "int") = true) (hb : Binds X.K fd ps []) (hx : Passes CX X E) : OpR X (compareOp .NotEq) (rEqL C sp E fun b => !b) := by
  intro pins s σ H x y u v Q I rx ry h
  obtain ⟨a, dx, fs, rfl, ha, hy, hsp⟩ := h
  cases rx
  have one := try_ne F hr hs hn hO hf hb hx I ha ry hsp
  obtain ⟨mA, J, _⟩ := ins_get I.hok ha
  obtain ⟨od, J, _⟩ := J.look
  have KX := I.kIn
  have go : ∀ t : Value, PySem.W.Looks (model X.prog X.w) s.heap (typeOf v) t → PySem.W.notFirst X.K C t = true → wpAny (model X.prog X.w) X.A (richCompare .NotEq (.ref a) v) (EP X pins σ Q) X.xe s := fun t hT hn => by
    unfold richCompare
    simp only [oneThing_ref, cmpInfo_NotEq]
    refine wpAny_holding (wpAny_bind (wpAny_cRoomFor hr.units0 ?_))
    refine wpAny_bind (J.type.here (wpAny_bind (hT.here ?_)))
    split
    · rename_i q
      have e : PySem.W.subIn X.K t (.ref C) = some false := by
        rcases Bool.or_eq_true_iff.mp hn with e | e
        · rw [beq_iff_eq.mp e] at q; simp at q
        · exact beq_iff_eq.mp e
      refine wpAny_bind ((PySem.W.looks_subIn KX e).here ?_)
      simp only [Bool.false_eq_true, if_false]
      refine wpAny_bind (wpAny_mono one (fun r s' z => ?_) fun _ _ e => e)
      obtain ⟨v, rfl, hq⟩ := z
      exact wpAny_pure hq
    · refine wpAny_bind (wpAny_pure ?_)
      simp only [Bool.false_eq_true, if_false]
      refine wpAny_bind (wpAny_mono one (fun r s' z => ?_) fun _ _ e => e)
      obtain ⟨v, rfl, hq⟩ := z
      exact wpAny_pure hq
  show wpAny (model X.prog X.w) X.A (richCompare .NotEq (.ref a) v) (EP X pins σ Q) X.xe s
  rcases hy with ⟨j, rfl⟩ | ⟨b, dy, gs, rfl, hb'⟩
  · obtain ⟨t, rfl⟩ := ry
    exact go (.type "int") (PySem.W.Looks.of_pure rfl) hN
  · cases ry
    obtain ⟨mB, J', _⟩ := ins_get I.hok hb'
    obtain ⟨od', J', _⟩ := J'.look
    exact go (.ref C) J'.type (by simp [PySem.W.notFirst])
/-- int == instance, int != instance: the int declines -/
theorem refl_cmp {op : CmpOp} {pins : List (Addr × Obj)} {σ : L2.St} {H : Hp} {s : Shared} {i : Int} {t : Tok} {a dx : Addr} {fs : List (Str × V)} {Q : VK} {id : String} {B : Builtin} (hr : Room k X.A) (I : Inv X pins σ H s) (ha : H a = some (.ins C dx fs))
    (hsub : PySem.W.subIn X.K (.ref C) (.type "int") = some false) (slot : Slot "int" (cmpInfo op).2.1 id) (entry : entryFor table id = some B) (args : ∀ a b, argsOk id ⟨[a, b], []⟩)
    (dec : ∀ (b : Int) (u : Tok) (l : Addr) (C dx : Addr), Meets (B ⟨[.int b u, .ref l], []⟩) (fun _ R s => s.heap.get? l = some (PySem.W.instObj C dx) ∧ R (.ok (.ret .notImplemented)) s))
    (one : wpAny (model X.prog X.w) X.A (tryCompare (.ref a) (cmpInfo op).2.2 (.int i t)) (fun r s' => ∃ v, r = some v ∧ EP X pins σ Q v s') X.xe s) :
    wpAny (model X.prog X.w) X.A (richCompare op (.int i t) (.ref a)) (EP X pins σ Q) X.xe s := by
  obtain ⟨mA, O, _⟩ := ins_get I.hok ha
  obtain ⟨od, J, _⟩ := O.look
  have ho : s.heap.get? a = some (PySem.W.instObj C dx) := by
    obtain ⟨_, _, _, e, _⟩ := I.hok a _ ha
    exact e
  have KX := I.kIn
  have hT := typeIs_int s i t
  unfold richCompare
  simp only [hT.oneThing_none]
  refine wpAny_holding (wpAny_bind (wpAny_cRoomFor hr.units0 ?_))
  refine wpAny_bind (wpAny_typeOf hT (wpAny_bind (J.type.here ?_)))
  have hne1 : (Value.type "int" != Value.ref C) = true := rfl
  simp only [hne1, if_true]
  refine wpAny_bind ((PySem.W.looks_subIn KX hsub).here ?_)
  simp only [Bool.false_eq_true, if_false, Bool.not_false, if_true]
  refine wpAny_bind (m := tryCompare (.int i t) _ (.ref a)) (wpAny_tryCompare_declines hT slot (call_meets slot hT entry (args _ _) (dec i t a C dx) ⟨ho, rfl, ?_⟩))
  refine wpAny_bind (wpAny_mono one (fun r s' z => ?_) fun _ _ e => e)
  obtain ⟨v, rfl, hq⟩ := z
  exact wpAny_pure hq
theorem int_eq_dec (b : Int) (u : Tok) (l : Addr) (C dx : Addr) :
    Meets (Builtin.«int.__eq__» ⟨[.int b u, .ref l], []⟩) (fun _ R s => s.heap.get? l = some (PySem.W.instObj C dx) ∧ R (.ok (.ret .notImplemented)) s) :=
  .of_wp fun prog w A R s h => by obtain ⟨hp, g, d, tk, os⟩ := s; obtain ⟨hl, h⟩ := h; wp_walk using wpAny_loadPart' hl, wpAny_load hl; exact ⟨_, rfl, h⟩
theorem int_ne_dec (b : Int) (u : Tok) (l : Addr) (C dx : Addr) :
    Meets (Builtin.«int.__ne__» ⟨[.int b u, .ref l], []⟩) (fun _ R s => s.heap.get? l = some (PySem.W.instObj C dx) ∧ R (.ok (.ret .notImplemented)) s) :=
  .of_wp fun prog w A R s h => by obtain ⟨hp, g, d, tk, os⟩ := s; obtain ⟨hl, h⟩ := h; wp_walk using wpAny_loadPart' hl, wpAny_load hl; exact ⟨_, rfl, h⟩
theorem int_ge_dec (b : Int) (u : Tok) (l : Addr) (C dx : Addr) :
    Meets (Builtin.«int.__ge__» ⟨[.int b u, .ref l], []⟩) (fun _ R s => s.heap.get? l = some (PySem.W.instObj C dx) ∧ R (.ok (.ret .notImplemented)) s) :=
  .of_wp fun prog w A R s h => by obtain ⟨hp, g, d, tk, os⟩ := s; obtain ⟨hl, h⟩ := h; wp_walk using wpAny_loadPart' hl, wpAny_load hl; exact ⟨_, rfl, h⟩
theorem int_gt_dec (b : Int) (u : Tok) (l : Addr) (C dx : Addr) :
    Meets (Builtin.«int.__gt__» ⟨[.int b u, .ref l], []⟩) (fun _ R s => s.heap.get? l = some (PySem.W.instObj C dx) ∧ R (.ok (.ret .notImplemented)) s) :=
  .of_wp fun prog w A R s h => by obtain ⟨hp, g, d, tk, os⟩ := s; obtain ⟨hl, h⟩ := h; wp_walk using wpAny_loadPart' hl, wpAny_load hl; exact ⟨_, rfl, h⟩
theorem int_add_dec (b : Int) (u : Tok) (l : Addr) (C dx : Addr) :
    Meets (Builtin.«int.__add__» ⟨[.int b u, .ref l], []⟩) (fun _ R s => s.heap.get? l = some (PySem.W.instObj C dx) ∧ R (.ok (.ret .notImplemented)) s) :=
  .of_wp fun prog w A R s h => by obtain ⟨hp, g, d, tk, os⟩ := s; obtain ⟨hl, h⟩ := h; wp_walk using wpAny_loadPart' hl, wpAny_load hl; exact ⟨_, rfl, h⟩
theorem int_sub_dec (b : Int) (u : Tok) (l : Addr) (C dx : Addr) :
    Meets (Builtin.«int.__sub__» ⟨[.int b u, .ref l], []⟩) (fun _ R s => s.heap.get? l = some (PySem.W.instObj C dx) ∧ R (.ok (.ret .notImplemented)) s) :=
  .of_wp fun prog w A R s h => by obtain ⟨hp, g, d, tk, os⟩ := s; obtain ⟨hl, h⟩ := h; wp_walk using wpAny_loadPart' hl, wpAny_load hl; exact ⟨_, rfl, h⟩
theorem int_mul_dec (b : Int) (u : Tok) (l : Addr) (C dx : Addr) :
    Meets (Builtin.«int.__mul__» ⟨[.int b u, .ref l], []⟩) (fun _ R s => s.heap.get? l = some (PySem.W.instObj C dx) ∧ R (.ok (.ret .notImplemented)) s) :=
  .of_wp fun prog w A R s h => by obtain ⟨hp, g, d, tk, os⟩ := s; obtain ⟨hl, h⟩ := h; wp_walk using wpAny_loadPart' hl, wpAny_load hl; exact ⟨_, rfl, h⟩
theorem op_eqR (F : FnOk X.prog X.w X.K X.mg X.base CX k f fd ps sp) (hr : Room k X.A) (hs : PySem.W.findIn X.K (.ref C) "__eq__" = some (some (.ref f))) (hf : PySem.W.isFn X.K (.ref f) = true) (hsub : PySem.W.subIn X.K (.ref C) (.type "int") = some false) (hb : Binds X.K fd ps []) (hx : Passes CX X E) :
    OpR X (compareOp .Eq) (rEqR C sp E fun b => b) := by
  intro pins s σ H x y u v Q I rx ry h
  obtain ⟨i, a, dx, fs, rfl, rfl, ha, hsp⟩ := h
  obtain ⟨t, rfl⟩ := rx
  cases ry
  obtain ⟨mA, O, _⟩ := ins_get I.hok ha
  obtain ⟨od, J, _⟩ := O.look
  refine refl_cmp (op := .Eq) hr I ha hsub PySem.F.slot_int_eq PySem.F.entry_int_eq PySem.F.args_int_eq_2 int_eq_dec ?_
  unfold tryCompare
  have r2 : Vals [V.ref a, V.int i] [Value.ref a, Value.int i t] := .cons rfl (.cons ⟨t, rfl⟩ .nil)
  refine wpAny_bind (PySem.W.ifBound_K I.kIn J hs hf (wpAny_mono (run_fn F hr hb .nil hx I r2 hsp) (fun v s' hv => ?_) fun _ _ e => e))
  obtain ⟨v', H', I', rv, b, rfl, q⟩ := hv
  cases rv
  exact wpAny_pure ⟨_, rfl, .bl b, H', I', rfl, q⟩
theorem op_neR (F : FnOk X.prog X.w X.K X.mg X.base CX k f fd ps sp) (hr : Room (k + 1) X.A) (hs : PySem.W.findIn X.K (.ref C) "__eq__" = some (some (.ref f))) (hn : PySem.W.findIn X.K (.ref C) "__ne__" = some (some (.builtin "object.__ne__")))
    (hO : PySem.W.subIn X.K (.ref C) (.type "object") = some true) (hf : PySem.W.isFn X.K (.ref f) = true) (hsub : PySem.W.subIn X.K (.ref C) (.type "int") = some false) (hb : Binds X.K fd ps []) (hx : Passes CX X E) : OpR X (compareOp .NotEq) (rEqR C sp E fun b => !b) := by
  intro pins s σ H x y u v Q I rx ry h
  obtain ⟨i, a, dx, fs, rfl, rfl, ha, hsp⟩ := h
  obtain ⟨t, rfl⟩ := rx
  cases ry
  exact refl_cmp (op := .NotEq) (hr.mono (Nat.le_succ k)) I ha hsub PySem.F.slot_int_ne PySem.F.entry_int_ne PySem.F.args_int_ne_2 int_ne_dec (try_ne F hr hs hn hO hf hb hx I ha (y := .int i) ⟨t, rfl⟩ hsp)
/-- abs of an instance -/
def rAbs (C : Addr) (sp : Sp) (E : XK) : List V → Hp → VK → Prop := fun xs H Q => ∃ a dx fs, xs = [.ref a] ∧ H a = some (.ins C dx fs) ∧ sp [.ref a] H Q E
theorem call_ownAbs (F : FnOk X.prog X.w X.K X.mg X.base CX k f fd ps sp) (hr : Room (k + 1) X.A) (hs : PySem.W.findIn X.K (.ref C) "__abs__" = some (some (.ref f))) (hf : PySem.W.isFn X.K (.ref f) = true) (hb : Binds X.K fd ps []) (hx : Passes CX X E) :
    CallR X (.builtin "abs") (rAbs C sp E) := by
  intro pins s σ H xs us Q I r h
  obtain ⟨a, dx, fs, rfl, ha, hsp⟩ := h
  obtain ⟨u, rfl, ru⟩ := vals1 r
  obtain rfl : u = Value.ref a := ru
  obtain ⟨mA, J, _⟩ := ins_get I.hok ha
  obtain ⟨od, J, _⟩ := J.look
  have inner : wpAny (model X.prog X.w) X.A.in1 (Builtin.«abs» ⟨[.ref a], []⟩) (fun fin s' => ∃ v, fin = .done (.ret v) ∧ EP X pins σ Q v s') X.xe s := by
    unfold Builtin.«abs»
    repeat (first | ((fail_if_success (with_reducible show wpAny _ _ (callSpecial? _ _ _) _ _ _)); wp_step))
    refine PySem.W.special_fn I.kIn J hs (beq_iff_eq.mp hf) (wpAny_mono (run_fnA F hr.in1 rfl hb hx I (vs := [.ref a]) (.cons rfl .nil) hsp) (fun w s' q => ?_) fun _ _ e => e)
    exact wpAny_pure ⟨_, rfl, q⟩
  refine wpAny_call (codeAny_call_builtin (b := Builtin.«abs») (by decide +kernel) (entryFor_of_tree (by kernel_rfl)) ?_)
  have hchk : checkBuiltinCall "abs" ⟨[.ref a], []⟩ = pure () := by kernel_rfl
  refine wpAny_of_eq hchk (wpAny_mono inner (fun fin s' q => ?_) fun _ _ e => e)
  obtain ⟨v, rfl, q⟩ := q
  exact q
end
end Own
set_option maxRecDepth 100000
set_option maxHeartbeats 4000000
/-! x(*y, e, ..): a starred argument first, others behind it. -/
namespace Own
open PySem PySem.Spec PyProof.Rows L2 StX
theorem args_sf {M : Model} {A : Around} {E : Value → Shared → Prop} {s : Shared} {f : Value} {x : Sem Value} {y : Bool × Sem Value} {rest : List (Bool × Sem Value)} {Q : Args → Shared → Prop}
    (h : wpAny M A (spliced ((true, x) :: y :: rest)) (fun vs s' => Q ⟨vs, []⟩ s') E s) : wpAny M A (evalArgs f true ((true, x) :: y :: rest) []) Q E s := by
  unfold evalArgs
  show wpAny M A (spliced ((true, x) :: y :: rest) >>= _) Q E s
  refine wpAny_bind (wpAny_mono h (fun vs s' q => ?_) fun _ _ x => x)
  exact wpAny_holding (wpAny_bind (wpAny_pure (wpAny_bind (wpAny_pure (wpAny_pure q)))))
section
variable {X : Cx} {CX : CXT} {k : Nat} {f : Addr} {sp : Sp} {E : XK} {x : Str} {e e2 : Expr} {es : List Expr} {te : TE} {t : TA} {p sp_ pos : Pos}
theorem pe_callSF (F : FnR X.prog X.w X.K X.mg X.base CX k f sp) (hr : Room k X.A) (hk : PySem.W.keepIn X.K (.ref f) = true) (hg : Gl X x) (hm : X.mg x = some (.ref f)) (hx : Passes CX X E) (he : PE X e te) (ha : PA X (e2 :: es) t) (hd : (x == ("__debug__" : Str)) = false := by decide)
    (hst : starEach (.Starred e sp_ :: e2 :: es) X.env = (true, eval e X.env) :: (false, eval e2 X.env) :: starEach es X.env := by rfl) (hs2 : starEach (.Starred e sp_ :: e2 :: es) X.env = (true, eval e X.env) :: starEach (e2 :: es) X.env := by rfl) :
    PE X (.Call (.Name x p) (.Starred e sp_ :: e2 :: es) [] pos) (fun σ H Q => te σ H fun y H1 => ∃ a xs, y = V.ref a ∧ (SqT X.K H1 a xs ∨ SqL X.K H1 a xs) ∧ t σ H1 fun ys H2 => sp (xs ++ ys) H2 Q E) := by
  refine ⟨fun pins s σ H Q I h => ?_⟩
  refine wpAny_Call_Name_kw (ld_glob I hg hm ?_ hd)
  have go : wpAny (model X.prog X.w) X.A (spliced (backTo pos (starEach (.Starred e sp_ :: e2 :: es) X.env))) (fun vs s1 => X.K.In s1.heap ∧ wpAny (model X.prog X.w) X.A (call (.ref f) ([] ++ vs)) (EP X pins σ Q) X.xe s1) X.xe s := by
    refine PySem.W.items_star (thn (he.run pins s σ H _ I h) fun v s1 z => ?_) hs2
    obtain ⟨y, H1, I1, ry, a, xs, ey, hxs, q⟩ := z
    subst ey
    obtain rfl : v = Value.ref a := ry
    refine star_any I1 hxs fun us s2 I2 rv => ?_
    refine thn (ha.run pos pins s2 σ H1 _ I2 q) fun ws s3 z => ?_
    obtain ⟨vs, H3, I3, r3, q3⟩ := z
    exact ⟨I3.kIn, wpAny_call (run_fnR F hr hx I3 (rv.append r3) q3)⟩
  rw [hst] at go ⊢
  exact PySem.W.ks_call rfl (PySem.W.keeps_K hk) (args_sf go)
end
/-! f(k = v, ..) with keywords alone -/
def tCallK0 (n : Nat) (sp : Sp) (gV : List V → List V → List V) (E : XK) (tk : TA) : TE := fun σ H Q => tk σ H fun zs H1 => zs.length = n ∧ sp (gV [] zs) H1 Q E
section
variable {X : Cx} {CX : CXT} {k : Nat} {f : Addr} {fd : FuncData} {sp : Sp} {E : XK} {x : Str} {p pos : Pos} {ps ks : List Str} {kws : List Keyword} {tk : TA} {g : List Value → List Value → List Value} {gV : List V → List V → List V}
theorem pe_callK0 (F : FnOk X.prog X.w X.K X.mg X.base CX k f fd ps sp) (hr : Room k X.A) (hg : Gl X x) (hm : X.mg x = some (.ref f)) (hk : PySem.W.keepIn X.K (.ref f) = true) (hb : KBn X.K fd ps 0 ks g gV) (hx : Passes CX X E) (hkw : PK X kws tk)
    (hall : (backToKw pos (keywordEach kws X.env)).all (·.1.isSome) = true := by rfl) (hks : (backToKw pos (keywordEach kws X.env)).filterMap (·.1) = ks := by rfl)
    (hdb : (x == ("__debug__" : Str)) = false := by decide) (hpl : ((backTo pos (starEach [] X.env)).any (·.1) || (backToKw pos (keywordEach kws X.env)).any (·.1.isNone)) = false := by rfl) :
    PE X (.Call (.Name x p) [] kws pos) (tCallK0 ks.length sp gV E tk) := by
  refine ⟨fun pins s σ H Q I h => ?_⟩
  refine wpAny_Call_Name_kw (ld_glob I hg hm ?_ hdb)
  refine PySem.W.callWith_KW0 (first := []) (h₀ := X.base) I.ok.mod.kin hk hall (thn (hkw.run pos pins s σ H _ I h) fun ws s2 ⟨zs, H2, I2, rz, hl, q2⟩ => ⟨I2.kIn, ?_⟩) hpl
  rw [hks]
  exact run_fnN (us := []) (vs := []) F hr hb hx I2 .nil rz rfl hl q2
end
end Own
set_option maxRecDepth 100000
set_option maxHeartbeats 4000000
/-! Several except clauses, with and without a name. -/
namespace Own
open PySem PySem.Spec PyProof.Rows L2
/-- an exception of the body, come down, ahead of a clause -/
structure Dn (X : Cx) (pins : List (Addr × Obj)) (a : Addr) (cls : Value) (d : Option Addr) (σ : L2.St) (H : Hp) (B : Heap) (sI s : Shared) : Prop where
  J : Inv X pins σ H sI
  nb : ∀ b o, sI.heap.get? b = some o → b ∉ frs X.stack → B.get? b = some o
  up : sI.heap.UpToSlots s.heap
  fl : HandSPX.FlyingZ B (X.env :: X.outer) a (Zc cls d) s.heap
  na : H a = none
  os : s.os = sI.os
  ag : AllBare s.gens
section
variable {X : Cx} {pins : List (Addr × Obj)} {a : Addr} {cls : Value} {d : Option Addr} {σ : L2.St} {H : Hp} {B : Heap} {sI s : Shared}
theorem Dn.inv (k : Dn X pins a cls d σ H B sI s) : Inv X pins σ H s := k.J.landed k.nb k.fl.1 k.up k.os k.ag
theorem Dn.out (k : Dn X pins a cls d σ H B sI s) : a ∉ frs (X.env :: X.outer) := fun hm => by
  obtain ⟨oe, vs, he, _, hd⟩ := k.fl.there
  obtain ⟨_, o', e', hnf⟩ := k.fl.2.2.1.mem hm
  rw [he] at e'; cases e'
  exact hnf _ hd
theorem Dn.nL (k : Dn X pins a cls d σ H B sI s) (hf : X.env.frame = some X.env.locals) : a ≠ X.env.locals := fun z => k.out (by
  rw [z]
  exact List.mem_filterMap.mpr ⟨X.env, List.mem_cons_self, hf⟩)
theorem Dn.nF (k : Dn X pins a cls d σ H B sI s) : a ∉ X.fs := fun hm => by
  obtain ⟨e, he, q⟩ := List.mem_filterMap.mp hm
  exact k.out (List.mem_filterMap.mpr ⟨e, List.mem_cons_of_mem _ he, q⟩)
/-- what the clauses hds do with an exception for which w holds -/
def Cl (X : Cx) (hds : List ExceptHandler) (w : Ends → WX) : Prop :=
  ∀ (pins : List (Addr × Obj)) (a : Addr) (cls : Value) (d : Option Addr) (σ : L2.St) (H : Hp) (B : Heap) (sI s : Shared) (D : Ends), Dn X pins a cls d σ H B sI s → w D cls d σ H →
    wpAny (model X.prog X.w) X.A (handleBy (.ref a) X.env hds) (SP X pins D) X.xe s
theorem cl_nil {Wout : WX} (hs : X.stack = X.env :: X.outer) (hf : X.env.frame = some X.env.locals) (tk : Takes X Wout) : Cl X [] fun _ => Wout := by
  intro pins a cls d σ H B sI s D k w
  refine wpAny_handleBy_nil ?_
  obtain ⟨k1, k2, k3, oe, vs, T, oT, ts', he, hz, hd, h1, hr⟩ := id k.fl
  unfold PySem.passOn
  refine wpAny_bind (wpAny_field he hd h1 ?_)
  rw [if_neg (show ¬ ((Value.ref T == Value.none) = true) from by simp)]
  have go : wpAny (model X.prog X.w) X.A (setFlight (.ref a) X.env.frame) (fun _ s2 => wpAny (model X.prog X.w) X.A (throw (.ref a) : Sem Flow) (SP X pins D) X.xe s2) X.xe s := by
    rw [hf]
    exact HandSPX.setFlight_upZ k.fl fun h2 hh up => wpAny_throw (tk _ _ ⟨a, B, sI, pins, σ, H, cls, d, rfl, k.J, k.nb, k.up.trans up, .inr (.inr (by rw [hs]; exact hh)), k.na, k.os, k.ag, w⟩)
  first
    | exact wpAny_bind (wpAny_pure (wpAny_bind go))
    | exact wpAny_bind go
/-- the clause's class is looked up and compared -/
theorem Dn.ask {x : Str} {np : Pos} {c : Value} {b : Bool} {Q : Bool → Shared → Prop} {E : Value → Shared → Prop} (k : Dn X pins a cls d σ H B sI s) (hf : X.env.frame = some X.env.locals) (hc : Names X x c) (hb : PySem.W.exmOne X.K cls c = some b) (q : Q b s) :
    wpAny (model X.prog X.w) (X.A.mark (some (.ref a))) (eval (.Name x np) X.env) (fun c s₁ => wpAny (model X.prog X.w) (X.A.mark (some (.ref a))) (excMatches (.ref a) c) Q E s₁) E s := by
  obtain ⟨oe, vs, he, hz, hd⟩ := k.fl.there
  have S := k.inv.suite he hd k.na (k.nL hf) k.nF
  have ty : PySem.W.Looks (model X.prog X.w) s.heap (typeOf (.ref a)) cls := fun A Q E s k q => wpAny_typeOf_ref (k _ _ he) (by rw [hz.1]; exact q)
  have em := PySem.W.exm_one (M := model X.prog X.w) k.inv.kIn ty hb
  obtain ⟨hg, hdb, hm | ⟨hm, hv, hnn⟩⟩ := hc
  · exact ld_glob (X := X.suite a ((a, oe) :: (X.pn ++ pins))) S hg hm (em.here q) hdb
  · exact ld_blt (X := X.suite a ((a, oe) :: (X.pn ++ pins))) S hg hm hv (em.here q) hnn hdb
theorem cl_on {x : Str} {c : Value} {ts : Addr → Value → Option Addr → TS} {b₀ : Stmt} {suite : List Stmt} {np pos : Pos} {hds : List ExceptHandler} {w : Ends → WX} (hf : X.env.frame = some X.env.locals) (hc : Names X x c)
    (hsu : ∀ (a : Addr) (oe : Obj) (cls : Value) (d : Option Addr) (pn : List (Addr × Obj)), Zc cls d oe → (∃ vs, oe.data = .fields vs) → PSs (X.suite a ((a, oe) :: pn)) (b₀ :: suite) (ts a cls d)) (r : Cl X hds w) :
    Cl X (.ExceptHandler (some (.Name x np)) none (b₀ :: suite) pos :: hds) fun D cls d σ H => ∃ b, PySem.W.exmOne X.K cls c = some b ∧ (b = true → ∀ a, H a = none → ts a cls d D σ H) ∧ (b = false → w D cls d σ H) := by
  intro pins a cls d σ H B sI s D k ⟨b, hb, yes, no⟩
  refine wpAny_handleBy_cons (codeAny_handlers_test (k.ask hf hc hb ?_)) (by intro q; cases q)
  cases b with
  | false => exact r pins a cls d σ H B sI s D k (no rfl)
  | true =>
    refine codeAny_handlers_suite (HandSPX.lands_againZ k.fl fun h2 fl2 up2 => ?_)
    have k2 : Dn X pins a cls d σ H B sI { s with heap := h2 } := ⟨k.J, k.nb, k.up.trans up2, fl2, k.na, k.os, k.ag⟩
    obtain ⟨oe, vs, he, hz, hd⟩ := fl2.there
    have S := k2.inv.suite he hd k.na (k.nL hf) k.nF
    refine wpAny_mono ((hsu a oe cls d (X.pn ++ pins) hz ⟨_, hd⟩).run [] _ σ H _ S (yes rfl a k.na)) (fun f s3 hsp => ?_) (fun _ _ z => False.elim z)
    have ok := k.J.ok
    cases f with
    | next => obtain ⟨σ3, H3, S3, q3⟩ := hsp; exact ⟨σ3, H3, S3.unsuite ok, q3⟩
    | brk => obtain ⟨σ3, H3, S3, q3⟩ := hsp; exact ⟨σ3, H3, S3.unsuite ok, q3⟩
    | cont => obtain ⟨σ3, H3, S3, q3⟩ := hsp; exact ⟨σ3, H3, S3.unsuite ok, q3⟩
    | ret u => obtain ⟨v3, σ3, H3, S3, r3, q3⟩ := hsp; exact ⟨v3, σ3, H3, S3.unsuite ok, r3, q3⟩
/-- what is wanted behind a suite whose name goes -/
def Ends.gone (D : Ends) (i : Nat) : Ends := { nx := fun σ H => D.nx (σ.set i none) H, rt := D.rt, bk := fun σ H => D.bk (σ.set i none) H, ct := fun σ H => D.ct (σ.set i none) H }
theorem cl_as {x n : Str} {c : Value} {i : Nat} {ts : Addr → Value → Option Addr → TS} {b₀ : Stmt} {suite : List Stmt} {np pos : Pos} {hds : List ExceptHandler} {w : Ends → WX} (hf : X.env.frame = some X.env.locals) (hN : X.N.Nodup) (hi : X.N[i]? = some n) (hln : X.env.kindOf n = some .local) (hc : Names X x c)
    (hsu : ∀ (a : Addr) (oe : Obj) (cls : Value) (d : Option Addr) (pn : List (Addr × Obj)), Zc cls d oe → (∃ vs, oe.data = .fields vs) → PSs (X.suite a ((a, oe) :: pn)) (b₀ :: suite) (ts a cls d)) (r : Cl X hds w) :
    Cl X (.ExceptHandler (some (.Name x np)) (some n) (b₀ :: suite) pos :: hds) fun D cls d σ H => ∃ b, PySem.W.exmOne X.K cls c = some b ∧ (b = true → σ.length = X.N.length → ∀ a, H a = none → ts a cls d (Ends.gone D i) (σ.set i (some (.ref a))) H) ∧ (b = false → w D cls d σ H) := by
  intro pins a cls d σ H B sI s D k ⟨b, hb, yes, no⟩
  refine wpAny_handleBy_cons (codeAny_handlers_test (k.ask hf hc hb ?_)) (by intro q; cases q)
  cases b with
  | false => exact r pins a cls d σ H B sI s D k (no rfl)
  | true =>
    refine codeAny_handlers_suite_as (HandSPX.lands_againZ k.fl fun h2 fl2 up2 => ?_)
    have k2 : Dn X pins a cls d σ H B sI { s with heap := h2 } := ⟨k.J, k.nb, k.up.trans up2, fl2, k.na, k.os, k.ag⟩
    obtain ⟨oe, vs, he, hz, hd⟩ := fl2.there
    have S := k2.inv.suite he hd k.na (k.nL hf) k.nF
    have ok := k.J.ok
    refine store_ok (X := X.suite a ((a, oe) :: (X.pn ++ pins))) (v := .ref a) S hN hi (.inl hln) rfl (fun s3 S3 => ?_) (.inr hln)
    refine wpAny_mono ((hsu a oe cls d (X.pn ++ pins) hz ⟨_, hd⟩).run [] s3 _ H _ S3 (yes rfl k.J.len a k.na)) (fun f s4 hsp => ?_) (fun _ _ z => False.elim z)
    have bye : ∀ {σ4 : L2.St} {H4 : Hp} {Q : Shared → Prop}, Inv (X.suite a ((a, oe) :: (X.pn ++ pins))) [] σ4 H4 s4 → (∀ s5, Inv X pins (σ4.set i none) H4 s5 → Q s5) →
        wpAny (model X.prog X.w) X.A (do bindName X.env n .none; unbindBehindTheSuite X.env n pos) (fun _ s5 => Q s5) X.xe s4 := fun {σ4 H4 Q} S4 hq => gone_ok (S4.unsuite ok) hN hi hln hq
    cases f with
    | next => obtain ⟨σ4, H4, S4, q4⟩ := hsp; exact bye S4 fun s5 J5 => ⟨_, _, J5, q4⟩
    | brk => obtain ⟨σ4, H4, S4, q4⟩ := hsp; exact bye S4 fun s5 J5 => ⟨_, _, J5, q4⟩
    | cont => obtain ⟨σ4, H4, S4, q4⟩ := hsp; exact bye S4 fun s5 J5 => ⟨_, _, J5, q4⟩
    | ret u => obtain ⟨v4, σ4, H4, S4, r4, q4⟩ := hsp; exact bye S4 fun s5 J5 => ⟨_, _, _, J5, r4, q4⟩
end
section
variable {X : Cx} {body : List Stmt} {h₀ : ExceptHandler} {hds : List ExceptHandler} {pos : Pos} {tb : WX → TS} {w : Ends → WX}
theorem ps_try_cl (hs : X.stack = X.env :: X.outer) (hf : X.env.frame = some X.env.locals)
    (hb : ∀ (W : WX) (pn : List (Addr × Obj)) (xe : Value → Shared → Prop), Takes (X.tr pn xe) W → PassesOwn (model X.prog X.w) X.A X.env xe → PSs (X.tr pn xe) body (tb W)) (hh : Cl X (h₀ :: hds) w) :
    PS X (.Try body (h₀ :: hds) [] [] pos) (fun D σ H => tb (w D) D σ H) := by
  refine ⟨fun pins s σ H D I h => ?_⟩
  have ok := I.ok
  have hfr : X.A.frames = some (X.env :: X.outer) := by rw [ok.frames, hs]
  refine wpAny_Try_except ?_
  have catch_ : Takes (X.tr (X.pn ++ pins) fun e s₁ => wpAny (model X.prog X.w) X.A (noteFrame e X.env) (fun _ s₂ => wpAny (model X.prog X.w) X.A (setFlight e none) (fun _ s₃ =>
      wpAny (model X.prog X.w) X.A (handleBy e X.env (h₀ :: hds)) (SP X pins D) X.xe s₃) X.xe s₂) X.xe s₁) (w D) := fun u s' xx => by
    obtain ⟨a, B, sI, pins', σ', H', cls, d, rfl, J', nb, up, sky, na, os, ag, ww⟩ := xx
    have sky' : Sky B (X.env :: X.outer) a (Zc cls d) X.env.locals s'.heap := by rw [← hs]; exact sky
    exact Sky.land Zc.steady hfr hf sky' fun h3 fl3 up3 => hh pins a cls d σ' H' B sI _ D ⟨J'.ofTry ok, nb, up.trans up3, fl3, na, os, ag⟩ ww
  refine wpAny_mono ((hb (w D) (X.pn ++ pins) _ catch_ PassesOwn.looking).run [] s σ H D (I.toTry _) h) (fun f s1 hsp => ?_) (fun e s1 he => he)
  cases f with
  | next => obtain ⟨σ', H', J', q⟩ := hsp; exact wpAny_execs_nil ⟨σ', H', J'.ofTry ok, q⟩
  | brk => obtain ⟨σ', H', J', q⟩ := hsp; exact ⟨σ', H', J'.ofTry ok, q⟩
  | cont => obtain ⟨σ', H', J', q⟩ := hsp; exact ⟨σ', H', J'.ofTry ok, q⟩
  | ret u => obtain ⟨v, σ', H', J', r, q⟩ := hsp; exact ⟨v, σ', H', J'.ofTry ok, r, q⟩
end
end Own
set_option maxRecDepth 100000
set_option maxHeartbeats 4000000
/-! Promises of defs that are called where no object is being shown (for repr), and the end of such a law, with tables of code objects. -/
namespace Own
open PySem PySem.Spec PyProof.Rows L2
structure FnG (P : Program) (w : World) (K : PySem.W.Frag) (mg : Str → Option Value) (base : Heap) (CX : CXT) (k : Nat) (f : Addr) (fd : FuncData) (ps : List Str) (sp : Sp) : Prop where
  len : ∀ vs H Q E, sp vs H Q E → vs.length = ps.length
  run : ∀ (A : Around) (outer : List Env) (s : Shared) (H : Hp) (args : Args) (us : List Value) (vs : List V) (Q : VK) (E : XK), A.guards = some [] → Room k A → Env0 P w K mg base A outer s H → BindsTo s fd args (ps.zip us) → Vals vs us →
    sp vs H Q E → codeAny (model P w) A (.call (.ref f) args) (CR CX outer P w H s Q E) s
section
variable {P : Program} {w : World} {K : PySem.W.Frag} {mg : Str → Option Value} {base : Heap} {x qual : Str} {st : Stmt} {f c : Addr} {fd : FuncData} {N ps : List Str} {k : Nat} {sp : Sp}
theorem okG (F : Fun K x qual st f fd) (S : FnScope N ps (defScope st)) (len : ∀ vs H Q E, sp vs H Q E → vs.length = ps.length)
    (hbody : ∀ (cdv : Value) (A : Around) (outer : List Env) (s : Shared) (H : Hp) (vs : List V) (Q : VK) (E : XK), A.guards = some [] → Room k (A.deeper (envOfC qual (defScope st) s.heap.objs.size f cdv)) → sp vs H Q E →
      ∃ t, PSs (cxOf CX0 P w K mg base N qual (defScope st) f cdv A outer s H E).nox (defBody st) t ∧ t { nx := fun _ H' => Q .non H', rt := Q } (start N vs) H) : FnG P w K mg base CX0 (k + 1) f fd ps sp := by
  obtain ⟨oc, od, kV, doc, pm, an, cdv, ct, osl, rfl, lk, hcd⟩ := F.ex
  refine ⟨len, fun A outer s H args us vs Q E hg hr e0 hb r hsp => LamX.run_ofS lk hcd S hr e0 hb r (len _ _ _ _ hsp) fun hr2 => ?_⟩
  obtain ⟨t, h, q⟩ := hbody cdv A outer s H vs Q E hg hr2 hsp
  exact ⟨t, h.nox, q⟩
/-- its code object is known -/
theorem okC (F : Fun K x qual st f fd) (hc : fd.code = .ref c) (S : FnScope N ps (defScope st)) (len : ∀ vs H Q E, sp vs H Q E → vs.length = ps.length)
    (hbody : ∀ (A : Around) (outer : List Env) (s : Shared) (H : Hp) (vs : List V) (Q : VK) (E : XK), Room k (A.deeper (envOfC qual (defScope st) s.heap.objs.size f (.ref c))) → sp vs H Q E →
      ∃ t, PSs (cxOf CX0 P w K mg base N qual (defScope st) f (.ref c) A outer s H E).nox (defBody st) t ∧ t { nx := fun _ H' => Q .non H', rt := Q } (start N vs) H) : FnOk P w K mg base CX0 (k + 1) f fd ps sp := by
  obtain ⟨oc, od, kV, doc, pm, an, cdv, ct, osl, rfl, lk, hcd⟩ := F.ex
  obtain rfl : cdv = .ref c := hc
  refine fn_of lk hcd S len fun A outer s H vs Q E hr hsp => ?_
  obtain ⟨t, h, q⟩ := hbody A outer s H vs Q E hr hsp
  exact ⟨t, h.nox, q⟩
end
section
variable {X : Cx} {CX : CXT} {k : Nat} {f : Addr} {fd : FuncData} {ps : List Str} {sp : Sp} {E : XK} {x : Str} {e : Expr} {es : List Expr} {t : TA} {p pos : Pos}
theorem run_fnG {pins : List (Addr × Obj)} {σ : L2.St} {H : Hp} {s : Shared} {Q : VK} {us : List Value} {vs : List V} (F : FnG X.prog X.w X.K X.mg X.base CX k f fd ps sp) (hg : X.A.guards = some []) (hr : Room k X.A) (hb : Binds X.K fd ps []) (hx : Passes CX X E)
    (I : Inv X pins σ H s) (r : Vals vs us) (h : sp vs H Q E) : wpAny (model X.prog X.w) X.A (call (.ref f) us) (EP X pins σ Q) X.xe s := by
  have hl : us.length = ps.length := by rw [← r.length]; exact F.len _ _ _ _ h
  have hb2 : BindsTo s fd ⟨us, []⟩ (ps.zip us) := by
    have := hb s us I.kIn (by rw [List.append_nil]; exact hl)
    rwa [List.append_nil] at this
  refine wpAny_call (codeAny_mono (F.run X.A X.stack s H ⟨us, []⟩ us vs Q E hg hr I.env0 hb2 r h) fun r s' hq => ?_)
  match r, hq with
  | .error e, hq => exact hx pins σ H s e s' I hq
  | .ok (.ret u), hq => exact I.after hq
  | .ok .next, hq => exact False.elim hq
  | .ok .brk, hq => exact False.elim hq
  | .ok .cont, hq => exact False.elim hq
theorem pe_callG (F : FnG X.prog X.w X.K X.mg X.base CX k f fd ps sp) (hg : X.A.guards = some []) (hr : Room k X.A) (hn : Gl X x) (hm : X.mg x = some (.ref f)) (hk : PySem.W.keepIn X.K (.ref f) = true) (hb : Binds X.K fd ps []) (hx : Passes CX X E)
    (ha : PA X (e :: es) t) (hdb : (x == ("__debug__" : Str)) = false := by decide) (he : starEach (e :: es) X.env = (false, eval e X.env) :: starEach es X.env := by rfl) (hpl : (backTo pos (starEach es X.env)).any (·.1) = false := by rfl) :
    PE X (.Call (.Name x p) (e :: es) [] pos) (fun σ H Q => t σ H fun vs H1 => sp vs H1 Q E) := by
  refine ⟨fun pins s σ H Q I h => wpAny_Call_Name_kw (ld_glob I hn hm ?_ hdb)⟩
  refine PySem.W.callWith_K (h₀ := X.base) I.ok.mod.kin hk (thn (ha.run pos pins s σ H _ I h) fun us s1 z => ?_) he hpl
  obtain ⟨vs, H1, I1, r, q⟩ := z
  exact ⟨I1.kIn, run_fnG F hg hr hb hx I1 r q⟩
/-- repr of data -/
def rRepr (K : PySem.W.Frag) : List V → Hp → VK → Prop := fun xs H Q => ∃ a d, xs = [.ref a] ∧ Dp K H (.ref a) d ∧ d.showable = true ∧ d.hasDict = false ∧ d.depth ≤ 60 ∧ d.shown.length ≤ sizeLine ∧ Q (.str d.shown) H
theorem call_repr (hg : X.A.guards = some []) (hu : X.A.units + 64 < cLine) : CallR X (.builtin "repr") (rRepr X.K) := by
  intro pins s σ H xs us Q I r h
  obtain ⟨a, d, rfl, hd, h1, h2, h3, h4, q⟩ := h
  obtain ⟨u, rfl, ru⟩ := vals1 r
  obtain rfl : u = Value.ref a := ru
  obtain ⟨as, rd⟩ := Dp.reads I d _ _ hd rfl
  exact repr_of_reads' rd h1 (fun e => by rw [h2] at e; cases e) hg (by omega) (fun _ _ e => e) (fun h' u tk hk => ⟨.str d.shown, H, I.kept hk, ⟨u, rfl⟩, q⟩) h4
end

/-! ### the end -/
/-- what is tracked at the law's entry: the tables, and the script unless it is the module's own -/
structure Ent (P : Program) (w : World) (K : PySem.W.Frag) (a : Addr) (cs : List (Addr × Addr)) (h : Heap) (ns : List Int) (H : Hp) : Prop where
  tab : ∀ p ∈ cs, H p.2 = some (.tbl #[])
  scr : SqL K H a (ns.map V.int)
  ok : HOk P w H h
  out : ∀ b u, H b = some u → K.lookup b = none
  only : ∀ b u, H b = some u → (u = .tbl #[] ∧ b ∈ cs.map (·.2)) ∨ (∃ xs o, u = .frz o (.lst xs) ∧ b = a)
theorem ent {P : Program} {w : World} {K : PySem.W.Frag} {a : Addr} {cs : List (Addr × Addr)} {h : Heap} {vs : List Value} {ns : List Int} (KX : K.In h) (hT : ∀ p ∈ cs, h.get? p.2 = some { cls := .none, data := .fields #[] }) (nT : ∀ p ∈ cs, K.lookup p.2 = none)
    (ha : h.get? a = some { cls := .type "list", data := .seq vs.toArray }) (hi : IntsAre vs ns) (hl : ns.length ≤ sizeLine) : ∃ H, Ent P w K a cs h ns H := by
  have rv := vals_ints hi
  have inT : ∀ b, b ∈ cs.map (·.2) → h.get? b = some { cls := .none, data := .fields #[] } ∧ K.lookup b = none := fun b m => by
    obtain ⟨p, hp, rfl⟩ := List.mem_map.mp m
    exact ⟨hT p hp, nT p hp⟩
  have aT : a ∉ cs.map (·.2) := fun m => by
    have z := (inT a m).1
    rw [ha] at z
    exact nomatch congrArg Obj.cls (Option.some.inj z)
  have hm : ∀ p ∈ cs, p.2 ∈ cs.map (·.2) := fun p hp => List.mem_map_of_mem hp
  by_cases hk : K.lookup a = none
  · refine ⟨fun b => if b ∈ cs.map (·.2) then some (.tbl #[]) else if b = a then some (.frz { cls := .type "list", data := .seq vs.toArray } (.lst (ns.map V.int))) else none,
      fun p hp => if_pos (hm p hp), .inl (.inr ⟨{ cls := .type "list", data := .seq vs.toArray }, ?_⟩), fun b u e => ?_, fun b u e => ?_, fun b u e => ?_⟩
    · show (if a ∈ cs.map (·.2) then _ else _) = _
      rw [if_neg aT, if_pos rfl]
    · by_cases m : b ∈ cs.map (·.2)
      · rw [if_pos m] at e
        cases e
        exact (inT b m).1
      · rw [if_neg m] at e
        by_cases eb : b = a
        · rw [if_pos eb] at e
          cases e
          subst eb
          exact ⟨ha, by rw [List.length_map]; exact hl, vs, _, rv, ha⟩
        · rw [if_neg eb] at e
          cases e
    · by_cases m : b ∈ cs.map (·.2)
      · exact (inT b m).2
      · rw [if_neg m] at e
        by_cases eb : b = a
        · rw [eb]; exact hk
        · rw [if_neg eb] at e
          cases e
    · by_cases m : b ∈ cs.map (·.2)
      · rw [if_pos m] at e
        cases e
        exact .inl ⟨rfl, m⟩
      · rw [if_neg m] at e
        by_cases eb : b = a
        · rw [if_pos eb] at e
          cases e
          exact .inr ⟨_, _, rfl, eb⟩
        · rw [if_neg eb] at e
          cases e
  · obtain ⟨o, ho⟩ := Option.ne_none_iff_exists'.mp hk
    have e0 := KX a o ho
    rw [ha] at e0
    cases e0
    refine ⟨fun b => if b ∈ cs.map (·.2) then some (.tbl #[]) else none, fun p hp => if_pos (hm p hp), .inr ⟨_, vs.toArray, _, ho, rfl, rfl, rfl, by rw [List.size_toArray, hi.length]; exact hl, by simpa using rv⟩, fun b u e => ?_, fun b u e => ?_, fun b u e => ?_⟩
    · by_cases m : b ∈ cs.map (·.2)
      · rw [if_pos m] at e
        cases e
        exact (inT b m).1
      · rw [if_neg m] at e
        cases e
    · by_cases m : b ∈ cs.map (·.2)
      · exact (inT b m).2
      · rw [if_neg m] at e
        cases e
    · by_cases m : b ∈ cs.map (·.2)
      · rw [if_pos m] at e
        cases e
        exact .inl ⟨rfl, m⟩
      · rw [if_neg m] at e
        cases e
end Own
set_option maxRecDepth 100000
set_option maxHeartbeats 4000000
namespace Own
open PySem PySem.Spec PyProof.Rows L2
open LamX (TabB)
section
variable {P : Program} {w : World} {K : PySem.W.Frag} {a : Addr} {cs : List (Addr × Addr)} {h : Heap} {vs : List Value} {ns : List Int} {H : Hp}
theorem Ent.none (T : Ent P w K a cs h ns H) (ha : h.get? a = some { cls := .type "list", data := .seq vs.toArray }) {b : Addr} {o : Obj} (e : h.get? b = some o) (h1 : ∀ vs n, o.data ≠ .seq vs n) (h2 : o.data ≠ .fields #[]) : H b = none := by
  cases q : H b with
  | none => rfl
  | some u =>
    rcases T.only b u q with ⟨rfl, _⟩ | ⟨_, _, _, rfl⟩
    · have z : h.get? b = some { cls := .none, data := .fields #[] } := T.ok b _ q
      rw [e] at z
      cases z
      exact absurd rfl h2
    · rw [ha] at e
      cases e
      exact absurd rfl (h1 _ _)
theorem Ent.dict (T : Ent P w K a cs h ns H) (ha : h.get? a = some { cls := .type "list", data := .seq vs.toArray }) {b : Addr} {o : Obj} {es : Array DictEntry} {n : Nat} (e : h.get? b = some o) (d : o.data = .dict es n) : H b = .none := T.none ha e (fun vs n z => nomatch d.symm.trans z) fun z => nomatch d.symm.trans z
theorem Ent.nsp (T : Ent P w K a cs h ns H) (ha : h.get? a = some { cls := .type "list", data := .seq vs.toArray }) {b : Addr} {m : Str → Option Value} (x : h.Ns b m) : (hidT h H).Ns b m := by
  obtain ⟨o, es, n, e, d, r⟩ := x
  exact ⟨o, es, n, hidT_get e (T.dict ha e d), d, r⟩
theorem Ent.kin (T : Ent P w K a cs h ns H) (KX : K.In h) : K.In (hidT h H) := fun b o e => hidT_get (KX b o e) (by
  cases q : H b with
  | none => rfl
  | some u => rw [T.out b u q] at e; cases e)
theorem Ent.tabB (T : Ent P w K a cs h ns H) (ha : h.get? a = some { cls := .type "list", data := .seq vs.toArray }) {mg : Str → Option Value} (hg : h.Ns mainGlobals mg) {c p : Addr} (hP : h.get? p = some { cls := .none, data := .fields #[] }) (C : PySem.W.CodeHd h c p)
    (hbm : ∃ (bm : Addr) (ob : Obj), mg "__builtins__" = some (.ref bm) ∧ bm ≠ builtinsNs ∧ h.get? bm = some ob ∧ ob.cls = .type "module" ∧ ob.dict = some builtinsNs ∧ ob.data = .plain) : TabB (hidT h H) mg c p := by
  obtain ⟨og, es, n, eg, dg, _⟩ := hg
  refine ⟨?_, ?_, fun z => ?_⟩
  · obtain ⟨o, us, file, tf, flags, tg, inF, text, tt, e, r1, r2, r3, r⟩ := C
    refine ⟨o, us, file, tf, flags, tg, inF, text, tt, hidT_get e (T.none ha e (fun _ _ z => nomatch r2.symm.trans z) fun z => ?_), r1, r2, r3, r⟩
    have z2 := r2.symm.trans z
    cases z2
    simp at r3
  · obtain ⟨bm, ob, b1, b2, b3, b4, b5, b6⟩ := hbm
    refine ⟨bm, ob, b1, b2, fun z => ?_, fun z => ?_, hidT_get b3 (T.none ha b3 (fun _ _ z => nomatch b6.symm.trans z) fun z => nomatch b6.symm.trans z), b4, b5, b6⟩
    · rw [z, eg] at b3
      cases b3
      exact nomatch dg.symm.trans b6
    · rw [z, hP] at b3
      cases b3
      exact nomatch b6
  · rw [z, hP] at eg
    cases eg
    exact nomatch dg
/-- from the law's promise, at the heap behind the top -/
theorem law_callG {mg mb : Str → Option Value} {k : Nat} {fa : Addr} {fd : FuncData} {x : Str} {sp : Sp} {s : Shared} (KX : K.In s.heap) (hg : s.heap.Ns mainGlobals mg) (hb : s.heap.Ns builtinsNs mb) (hbb : ∀ x : Str, x ≠ "__name__" → mb x = bootBuiltins x) (hlim : s.heap.NoLimit)
    (hgn : s.gens = #[]) (hT : ∀ p ∈ cs, s.heap.get? p.2 = some { cls := .none, data := .fields #[] }) (nT : ∀ p ∈ cs, K.lookup p.2 = none) (C : ∀ p ∈ cs, PySem.W.CodeHd s.heap p.1 p.2)
    (hbm : ∃ (bm : Addr) (ob : Obj), mg "__builtins__" = some (.ref bm) ∧ bm ≠ builtinsNs ∧ s.heap.get? bm = some ob ∧ ob.cls = .type "module" ∧ ob.dict = some builtinsNs ∧ ob.data = .plain)
    (ha : s.heap.get? a = some { cls := .type "list", data := .seq vs.toArray }) (hi : IntsAre vs ns) (hl : ns.length ≤ sizeLine) (hr : Room k callerA)
    (F : ∀ base : Heap, K.In base → base.Ns mainGlobals mg → (∀ p ∈ cs, TabB base mg p.1 p.2) → FnG P w K mg base CX0 k fa fd [x] sp) (hbind : ∀ (s : Shared) (u : Value), BindsTo s fd ⟨[u], []⟩ [(x, u)])
    (hsp : ∀ H : Hp, (∀ p ∈ cs, H p.2 = some (.tbl #[])) → SqL K H a (ns.map V.int) → sp [.ref a] H (fun v _ => v = .bl true) fun _ _ _ => False) :
    codeAny (model P w) callerA (.call (.ref fa) ⟨[.ref a], []⟩) (fun r s' => r = .ok (.ret (.bool true)) ∧ OldK s.heap s'.heap ∧ s'.os = s.os ∧ AllBare s'.gens) s := by
  obtain ⟨H, T⟩ := ent (P := P) (w := w) KX hT nT ha hi hl
  have KB := T.kin KX
  have GB := T.nsp ha hg
  have TB : ∀ p ∈ cs, TabB (hidT s.heap H) mg p.1 p.2 := fun p hp => T.tabB ha hg (hT p hp) (C p hp) hbm
  have M : L2.Mod K mg (hidT s.heap H) := ⟨KB, GB, ⟨mb, T.nsp ha hb, hbb⟩, by obtain ⟨mc, q1, q2⟩ := hlim; exact ⟨mc, T.nsp ha q1, q2⟩⟩
  have e0 : Env0 P w K mg (hidT s.heap H) callerA [] s H := { frames := rfl, mod := M, bs := fun b o e => of_hidT e, bsz := Nat.le_of_eq (hidT_size _ _), funs := trivial, frf := fun b m => absurd (show b ∈ ([] : List Addr) from m) List.not_mem_nil, hok := T.ok, bare := .of_eq hgn }
  refine codeAny_mono ((F _ KB GB TB).run callerA [] s H ⟨[.ref a], []⟩ [.ref a] [.ref a] _ _ rfl hr e0 (hbind s (.ref a)) (.cons rfl .nil) (hsp H T.tab T.scr)) fun r s' q => ?_
  match r, q with
  | .error e, q => exact False.elim q
  | .ok .next, q => exact False.elim q
  | .ok .brk, q => exact False.elim q
  | .ok .cont, q => exact False.elim q
  | .ok (.ret u), q =>
    obtain ⟨v, H', os, bare, un, ok', rv, qv⟩ := q
    obtain rfl : v = .bl true := qv
    obtain rfl : u = Value.bool true := rv
    have old : ∀ b o, s.heap.get? b = some o → (s'.heap.get? b = some o ∧ b ∉ cs.map (·.2)) ∨ (∃ p ∈ cs, p.2 = b ∧ o = { cls := .none, data := .fields #[] } ∧ ∃ more : Array Value, s'.heap.get? b = some { cls := .none, data := .fields more }) := fun b o e => by
      by_cases m : b ∈ cs.map (·.2)
      · obtain ⟨p, hp, rfl⟩ := List.mem_map.mp m
        obtain ⟨more, z⟩ := un.tbls p.2 #[] (T.tab p hp)
        rw [hT p hp] at e
        cases e
        exact .inr ⟨p, hp, rfl, rfl, _, ok' p.2 _ z⟩
      · refine .inl ⟨?_, m⟩
        cases q : H b with
        | none => exact un.keep b o e q (fun z => nomatch (show b ∈ ([] : List Addr) from z)) (fun z => nomatch (show b ∈ ([] : List Addr) from z))
        | some u =>
          rcases T.only b u q with ⟨_, m2⟩ | ⟨xs, ob, rfl, rfl⟩
          · exact absurd m2 m
          · have z1 := (T.ok _ _ q).1
            have z2 := (ok' _ _ (un.frzs _ ob _ q)).1
            rw [e] at z1
            cases z1
            exact z2
    refine ⟨rfl, ⟨fun b o e => ?_, fun b o e => ?_⟩, os, bare⟩
    · rcases old b o e with ⟨z, _⟩ | ⟨p, hp, rfl, rfl, more, z⟩
      · exact .inl z
      · exact .inr (.inl ⟨((C p hp).tab (hT p hp)).isCodeTable, rfl, #[], more, rfl, by rw [Array.empty_append]; exact z⟩)
    · rcases old b o e with ⟨z, _⟩ | ⟨p, hp, rfl, rfl, more, z⟩
      · exact ⟨_, z⟩
      · exact ⟨_, z⟩
end
/-- what is known of the law at the head's heap h; tabs: code objects and tables of the defs that make lambdas -/
structure LawG (l : PySem.W.OpenLaw) (w : World) (K : PySem.W.Frag) (k n : Nat) (x : Str) (mg : Str → Option Value) (fa : Addr) (h : Heap) (tabs : List (Addr × Addr)) : Prop where
  at_ : ∀ p ∈ tabs, PySem.W.CodeHd h p.1 p.2 ∧ h.get? p.2 = some (PySem.W.tabObj #[])
  out : ∀ p ∈ tabs, K.lookup p.2 = none
  pr : ∃ (fd : FuncData) (sp : Sp), (∀ (s : Shared) (u : Value), BindsTo s fd ⟨[u], []⟩ [(x, u)]) ∧
    (∀ (H : Hp) (a : Addr) (ns : List Int), ns.length ≤ n → (∀ p ∈ tabs, H p.2 = some (.tbl #[])) → SqL K H a (ns.map V.int) → sp [.ref a] H (fun v _ => v = .bl true) fun _ _ _ => False) ∧
    ∀ base : Heap, K.In base → base.Ns mainGlobals mg → (∀ p ∈ tabs, TabB base mg p.1 p.2) → FnG l.prog w K mg base CX0 k fa fd [x] sp
theorem walk_ofG {l : PySem.W.OpenLaw} {n k : Nat} {q : Program} {loose : List Str} {XP : (Str → Option Value) → Heap → Prop} {YP : World → Heap → Prop} {d : DefRec} {K : Params → PySem.W.Frag} {x : Str}
    (hn : l.most = some n) (hn2 : n ≤ sizeLine) (hdf : d.params.defaults = []) (hr : Room k callerA) (hY : ∀ (w : World) (h : Heap), YP w h → (K w.params).In h)
    (F : ∀ (w : World) (mg : Str → Option Value) (fa : Addr) (h : Heap), YP w h → (K w.params).In h → h.Ns mainGlobals mg → mg d.name = some (.ref fa) → ∃ tabs, LawG l w (K w.params) k n x mg fa h tabs) :
    PySem.W.WalkO q loose XP YP l.row.toRowW d [] (fun f vs => PySem.call f vs) := by
  refine Att.attach_call hn hdf fun w s₀ s₁ mg mb fa o pm cd doc a vs ns G Y ho hd hcd hmg hobj hints hlen hg => ?_
  have KX := hY w _ Y
  obtain ⟨tabs, L⟩ := F w mg fa _ Y KX G.T.g hmg
  obtain ⟨fd, sp, hb, hsp, hF⟩ := L.pr
  exact law_callG KX G.T.g G.T.b G.T.builtins G.T.nolimit hg (fun p hp => (L.at_ p hp).2) L.out (fun p hp => (L.at_ p hp).1) G.T.bmain hobj hints (Nat.le_trans hlen hn2) hr hF hb fun H h1 h2 => hsp H a ns hlen h1 h2
end Own
set_option maxRecDepth 100000
set_option maxHeartbeats 4000000
/-! str(x), f"{x}" and x in y by own methods; repr of any plain value. -/
namespace Own
open PySem PySem.Spec PyProof.Rows L2
section
variable {X : Cx} {CX : CXT} {k : Nat} {C f : Addr} {fd : FuncData} {ps : List Str} {sp : Sp} {E : XK}
/-- str of an instance whose class has __str__ -/
def rStr (C : Addr) (sp : Sp) (E : XK) : List V → Hp → VK → Prop := fun xs H Q => ∃ a dx fs, xs = [.ref a] ∧ H a = some (.ins C dx fs) ∧ sp [.ref a] H (fun v H' => (∃ y, v = .str y) ∧ Q v H') E
theorem call_ownStr (F : FnOk X.prog X.w X.K X.mg X.base CX k f fd ps sp) (hr : Room (k + 2) X.A) (hs : PySem.W.findIn X.K (.ref C) "__str__" = some (some (.ref f))) (hf : PySem.W.isFn X.K (.ref f) = true) (hb : Binds X.K fd ps []) (hx : Passes CX X E) :
    CallR X (.type "str") (rStr C sp E) := by
  intro pins s σ H xs us Q I r h
  obtain ⟨a, dx, fs, rfl, ha, hsp⟩ := h
  obtain ⟨u, rfl, ru⟩ := vals1 r
  obtain rfl : u = Value.ref a := ru
  obtain ⟨mA, J, _⟩ := ins_get I.hok ha
  obtain ⟨od, J, _⟩ := J.look
  have hr2 : Room k X.A.in1.in1 := (Room.in1 (k := k + 1) hr).in1
  refine PySem.W.kso_call hr2.units0 I.kIn J hs hf (wpAny_mono (run_fnA F hr2 rfl hb hx I (vs := [.ref a]) (.cons rfl .nil) hsp) (fun w s' q => ?_) fun _ _ e => e)
  obtain ⟨v', H', I', rv, ⟨y, rfl⟩, q⟩ := q
  obtain ⟨t, rfl⟩ := rv
  exact ⟨.str y, H', I', ⟨t, rfl⟩, q⟩
/-- f"{x}" of such an instance -/
def tFmtO (C : Addr) (sp : Sp) (E : XK) (te : TE) : TE := fun σ H Q => te σ H fun x H1 => ∃ a dx fs, x = .ref a ∧ H1 a = some (.ins C dx fs) ∧ sp [.ref a] H1 (fun v H' => (∃ y, v = .str y) ∧ Q v H') E
theorem pe_fmtO {e : Expr} {te : TE} {pos : Pos} (he : PE X e te) (F : FnOk X.prog X.w X.K X.mg X.base CX k f fd ps sp) (hr : Room (k + 1) X.A) (hs : PySem.W.findIn X.K (.ref C) "__str__" = some (some (.ref f))) (hf : PySem.W.isFn X.K (.ref f) = true)
    (hfm : PySem.W.findIn X.K (.ref C) "__format__" = some (some (.builtin "object.__format__"))) (hm : PySem.W.mroIn X.K C (.type "object") = some true) (hb : Binds X.K fd ps []) (hx : Passes CX X E) : PE X (.FormattedValue e (-1) none pos) (tFmtO C sp E te) := by
  refine ⟨fun pins s σ H Q I h => ?_⟩
  refine wpAny_FormattedValue_plain (thn (he.run pins s σ H _ I h) fun v s1 hv => ?_)
  obtain ⟨x, H1, I1, r1, a, dx, fs, rfl, ha, hsp⟩ := hv
  obtain rfl : v = Value.ref a := r1
  obtain ⟨mA, J, _⟩ := ins_get I1.hok ha
  obtain ⟨od, J, _⟩ := J.look
  have hr1 : Room k X.A.in1 := hr.in1
  refine PySem.W.kfo_fieldS hr1.units0 I1.kIn J hfm hm hs hf (wpAny_mono (run_fnA F hr1 rfl hb hx (I1.tok _) (vs := [.ref a]) (.cons rfl .nil) hsp) (fun w s' q => ?_) fun _ _ e => e)
  obtain ⟨v', H', I', rv, ⟨y, rfl⟩, q⟩ := q
  obtain ⟨t, rfl⟩ := rv
  exact ⟨.str y, H', I', ⟨t, rfl⟩, q⟩
/-- x in y, y an instance whose class has __contains__ -/
def rIn (C : Addr) (sp : Sp) (E : XK) : R2 := fun x y H Q => ∃ a dx fs, y = .ref a ∧ H a = some (.ins C dx fs) ∧ sp [y, x] H (fun v H' => ∃ b, v = .bl b ∧ Q (.bl b) H') E
theorem op_inOwn (F : FnOk X.prog X.w X.K X.mg X.base CX k f fd ps sp) (hr : Room k X.A) (hs : PySem.W.findIn X.K (.ref C) "__contains__" = some (some (.ref f))) (hf : PySem.W.isFn X.K (.ref f) = true) (hb : Binds X.K fd ps []) (hx : Passes CX X E) :
    OpR X (compareOp .In) (rIn C sp E) := by
  intro pins s σ H x y u v Q I rx ry h
  obtain ⟨a, dx, fs, rfl, ha, hsp⟩ := h
  obtain rfl : v = Value.ref a := ry
  obtain ⟨mA, J, _⟩ := ins_get I.hok ha
  obtain ⟨od, J, _⟩ := J.look
  have KX := I.kIn
  have hty := beq_iff_eq.mp hf
  show wpAny _ _ (do return Value.bool (← contains (.ref a) u)) _ _ _
  refine wpAny_bind ?_
  unfold contains
  refine wpAny_holding ?_
  show wpAny _ _ (do if (← specialOf (.ref a) "__contains__") == some .none then _ else _) _ _ _
  refine wpAny_bind (wpAny_bind (J.type.here ((PySem.W.looks_findIn KX hs).here ?_)))
  have hne : ((some (Value.ref f) : Option Value) == some Value.none) = false := rfl
  simp only [hne, Bool.false_eq_true, if_false]
  unfold callSpecialUnlessNone?
  refine wpAny_bind (wpAny_bind (wpAny_bind (J.type.here ((PySem.W.looks_findIn KX hs).here ?_))))
  dsimp only
  refine wpAny_holding (wpAny_bind ((PySem.W.bind_fn KX _ hty).here ?_))
  have hne2 : (Value.ref f == Value.none) = false := rfl
  simp only [hne2, Bool.false_eq_true, if_false]
  have r2 : Vals [V.ref a, x] [Value.ref a, u] := .cons rfl (.cons rx .nil)
  refine wpAny_bind (wpAny_mono (run_fn F hr hb .nil hx I r2 hsp) (fun w s' q => ?_) fun _ _ e => e)
  obtain ⟨v', H', I', rv, b, rfl, q⟩ := q
  obtain rfl : w = Value.bool b := rv
  refine wpAny_pure ?_
  show wpAny _ _ (truthy (.bool b)) _ _ _
  exact wpAny_pure (wpAny_pure ⟨.bl b, H', I', rfl, q⟩)
end
/-- what repr shows of a plain value -/
inductive ReprOf (K : PySem.W.Frag) (H : Hp) : V → Str → Prop
  | non : ReprOf K H .non "None"
  | bl (b : Bool) : ReprOf K H (.bl b) (if b then "True" else "False")
  | int (i : Int) (h : i.natAbs.log2 < 1920) : ReprOf K H (.int i) (toString i : String)
  | str (x : Str) (h : (reprText x).length ≤ sizeLine) : ReprOf K H (.str x) (reprText x)
  | dat {a : Addr} {d : PyData} (h : Dp K H (.ref a) d) (h1 : d.showable = true) (h2 : d.hasDict = false) (h3 : d.depth ≤ 60) (h4 : d.shown.length ≤ sizeLine) : ReprOf K H (.ref a) d.shown
  | dct {a : Addr} (h : H a = some (.dK [])) : ReprOf K H (.ref a) (PyData.dict []).shown
def rReprA (K : PySem.W.Frag) : List V → Hp → VK → Prop := fun xs H Q => ∃ v t, xs = [v] ∧ ReprOf K H v t ∧ Q (.str t) H
section
variable {X : Cx}
theorem call_reprA (hg : X.A.guards = some []) (hu : X.A.units + 64 < cLine) : CallR X (.builtin "repr") (rReprA X.K) := by
  intro pins s σ H xs us Q I r h
  obtain ⟨v, t, rfl, hv, q⟩ := h
  obtain ⟨u, rfl, ru⟩ := vals1 r
  cases hv with
  | non =>
    obtain rfl : u = Value.none := ru
    exact PySem.P.repr_of_none ⟨.str _, H, I.tok _, ⟨_, rfl⟩, q⟩
  | bl b =>
    obtain rfl : u = Value.bool b := ru
    exact PySem.P.repr_of_bool ⟨.str _, H, I.tok _, ⟨_, rfl⟩, q⟩
  | int i h =>
    obtain ⟨tk, rfl⟩ := ru
    exact PySem.P.repr_of_int h ⟨.str _, H, I.tok _, ⟨_, rfl⟩, q⟩
  | str x h =>
    obtain ⟨tk, rfl⟩ := ru
    exact PySem.P.repr_of_str (h := ⟨.str _, H, I.tok _, ⟨_, rfl⟩, q⟩) (hsz := h)
  | dat h h1 h2 h3 h4 =>
    rename_i a d
    obtain rfl : u = Value.ref a := ru
    obtain ⟨as, rd⟩ := Dp.reads I d _ _ h rfl
    exact repr_of_reads' rd h1 (fun e => by rw [h2] at e; cases e) hg (by omega) (fun _ _ e => e) (fun h' u tk hk => ⟨.str d.shown, H, I.kept hk, ⟨u, rfl⟩, q⟩) h4
  | dct h =>
    rename_i a
    obtain rfl : u = Value.ref a := ru
    obtain ⟨_, hsm, vs, hkv, o, es, ep, e1, e2, e3, _, e5, _⟩ := dk_of I.hok h
    cases hkv
    have e6 : es.toList = [] := by
      cases hl : es.toList with
      | nil => rfl
      | cons x r => rw [hl] at e5; cases e5
    have rd : Reads s.heap (.ref a) (.dict []) (a :: [] ++ []) := Reads.dict e1 e2.1 e3 (by rw [e6]; exact .nil) (by rw [e6]; exact .nil)
    have hn : sysModules ∉ (a :: [] ++ [] : List Addr) := fun m => by
      rcases List.mem_cons.mp m with e | e
      · rw [e] at hsm
        simp at hsm
      · cases e
    exact repr_of_reads' rd (by rfl) (fun _ => hn) hg (by have : (PyData.dict []).depth ≤ 60 := by decide +kernel
                                                          omega) (fun _ _ e => e) (fun h' u tk hk => ⟨.str (PyData.dict []).shown, H, I.kept hk, ⟨u, rfl⟩, q⟩) (by decide +kernel)
end
end Own
set_option maxRecDepth 100000
set_option maxHeartbeats 4000000
namespace Toy
open PySem L2
def top (i : Nat) : Stmt := PySem.Challenge.pw_anyfifth_k03_ratios_reckoned.main.body.getD i (.Pass ⟨0, 0, 0, 0⟩)

structure Bl (mg : Str → Option Value) : Prop where
  int : mg "int" = none
  len : mg "len" = none
  abs : mg "abs" = none
  list : mg "list" = none
  range : mg "range" = none
  isinstance : mg "isinstance" = none
  bool : mg "bool" = none
  gcd : mg "gcd" = some (.builtin "math.gcd")

/-- all but what stands at p is as it was -/
def But (p : Addr) (H H' : Hp) : Prop := ∀ b o, H b = some o → b ≠ p → H' b = some o
theorem But.refl {p : Addr} {H : Hp} : But p H H := fun _ _ h _ => h
theorem But.upd {p : Addr} {H H1 : Hp} {o : HO} (h : But p H H1) : But p H (upd H1 p o) := fun b u e n => by rw [upd_ne n]; exact h b u e n
theorem But.new {p q : Addr} {H H1 : Hp} {o : HO} (h : But p H H1) (hq : H1 q = none) : But p H (L2.upd H1 q o) := fun b u e n => by
  rw [upd_ne (ne_of_none (h b u e n) hq)]; exact h b u e n
theorem But.trans {p : Addr} {H H1 H2 : Hp} (a : But p H H1) (b : But p H1 H2) : But p H H2 := fun c u e n => b c u (a c u e n) n
theorem But.same {p : Addr} {H H' : Hp} (h : Same H H') : But p H H' := fun b o e _ => h b o e

/-- the state of the drawing at p, behind at most k draws -/
structure PenW (H : Hp) (p c : Addr) (ns : List Int) (b l : Int) : Prop where
  hp : H p = some (.lst [.ref c, .int b, .int l])
  hc : H c = some (.lst (ns.map V.int))
  ln : ns.length ≤ 63
  b0 : 0 ≤ b
def Pen (H : Hp) (p c : Addr) (k : Nat) : Prop := ∃ ns b l, PenW H p c ns b l ∧ b ≤ k
theorem PenW.ne {H : Hp} {p c : Addr} {ns : List Int} {b l : Int} (h : PenW H p c ns b l) : c ≠ p := by
  intro e
  have h1 := h.hp
  have h2 := h.hc
  rw [e, h1] at h2
  have h3 := Option.some.inj h2
  injection h3 with h4
  cases ns with
  | nil => cases h4
  | cons a r => injection h4 with h5 h6; cases h5
theorem PenW.put {H : Hp} {p c : Addr} {ns : List Int} {b l b' l' : Int} (h : PenW H p c ns b l) (hb : 0 ≤ b') : PenW (upd H p (.lst [.ref c, .int b', .int l'])) p c ns b' l' :=
  ⟨upd_same, by rw [upd_ne h.ne]; exact h.hc, h.ln, hb⟩
theorem PenW.new {H : Hp} {p c q : Addr} {ns : List Int} {b l : Int} {o : HO} (h : PenW H p c ns b l) (hq : H q = none) : PenW (upd H q o) p c ns b l :=
  ⟨by rw [upd_ne (ne_of_none h.hp hq)]; exact h.hp, by rw [upd_ne (ne_of_none h.hc hq)]; exact h.hc, h.ln, h.b0⟩
theorem Pen.same {H H' : Hp} {p c : Addr} {k : Nat} (h : Pen H p c k) (e : Same H H') : Pen H' p c k := by
  obtain ⟨ns, b, l, h, hk⟩ := h
  exact ⟨ns, b, l, ⟨e _ _ h.hp, e _ _ h.hc, h.ln, h.b0⟩, hk⟩
theorem Pen.mono {H : Hp} {p c : Addr} {k j : Nat} (h : Pen H p c k) (e : k ≤ j) : Pen H p c j := by
  obtain ⟨ns, b, l, h, hk⟩ := h
  exact ⟨ns, b, l, h, by omega⟩
theorem dpInts {K : PySem.W.Frag} {H : Hp} : ∀ ns : List Int, DpAll K H (ns.map V.int) (ns.map PyData.int)
  | [] => .nil
  | n :: r => .cons (.int n) (dpInts r)
theorem shInts (ns : List Int) : SeqAt.shaped (.list (ns.map PyData.int)) = true := PySem.W.ke_shaped_ints ns
theorem eqvNil (ns : List Int) : PyData.eqv (.list (ns.map PyData.int)) (.list []) = decide (ns = []) := by
  cases ns <;> rfl
theorem modB (a : Int) {m : Int} (h : 0 < m) : 0 ≤ a % m ∧ a % m < m := ⟨Int.emod_nonneg _ (by omega), Int.emod_lt_of_pos _ h⟩
theorem wide_m {i m : Int} (h : 0 < m) (hb : m.natAbs < 2 ^ 2000) : CDivW i m := wide_div h hb (by decide) (by decide)

theorem atI_in {α : Type} {xs : List α} {i : Int} (h0 : 0 ≤ i) (h1 : i < (xs.length : Int)) : atI xs i = some (xs[i.toNat]'(by omega)) := by
  have e : i = ((i.toNat : Nat) : Int) := by omega
  exact (congrArg (atI xs) e).trans (atI_nat (List.getElem?_eq_getElem (by omega)))

theorem p0 {j : Int} (h : decide (0 < j) = true) : 0 < j := of_decide_eq_true h
theorem mulB {x y M N : Int} (hx : 0 ≤ x) (hxM : x ≤ M) (hy : 0 ≤ y) (hyN : y ≤ N) : 0 ≤ x * y ∧ x * y ≤ M * N := ⟨Int.mul_nonneg hx hy, Int.mul_le_mul hxM hyN hy (by omega)⟩
abbrev sDraw : Stmt := top 22
def spDraw : Sp := fun vs H Q _ => ∃ (p c : Addr) (m : Int) (k : Nat), vs = [.ref p, .int m] ∧ Pen H p c k ∧ k ≤ 1000000 ∧ 0 < m ∧ m.natAbs < 2 ^ 2000 ∧
  ∀ r H', 0 ≤ r → r < m → Pen H' p c (k + 1) → But p H H' → Q (.int r) H'
section
variable {P : Program} {w : World} {K : PySem.W.Frag} {mg : Str → Option Value} {base : Heap}
theorem scD : FnScope ["_law_pen_here", "_law_many", "_law_digit", "_law_begun", "_law_cell", "_law_great", "_law_mixed"] ["_law_pen_here", "_law_many"] (defScope sDraw) :=
  ⟨rfl, rfl, rfl, by decide +kernel, rfl, by decide +kernel, by decide +kernel⟩
theorem ok_draw {f : Addr} {fd : FuncData} (F : Fun K "_law_draw" "_law_draw" sDraw f fd) (T : Bl mg) : FnOk P w K mg base CX0 1 f fd ["_law_pen_here", "_law_many"] spDraw := by
  refine F.ok scD (fun vs H Q E h => ?_) (fun cdv A outer s H vs Q E hr h => ?_)
  · obtain ⟨p, c, m, k, rfl, _⟩ := h
    rfl
  · obtain ⟨p, c, m, k, rfl, ⟨ns, b, l, W, hb⟩, hk, hm, hmb, q⟩ := h
    have nd := scD.nd
    refine ⟨_, pss_cons (ps_if (pt_cmpR op_gt (pe_ix ix_list (pv 0) pe_int (fun _ _ => rfl)) pe_int (nomark _)) (pss_cons (ps_set (i := 2) nd rfl (Or.inl rfl) (pe_op op_mod (pe_callTy call_int1 (by rfl) T.int (by decide +kernel) (pa_cons (pe_ix ix_list (pv 0) pe_int (fun _ _ => rfl)) pa_nil)) (pv 1)))
      (pss_cons (ps_asg (pe_op op_fdivW (pe_callTy call_int1 (by rfl) T.int (by decide +kernel) (pa_cons (pe_ix ix_list (pv 0) pe_int (fun _ _ => rfl)) pa_nil)) (pv 1)) (pg_sub (pv 0) pe_int set_list))
      (pss_one (ps_ret (pv 2))))) pss_nil)
      (pss_cons (ps_set (i := 3) nd rfl (Or.inl rfl) (pe_ix ix_list (pv 0) pe_int (fun _ _ => rfl)))
      (pss_cons (ps_asg (pe_op op_add (pv 3) pe_int) (pg_sub (pv 0) pe_int set_list))
      (pss_cons (ps_set (i := 4) nd rfl (Or.inl rfl) (pe_op op_add (pe_op op_mul pe_int (pv 3)) pe_int))
      (C8.pss_cut (ps_if (pt_cmpR (op_neD hr.units) (pe_ix ix_list (pv 0) pe_int (fun _ _ => rfl)) (pe_lst pa_nil) (nomark _)) (pss_one (ps_set (i := 4) nd rfl (Or.inl rfl) (pe_ix ix_list (pe_ix ix_list (pv 0) pe_int (fun _ _ => rfl)) (pe_op op_mod (pe_callTy call_int1 (by rfl) T.int (by decide +kernel) (pa_cons (pv 3) pa_nil)) (pe_callB call_len (by rfl) T.len (by decide +kernel) (pa_cons (pe_ix ix_list (pv 0) pe_int (fun _ _ => rfl)) pa_nil))) (fun _ _ => rfl)))) pss_nil)
      (pss_cons (ps_if (PW.pt (pw_and (pt_cmpR op_lt (pv 3) (pe_callB call_len (by rfl) T.len (by decide +kernel) (pa_cons (pe_ix ix_list (pv 0) pe_int (fun _ _ => rfl)) pa_nil)) (nomark _)) (pw_and1 (pt_cmpR op_ge (pe_callB call_abs (by rfl) T.abs (by decide +kernel) (pa_cons (pv 4) pa_nil)) (pe_op op_pow pe_int pe_int) (nomark _))))) (pss_cons (ps_set (i := 5) nd rfl (Or.inl rfl) (pe_op op_add (pe_op op_mul pe_int (pe_op op_sub (pe_callB call_abs (by rfl) T.abs (by decide +kernel) (pa_cons (pv 4) pa_nil)) (pe_op op_pow pe_int pe_int))) (pe_callTy call_int1 (by rfl) T.int (by decide +kernel) (pa_cons (pe_cmpR op_lt (pv 4) pe_int (nomark _)) pa_nil))))
      (pss_cons (ps_asg (pe_op op_fdivW (pe_callTy call_int1 (by rfl) T.int (by decide +kernel) (pa_cons (pv 5) pa_nil)) (pv 1)) (pg_sub (pv 0) pe_int set_list))
      (pss_one (ps_ret (pe_op op_mod (pe_callTy call_int1 (by rfl) T.int (by decide +kernel) (pa_cons (pv 5) pa_nil)) (pv 1)))))) pss_nil)
      (pss_cons (ps_set (i := 6) nd rfl (Or.inl rfl) (pe_op op_mod (pe_callTy call_int1 (by rfl) T.int (by decide +kernel) (pa_cons (pe_op op_pow (pe_op op_add (pe_op op_add (pe_op op_mod (pe_callTy call_int1 (by rfl) T.int (by decide +kernel) (pa_cons (pv 4) pa_nil)) pe_int) (pe_op op_mul pe_int (pv 3))) pe_int) pe_int) pa_nil)) pe_int))
      (pss_cons (ps_set (i := 6) nd rfl (Or.inl rfl) (pe_op op_mod (pe_callTy call_int1 (by rfl) T.int (by decide +kernel) (pa_cons (pe_op op_pow (pe_op op_add (pe_op op_add (pe_op op_mul (pv 6) (pe_op op_add (pe_op op_mul pe_int (pv 3)) pe_int)) (pe_op op_mul (pe_op op_mul pe_int (pv 3)) (pv 3))) pe_int) pe_int) pa_nil)) pe_int))
      (pss_one (ps_ret (pe_op op_mod (pe_callTy call_int1 (by rfl) T.int (by decide +kernel) (pa_cons (pe_op op_fdivW (pv 6) pe_int) pa_nil)) (pv 1))))))))))), ?_⟩
    have hp := W.hp
    -- what is left of a great cell
    refine ⟨_, rfl, p, _, _, _, rfl, rfl, SqL.of hp, rfl, _, _, rfl, rfl, _, rfl, ?_⟩
    refine ite2 (fun _ => ?_) (fun _ => ?_)
    · refine ⟨_, rfl, p, _, _, _, rfl, rfl, SqL.of hp, rfl, .inl ⟨_, rfl, _, rfl, _, _, rfl, rfl, hm, ?_⟩⟩
      refine ⟨_, rfl, p, _, _, _, rfl, rfl, SqL.of hp, rfl, .inl ⟨_, rfl, _, rfl, _, _, rfl, rfl, wide_m hm hmb, ?_⟩⟩
      refine ⟨_, rfl, p, _, _, _, rfl, rfl, hp, rfl, ?_⟩
      refine ⟨_, rfl, ?_⟩
      exact q _ _ (modB _ hm).1 (modB _ hm).2 ⟨ns, b, _, W.put W.b0, by omega⟩ (But.refl.upd)
    · -- begun; the count goes up; cell
      refine ⟨_, rfl, p, _, _, _, rfl, rfl, SqL.of hp, rfl, ?_⟩
      refine ⟨_, rfl, _, _, rfl, rfl, ?_⟩
      refine ⟨_, rfl, p, _, _, _, rfl, rfl, hp, rfl, ?_⟩
      refine ⟨_, rfl, _, _, rfl, rfl, .inl ⟨by decide, by decide⟩, _, _, rfl, rfl, ?_⟩
      have W1 : PenW (upd H p (.lst [.ref c, .int (b + 1), .int l])) p c ns (b + 1) l := W.put (by have := W.b0; omega)
      refine ⟨fun σ' H' => ∃ z : Int, σ' = [some (.ref p), some (.int m), none, some (.int b), some (.int z), none, none] ∧ PenW H' p c ns (b + 1) l ∧ But p H H', ?_, ?_⟩
      · -- a cell of the script
        refine ⟨_, rfl, p, _, _, _, rfl, rfl, SqL.of W1.hp, rfl, by decide, fun e he => ?_⟩
        refine ⟨_, _, .lst (SqL.of (W1.new he).hc) (dpInts ns), .lst (SqL.of upd_same) .nil, shInts ns, by decide, _, rfl, ?_⟩
        have W2 := W1.new (o := .lst []) he
        have B2 : But p H (upd (upd H p (.lst [.ref c, .int (b + 1), .int l])) e (.lst [])) := (But.refl.upd).new he
        rw [eqvNil]
        by_cases hn : ns = []
        · rw [decide_eq_true hn]
          refine iteF ?_
          exact ⟨_, rfl, W2, B2⟩
        · rw [decide_eq_false hn]
          refine iteT ?_
          have hl0 : 0 < ns.length := List.length_pos_iff.mpr hn
          have hm0 : (0 : Int) < ((ns.map V.int).length : Int) := by rw [List.length_map]; omega
          refine ⟨_, rfl, p, _, _, _, rfl, rfl, SqL.of W2.hp, rfl, _, rfl, .inl ⟨_, rfl, _, rfl, p, _, _, _, rfl, rfl, SqL.of W2.hp, rfl, _, _, rfl, .inl ⟨_, SqL.of W2.hc, rfl⟩, _, _, rfl, rfl, hm0, ?_⟩⟩
          obtain ⟨z, hz⟩ : ∃ z, (ns.map V.int)[(b % ((ns.map V.int).length : Int)).toNat]'(by have := modB b hm0; omega) = .int z := ⟨_, List.getElem_map ..⟩
          exact ⟨c, _, _, .int z, rfl, rfl, SqL.of W2.hc, by rw [atI_in (modB b hm0).1 (modB b hm0).2, hz], ⟨_, rfl, W2, B2⟩⟩
      · rintro σ' H' ⟨z, rfl, W2, B2⟩
        have hp2 := W2.hp
        have hb1 := W.b0
        have hb2 : b ≤ 1000000 := by omega
        -- a great cell
        refine ⟨_, rfl, _, rfl, p, _, _, _, rfl, rfl, SqL.of hp2, rfl, _, _, rfl, .inl ⟨_, SqL.of W2.hc, rfl⟩, _, _, rfl, rfl, _, rfl, ?_⟩
        refine ite2 (fun _ => ?_) (fun _ => ?_)
        · refine ⟨_, rfl, _, rfl, _, _, rfl, rfl, ⟨by decide, by decide, by decide⟩, _, _, rfl, rfl, _, rfl, ?_⟩
          refine ite2 (fun _ => ?_) (fun _ => ?_)
          · refine ⟨_, rfl, _, rfl, _, _, rfl, rfl, ⟨by decide, by decide, by decide⟩, _, _, rfl, rfl, _, _, rfl, rfl, .inl ⟨by decide, by decide⟩, ?_⟩
            refine ⟨_, rfl, _, _, rfl, rfl, .inr ⟨_, rfl, _, _, rfl, rfl, ?_⟩⟩
            refine ⟨_, rfl, .inl ⟨_, rfl, _, rfl, _, _, rfl, rfl, wide_m hm hmb, ?_⟩⟩
            refine ⟨_, rfl, p, _, _, _, rfl, rfl, hp2, rfl, ?_⟩
            refine ⟨_, rfl, .inl ⟨_, rfl, _, rfl, _, _, rfl, rfl, hm, ?_⟩⟩
            exact q _ _ (modB _ hm).1 (modB _ hm).2 ⟨ns, b + 1, _, W2.put W2.b0, by omega⟩ B2.upd
          · refine ⟨_, rfl, .inl ⟨_, rfl, _, _, rfl, rfl, p0 rfl, _, rfl, _, _, rfl, rfl, .inl ⟨by decide, by decide⟩, _, _, rfl, rfl, _, _, rfl, rfl, _, _, rfl, rfl, ⟨by decide, by decide, ?_⟩, .inl ⟨_, rfl, _, _, rfl, rfl, p0 rfl, ?_⟩⟩⟩
            · have h1 := modB z (m := 2147483563) (by decide)
              omega
            have hx := modB ((z % 2147483563 + 736 * b + 1010) ^ (5 : Int).toNat) (m := 2147483629) (by decide)
            generalize hxe : (z % 2147483563 + 736 * b + 1010) ^ (5 : Int).toNat % 2147483629 = x at hx
            have p1 := mulB hx.1 (show x ≤ 2147483629 by omega) (show 0 ≤ 2 * b + 43 by omega) (show 2 * b + 43 ≤ 2100000 by omega)
            have p2 := mulB (show 0 ≤ 5668 * b by omega) (show 5668 * b ≤ 100000000000 by omega) hb1 hb2
            refine ⟨_, rfl, _, rfl, _, _, rfl, rfl, .inl ⟨by decide, by decide⟩, _, _, rfl, rfl, _, _, rfl, rfl, .inl ?_, _, rfl, _, _, rfl, rfl, .inl ⟨by decide, by decide⟩, _, rfl, _, _, rfl, rfl, .inl ?_, _, _, rfl, rfl, _, _, rfl, rfl, _, _, rfl, rfl, ⟨by decide, by decide, ?_⟩, .inl ⟨_, rfl, _, _, rfl, rfl, p0 rfl, ?_⟩⟩
            · rw [hxe]; omega
            · omega
            · rw [hxe]; omega
            refine ⟨_, rfl, _, _, rfl, rfl, ⟨by decide, by decide⟩, .inl ⟨_, rfl, _, rfl, _, _, rfl, rfl, hm, ?_⟩⟩
            exact q _ _ (modB _ hm).1 (modB _ hm).2 ⟨ns, b + 1, _, W2, by omega⟩ B2
        · refine ⟨_, rfl, .inl ⟨_, rfl, _, _, rfl, rfl, p0 rfl, _, rfl, _, _, rfl, rfl, .inl ⟨by decide, by decide⟩, _, _, rfl, rfl, _, _, rfl, rfl, _, _, rfl, rfl, ⟨by decide, by decide, ?_⟩, .inl ⟨_, rfl, _, _, rfl, rfl, p0 rfl, ?_⟩⟩⟩
          · have h1 := modB z (m := 2147483563) (by decide)
            omega
          have hx := modB ((z % 2147483563 + 736 * b + 1010) ^ (5 : Int).toNat) (m := 2147483629) (by decide)
          generalize hxe : (z % 2147483563 + 736 * b + 1010) ^ (5 : Int).toNat % 2147483629 = x at hx
          have p1 := mulB hx.1 (show x ≤ 2147483629 by omega) (show 0 ≤ 2 * b + 43 by omega) (show 2 * b + 43 ≤ 2100000 by omega)
          have p2 := mulB (show 0 ≤ 5668 * b by omega) (show 5668 * b ≤ 100000000000 by omega) hb1 hb2
          refine ⟨_, rfl, _, rfl, _, _, rfl, rfl, .inl ⟨by decide, by decide⟩, _, _, rfl, rfl, _, _, rfl, rfl, .inl ?_, _, rfl, _, _, rfl, rfl, .inl ⟨by decide, by decide⟩, _, rfl, _, _, rfl, rfl, .inl ?_, _, _, rfl, rfl, _, _, rfl, rfl, _, _, rfl, rfl, ⟨by decide, by decide, ?_⟩, .inl ⟨_, rfl, _, _, rfl, rfl, p0 rfl, ?_⟩⟩
          · rw [hxe]; omega
          · omega
          · rw [hxe]; omega
          refine ⟨_, rfl, _, _, rfl, rfl, ⟨by decide, by decide⟩, .inl ⟨_, rfl, _, rfl, _, _, rfl, rfl, hm, ?_⟩⟩
          exact q _ _ (modB _ hm).1 (modB _ hm).2 ⟨ns, b + 1, _, W2, by omega⟩ B2
end

/-! ### callees -/
structure Cal (P : Program) (w : World) (K : PySem.W.Frag) (mg : Str → Option Value) (base : Heap) (k : Nat) (x : Str) (f : Addr) (fd : FuncData) (ps : List Str) (sp : Sp) : Prop where
  F : FnOk P w K mg base CX0 k f fd ps sp
  mgf : mg x = some (.ref f)
  kp : PySem.W.keepIn K (.ref f) = true
  b : Binds K fd ps []
structure Mak (P : Program) (w : World) (K : PySem.W.Frag) (mg : Str → Option Value) (base : Heap) (k : Nat) (x : Str) (C f : Addr) (fd : FuncData) (ps : List Str) (sp : Sp) : Prop where
  M : Mk K C f
  F : FnOk P w K mg base CX0 k f fd ps sp
  mgC : mg x = some (.ref C)
  b : Binds K fd ps []
structure Sta (P : Program) (w : World) (K : PySem.W.Frag) (mg : Str → Option Value) (base : Heap) (k : Nat) (C : Addr) (m : Str) (p f : Addr) (fd : FuncData) (ps : List Str) (sp : Sp) : Prop where
  s : Own.SMet K C (.type "type") m p f
  F : FnOk P w K mg base CX0 k f fd ps sp
  b : Binds K fd ps []
structure Dot (P : Program) (w : World) (K : PySem.W.Frag) (mg : Str → Option Value) (base : Heap) (k : Nat) (C : Addr) (m : Str) (f : Addr) (fd : FuncData) (ps : List Str) (sp : Sp) : Prop where
  m : Meth K C m f
  F : FnOk P w K mg base CX0 k f fd ps sp
  b : Binds K fd ps []
/-- facts of an own class -/
structure ClT (K : PySem.W.Frag) (mg : Str → Option Value) (C : Addr) (x : Str) : Prop where
  cl : Cls K C
  mgC : mg x = some (.ref C)
  rd : ClX.CRead K C (.type "type")
  ca : PySem.W.findIn K (.ref C) "__class__" = some (some (.builtin "object.__class__"))
  cn : PySem.W.specialIn K (.builtin "object.__class__") "__get__" = some (some (.builtin "getset_descriptor.__get__"))
  ct : PySem.W.takesIn K (.builtin "object.__class__") = some true
  cm : PySem.W.mroIn K C (.type "object") = some true
  kI : PySem.W.kitOne K (.ref C) (.type "int") = some false
  kB : PySem.W.kitOne K (.ref C) (.type "bool") = some false
  kS : PySem.W.kitOne K (.ref C) (.ref C) = some true
  iK : PySem.W.kitOne K (.type "int") (.ref C) = some false
  sI : PySem.W.subIn K (.ref C) (.type "int") = some false
  nI : PySem.W.notFirst K C (.type "int") = true
  nC : PySem.W.notFirst K C (.ref C) = true
theorem ClT.ty {K : PySem.W.Frag} {mg : Str → Option Value} {C a dx : Addr} {x : Str} {H : Hp} {fs : List (Str × V)} (T : ClT K mg C x) (h : H a = some (.ins C dx fs)) : TyX K H (.ref a) (.ref C) :=
  .base (.ins h T.cl T.ca T.cn T.ct T.cm)
structure RatT (K : PySem.W.Frag) (mg : Str → Option Value) (C : Addr) : Prop extends ClT K mg C "Ratio" where
  nT : NoAttr K C "top"
  nB : NoAttr K C "bottom"
structure PieT (K : PySem.W.Frag) (mg : Str → Option Value) (C : Addr) : Prop extends ClT K mg C "Piece" where
  nL : NoAttr K C "left"
  nR : NoAttr K C "right"

/-! ### ratios -/
theorem tb_ne : ¬ (("bottom" : Str) = "top") := by decide +kernel
theorem bt_ne : ¬ (("top" : Str) = "bottom") := by decide +kernel
def ratF (n d : Int) : List (Str × V) := putF "bottom" (.int d) (putF "top" (.int n) [])
theorem ratF_top (n d : Int) : (ratF n d).lookup ("top" : Str) = some (.int n) := by
  unfold ratF
  rw [lookup_putF, if_neg bt_ne, lookup_putF, if_pos rfl]
theorem ratF_bot (n d : Int) : (ratF n d).lookup ("bottom" : Str) = some (.int d) := by
  unfold ratF
  rw [lookup_putF, if_pos rfl]
/-- a Ratio n / d stands at a -/
def RatAt (C : Addr) (H : Hp) (a : Addr) (n d : Int) : Prop := ∃ dx, H a = some (.ins C dx (ratF n d))
theorem RatAt.same {C : Addr} {H H' : Hp} {a : Addr} {n d : Int} (h : RatAt C H a n d) (e : Same H H') : RatAt C H' a n d := let ⟨dx, h⟩ := h; ⟨dx, e _ _ h⟩
theorem RatAt.but {C p : Addr} {H H' : Hp} {a : Addr} {n d : Int} (h : RatAt C H a n d) (e : But p H H') (hp : a ≠ p) : RatAt C H' a n d := let ⟨dx, h⟩ := h; ⟨dx, e _ _ h hp⟩
/-- a number: an int or a Ratio -/
inductive NumAt (C : Addr) (H : Hp) : V → Int → Int → Prop
  | int (i : Int) : NumAt C H (.int i) i 1
  | rat {a : Addr} {n d : Int} (h : RatAt C H a n d) : NumAt C H (.ref a) n d
theorem NumAt.same {C : Addr} {H H' : Hp} {v : V} {n d : Int} (h : NumAt C H v n d) (e : Same H H') : NumAt C H' v n d := by
  cases h with
  | int => exact .int _
  | rat h => exact .rat (h.same e)
theorem same_new {H : Hp} {p : Addr} {o : HO} (h : H p = none) : Same H (upd H p o) := fun b u e => by rw [upd_ne (ne_of_none e h)]; exact e
theorem same_two {H : Hp} {p q : Addr} {o u : HO} (h : H p = none) (h2 : H q = none) (n : p ≠ q) : Same H (upd (upd H p o) q u) := (same_new h).trans (same_new (by rw [upd_ne n.symm]; exact h2))
/-- small enough to reckon with -/
def Sz (z : Int) : Prop := z.natAbs < 2 ^ 8000
theorem Sz.mul {i j : Int} (a : Sz i) (b : Sz j) : CMulW i j := wide_mul a b (by decide) (by decide) (by decide)
theorem Sz.of {z : Int} (h : z.natAbs < 10 ^ 250) : Sz z := Nat.lt_trans h (by decide +kernel)

section
variable {P : Program} {w : World} {K : PySem.W.Frag} {mg : Str → Option Value} {base : Heap} {C : Addr}
def isIntK (K : PySem.W.Frag) (t : Value) (b : Bool) : Prop := ∃ b1 b2, PySem.W.kitOne K t (.type "int") = some b1 ∧ PySem.W.kitOne K t (.type "bool") = some b2 ∧ b = (b1 && !b2)
theorem isIntK_int : isIntK K (.type "int") true := ⟨true, false, kit_ty (by decide +kernel), kit_ty (by decide +kernel), rfl⟩
theorem isIntK_own {x : Str} (T : ClT K mg C x) : isIntK K (.ref C) false := ⟨false, false, T.kI, T.kB, rfl⟩
def spIsInt (K : PySem.W.Frag) : Sp := fun vs H Q _ => ∃ v t b, vs = [v] ∧ TyX K H v t ∧ isIntK K t b ∧ Q (.bl b) H

abbrev sIsInt : Stmt := top 10
theorem scII : FnScope ["value"] ["value"] (defScope sIsInt) := ⟨rfl, rfl, rfl, by decide +kernel, rfl, by decide +kernel, by decide +kernel⟩
theorem ok_isint {f : Addr} {fd : FuncData} (F : Fun K "is_int" "is_int" sIsInt f fd) (T : Bl mg) : FnOk P w K mg base CX0 1 f fd ["value"] (spIsInt K) := by
  refine F.ok scII (fun vs H Q E h => ?_) (fun cdv A outer s H vs Q E hr h => ?_)
  · obtain ⟨v, t, b, rfl, _⟩ := h
    rfl
  · obtain ⟨v, t, b, rfl, ty, ⟨b1, b2, h1, h2, rfl⟩, q⟩ := h
    have nd := scII.nd
    refine ⟨_, pss_one (ps_ret (pe_and (pe_callB call_isi (by rfl) T.isinstance (by decide +kernel) (pa_cons (pv 0) (pa_cons (pe_bltn (v := .ty "int") (u := .type "int") (by rfl) T.int (by decide +kernel) rfl) pa_nil))) (pe_one (pe_not (pe_callB call_isi (by rfl) T.isinstance (by decide +kernel) (pa_cons (pv 0) (pa_cons (pe_bltn (v := .ty "bool") (u := .type "bool") (by rfl) T.bool (by decide +kernel) rfl) pa_nil))))))), ?_⟩
    refine ⟨_, rfl, _, _, t, _, b1, rfl, .ty _, ty, h1, _, rfl, ?_⟩
    cases b1 with
    | true =>
      refine iteT ?_
      exact ⟨_, rfl, _, _, t, _, b2, rfl, .ty _, ty, h2, _, rfl, q⟩
    | false => exact iteF q

def spIsNum (K : PySem.W.Frag) (C : Addr) : Sp := fun vs H Q _ => ∃ v t b c, vs = [v] ∧ TyX K H v t ∧ isIntK K t b ∧ PySem.W.kitOne K t (.ref C) = some c ∧ Q (.bl (b || c)) H
theorem NumAt.spNum {x : Str} {H : Hp} {v : V} {n d : Int} {Q : VK} {E : XK} (T : ClT K mg C x) (h : NumAt C H v n d) (q : Q (.bl true) H) : spIsNum K C [v] H Q E := by
  cases h with
  | int => exact ⟨_, _, _, _, rfl, .base (.int _), isIntK_int, T.iK, q⟩
  | rat h => obtain ⟨dx, h⟩ := h; exact ⟨_, _, _, _, rfl, T.ty h, isIntK_own T, T.kS, q⟩
abbrev sIsNum : Stmt := inClass (top 14) 1
theorem scIN : FnScope ["value"] ["value"] (defScope sIsNum) := ⟨rfl, rfl, rfl, by decide +kernel, rfl, by decide +kernel, by decide +kernel⟩
theorem ok_isnum {f f1 : Addr} {fd fd1 : FuncData} (F : Fun K "is_number" "Ratio.is_number" sIsNum f fd) (T : Bl mg) (T_Ratio : RatT K mg C) (C_is_int : Cal P w K mg base 1 "is_int" f1 fd1 ["value"] (spIsInt K)) :
    FnOk P w K mg base CX0 2 f fd ["value"] (spIsNum K C) := by
  refine F.ok scIN (fun vs H Q E h => ?_) (fun cdv A outer s H vs Q E hr h => ?_)
  · obtain ⟨v, t, b, c, rfl, _⟩ := h
    rfl
  · obtain ⟨v, t, b, c, rfl, ty, hb, hc, q⟩ := h
    have nd := scIN.nd
    refine ⟨_, pss_one (ps_ret (pe_or (pe_call C_is_int.F (hr.mono (by decide)) (by rfl) C_is_int.mgf C_is_int.kp C_is_int.b .nil pass0 (pa_cons (pv 0) pa_nil)) (pe_one (pe_callB call_isi (by rfl) T.isinstance (by decide +kernel) (pa_cons (pv 0) (pa_cons (Own.pe_gref (by rfl) T_Ratio.mgC) pa_nil)))))), ?_⟩
    refine ⟨_, rfl, _, t, b, rfl, ty, hb, _, rfl, ?_⟩
    cases b with
    | true => exact iteT q
    | false =>
      refine iteF ?_
      exact ⟨_, rfl, _, _, t, _, c, rfl, .own _, ty, hc, q⟩

def spParts (C : Addr) : Sp := fun vs H Q _ => ∃ v n d, vs = [v] ∧ NumAt C H v n d ∧ ∀ p, H p = none → Q (.ref p) (upd H p (.tup [.int n, .int d]))
abbrev sParts : Stmt := top 15
theorem scPa : FnScope ["number"] ["number"] (defScope sParts) := ⟨rfl, rfl, rfl, by decide +kernel, rfl, by decide +kernel, by decide +kernel⟩
theorem ok_parts {f : Addr} {fd : FuncData} (F : Fun K "parts_of" "parts_of" sParts f fd) (T : Bl mg) (T_Ratio : RatT K mg C) : FnOk P w K mg base CX0 1 f fd ["number"] (spParts C) := by
  refine F.ok scPa (fun vs H Q E h => ?_) (fun cdv A outer s H vs Q E hr h => ?_)
  · obtain ⟨v, n, d, rfl, _⟩ := h
    rfl
  · obtain ⟨v, n, d, rfl, hn, q⟩ := h
    have nd := scPa.nd
    refine ⟨_, pss_cons (ps_if (pt_val (pe_callB call_isi (by rfl) T.isinstance (by decide +kernel) (pa_cons (pv 0) (pa_cons (Own.pe_gref (by rfl) T_Ratio.mgC) pa_nil)))) (pss_one (ps_ret (pe_tup (pa_cons (pe_fld (pv 0) rfl) (pa_cons (pe_fld (pv 0) rfl) pa_nil))))) pss_nil)
      (pss_one (ps_ret (pe_tup (pa_cons (pv 0) (pa_cons pe_int pa_nil))))), ?_⟩
    cases hn with
    | int =>
      refine ⟨_, rfl, _, _, _, _, false, rfl, .own _, .base (.int _), T_Ratio.iK, _, rfl, iteF ?_⟩
      exact ⟨_, rfl, (by decide : 2 ≤ sizeLine), fun p hp => q p hp⟩
    | rat h =>
      obtain ⟨dx, h⟩ := h
      refine ⟨_, rfl, _, _, _, _, true, rfl, .own _, T_Ratio.ty h, T_Ratio.kS, _, rfl, iteT ?_⟩
      exact ⟨_, rfl, _, C, dx, _, _, rfl, h, T_Ratio.cl, T_Ratio.nT, ratF_top _ _, _, rfl, _, C, dx, _, _, rfl, h, T_Ratio.cl, T_Ratio.nB, ratF_bot _ _, (by decide : 2 ≤ sizeLine), fun p hp => q p hp⟩

def spLead (C : Addr) : Sp := fun vs H Q _ => ∃ v u n d m e, vs = [v, u] ∧ NumAt C H v n d ∧ NumAt C H u m e ∧ (Sz n ∧ Sz d ∧ Sz m ∧ Sz e) ∧ ∀ H', Same H H' → Q (.int (n * e - m * d)) H'
abbrev sLead : Stmt := top 17
theorem scLe : FnScope ["one", "other", "top", "bottom", "other_top", "other_bottom"] ["one", "other"] (defScope sLead) := ⟨rfl, rfl, rfl, by decide +kernel, rfl, by decide +kernel, by decide +kernel⟩
theorem ok_lead {f f1 : Addr} {fd fd1 : FuncData} (F : Fun K "_lead" "_lead" sLead f fd) (C_parts_of : Cal P w K mg base 1 "parts_of" f1 fd1 ["number"] (spParts C)) : FnOk P w K mg base CX0 2 f fd ["one", "other"] (spLead C) := by
  refine F.ok scLe (fun vs H Q E h => ?_) (fun cdv A outer s H vs Q E hr h => ?_)
  · obtain ⟨v, u, n, d, m, e, rfl, _⟩ := h
    rfl
  · obtain ⟨v, u, n, d, m, e, rfl, hv, hu, ⟨z1, z2, z3, z4⟩, q⟩ := h
    have nd := scLe.nd
    refine ⟨_, pss_cons (ps_asg (pe_call C_parts_of.F (hr.mono (by decide)) (by rfl) C_parts_of.mgf C_parts_of.kp C_parts_of.b .nil pass0 (pa_cons (pv 0) pa_nil)) (pg_tup (by rfl) (pgs_cons (pg_name (i := 2) nd rfl (Or.inl rfl)) (pgs_cons (pg_name (i := 3) nd rfl (Or.inl rfl)) pgs_nil))))
      (pss_cons (ps_asg (pe_call C_parts_of.F (hr.mono (by decide)) (by rfl) C_parts_of.mgf C_parts_of.kp C_parts_of.b .nil pass0 (pa_cons (pv 1) pa_nil)) (pg_tup (by rfl) (pgs_cons (pg_name (i := 4) nd rfl (Or.inl rfl)) (pgs_cons (pg_name (i := 5) nd rfl (Or.inl rfl)) pgs_nil))))
      (pss_one (ps_ret (pe_op op_sub (pe_op op_mulW (pv 2) (pv 5)) (pe_op op_mulW (pv 4) (pv 3)))))), ?_⟩
    refine ⟨_, rfl, _, _, _, rfl, hv, fun p hp => ⟨_, _, rfl, SqT.of upd_same, rfl, _, _, rfl, _, _, rfl, rfl, ?_⟩⟩
    have s1 : Same H (upd H p (.tup [.int n, .int d])) := same_new hp
    refine ⟨_, rfl, _, _, _, rfl, hu.same s1, fun p2 hp2 => ⟨_, _, rfl, SqT.of upd_same, rfl, _, _, rfl, _, _, rfl, rfl, ?_⟩⟩
    exact ⟨_, rfl, _, rfl, _, _, rfl, rfl, z1.mul z4, _, rfl, _, rfl, _, _, rfl, rfl, z3.mul z2, _, _, rfl, rfl, q _ (s1.trans (same_new hp2))⟩
end
end Toy
set_option maxRecDepth 100000
set_option maxHeartbeats 4000000
namespace Toy
open PySem L2
/-! ### a ratio made -/
theorem vint_ne {b c : Int} (h : b ≠ c) : ¬ (decide (V.int b = V.int c) = true) := fun e => h (V.int.inj (of_decide_eq_true e))
def CDivZ (_ j : Int) : Prop := j ≠ 0 ∧ j.natAbs.log2 < 9000
theorem op_fdivZ {X : Cx} : OpR X (binaryOp .FloorDiv) (rI CDivZ fun i j => .int (i.fdiv j)) := opI fun i j _ _ _ _ _ hc q => PyProof.Rows.floordiv_int hc.1 q (.inl (PyProof.noPylong_of_log2 hc.2))
def gcdI (t b : Int) : Int := ((Nat.gcd t.natAbs b.natAbs : Nat) : Int)
def lowD (t b : Int) : Int := if 0 < b then gcdI t b else -gcdI t b
def lowT (t b : Int) : Int := t.fdiv (lowD t b)
def lowB (t b : Int) : Int := b.fdiv (lowD t b)
theorem gcdI_pos {t b : Int} (h : b ≠ 0) : 0 < gcdI t b := by
  have h1 : 0 < b.natAbs := by omega
  have h2 := Nat.gcd_pos_of_pos_right t.natAbs h1
  unfold gcdI
  omega
theorem gcdI_neg {t b : Int} (h : b ≠ 0) : -gcdI t b ≠ 0 := by
  have := gcdI_pos (t := t) h
  omega
theorem gcdI_le {t b : Int} (h : b ≠ 0) : (gcdI t b).natAbs ≤ b.natAbs := by
  have h1 : 0 < b.natAbs := by omega
  have h2 := Nat.gcd_le_right t.natAbs h1
  unfold gcdI
  omega
theorem Sz.div {i j : Int} (h : j ≠ 0) (z : Sz j) : CDivZ i j := ⟨h, Nat.lt_trans (PySem.Flt.log2_lt_of (by decide) z) (by decide)⟩
theorem Sz.gcd {t b : Int} (h : b ≠ 0) (z : Sz b) : Sz (gcdI t b) := Nat.lt_of_le_of_lt (gcdI_le h) z
theorem Sz.neg {b : Int} (z : Sz b) : Sz (-b) := by unfold Sz; rw [Int.natAbs_neg]; exact z
theorem lowT_one {t b : Int} (h : 0 < b) (g : gcdI t b = 1) : lowT t b = t := by
  unfold lowT lowD
  rw [if_pos h, g]
  exact Int.fdiv_one t
theorem lowB_one {t b : Int} (h : 0 < b) (g : gcdI t b = 1) : lowB t b = b := by
  unfold lowB lowD
  rw [if_pos h, g]
  exact Int.fdiv_one b
theorem iteNot {b : Bool} {A B : Prop} (h : b = true) (x : B) : if (!b) = true then A else B := by
  subst h
  exact iteF x
theorem NumAt.info {K : PySem.W.Frag} {mg : Str → Option Value} {C : Addr} {x : Str} {H : Hp} {v : V} {n d : Int} (T : ClT K mg C x) (h : NumAt C H v n d) :
    ∃ t b c, TyX K H v t ∧ isIntK K t b ∧ PySem.W.kitOne K t (.ref C) = some c ∧ (b || c) = true := by
  cases h with
  | int => exact ⟨_, _, _, .base (.int _), isIntK_int, T.iK, rfl⟩
  | rat h => obtain ⟨dx, h⟩ := h; exact ⟨_, _, _, T.ty h, isIntK_own T, T.kS, rfl⟩
section
variable {P : Program} {w : World} {K : PySem.W.Frag} {mg : Str → Option Value} {base : Heap} {C : Addr}
def spRInit (C : Addr) : Sp := fun vs H Q _ => ∃ x dx t b, vs = [.ref x, .int t, .int b] ∧ H x = some (.ins C dx []) ∧ b ≠ 0 ∧ Sz b ∧ ∀ H', RatAt C H' x (lowT t b) (lowB t b) → (∀ c o, H c = some o → c ≠ x → H' c = some o) → Q .non H'
theorem spRInit.make {H1 : Hp} {t b : Int} {Q : VK} {E : XK} (hb : b ≠ 0) (hz : Sz b) (q : ∀ x H', H1 x = none → Same H1 H' → RatAt C H' x (lowT t b) (lowB t b) → Q (.ref x) H') :
    ∀ x dx, H1 x = none → H1 dx = none → dx ≠ x → spRInit C [.ref x, .int t, .int b] (upd (upd H1 dx (.own x)) x (.ins C dx [])) (fun v H2 => v = .non ∧ Q (.ref x) H2) E := fun x dx hx hdx hne =>
  ⟨x, dx, t, b, rfl, upd_same, hb, hz, fun H' hR hk => ⟨rfl, q x H' hx (fun c o e => hk c o (by rw [upd_ne (ne_of_none e hx), upd_ne (ne_of_none e hdx)]; exact e) (ne_of_none e hx)) hR⟩⟩
abbrev sRInit : Stmt := inClass (top 14) 0
theorem scRI : FnScope ["self", "top", "bottom", "divisor"] ["self", "top", "bottom"] (defScope sRInit) := ⟨rfl, rfl, rfl, by decide +kernel, rfl, by decide +kernel, by decide +kernel⟩
theorem ok_rinit {f f1 : Addr} {fd fd1 : FuncData} (F : FunD K "__init__" "Ratio.__init__" (defArgs sRInit) (defBody sRInit) (defScope sRInit) [.int 1] [] f fd) (T : Bl mg) (T_Ratio : RatT K mg C) (C_is_int : Cal P w K mg base 1 "is_int" f1 fd1 ["value"] (spIsInt K)) :
    FnOk P w K mg base CX0 2 f fd ["self", "top", "bottom"] (spRInit C) := by
  refine F.ok scRI (fun vs H Q E h => ?_) (fun cdv A outer s H vs Q E hr h => ?_)
  · obtain ⟨x, dx, t, b, rfl, _⟩ := h
    rfl
  · obtain ⟨x, dx, t, b, rfl, hx, hb, hz, q⟩ := h
    have nd := scRI.nd
    refine ⟨_, pss_cons (ps_if (pt_not (pt_val (pe_call C_is_int.F (hr.mono (by decide)) (by rfl) C_is_int.mgf C_is_int.kp C_is_int.b .nil pass0 (pa_cons (pv 1) pa_nil)))) pss_never pss_nil)
      (pss_cons (ps_if (pt_not (pt_val (pe_call C_is_int.F (hr.mono (by decide)) (by rfl) C_is_int.mgf C_is_int.kp C_is_int.b .nil pass0 (pa_cons (pv 2) pa_nil)))) pss_never pss_nil)
      (pss_cons (ps_if (pt_cmpR op_eq (pv 2) pe_int (nomark _)) pss_never pss_nil)
      (pss_cons (ps_set (i := 3) nd rfl (Or.inl rfl) (pe_ifExp (pt_cmpR op_gt (pv 2) pe_int (nomark _)) (pe_callBfun cr_gcd (by rfl) T.gcd (pa_cons (pv 1) (pa_cons (pv 2) pa_nil))) (pe_un un_neg (pe_callBfun cr_gcd (by rfl) T.gcd (pa_cons (pv 1) (pa_cons (pv 2) pa_nil))))))
      (pss_cons (ps_fld (pv 0) (pe_op op_fdivZ (pv 1) (pv 3)) rfl)
      (pss_one (ps_fld (pv 0) (pe_op op_fdivZ (pv 2) (pv 3)) rfl)))))), ?_⟩
    refine ⟨_, rfl, _, _, true, rfl, .base (.int _), isIntK_int, _, rfl, iteF ?_⟩
    refine ⟨_, rfl, _, _, true, rfl, .base (.int _), isIntK_int, _, rfl, iteF ?_⟩
    refine ⟨_, rfl, rfl, _, rfl, ?_⟩
    refine ite2 (fun e => absurd e (vint_ne hb)) (fun _ => ?_)
    refine ⟨_, rfl, _, _, rfl, rfl, _, rfl, ?_⟩
    have fin : ∀ z : Int, z = lowD t b → Q .non (upd (upd H x (.ins C dx (putF "top" (.int (t.fdiv z)) []))) x (.ins C dx (putF "bottom" (.int (b.fdiv z)) (putF "top" (.int (t.fdiv z)) [])))) := fun z e =>
      q _ ⟨dx, by rw [e]; exact upd_same⟩ fun c o h n => by rw [upd_ne n, upd_ne n]; exact h
    refine ite2 (fun hp => ?_) (fun hp => ?_)
    · have hp1 : 0 < b := of_decide_eq_true hp
      refine ⟨_, rfl, _, rfl, _, _, rfl, ?_⟩
      refine ⟨_, rfl, _, rfl, _, _, rfl, rfl, (Sz.gcd hb hz).div (by have := gcdI_pos (t := t) hb; exact Int.ne_of_gt this), _, rfl, x, C, dx, _, rfl, hx, T_Ratio.cl, T_Ratio.nT, (by decide : 0 < 1000), ?_⟩
      refine ⟨_, rfl, _, rfl, _, _, rfl, rfl, (Sz.gcd hb hz).div (by have := gcdI_pos (t := t) hb; exact Int.ne_of_gt this), _, rfl, x, C, dx, _, rfl, upd_same, T_Ratio.cl, T_Ratio.nB, (by decide : 1 < 1000), ?_⟩
      exact fin _ (by unfold lowD; rw [if_pos hp1]; rfl)
    · have hp1 : ¬ 0 < b := fun e => hp (decide_eq_true e)
      refine ⟨_, rfl, _, rfl, _, _, rfl, _, rfl, ?_⟩
      refine ⟨_, rfl, _, rfl, _, _, rfl, rfl, (Sz.gcd hb hz).neg.div (gcdI_neg hb), _, rfl, x, C, dx, _, rfl, hx, T_Ratio.cl, T_Ratio.nT, (by decide : 0 < 1000), ?_⟩
      refine ⟨_, rfl, _, rfl, _, _, rfl, rfl, (Sz.gcd hb hz).neg.div (gcdI_neg hb), _, rfl, x, C, dx, _, rfl, upd_same, T_Ratio.cl, T_Ratio.nB, (by decide : 1 < 1000), ?_⟩
      exact fin _ (by unfold lowD; rw [if_neg hp1]; rfl)

/-- comparisons -/
def spCmp (C : Addr) (g : Int → Bool) : Sp := fun vs H Q _ => ∃ v u n d m e, vs = [v, u] ∧ NumAt C H v n d ∧ NumAt C H u m e ∧ (Sz n ∧ Sz d ∧ Sz m ∧ Sz e) ∧ ∀ H', Same H H' → Q (.bl (g (n * e - m * d))) H'
structure Opr (P : Program) (w : World) (K : PySem.W.Frag) (mg : Str → Option Value) (base : Heap) (k : Nat) (C : Addr) (m : Str) (f : Addr) (fd : FuncData) (ps : List Str) (sp : Sp) : Prop where
  at_ : PySem.W.findIn K (.ref C) m = some (some (.ref f))
  fn : PySem.W.isFn K (.ref f) = true
  F : FnOk P w K mg base CX0 k f fd ps sp
  b : Binds K fd ps []
abbrev sLt : Stmt := inClass (top 14) 22
theorem scLt : FnScope ["self", "other"] ["self", "other"] (defScope sLt) := ⟨rfl, rfl, rfl, by decide +kernel, rfl, by decide +kernel, by decide +kernel⟩
theorem ok_lt {f p1 f1 f2 : Addr} {fd fd1 fd2 : FuncData} (F : Fun K "__lt__" "Ratio.__lt__" sLt f fd) (T_Ratio : RatT K mg C)
    (S_Ratio_is_number : Sta P w K mg base 2 C "is_number" p1 f1 fd1 ["value"] (spIsNum K C)) (C__lead : Cal P w K mg base 2 "_lead" f2 fd2 ["one", "other"] (spLead C)) : FnOk P w K mg base CX0 3 f fd ["self", "other"] (spCmp C fun z => decide (z < 0)) := by
  refine F.ok scLt (fun vs H Q E h => ?_) (fun cdv A outer s H vs Q E hr h => ?_)
  · obtain ⟨v, u, n, d, m, e, rfl, _⟩ := h
    rfl
  · obtain ⟨v, u, n, d, m, e, rfl, hv, hu, hz, q⟩ := h
    have nd := scLt.nd
    refine ⟨_, pss_cons (ps_if (pt_not (pt_val (Own.pe_smeth T_Ratio.rd S_Ratio_is_number.s S_Ratio_is_number.F (hr.mono (by decide)) S_Ratio_is_number.b pass0 (Own.pe_gref (by rfl) T_Ratio.mgC) (pa_cons (pv 1) pa_nil)))) pss_never pss_nil)
      (pss_one (ps_ret (pe_cmpR op_lt (pe_call C__lead.F (hr.mono (by decide)) (by rfl) C__lead.mgf C__lead.kp C__lead.b .nil pass0 (pa_cons (pv 0) (pa_cons (pv 1) pa_nil))) pe_int (nomark _)))), ?_⟩
    obtain ⟨t, b, c, ty, hb, hc, hbc⟩ := hu.info T_Ratio.toClT
    refine ⟨rfl, _, rfl, _, t, b, c, rfl, ty, hb, hc, _, rfl, iteNot hbc ?_⟩
    exact ⟨_, rfl, _, rfl, v, u, n, d, m, e, rfl, hv, hu, hz, fun H' s1 => ⟨_, _, rfl, rfl, q H' s1⟩⟩
abbrev sLeq : Stmt := inClass (top 14) 23
theorem scLeq : FnScope ["self", "other"] ["self", "other"] (defScope sLeq) := ⟨rfl, rfl, rfl, by decide +kernel, rfl, by decide +kernel, by decide +kernel⟩
theorem ok_le {f p1 f1 f2 : Addr} {fd fd1 fd2 : FuncData} (F : Fun K "__le__" "Ratio.__le__" sLeq f fd) (T_Ratio : RatT K mg C)
    (S_Ratio_is_number : Sta P w K mg base 2 C "is_number" p1 f1 fd1 ["value"] (spIsNum K C)) (C__lead : Cal P w K mg base 2 "_lead" f2 fd2 ["one", "other"] (spLead C)) : FnOk P w K mg base CX0 3 f fd ["self", "other"] (spCmp C fun z => decide (z ≤ 0)) := by
  refine F.ok scLeq (fun vs H Q E h => ?_) (fun cdv A outer s H vs Q E hr h => ?_)
  · obtain ⟨v, u, n, d, m, e, rfl, _⟩ := h
    rfl
  · obtain ⟨v, u, n, d, m, e, rfl, hv, hu, hz, q⟩ := h
    have nd := scLeq.nd
    refine ⟨_, pss_cons (ps_if (pt_not (pt_val (Own.pe_smeth T_Ratio.rd S_Ratio_is_number.s S_Ratio_is_number.F (hr.mono (by decide)) S_Ratio_is_number.b pass0 (Own.pe_gref (by rfl) T_Ratio.mgC) (pa_cons (pv 1) pa_nil)))) pss_never pss_nil)
      (pss_one (ps_ret (pe_cmpR op_le (pe_call C__lead.F (hr.mono (by decide)) (by rfl) C__lead.mgf C__lead.kp C__lead.b .nil pass0 (pa_cons (pv 0) (pa_cons (pv 1) pa_nil))) pe_int (nomark _)))), ?_⟩
    obtain ⟨t, b, c, ty, hb, hc, hbc⟩ := hu.info T_Ratio.toClT
    refine ⟨rfl, _, rfl, _, t, b, c, rfl, ty, hb, hc, _, rfl, iteNot hbc ?_⟩
    exact ⟨_, rfl, _, rfl, v, u, n, d, m, e, rfl, hv, hu, hz, fun H' s1 => ⟨_, _, rfl, rfl, q H' s1⟩⟩
abbrev sGt : Stmt := inClass (top 14) 24
theorem scGt : FnScope ["self", "other"] ["self", "other"] (defScope sGt) := ⟨rfl, rfl, rfl, by decide +kernel, rfl, by decide +kernel, by decide +kernel⟩
theorem ok_gt {f p1 f1 f2 : Addr} {fd fd1 fd2 : FuncData} (F : Fun K "__gt__" "Ratio.__gt__" sGt f fd) (T_Ratio : RatT K mg C)
    (S_Ratio_is_number : Sta P w K mg base 2 C "is_number" p1 f1 fd1 ["value"] (spIsNum K C)) (C__lead : Cal P w K mg base 2 "_lead" f2 fd2 ["one", "other"] (spLead C)) : FnOk P w K mg base CX0 3 f fd ["self", "other"] (spCmp C fun z => decide (0 < z)) := by
  refine F.ok scGt (fun vs H Q E h => ?_) (fun cdv A outer s H vs Q E hr h => ?_)
  · obtain ⟨v, u, n, d, m, e, rfl, _⟩ := h
    rfl
  · obtain ⟨v, u, n, d, m, e, rfl, hv, hu, hz, q⟩ := h
    have nd := scGt.nd
    refine ⟨_, pss_cons (ps_if (pt_not (pt_val (Own.pe_smeth T_Ratio.rd S_Ratio_is_number.s S_Ratio_is_number.F (hr.mono (by decide)) S_Ratio_is_number.b pass0 (Own.pe_gref (by rfl) T_Ratio.mgC) (pa_cons (pv 1) pa_nil)))) pss_never pss_nil)
      (pss_one (ps_ret (pe_cmpR op_gt (pe_call C__lead.F (hr.mono (by decide)) (by rfl) C__lead.mgf C__lead.kp C__lead.b .nil pass0 (pa_cons (pv 0) (pa_cons (pv 1) pa_nil))) pe_int (nomark _)))), ?_⟩
    obtain ⟨t, b, c, ty, hb, hc, hbc⟩ := hu.info T_Ratio.toClT
    refine ⟨rfl, _, rfl, _, t, b, c, rfl, ty, hb, hc, _, rfl, iteNot hbc ?_⟩
    exact ⟨_, rfl, _, rfl, v, u, n, d, m, e, rfl, hv, hu, hz, fun H' s1 => ⟨_, _, rfl, rfl, q H' s1⟩⟩
abbrev sGe : Stmt := inClass (top 14) 25
theorem scGe : FnScope ["self", "other"] ["self", "other"] (defScope sGe) := ⟨rfl, rfl, rfl, by decide +kernel, rfl, by decide +kernel, by decide +kernel⟩
theorem ok_ge {f p1 f1 f2 : Addr} {fd fd1 fd2 : FuncData} (F : Fun K "__ge__" "Ratio.__ge__" sGe f fd) (T_Ratio : RatT K mg C)
    (S_Ratio_is_number : Sta P w K mg base 2 C "is_number" p1 f1 fd1 ["value"] (spIsNum K C)) (C__lead : Cal P w K mg base 2 "_lead" f2 fd2 ["one", "other"] (spLead C)) : FnOk P w K mg base CX0 3 f fd ["self", "other"] (spCmp C fun z => decide (0 ≤ z)) := by
  refine F.ok scGe (fun vs H Q E h => ?_) (fun cdv A outer s H vs Q E hr h => ?_)
  · obtain ⟨v, u, n, d, m, e, rfl, _⟩ := h
    rfl
  · obtain ⟨v, u, n, d, m, e, rfl, hv, hu, hz, q⟩ := h
    have nd := scGe.nd
    refine ⟨_, pss_cons (ps_if (pt_not (pt_val (Own.pe_smeth T_Ratio.rd S_Ratio_is_number.s S_Ratio_is_number.F (hr.mono (by decide)) S_Ratio_is_number.b pass0 (Own.pe_gref (by rfl) T_Ratio.mgC) (pa_cons (pv 1) pa_nil)))) pss_never pss_nil)
      (pss_one (ps_ret (pe_cmpR op_ge (pe_call C__lead.F (hr.mono (by decide)) (by rfl) C__lead.mgf C__lead.kp C__lead.b .nil pass0 (pa_cons (pv 0) (pa_cons (pv 1) pa_nil))) pe_int (nomark _)))), ?_⟩
    obtain ⟨t, b, c, ty, hb, hc, hbc⟩ := hu.info T_Ratio.toClT
    refine ⟨rfl, _, rfl, _, t, b, c, rfl, ty, hb, hc, _, rfl, iteNot hbc ?_⟩
    exact ⟨_, rfl, _, rfl, v, u, n, d, m, e, rfl, hv, hu, hz, fun H' s1 => ⟨_, _, rfl, rfl, q H' s1⟩⟩

end
end Toy
set_option maxRecDepth 100000
set_option maxHeartbeats 4000000
namespace Toy
open PySem L2
open Rat (divInt)
/-! ### numbers of the program as rationals -/
theorem gcdI_eq (t b : Int) : gcdI t b = (Int.gcd b t : Int) := by
  unfold gcdI Int.gcd
  rw [Nat.gcd_comm]
theorem low_num {t b : Int} (h : b ≠ 0) : lowT t b = (divInt t b).num := by
  rw [Rat.num_divInt]
  unfold lowT lowD
  rw [gcdI_eq]
  have hg : (0 : Int) < (Int.gcd b t : Int) := by
    rw [← gcdI_eq]; exact gcdI_pos h
  by_cases hb : 0 < b
  · rw [if_pos hb, Int.sign_eq_one_of_pos hb, Int.one_mul, Int.fdiv_eq_ediv_of_nonneg _ (by omega)]
  · have hb2 : b < 0 := by omega
    rw [if_neg hb, Int.sign_eq_neg_one_of_neg hb2, Int.neg_one_mul, ← Int.fdiv_eq_ediv_of_nonneg _ (by omega), ← Int.neg_fdiv_neg, Int.neg_neg]
theorem low_den {t b : Int} (h : b ≠ 0) : lowB t b = ((divInt t b).den : Int) := by
  rw [Rat.den_divInt, if_neg h]
  unfold lowB lowD
  rw [gcdI_eq]
  have hg : (0 : Int) < (Int.gcd b t : Int) := by
    rw [← gcdI_eq]; exact gcdI_pos h
  rw [Int.natCast_ediv]
  by_cases hb : 0 < b
  · rw [if_pos hb, Int.fdiv_eq_ediv_of_nonneg _ (by omega), Int.natAbs_of_nonneg (by omega)]
  · rw [if_neg hb, show ((b.natAbs : Nat) : Int) = -b by omega, ← Int.fdiv_eq_ediv_of_nonneg _ (by omega), ← Int.neg_fdiv_neg, Int.neg_neg]
/-- a number below 2 ^ k over one below 2 ^ k -/
def Sq (k : Nat) (q : Rat) : Prop := q.num.natAbs < 2 ^ k ∧ q.den < 2 ^ k
theorem Sq.mono {j k : Nat} {q : Rat} (h : Sq j q) (e : j ≤ k) : Sq k q := ⟨Nat.lt_of_lt_of_le h.1 (Nat.pow_le_pow_right (by decide) e), Nat.lt_of_lt_of_le h.2 (Nat.pow_le_pow_right (by decide) e)⟩
theorem Sq.n {k : Nat} {q : Rat} (h : Sq k q) (e : k ≤ 8000) : Sz q.num := (h.mono e).1
theorem Sq.d {k : Nat} {q : Rat} (h : Sq k q) (e : k ≤ 8000) : Sz (q.den : Int) := (h.mono e).2
theorem num_le (t b : Int) : (divInt t b).num.natAbs ≤ t.natAbs := by
  rw [Rat.num_divInt]
  refine Nat.le_trans (Int.natAbs_ediv_le_natAbs _ _) ?_
  rw [Int.natAbs_mul]
  rcases Int.lt_trichotomy b 0 with h | h | h
  · rw [Int.sign_eq_neg_one_of_neg h]; simp
  · subst h; simp
  · rw [Int.sign_eq_one_of_pos h]; simp
theorem den_le {t b : Int} (h : b ≠ 0) : (divInt t b).den ≤ b.natAbs := by
  rw [Rat.den_divInt, if_neg h]
  exact Nat.div_le_self _ _
theorem Sq.of {k : Nat} {t b : Int} (h : b ≠ 0) (ht : t.natAbs < 2 ^ k) (hb : b.natAbs < 2 ^ k) : Sq k (divInt t b) := ⟨Nat.lt_of_le_of_lt (num_le t b) ht, Nat.lt_of_le_of_lt (den_le h) hb⟩
theorem den_ne (q : Rat) : (q.den : Int) ≠ 0 := by have := q.den_pos; omega
theorem den_pos (q : Rat) : (0 : Int) < (q.den : Int) := by have := q.den_pos; omega
theorem q_add (p q : Rat) : divInt (p.num * q.den + q.num * p.den) (p.den * q.den) = p + q := by
  conv => rhs; rw [← Rat.num_divInt_den p, ← Rat.num_divInt_den q]
  rw [Rat.divInt_add_divInt _ _ (den_ne p) (den_ne q)]
theorem q_sub (p q : Rat) : divInt (p.num * q.den - q.num * p.den) (p.den * q.den) = p - q := by
  conv => rhs; rw [← Rat.num_divInt_den p, ← Rat.num_divInt_den q]
  rw [Rat.divInt_sub_divInt _ _ (den_ne p) (den_ne q)]
theorem q_mul (p q : Rat) : divInt (p.num * q.num) (p.den * q.den) = p * q := by
  conv => rhs; rw [← Rat.num_divInt_den p, ← Rat.num_divInt_den q]
  rw [Rat.divInt_mul_divInt]
theorem q_div {p q : Rat} : divInt (p.num * q.den) (p.den * q.num) = p / q := by
  rw [Rat.divInt_eq_div]
  conv => rhs; rw [← Rat.num_divInt_den p, ← Rat.num_divInt_den q]
  rw [Rat.divInt_eq_div, Rat.divInt_eq_div, Rat.intCast_mul, Rat.intCast_mul]
  have h1 : ((p.den : Int) : Rat) ≠ 0 := by simpa using den_ne p
  have h2 : ((q.den : Int) : Rat) ≠ 0 := by simpa using den_ne q
  grind
theorem q_neg (p : Rat) : divInt (-p.num) p.den = -p := by
  conv => rhs; rw [← Rat.num_divInt_den p]
  rw [Rat.neg_divInt]
theorem fdiv_pos (n d k : Int) (hd : 0 < d) (hk : 0 < k) : (n * k).fdiv (d * k) = n / d := by
  rw [Int.fdiv_eq_ediv_of_nonneg _ (by exact Int.le_of_lt (Int.mul_pos hd hk)), Int.mul_ediv_mul_of_pos_left _ _ hk]
theorem q_fdiv {t b : Int} (h : b ≠ 0) : t.fdiv b = (divInt t b).floor := by
  obtain ⟨m, hm, e1, e2⟩ := Rat.divInt_num_den (n := t) (n' := (divInt t b).num) (d' := (divInt t b).den) (z' := (divInt t b).den_nz) (c := (divInt t b).reduced) h rfl
  rw [Rat.floor_def]
  have hd := den_pos (divInt t b)
  generalize (divInt t b).num = n at *
  generalize ((divInt t b).den : Int) = d at *
  rw [e1, e2]
  by_cases hp : 0 < m
  · exact fdiv_pos n d m hd hp
  · rw [← Int.neg_fdiv_neg, ← Int.mul_neg, ← Int.mul_neg]
    exact fdiv_pos n d (-m) hd (by omega)
theorem q_lt (p q : Rat) : decide (p.num * q.den - q.num * p.den < 0) = decide (p < q) := decide_eq_decide.mpr ⟨fun h => (Rat.lt_iff p q).mpr (by omega), fun h => by have := (Rat.lt_iff p q).mp h; omega⟩
theorem q_le (p q : Rat) : decide (p.num * q.den - q.num * p.den ≤ 0) = decide (p ≤ q) := decide_eq_decide.mpr ⟨fun h => (Rat.le_iff p q).mpr (by omega), fun h => by have := (Rat.le_iff p q).mp h; omega⟩
theorem q_gt (p q : Rat) : decide (0 < p.num * q.den - q.num * p.den) = decide (q < p) := decide_eq_decide.mpr ⟨fun h => (Rat.lt_iff q p).mpr (by omega), fun h => by have := (Rat.lt_iff q p).mp h; omega⟩
theorem q_ge (p q : Rat) : decide (0 ≤ p.num * q.den - q.num * p.den) = decide (q ≤ p) := decide_eq_decide.mpr ⟨fun h => (Rat.le_iff q p).mpr (by omega), fun h => by have := (Rat.le_iff q p).mp h; omega⟩
theorem q_eq (p q : Rat) : (decide (p.num = q.num) && decide ((p.den : Int) = q.den)) = decide (p = q) := by
  by_cases h : p = q
  · subst h; simp
  · rw [decide_eq_false h]
    by_cases h1 : p.num = q.num
    · have h2 : (p.den : Int) ≠ q.den := fun e => h (Rat.ext h1 (by exact_mod_cast e))
      simp [h2]
    · simp [h1]
/-! ### sizes -/
theorem mul_lt {i j : Int} {a b : Nat} (ha : i.natAbs < 2 ^ a) (hb : j.natAbs < 2 ^ b) : (i * j).natAbs < 2 ^ (a + b) := wide_lt ha hb
theorem den_abs (q : Rat) : ((q.den : Int)).natAbs = q.den := Int.natAbs_natCast _
theorem add_lt {i j : Int} {a : Nat} (ha : i.natAbs < 2 ^ a) (hb : j.natAbs < 2 ^ a) : (i + j).natAbs < 2 ^ (a + 1) := by
  have := Int.natAbs_add_le i j
  rw [Nat.pow_succ]
  omega
theorem sub_lt {i j : Int} {a : Nat} (ha : i.natAbs < 2 ^ a) (hb : j.natAbs < 2 ^ a) : (i - j).natAbs < 2 ^ (a + 1) := by
  have := Int.natAbs_sub_le i j
  rw [Nat.pow_succ]
  omega
theorem Sq.dd {k : Nat} {q : Rat} (h : Sq k q) : ((q.den : Int)).natAbs < 2 ^ k := by rw [den_abs]; exact h.2
section
variable {j k : Nat} {p q : Rat}
theorem Sq.dm (a : Sq j p) (b : Sq k q) : ((p.den : Int) * q.den).natAbs < 2 ^ (j + k) := mul_lt a.dd b.dd
theorem Sq.tadd (a : Sq j p) (b : Sq k q) : (p.num * q.den + q.num * p.den).natAbs < 2 ^ (j + k + 1) := add_lt (mul_lt a.1 b.dd) (by rw [Nat.add_comm]; exact mul_lt b.1 a.dd)
theorem Sq.tsub (a : Sq j p) (b : Sq k q) : (p.num * q.den - q.num * p.den).natAbs < 2 ^ (j + k + 1) := sub_lt (mul_lt a.1 b.dd) (by rw [Nat.add_comm]; exact mul_lt b.1 a.dd)
theorem dm_ne (p q : Rat) : (p.den : Int) * q.den ≠ 0 := Int.mul_ne_zero (den_ne p) (den_ne q)
theorem Sq.add (a : Sq j p) (b : Sq k q) : Sq (j + k + 1) (p + q) := by rw [← q_add]; exact Sq.of (dm_ne p q) (a.tadd b) (Nat.lt_of_lt_of_le (a.dm b) (Nat.pow_le_pow_right (by decide) (by omega)))
theorem Sq.sub (a : Sq j p) (b : Sq k q) : Sq (j + k + 1) (p - q) := by rw [← q_sub]; exact Sq.of (dm_ne p q) (a.tsub b) (Nat.lt_of_lt_of_le (a.dm b) (Nat.pow_le_pow_right (by decide) (by omega)))
theorem Sq.mul (a : Sq j p) (b : Sq k q) : Sq (j + k) (p * q) := by rw [← q_mul]; exact Sq.of (dm_ne p q) (mul_lt a.1 b.1) (a.dm b)
theorem num_ne {q : Rat} (h : q ≠ 0) : q.num ≠ 0 := fun e => h (Rat.num_eq_zero.mp e)
theorem dn_ne (p : Rat) {q : Rat} (h : q ≠ 0) : (p.den : Int) * q.num ≠ 0 := Int.mul_ne_zero (den_ne p) (num_ne h)
theorem Sq.div (a : Sq j p) (b : Sq k q) (h : q ≠ 0) : Sq (j + k) (p / q) := by rw [← q_div]; exact Sq.of (dn_ne p h) (mul_lt a.1 b.dd) (mul_lt a.dd b.1)
theorem Sq.neg (a : Sq j p) : Sq j (-p) := by
  refine ⟨?_, a.2⟩
  show (-p.num).natAbs < _
  rw [Int.natAbs_neg]
  exact a.1
theorem Sq.abs (a : Sq j p) : Sq j p.abs := by
  unfold Rat.abs
  split
  · exact a
  · exact a.neg
theorem Sq.int {i : Int} (h : i.natAbs < 2 ^ k) (h0 : 0 < k) : Sq k (i : Rat) := ⟨by rw [Rat.num_intCast]; exact h, by rw [Rat.den_intCast]; exact Nat.one_lt_two_pow (by omega)⟩
end
end Toy
set_option maxRecDepth 100000
set_option maxHeartbeats 4000000
namespace Toy
open PySem L2
open Rat (divInt)
/-! ### what the operators of Ratio promise, in rationals -/
def RatQ (C : Addr) (H : Hp) (a : Addr) (q : Rat) : Prop := RatAt C H a q.num q.den
inductive NumQ (C : Addr) (H : Hp) : V → Rat → Prop
  | int (i : Int) : NumQ C H (.int i) (i : Rat)
  | rat {a : Addr} {q : Rat} (h : RatQ C H a q) : NumQ C H (.ref a) q
theorem RatQ.same {C : Addr} {H H' : Hp} {a : Addr} {q : Rat} (h : RatQ C H a q) (e : Same H H') : RatQ C H' a q := RatAt.same h e
theorem RatQ.but {C p : Addr} {H H' : Hp} {a : Addr} {q : Rat} (h : RatQ C H a q) (e : But p H H') (hp : a ≠ p) : RatQ C H' a q := RatAt.but h e hp
theorem NumQ.same {C : Addr} {H H' : Hp} {v : V} {q : Rat} (h : NumQ C H v q) (e : Same H H') : NumQ C H' v q := by
  cases h with
  | int => exact .int _
  | rat h => exact .rat (h.same e)
theorem NumQ.at_ {C : Addr} {H : Hp} {v : V} {q : Rat} (h : NumQ C H v q) : NumAt C H v q.num q.den := by
  cases h with
  | int i => exact .int i
  | rat h => exact .rat h
theorem RatQ.ins {C : Addr} {H : Hp} {a : Addr} {q : Rat} (h : RatQ C H a q) : ∃ dx fs, H a = some (.ins C dx fs) := let ⟨dx, h⟩ := h; ⟨dx, _, h⟩
/-- an int or an instance, as the operators' rules ask -/
theorem NumQ.ri {C : Addr} {H : Hp} {v : V} {q : Rat} (h : NumQ C H v q) : (∃ j, v = .int j) ∨ ∃ b dy gs, v = .ref b ∧ H b = some (.ins C dy gs) := by
  cases h with
  | int i => exact .inl ⟨i, rfl⟩
  | rat h => obtain ⟨dx, h⟩ := h; exact .inr ⟨_, dx, _, rfl, h⟩
theorem NumQ.cases {C : Addr} {H : Hp} {v : V} {q : Rat} (h : NumQ C H v q) : (∃ i : Int, v = .int i ∧ q = i) ∨ ∃ a, v = .ref a ∧ RatQ C H a q := by
  cases h with
  | int i => exact .inl ⟨i, rfl, rfl⟩
  | rat h => exact .inr ⟨_, rfl, h⟩
section
variable {P : Program} {w : World} {K : PySem.W.Frag} {mg : Str → Option Value} {base : Heap} {C : Addr}
theorem mkQ {H1 : Hp} {t b : Int} {Q : VK} {E : XK} {q : Rat} (hb : b ≠ 0) (hz : Sz b) (e : divInt t b = q) (k : ∀ x H', Same H1 H' → RatQ C H' x q → Q (.ref x) H') :
    ∀ x dx, H1 x = none → H1 dx = none → dx ≠ x → spRInit C [.ref x, .int t, .int b] (upd (upd H1 dx (.own x)) x (.ins C dx [])) (fun v H2 => v = .non ∧ Q (.ref x) H2) E :=
  spRInit.make hb hz fun x H' _ s r => k x H' s (by rw [low_num hb, low_den hb, e] at r; exact r)
/-- a Ratio and a number, a Ratio out -/
def spBin (C : Addr) (G : Rat → Rat → Prop) (f : Rat → Rat → Rat) : Sp := fun vs H Q _ => ∃ a u p q, vs = [.ref a, u] ∧ RatQ C H a p ∧ NumQ C H u q ∧ (Sq 3900 p ∧ Sq 3900 q) ∧ G p q ∧ ∀ x H', Same H H' → RatQ C H' x (f p q) → Q (.ref x) H'
def spUn (C : Addr) (f : Rat → Rat) : Sp := fun vs H Q _ => ∃ a p, vs = [.ref a] ∧ RatQ C H a p ∧ Sq 3900 p ∧ ∀ x H', Same H H' → RatQ C H' x (f p) → Q (.ref x) H'
abbrev GT : Rat → Rat → Prop := fun _ _ => True
theorem z4 {p : Rat} (h : Sq 3900 p) : Sz p.num ∧ Sz (p.den : Int) := ⟨h.n (by decide), h.d (by decide)⟩
theorem szd {p q : Rat} (a : Sq 3900 p) (b : Sq 3900 q) : Sz ((p.den : Int) * q.den) := Nat.lt_of_lt_of_le (a.dm b) (Nat.pow_le_pow_right (by decide) (by decide))
abbrev sOver : Stmt := inClass (top 14) 7
theorem scOver : FnScope ["self", "number", "top", "bottom"] ["self", "number"] (defScope sOver) := ⟨rfl, rfl, rfl, by decide +kernel, rfl, by decide +kernel, by decide +kernel⟩
theorem ok_over {f f2 f3 : Addr} {fd fd2 fd3 : FuncData} (F : Fun K "over" "Ratio.over" sOver f fd) (T_Ratio : RatT K mg C) (C_parts_of : Cal P w K mg base 1 "parts_of" f2 fd2 ["number"] (spParts C)) (M_Ratio : Mak P w K mg base 2 "Ratio" C f3 fd3 ["self", "top", "bottom"] (spRInit C)) :
    FnOk P w K mg base CX0 4 f fd ["self", "number"] (spBin C (fun _ q => q ≠ 0) fun p q => p / q) := by
  refine F.ok scOver (fun vs H Q E h => ?_) (fun cdv A outer s H vs Q E hr h => ?_)
  · obtain ⟨a, u, p, q, rfl, _⟩ := h
    rfl
  · obtain ⟨a, u, p, q, rfl, hp, hq, ⟨zp, zq⟩, hG, k⟩ := h
    have nd := scOver.nd
    refine ⟨_, pss_cons (ps_asg (pe_call C_parts_of.F (hr.mono (by decide)) (by rfl) C_parts_of.mgf C_parts_of.kp C_parts_of.b .nil pass0 (pa_cons (pv 1) pa_nil)) (pg_tup (by rfl) (pgs_cons (pg_name (i := 2) nd rfl (Or.inl rfl)) (pgs_cons (pg_name (i := 3) nd rfl (Or.inl rfl)) pgs_nil))))
      (pss_one (ps_ret (pe_make M_Ratio.M M_Ratio.F (hr.mono (by decide)) (by rfl) M_Ratio.mgC M_Ratio.b .nil pass0 (pa_cons (pe_op op_mulW (pe_fld (pv 0) rfl) (pv 3)) (pa_cons (pe_op op_mulW (pe_fld (pv 0) rfl) (pv 2)) pa_nil))))), ?_⟩
    have hv := hq.at_
    obtain ⟨dx, h0⟩ := id hp
    refine ⟨_, rfl, _, _, _, rfl, hv, fun p1 hp1 => ⟨_, _, rfl, SqT.of upd_same, rfl, _, _, rfl, _, _, rfl, rfl, ?_⟩⟩
    have s1 : Same H (upd H p1 (.tup [.int q.num, .int (q.den : Int)])) := same_new hp1
    have h1 := s1 _ _ h0
    refine ⟨_, rfl, _, C, dx, _, _, rfl, h1, T_Ratio.cl, T_Ratio.nT, ratF_top _ _, _, rfl, _, _, rfl, rfl, ((z4 zp).1.mul (z4 zq).2), _, rfl, _, C, dx, _, _, rfl, h1, T_Ratio.cl, T_Ratio.nB, ratF_bot _ _, _, rfl, _, _, rfl, rfl, (z4 zp).2.mul (z4 zq).1, ?_⟩
    exact mkQ (dn_ne p hG) (Nat.lt_of_lt_of_le (mul_lt zp.dd zq.1) (Nat.pow_le_pow_right (by decide) (by decide))) (q_div) fun x H' s2 r => k x H' (s1.trans s2) r
abbrev sAdd : Stmt := inClass (top 14) 8
theorem scAdd : FnScope ["self", "other", "top", "bottom"] ["self", "other"] (defScope sAdd) := ⟨rfl, rfl, rfl, by decide +kernel, rfl, by decide +kernel, by decide +kernel⟩
theorem ok_add {f p1 f1 f2 f3 : Addr} {fd fd1 fd2 fd3 : FuncData} (F : Fun K "__add__" "Ratio.__add__" sAdd f fd) (T_Ratio : RatT K mg C) (S_Ratio_is_number : Sta P w K mg base 2 C "is_number" p1 f1 fd1 ["value"] (spIsNum K C)) (C_parts_of : Cal P w K mg base 1 "parts_of" f2 fd2 ["number"] (spParts C)) (M_Ratio : Mak P w K mg base 2 "Ratio" C f3 fd3 ["self", "top", "bottom"] (spRInit C)) :
    FnOk P w K mg base CX0 4 f fd ["self", "other"] (spBin C GT fun p q => p + q) := by
  refine F.ok scAdd (fun vs H Q E h => ?_) (fun cdv A outer s H vs Q E hr h => ?_)
  · obtain ⟨a, u, p, q, rfl, _⟩ := h
    rfl
  · obtain ⟨a, u, p, q, rfl, hp, hq, ⟨zp, zq⟩, hG, k⟩ := h
    have nd := scAdd.nd
    refine ⟨_, pss_cons (ps_if (pt_not (pt_val (Own.pe_smeth T_Ratio.rd S_Ratio_is_number.s S_Ratio_is_number.F (hr.mono (by decide)) S_Ratio_is_number.b pass0 (Own.pe_gref (by rfl) T_Ratio.mgC) (pa_cons (pv 1) pa_nil)))) pss_never pss_nil)
      (pss_cons (ps_asg (pe_call C_parts_of.F (hr.mono (by decide)) (by rfl) C_parts_of.mgf C_parts_of.kp C_parts_of.b .nil pass0 (pa_cons (pv 1) pa_nil)) (pg_tup (by rfl) (pgs_cons (pg_name (i := 2) nd rfl (Or.inl rfl)) (pgs_cons (pg_name (i := 3) nd rfl (Or.inl rfl)) pgs_nil))))
      (pss_one (ps_ret (pe_make M_Ratio.M M_Ratio.F (hr.mono (by decide)) (by rfl) M_Ratio.mgC M_Ratio.b .nil pass0 (pa_cons (pe_op op_add (pe_op op_mulW (pe_fld (pv 0) rfl) (pv 3)) (pe_op op_mulW (pv 2) (pe_fld (pv 0) rfl))) (pa_cons (pe_op op_mulW (pe_fld (pv 0) rfl) (pv 3)) pa_nil)))))), ?_⟩
    have hv := hq.at_
    obtain ⟨dx, h0⟩ := id hp
    obtain ⟨t, b, c, ty, hb, hc, hbc⟩ := hv.info T_Ratio.toClT
    refine ⟨rfl, _, rfl, _, t, b, c, rfl, ty, hb, hc, _, rfl, iteNot hbc ?_⟩
    refine ⟨_, rfl, _, _, _, rfl, hv, fun p1 hp1 => ⟨_, _, rfl, SqT.of upd_same, rfl, _, _, rfl, _, _, rfl, rfl, ?_⟩⟩
    have s1 : Same H (upd H p1 (.tup [.int q.num, .int (q.den : Int)])) := same_new hp1
    have h1 := s1 _ _ h0
    refine ⟨_, rfl, _, C, dx, _, _, rfl, h1, T_Ratio.cl, T_Ratio.nT, ratF_top _ _, _, rfl, _, _, rfl, rfl, ((z4 zp).1.mul (z4 zq).2), _, rfl, _, rfl, _, C, dx, _, _, rfl, h1, T_Ratio.cl, T_Ratio.nB, ratF_bot _ _, _, _, rfl, rfl, ((z4 zq).1.mul (z4 zp).2), _, _, rfl, rfl, _, rfl, _, C, dx, _, _, rfl, h1, T_Ratio.cl, T_Ratio.nB, ratF_bot _ _, _, rfl, _, _, rfl, rfl, ((z4 zp).2.mul (z4 zq).2), ?_⟩
    exact mkQ (dm_ne p q) (szd zp zq) (q_add p q) fun x H' s2 r => k x H' (s1.trans s2) r
abbrev sSub : Stmt := inClass (top 14) 10
theorem scSub : FnScope ["self", "other", "top", "bottom"] ["self", "other"] (defScope sSub) := ⟨rfl, rfl, rfl, by decide +kernel, rfl, by decide +kernel, by decide +kernel⟩
theorem ok_sub {f p1 f1 f2 f3 : Addr} {fd fd1 fd2 fd3 : FuncData} (F : Fun K "__sub__" "Ratio.__sub__" sSub f fd) (T_Ratio : RatT K mg C) (S_Ratio_is_number : Sta P w K mg base 2 C "is_number" p1 f1 fd1 ["value"] (spIsNum K C)) (C_parts_of : Cal P w K mg base 1 "parts_of" f2 fd2 ["number"] (spParts C)) (M_Ratio : Mak P w K mg base 2 "Ratio" C f3 fd3 ["self", "top", "bottom"] (spRInit C)) :
    FnOk P w K mg base CX0 4 f fd ["self", "other"] (spBin C GT fun p q => p - q) := by
  refine F.ok scSub (fun vs H Q E h => ?_) (fun cdv A outer s H vs Q E hr h => ?_)
  · obtain ⟨a, u, p, q, rfl, _⟩ := h
    rfl
  · obtain ⟨a, u, p, q, rfl, hp, hq, ⟨zp, zq⟩, hG, k⟩ := h
    have nd := scSub.nd
    refine ⟨_, pss_cons (ps_if (pt_not (pt_val (Own.pe_smeth T_Ratio.rd S_Ratio_is_number.s S_Ratio_is_number.F (hr.mono (by decide)) S_Ratio_is_number.b pass0 (Own.pe_gref (by rfl) T_Ratio.mgC) (pa_cons (pv 1) pa_nil)))) pss_never pss_nil)
      (pss_cons (ps_asg (pe_call C_parts_of.F (hr.mono (by decide)) (by rfl) C_parts_of.mgf C_parts_of.kp C_parts_of.b .nil pass0 (pa_cons (pv 1) pa_nil)) (pg_tup (by rfl) (pgs_cons (pg_name (i := 2) nd rfl (Or.inl rfl)) (pgs_cons (pg_name (i := 3) nd rfl (Or.inl rfl)) pgs_nil))))
      (pss_one (ps_ret (pe_make M_Ratio.M M_Ratio.F (hr.mono (by decide)) (by rfl) M_Ratio.mgC M_Ratio.b .nil pass0 (pa_cons (pe_op op_sub (pe_op op_mulW (pe_fld (pv 0) rfl) (pv 3)) (pe_op op_mulW (pv 2) (pe_fld (pv 0) rfl))) (pa_cons (pe_op op_mulW (pe_fld (pv 0) rfl) (pv 3)) pa_nil)))))), ?_⟩
    have hv := hq.at_
    obtain ⟨dx, h0⟩ := id hp
    obtain ⟨t, b, c, ty, hb, hc, hbc⟩ := hv.info T_Ratio.toClT
    refine ⟨rfl, _, rfl, _, t, b, c, rfl, ty, hb, hc, _, rfl, iteNot hbc ?_⟩
    refine ⟨_, rfl, _, _, _, rfl, hv, fun p1 hp1 => ⟨_, _, rfl, SqT.of upd_same, rfl, _, _, rfl, _, _, rfl, rfl, ?_⟩⟩
    have s1 : Same H (upd H p1 (.tup [.int q.num, .int (q.den : Int)])) := same_new hp1
    have h1 := s1 _ _ h0
    refine ⟨_, rfl, _, C, dx, _, _, rfl, h1, T_Ratio.cl, T_Ratio.nT, ratF_top _ _, _, rfl, _, _, rfl, rfl, ((z4 zp).1.mul (z4 zq).2), _, rfl, _, rfl, _, C, dx, _, _, rfl, h1, T_Ratio.cl, T_Ratio.nB, ratF_bot _ _, _, _, rfl, rfl, ((z4 zq).1.mul (z4 zp).2), _, _, rfl, rfl, _, rfl, _, C, dx, _, _, rfl, h1, T_Ratio.cl, T_Ratio.nB, ratF_bot _ _, _, rfl, _, _, rfl, rfl, ((z4 zp).2.mul (z4 zq).2), ?_⟩
    exact mkQ (dm_ne p q) (szd zp zq) (q_sub p q) fun x H' s2 r => k x H' (s1.trans s2) r
abbrev sMul : Stmt := inClass (top 14) 12
theorem scMul : FnScope ["self", "other", "top", "bottom"] ["self", "other"] (defScope sMul) := ⟨rfl, rfl, rfl, by decide +kernel, rfl, by decide +kernel, by decide +kernel⟩
theorem ok_mul {f p1 f1 f2 f3 : Addr} {fd fd1 fd2 fd3 : FuncData} (F : Fun K "__mul__" "Ratio.__mul__" sMul f fd) (T_Ratio : RatT K mg C) (S_Ratio_is_number : Sta P w K mg base 2 C "is_number" p1 f1 fd1 ["value"] (spIsNum K C)) (C_parts_of : Cal P w K mg base 1 "parts_of" f2 fd2 ["number"] (spParts C)) (M_Ratio : Mak P w K mg base 2 "Ratio" C f3 fd3 ["self", "top", "bottom"] (spRInit C)) :
    FnOk P w K mg base CX0 4 f fd ["self", "other"] (spBin C GT fun p q => p * q) := by
  refine F.ok scMul (fun vs H Q E h => ?_) (fun cdv A outer s H vs Q E hr h => ?_)
  · obtain ⟨a, u, p, q, rfl, _⟩ := h
    rfl
  · obtain ⟨a, u, p, q, rfl, hp, hq, ⟨zp, zq⟩, hG, k⟩ := h
    have nd := scMul.nd
    refine ⟨_, pss_cons (ps_if (pt_not (pt_val (Own.pe_smeth T_Ratio.rd S_Ratio_is_number.s S_Ratio_is_number.F (hr.mono (by decide)) S_Ratio_is_number.b pass0 (Own.pe_gref (by rfl) T_Ratio.mgC) (pa_cons (pv 1) pa_nil)))) pss_never pss_nil)
      (pss_cons (ps_asg (pe_call C_parts_of.F (hr.mono (by decide)) (by rfl) C_parts_of.mgf C_parts_of.kp C_parts_of.b .nil pass0 (pa_cons (pv 1) pa_nil)) (pg_tup (by rfl) (pgs_cons (pg_name (i := 2) nd rfl (Or.inl rfl)) (pgs_cons (pg_name (i := 3) nd rfl (Or.inl rfl)) pgs_nil))))
      (pss_one (ps_ret (pe_make M_Ratio.M M_Ratio.F (hr.mono (by decide)) (by rfl) M_Ratio.mgC M_Ratio.b .nil pass0 (pa_cons (pe_op op_mulW (pe_fld (pv 0) rfl) (pv 2)) (pa_cons (pe_op op_mulW (pe_fld (pv 0) rfl) (pv 3)) pa_nil)))))), ?_⟩
    have hv := hq.at_
    obtain ⟨dx, h0⟩ := id hp
    obtain ⟨t, b, c, ty, hb, hc, hbc⟩ := hv.info T_Ratio.toClT
    refine ⟨rfl, _, rfl, _, t, b, c, rfl, ty, hb, hc, _, rfl, iteNot hbc ?_⟩
    refine ⟨_, rfl, _, _, _, rfl, hv, fun p1 hp1 => ⟨_, _, rfl, SqT.of upd_same, rfl, _, _, rfl, _, _, rfl, rfl, ?_⟩⟩
    have s1 : Same H (upd H p1 (.tup [.int q.num, .int (q.den : Int)])) := same_new hp1
    have h1 := s1 _ _ h0
    refine ⟨_, rfl, _, C, dx, _, _, rfl, h1, T_Ratio.cl, T_Ratio.nT, ratF_top _ _, _, rfl, _, _, rfl, rfl, ((z4 zp).1.mul (z4 zq).1), _, rfl, _, C, dx, _, _, rfl, h1, T_Ratio.cl, T_Ratio.nB, ratF_bot _ _, _, rfl, _, _, rfl, rfl, ((z4 zp).2.mul (z4 zq).2), ?_⟩
    exact mkQ (dm_ne p q) (szd zp zq) (q_mul p q) fun x H' s2 r => k x H' (s1.trans s2) r
end
end Toy
set_option maxRecDepth 100000
set_option maxHeartbeats 4000000
set_option exponentiation.threshold 3000
namespace Toy
open PySem L2
open Rat (divInt)
theorem q_abs (p : Rat) : divInt (if p.num < 0 then -p.num else p.num) p.den = p.abs := by
  by_cases h : p.num < 0
  · rw [if_pos h, q_neg, Rat.abs, if_neg]
    intro z
    have := Rat.num_nonneg.mpr z
    omega
  · rw [if_neg h, Rat.num_divInt_den, Rat.abs, if_pos (Rat.num_nonneg.mp (by omega))]
theorem eqvT (n m x y : Int) : PyData.eqv (.tuple [.int n, .int m]) (.tuple [.int x, .int y]) = (decide (n = x) && decide (m = y)) := by
  show (n == x && (m == y && true)) = _
  rw [Bool.and_true]
  rfl
section
variable {P : Program} {w : World} {K : PySem.W.Frag} {mg : Str → Option Value} {base : Heap} {C : Addr}
/-- facts for an operator of Ratio with a Ratio at the left -/
structure BinF (K : PySem.W.Frag) (C : Addr) (op : Operator) : Prop where
  hc : PySem.W.selfFirst K C = true
  hR : ∃ rc, PySem.W.findIn K (.ref C) (dunderR op.info.2) = some rc ∧ (rc = none ∨ ∃ g : Addr, rc = some (.ref g))
  h1 : ∃ fo, PySem.W.findIn K (.type "int") (PySem.dunder op.info.2) = some fo
  h2 : ∃ ro, PySem.W.findIn K (.type "int") (dunderR op.info.2) = some ro
  hs : PySem.W.subIn K (.type "int") (.ref C) = some false
theorem op_B {X : Cx} {CX : CXT} {k : Nat} {f : Addr} {fd : FuncData} {ps : List Str} {sp : Sp} {E : XK} {op : Operator} (B : BinF X.K C op) (F : FnOk X.prog X.w X.K X.mg X.base CX k f fd ps sp) (hr : Room k X.A)
    (hs : PySem.W.findIn X.K (.ref C) (PySem.dunder op.info.2) = some (some (.ref f))) (hf : PySem.W.isFn X.K (.ref f) = true) (hb : Binds X.K fd ps []) (hx : Passes CX X E) : OpR X (binaryOp op) (Own.rOwnB C sp E) := by
  obtain ⟨rc, hR, hp⟩ := B.hR
  obtain ⟨fo, h1⟩ := B.h1
  obtain ⟨ro, h2⟩ := B.h2
  exact Own.op_ownB F hr hs hf B.hc hR hp h1 h2 B.hs hb hx
abbrev sNeg : Stmt := inClass (top 14) 18
theorem scNeg : FnScope ["self"] ["self"] (defScope sNeg) := ⟨rfl, rfl, rfl, by decide +kernel, rfl, by decide +kernel, by decide +kernel⟩
theorem ok_neg {f f3 : Addr} {fd fd3 : FuncData} (F : Fun K "__neg__" "Ratio.__neg__" sNeg f fd) (T_Ratio : RatT K mg C) (M_Ratio : Mak P w K mg base 2 "Ratio" C f3 fd3 ["self", "top", "bottom"] (spRInit C)) :
    FnOk P w K mg base CX0 4 f fd ["self"] (spUn C fun p => -p) := by
  refine F.ok scNeg (fun vs H Q E h => ?_) (fun cdv A outer s H vs Q E hr h => ?_)
  · obtain ⟨a, p, rfl, _⟩ := h
    rfl
  · obtain ⟨a, p, rfl, hp, zp, k⟩ := h
    have nd := scNeg.nd
    refine ⟨_, pss_one (ps_ret (pe_make M_Ratio.M M_Ratio.F (hr.mono (by decide)) (by rfl) M_Ratio.mgC M_Ratio.b .nil pass0 (pa_cons (pe_un un_neg (pe_fld (pv 0) rfl)) (pa_cons (pe_fld (pv 0) rfl) pa_nil)))), ?_⟩
    obtain ⟨dx, h1⟩ := id hp
    refine ⟨_, rfl, _, C, dx, _, _, rfl, h1, T_Ratio.cl, T_Ratio.nT, ratF_top _ _, _, rfl, _, rfl, _, C, dx, _, _, rfl, h1, T_Ratio.cl, T_Ratio.nB, ratF_bot _ _, ?_⟩
    exact mkQ (den_ne p) (z4 zp).2 (q_neg p) k
abbrev sAbs : Stmt := inClass (top 14) 19
theorem scAbs : FnScope ["self"] ["self"] (defScope sAbs) := ⟨rfl, rfl, rfl, by decide +kernel, rfl, by decide +kernel, by decide +kernel⟩
theorem ok_abs {f f3 : Addr} {fd fd3 : FuncData} (F : Fun K "__abs__" "Ratio.__abs__" sAbs f fd) (T : Bl mg) (T_Ratio : RatT K mg C) (M_Ratio : Mak P w K mg base 2 "Ratio" C f3 fd3 ["self", "top", "bottom"] (spRInit C)) :
    FnOk P w K mg base CX0 4 f fd ["self"] (spUn C Rat.abs) := by
  refine F.ok scAbs (fun vs H Q E h => ?_) (fun cdv A outer s H vs Q E hr h => ?_)
  · obtain ⟨a, p, rfl, _⟩ := h
    rfl
  · obtain ⟨a, p, rfl, hp, zp, k⟩ := h
    have nd := scAbs.nd
    refine ⟨_, pss_one (ps_ret (pe_make M_Ratio.M M_Ratio.F (hr.mono (by decide)) (by rfl) M_Ratio.mgC M_Ratio.b .nil pass0 (pa_cons (pe_callB call_abs (by rfl) T.abs (by decide +kernel) (pa_cons (pe_fld (pv 0) rfl) pa_nil)) (pa_cons (pe_fld (pv 0) rfl) pa_nil)))), ?_⟩
    obtain ⟨dx, h1⟩ := id hp
    refine ⟨_, rfl, _, C, dx, _, _, rfl, h1, T_Ratio.cl, T_Ratio.nT, ratF_top _ _, _, rfl, _, rfl, _, C, dx, _, _, rfl, h1, T_Ratio.cl, T_Ratio.nB, ratF_bot _ _, ?_⟩
    exact mkQ (den_ne p) (z4 zp).2 (q_abs p) k
/-- == with a number -/
def spEqQ (C : Addr) : Sp := fun vs H Q _ => ∃ a u p q, vs = [.ref a, u] ∧ RatQ C H a p ∧ NumQ C H u q ∧ ∀ H', Same H H' → Q (.bl (decide (p = q))) H'
abbrev sEq : Stmt := inClass (top 14) 21
theorem scEq : FnScope ["self", "other"] ["self", "other"] (defScope sEq) := ⟨rfl, rfl, rfl, by decide +kernel, rfl, by decide +kernel, by decide +kernel⟩
theorem ok_eq {f p1 f1 f2 : Addr} {fd fd1 fd2 : FuncData} (F : Fun K "__eq__" "Ratio.__eq__" sEq f fd) (T_Ratio : RatT K mg C) (S_Ratio_is_number : Sta P w K mg base 2 C "is_number" p1 f1 fd1 ["value"] (spIsNum K C)) (C_parts_of : Cal P w K mg base 1 "parts_of" f2 fd2 ["number"] (spParts C)) :
    FnOk P w K mg base CX0 3 f fd ["self", "other"] (spEqQ C) := by
  refine F.ok scEq (fun vs H Q E h => ?_) (fun cdv A outer s H vs Q E hr h => ?_)
  · obtain ⟨a, u, p, q, rfl, _⟩ := h
    rfl
  · obtain ⟨a, u, p, q, rfl, hp, hq, k⟩ := h
    have nd := scEq.nd
    refine ⟨_, pss_cons (ps_if (pt_not (pt_val (Own.pe_smeth T_Ratio.rd S_Ratio_is_number.s S_Ratio_is_number.F (hr.mono (by decide)) S_Ratio_is_number.b pass0 (Own.pe_gref (by rfl) T_Ratio.mgC) (pa_cons (pv 1) pa_nil)))) (pss_one (ps_ret pe_bl)) pss_nil)
      (pss_one (ps_ret (pe_cmpR (op_eqD hr.units) (pe_call C_parts_of.F (hr.mono (by decide)) (by rfl) C_parts_of.mgf C_parts_of.kp C_parts_of.b .nil pass0 (pa_cons (pv 0) pa_nil)) (pe_call C_parts_of.F (hr.mono (by decide)) (by rfl) C_parts_of.mgf C_parts_of.kp C_parts_of.b .nil pass0 (pa_cons (pv 1) pa_nil)) (nomark _)))), ?_⟩
    obtain ⟨t, b, c, ty, hb, hc, hbc⟩ := hq.at_.info T_Ratio.toClT
    refine ⟨rfl, _, rfl, _, t, b, c, rfl, ty, hb, hc, _, rfl, iteNot hbc ?_⟩
    refine ⟨_, rfl, _, _, _, rfl, (NumQ.rat hp).at_, fun x1 hx1 => ?_⟩
    have s1 : Same H (upd H x1 (.tup [.int p.num, .int (p.den : Int)])) := same_new hx1
    refine ⟨_, rfl, _, _, _, rfl, (hq.same s1).at_, fun x2 hx2 => ?_⟩
    have s2 := same_new (o := .tup [.int q.num, .int (q.den : Int)]) hx2
    refine ⟨_, _, .tup (SqT.of (s2 _ _ upd_same)) (.cons (.int _) (.cons (.int _) .nil)), .tup (SqT.of upd_same) (.cons (.int _) (.cons (.int _) .nil)), rfl, rfl, ?_⟩
    rw [eqvT, q_eq]
    exact k _ (s1.trans s2)
/-- the whole quotient -/
def spQuo (C : Addr) : Sp := fun vs H Q _ => ∃ v u p q, vs = [v, u] ∧ NumQ C H v p ∧ NumQ C H u q ∧ (Sq 3900 p ∧ Sq 3900 q) ∧ q ≠ 0 ∧ ∀ H', Same H H' → Q (.int (p / q).floor) H'
abbrev sQuo : Stmt := top 18
theorem scQuo : FnScope ["one", "other", "top", "bottom", "other_top", "other_bottom"] ["one", "other"] (defScope sQuo) := ⟨rfl, rfl, rfl, by decide +kernel, rfl, by decide +kernel, by decide +kernel⟩
theorem ok_quo {f f2 : Addr} {fd fd2 : FuncData} (F : Fun K "_quotient" "_quotient" sQuo f fd) (C_parts_of : Cal P w K mg base 1 "parts_of" f2 fd2 ["number"] (spParts C)) :
    FnOk P w K mg base CX0 2 f fd ["one", "other"] (spQuo C) := by
  refine F.ok scQuo (fun vs H Q E h => ?_) (fun cdv A outer s H vs Q E hr h => ?_)
  · obtain ⟨v, u, p, q, rfl, _⟩ := h
    rfl
  · obtain ⟨v, u, p, q, rfl, hp, hq, ⟨zp, zq⟩, h0, k⟩ := h
    have nd := scQuo.nd
    refine ⟨_, pss_cons (ps_asg (pe_call C_parts_of.F (hr.mono (by decide)) (by rfl) C_parts_of.mgf C_parts_of.kp C_parts_of.b .nil pass0 (pa_cons (pv 0) pa_nil)) (pg_tup (by rfl) (pgs_cons (pg_name (i := 2) nd rfl (Or.inl rfl)) (pgs_cons (pg_name (i := 3) nd rfl (Or.inl rfl)) pgs_nil))))
      (pss_cons (ps_asg (pe_call C_parts_of.F (hr.mono (by decide)) (by rfl) C_parts_of.mgf C_parts_of.kp C_parts_of.b .nil pass0 (pa_cons (pv 1) pa_nil)) (pg_tup (by rfl) (pgs_cons (pg_name (i := 4) nd rfl (Or.inl rfl)) (pgs_cons (pg_name (i := 5) nd rfl (Or.inl rfl)) pgs_nil))))
      (pss_cons (ps_if (pt_cmpR op_eq (pv 4) pe_int (nomark _)) pss_never pss_nil)
      (pss_one (ps_ret (pe_op op_fdivZ (pe_op op_mulW (pv 2) (pv 5)) (pe_op op_mulW (pv 3) (pv 4))))))), ?_⟩
    refine ⟨_, rfl, _, _, _, rfl, hp.at_, fun x1 hx1 => ⟨_, _, rfl, SqT.of upd_same, rfl, _, _, rfl, _, _, rfl, rfl, ?_⟩⟩
    have s1 : Same H (upd H x1 (.tup [.int p.num, .int (p.den : Int)])) := same_new hx1
    refine ⟨_, rfl, _, _, _, rfl, (hq.same s1).at_, fun x2 hx2 => ⟨_, _, rfl, SqT.of upd_same, rfl, _, _, rfl, _, _, rfl, rfl, ?_⟩⟩
    have s2 := same_new (o := .tup [.int q.num, .int (q.den : Int)]) hx2
    refine ⟨_, rfl, rfl, _, rfl, ?_⟩
    refine ite2 (fun e => absurd e (vint_ne (num_ne h0))) (fun _ => ?_)
    have hd : (p.den : Int) * q.num ≠ 0 := dn_ne p h0
    have zd : Sz ((p.den : Int) * q.num) := Nat.lt_of_lt_of_le (mul_lt zp.dd zq.1) (Nat.pow_le_pow_right (by decide) (by decide))
    refine ⟨_, rfl, _, rfl, _, _, rfl, rfl, (z4 zp).1.mul (z4 zq).2, _, rfl, _, rfl, _, _, rfl, rfl, (z4 zp).2.mul (z4 zq).1, _, _, rfl, rfl, zd.div hd, ?_⟩
    show Q (.int ((p.num * (q.den : Int)).fdiv ((p.den : Int) * q.num))) _
    rw [q_fdiv hd, q_div]
    exact k _ (s1.trans s2)
abbrev sRAdd : Stmt := inClass (top 14) 9
theorem scRAdd : FnScope ["self", "other"] ["self", "other"] (defScope sRAdd) := ⟨rfl, rfl, rfl, by decide +kernel, rfl, by decide +kernel, by decide +kernel⟩
theorem ok_radd {f g : Addr} {fd gd : FuncData} (F : Fun K "__radd__" "Ratio.__radd__" sRAdd f fd) (B : BinF K C .Add) (O : Opr P w K mg base 4 C "__add__" g gd ["self", "other"] (spBin C GT fun p q => p + q)) :
    FnOk P w K mg base CX0 5 f fd ["self", "other"] (spBin C GT fun p q => p + q) := by
  refine F.ok scRAdd (fun vs H Q E h => ?_) (fun cdv A outer s H vs Q E hr h => ?_)
  · obtain ⟨a, u, p, q, rfl, _⟩ := h
    rfl
  · obtain ⟨a, u, p, q, rfl, hp, hq, z, g, k⟩ := h
    have nd := scRAdd.nd
    refine ⟨_, pss_one (ps_ret (pe_op (op_B B O.F (hr.mono (by decide)) O.at_ O.fn O.b pass0) (pv 0) (pv 1))), ?_⟩
    obtain ⟨dx, fs, h1⟩ := hp.ins
    exact ⟨_, rfl, _, rfl, a, dx, fs, rfl, h1, hq.ri, a, u, p, q, rfl, hp, hq, z, g, k⟩
abbrev sRMul : Stmt := inClass (top 14) 13
theorem scRMul : FnScope ["self", "other"] ["self", "other"] (defScope sRMul) := ⟨rfl, rfl, rfl, by decide +kernel, rfl, by decide +kernel, by decide +kernel⟩
theorem ok_rmul {f g : Addr} {fd gd : FuncData} (F : Fun K "__rmul__" "Ratio.__rmul__" sRMul f fd) (B : BinF K C .Mult) (O : Opr P w K mg base 4 C "__mul__" g gd ["self", "other"] (spBin C GT fun p q => p * q)) :
    FnOk P w K mg base CX0 5 f fd ["self", "other"] (spBin C GT fun p q => p * q) := by
  refine F.ok scRMul (fun vs H Q E h => ?_) (fun cdv A outer s H vs Q E hr h => ?_)
  · obtain ⟨a, u, p, q, rfl, _⟩ := h
    rfl
  · obtain ⟨a, u, p, q, rfl, hp, hq, z, g, k⟩ := h
    have nd := scRMul.nd
    refine ⟨_, pss_one (ps_ret (pe_op (op_B B O.F (hr.mono (by decide)) O.at_ O.fn O.b pass0) (pv 0) (pv 1))), ?_⟩
    obtain ⟨dx, fs, h1⟩ := hp.ins
    exact ⟨_, rfl, _, rfl, a, dx, fs, rfl, h1, hq.ri, a, u, p, q, rfl, hp, hq, z, g, k⟩
abbrev sFDiv : Stmt := inClass (top 14) 14
theorem scFDiv : FnScope ["self", "other"] ["self", "other"] (defScope sFDiv) := ⟨rfl, rfl, rfl, by decide +kernel, rfl, by decide +kernel, by decide +kernel⟩
theorem ok_fdiv {f p1 f1 f2 : Addr} {fd fd1 fd2 : FuncData} (F : Fun K "__floordiv__" "Ratio.__floordiv__" sFDiv f fd) (T_Ratio : RatT K mg C) (S_Ratio_is_number : Sta P w K mg base 2 C "is_number" p1 f1 fd1 ["value"] (spIsNum K C)) (C__quotient : Cal P w K mg base 2 "_quotient" f2 fd2 ["one", "other"] (spQuo C)) :
    FnOk P w K mg base CX0 3 f fd ["self", "other"] (spQuo C) := by
  refine F.ok scFDiv (fun vs H Q E h => ?_) (fun cdv A outer s H vs Q E hr h => ?_)
  · obtain ⟨v, u, p, q, rfl, _⟩ := h
    rfl
  · obtain ⟨v, u, p, q, rfl, hp, hq, z, h0, k⟩ := h
    have nd := scFDiv.nd
    refine ⟨_, pss_cons (ps_if (pt_not (pt_val (Own.pe_smeth T_Ratio.rd S_Ratio_is_number.s S_Ratio_is_number.F (hr.mono (by decide)) S_Ratio_is_number.b pass0 (Own.pe_gref (by rfl) T_Ratio.mgC) (pa_cons (pv 1) pa_nil)))) pss_never pss_nil)
      (pss_one (ps_ret (pe_call C__quotient.F (hr.mono (by decide)) (by rfl) C__quotient.mgf C__quotient.kp C__quotient.b .nil pass0 (pa_cons (pv 0) (pa_cons (pv 1) pa_nil))))), ?_⟩
    obtain ⟨t, b, c, ty, hb, hc, hbc⟩ := hq.at_.info T_Ratio.toClT
    refine ⟨rfl, _, rfl, _, t, b, c, rfl, ty, hb, hc, _, rfl, iteNot hbc ?_⟩
    exact ⟨_, rfl, _, rfl, v, u, p, q, rfl, hp, hq, z, h0, k⟩
/-- a number as a Ratio -/
def spOfQ (C : Addr) : Sp := fun vs H Q _ => ∃ v q, vs = [v] ∧ NumQ C H v q ∧ ∀ r H', RatQ C H' r q → Same H H' → Q (.ref r) H'
theorem gcdI_one (i : Int) : gcdI i 1 = 1 := by
  unfold gcdI
  show ((Nat.gcd i.natAbs 1 : Nat) : Int) = 1
  rw [Nat.gcd_one_right]
  rfl
theorem Sz1 : Sz 1 := by unfold Sz; decide +kernel
theorem q_int (i : Int) : divInt i 1 = (i : Rat) := by
  rw [Rat.divInt_eq_div]
  have h : ((1 : Int) : Rat) = 1 := rfl
  grind
abbrev sOf : Stmt := inClass (top 14) 3
theorem scOf : FnScope ["number"] ["number"] (defScope sOf) := ⟨rfl, rfl, rfl, by decide +kernel, rfl, by decide +kernel, by decide +kernel⟩
theorem ok_of {f f1 f2 : Addr} {fd fd1 fd2 : FuncData} {dvs : List Value} (F : Fun K "of" "Ratio.of" sOf f fd) (T : Bl mg) (T_Ratio : RatT K mg C) (C_is_int : Cal P w K mg base 1 "is_int" f1 fd1 ["value"] (spIsInt K))
    (M_Ratio : Mak P w K mg base 2 "Ratio" C f2 fd2 ["self", "top", "bottom"] (spRInit C)) (hd : Vals [V.int 1] dvs) (hb1 : Binds K fd2 ["self", "top", "bottom"] dvs) : FnOk P w K mg base CX0 4 f fd ["number"] (spOfQ C) := by
  refine F.ok scOf (fun vs H Q E h => ?_) (fun cdv A outer s H vs Q E hr h => ?_)
  · obtain ⟨v, q, rfl, _⟩ := h
    rfl
  · obtain ⟨v, q, rfl, hv, k⟩ := h
    have nd := scOf.nd
    refine ⟨_, pss_cons (ps_if (pt_val (pe_callB call_isi (by rfl) T.isinstance (by decide +kernel) (pa_cons (pv 0) (pa_cons (Own.pe_gref (by rfl) T_Ratio.mgC) pa_nil)))) (pss_one (ps_ret (pv 0))) pss_nil)
      (pss_cons (ps_if (pt_not (pt_val (pe_call C_is_int.F (hr.mono (by decide)) (by rfl) C_is_int.mgf C_is_int.kp C_is_int.b .nil pass0 (pa_cons (pv 0) pa_nil)))) pss_never pss_nil)
      (pss_one (ps_ret (pe_make M_Ratio.M M_Ratio.F (hr.mono (by decide)) (by rfl) M_Ratio.mgC hb1 hd pass0 (pa_cons (pv 0) pa_nil))))), ?_⟩
    rcases hv.cases with ⟨i, rfl, rfl⟩ | ⟨a, rfl, hR⟩
    · refine ⟨_, rfl, _, _, _, _, false, rfl, .own _, .base (.int _), T_Ratio.iK, _, rfl, iteF ?_⟩
      refine ⟨_, rfl, _, _, true, rfl, .base (.int _), isIntK_int, _, rfl, iteF ?_⟩
      exact ⟨_, rfl, mkQ (by decide) Sz1 (q_int i) fun x H' s1 hR => k x H' hR s1⟩
    · obtain ⟨dx, h⟩ := id hR
      refine ⟨_, rfl, _, _, _, _, true, rfl, .own _, T_Ratio.ty h, T_Ratio.kS, _, rfl, iteT ?_⟩
      exact ⟨_, rfl, k a H hR (Same.refl H)⟩
/-- the rest -/
def qmod (p q : Rat) : Rat := p - ((p / q).floor : Rat) * q
def spMod (C : Addr) : Sp := spBin C (fun p q => q ≠ 0 ∧ Sq 1000 p ∧ Sq 1000 q) qmod
/-- int at the left, the reflected operator -/
theorem op_R {X : Cx} {CX : CXT} {k : Nat} {f f0 : Addr} {fd : FuncData} {ps : List Str} {sp : Sp} {E : XK} {op : Operator} {id : String} {Bi : Builtin} (B : BinF X.K C op) (F : FnOk X.prog X.w X.K X.mg X.base CX k f fd ps sp) (hr : Room k X.A)
    (hs : PySem.W.findIn X.K (.ref C) (dunderR op.info.2) = some (some (.ref f))) (hf : PySem.W.isFn X.K (.ref f) = true) (hs0 : PySem.W.findIn X.K (.ref C) (PySem.dunder op.info.2) = some (some (.ref f0))) (hsub : PySem.W.subIn X.K (.ref C) (.type "int") = some false)
    (hb : Binds X.K fd ps []) (hx : Passes CX X E) (fills : fillsNumberSlot (.type "int") op.info.2 = pure true) (slot : Slot "int" (PySem.dunder op.info.2) id) (entry : entryFor table id = some Bi) (args : ∀ a b, argsOk id ⟨[a, b], []⟩)
    (dec : ∀ (b : Int) (u : Tok) (l : Addr) (C dx : Addr), Meets (Bi ⟨[.int b u, .ref l], []⟩) (fun _ R s => s.heap.get? l = some (PySem.W.instObj C dx) ∧ R (.ok (.ret .notImplemented)) s)) : OpR X (binaryOp op) (Own.rReflB C sp E) :=
  Own.op_reflB F hr hs hf hs0 B.hc hsub hb hx fills slot entry args dec
theorem floor_sz {p q : Rat} (zp : Sq 1000 p) (zq : Sq 1000 q) (h : q ≠ 0) : (p / q).floor.natAbs < 2 ^ 2001 := by
  have h1 := (zp.div zq h).1
  rw [Rat.floor_def]
  have h2 := Int.natAbs_ediv_le_natAbs (p / q).num ((p / q).den : Int)
  exact Nat.lt_of_le_of_lt h2 (Nat.lt_of_lt_of_le h1 (Nat.pow_le_pow_right (by decide) (by decide)))
abbrev sMod : Stmt := inClass (top 14) 16
theorem scMod : FnScope ["self", "other"] ["self", "other"] (defScope sMod) := ⟨rfl, rfl, rfl, by decide +kernel, rfl, by decide +kernel, by decide +kernel⟩
theorem ok_mod {f p1 f1 f2 f3 p3 f4 f5 f6 : Addr} {fd fd1 fd2 fd3 fd4 fd5 fd6 : FuncData} (F : Fun K "__mod__" "Ratio.__mod__" sMod f fd) (T_Ratio : RatT K mg C) (S_Ratio_is_number : Sta P w K mg base 2 C "is_number" p1 f1 fd1 ["value"] (spIsNum K C)) (C__quotient : Cal P w K mg base 2 "_quotient" f2 fd2 ["one", "other"] (spQuo C))
    (S_Ratio_of : Sta P w K mg base 4 C "of" p3 f3 fd3 ["number"] (spOfQ C)) (BM : BinF K C .Mult) (BS : BinF K C .Sub) (O_mul : Opr P w K mg base 4 C "__mul__" f4 fd4 ["self", "other"] (spBin C GT fun p q => p * q)) (O_rmul : Opr P w K mg base 5 C "__rmul__" f5 fd5 ["self", "other"] (spBin C GT fun p q => p * q))
    (O_sub : Opr P w K mg base 4 C "__sub__" f6 fd6 ["self", "other"] (spBin C GT fun p q => p - q)) :
    FnOk P w K mg base CX0 6 f fd ["self", "other"] (spMod C) := by
  refine F.ok scMod (fun vs H Q E h => ?_) (fun cdv A outer s H vs Q E hr h => ?_)
  · obtain ⟨v, u, p, q, rfl, _⟩ := h
    rfl
  · obtain ⟨v, u, p, q, rfl, hp, hq, z, ⟨h0, yp, yq⟩, k⟩ := h
    have nd := scMod.nd
    refine ⟨_, pss_cons (ps_if (pt_not (pt_val (Own.pe_smeth T_Ratio.rd S_Ratio_is_number.s S_Ratio_is_number.F (hr.mono (by decide)) S_Ratio_is_number.b pass0 (Own.pe_gref (by rfl) T_Ratio.mgC) (pa_cons (pv 1) pa_nil)))) pss_never pss_nil)
      (pss_one (ps_ret (pe_op (op_B BS O_sub.F (hr.mono (by decide)) O_sub.at_ O_sub.fn O_sub.b pass0) (pv 0) (pe_op (op_R BM O_rmul.F (hr.mono (by decide)) O_rmul.at_ O_rmul.fn O_mul.at_ T_Ratio.sI O_rmul.b pass0 PySem.F.fills_int_mul PySem.F.slot_int_mul PySem.F.entry_int_mul PySem.F.args_int_mul_2 Own.int_mul_dec) (pe_call C__quotient.F (hr.mono (by decide)) (by rfl) C__quotient.mgf C__quotient.kp C__quotient.b .nil pass0 (pa_cons (pv 0) (pa_cons (pv 1) pa_nil))) (Own.pe_smeth T_Ratio.rd S_Ratio_of.s S_Ratio_of.F (hr.mono (by decide)) S_Ratio_of.b pass0 (Own.pe_gref (by rfl) T_Ratio.mgC) (pa_cons (pv 1) pa_nil)))))), ?_⟩
    obtain ⟨t, b, c, ty, hb, hc, hbc⟩ := hq.at_.info T_Ratio.toClT
    refine ⟨rfl, _, rfl, _, t, b, c, rfl, ty, hb, hc, _, rfl, iteNot hbc ?_⟩
    refine ⟨_, rfl, _, rfl, _, rfl, _, _, p, q, rfl, .rat hp, hq, z, h0, fun H1 s1 => ?_⟩
    refine ⟨rfl, _, rfl, _, q, rfl, hq.same s1, fun r H2 hr2 s2 => ?_⟩
    obtain ⟨dx, fs, h1⟩ := hr2.ins
    have zf : Sq 2001 ((p / q).floor : Rat) := Sq.int (floor_sz yp yq h0) (by decide)
    refine ⟨_, r, dx, fs, rfl, rfl, h1, r, _, q, _, rfl, hr2, .int _, ⟨z.2, zf.mono (by decide)⟩, True.intro, fun x H3 s3 hx => ?_⟩
    have hp3 := hp.same (s1.trans (s2.trans s3))
    obtain ⟨dv, gs, hv1⟩ := hp3.ins
    obtain ⟨dx2, fs2, hx2⟩ := hx.ins
    refine ⟨v, dv, gs, rfl, hv1, .inr ⟨x, dx2, fs2, rfl, hx2⟩, v, _, p, _, rfl, hp3, .rat hx, ⟨z.1, (yq.mul zf).mono (by decide)⟩, True.intro, fun y H4 s4 hy => ?_⟩
    refine k y H4 (s1.trans (s2.trans (s3.trans s4))) ?_
    unfold qmod
    rw [Rat.mul_comm _ q]
    exact hy
end
end Toy
set_option maxRecDepth 100000
set_option maxHeartbeats 4000000
namespace Toy
open PySem PySem.Spec PyProof.Rows L2
open Rat (divInt)
/-! ### NoDivisor, raised and heard -/
/-- an own exception class without __init__ -/
structure ExT (K : PySem.W.Frag) (mg : Str → Option Value) (x : Str) (C : Addr) : Prop where
  mgC : mg x = some (.ref C)
  ex : PySem.W.excIn K C [.type "ValueError", .type "Exception", .type "BaseException", .type "object"] "ValueError.__new__" = true
  kp : PySem.W.keepIn K (.ref C) = true
  bs : PySem.W.subIn K (.ref C) (.type "BaseException") = some true
  ty : PySem.W.typeIn K (.ref C) = some (.type "type")
/-- X() -/
theorem pmk_own0 {X : Cx} {C : Addr} {x : Str} {p pos : Pos} (T : ExT X.K X.mg x C) (hg : Gl X x) (hdb : (x == ("__debug__" : Str)) = false := by decide) : PMk X (.Call (.Name x p) [] [] pos) (fun _ H Q => Q (.ref C) none H) := by
  intro pins s σ H Q I h
  refine wpAny_Call_Name_kw (ld_glob I hg T.mgC ?_ hdb)
  refine PySem.W.callWith_K0 I.kIn T.kp ?_
  obtain ⟨bm, N, nm, qn, bs, hdct, sn, sub, ab, col, dd, k0, k1, k2, k3, k5, mN, hC, hN, hni, tl⟩ := exc_obj I.kIn T.ex
  refine wpAny_call_exc_subT PySem.F.excBase_ValueError tl hC hN hni (fun h' e hm => ?_) (Nat.zero_le _)
  exact mk_of I hm (raises_own T.bs T.ty) h (I.hok.gone hm.new)
section
variable {P : Program} {w : World} {K : PySem.W.Frag} {mg : Str → Option Value} {base : Heap} {C CN : Addr}
/-- a Ratio with the bottom 0 is not made -/
def spRInit0 (CN : Addr) : Sp := fun vs H _ E => ∃ x t, vs = [.ref x, .int t, .int 0] ∧ E (.ref CN) none H
theorem ok_rinit0 {f f1 : Addr} {fd fd1 : FuncData} (F : FunD K "__init__" "Ratio.__init__" (defArgs sRInit) (defBody sRInit) (defScope sRInit) [.int 1] [] f fd) (T : Bl mg) (TN : ExT K mg "NoDivisor" CN) (C_is_int : Cal P w K mg base 1 "is_int" f1 fd1 ["value"] (spIsInt K)) :
    FnOk P w K mg base (L2.CX P w) 2 f fd ["self", "top", "bottom"] (spRInit0 CN) := by
  refine F.ok scRI (fun vs H Q E h => ?_) (fun cdv A outer s H vs Q E hr h => ?_)
  · obtain ⟨x, t, rfl, _⟩ := h
    rfl
  · obtain ⟨x, t, rfl, hE⟩ := h
    have nd := scRI.nd
    refine ⟨_, pss_cons (ps_if (pt_not (pt_val (pe_call C_is_int.F (hr.mono (by decide)) (by rfl) C_is_int.mgf C_is_int.kp C_is_int.b .nil pass0 (pa_cons (pv 1) pa_nil)))) pss_never pss_nil)
      (pss_cons (ps_if (pt_not (pt_val (pe_call C_is_int.F (hr.mono (by decide)) (by rfl) C_is_int.mgf C_is_int.kp C_is_int.b .nil pass0 (pa_cons (pv 2) pa_nil)))) pss_never pss_nil)
      (pss_cons (ps_if (pt_cmpR op_eq (pv 2) pe_int (nomark _)) (pss_one (ps_raise (by rfl) (takes_of rfl rfl rfl rfl) (pmk_own0 TN (by rfl)))) pss_nil)
      (pss_cons (ps_set (i := 3) nd rfl (Or.inl rfl) (pe_ifExp (pt_cmpR op_gt (pv 2) pe_int (nomark _)) (pe_callBfun cr_gcd (by rfl) T.gcd (pa_cons (pv 1) (pa_cons (pv 2) pa_nil))) (pe_un un_neg (pe_callBfun cr_gcd (by rfl) T.gcd (pa_cons (pv 1) (pa_cons (pv 2) pa_nil))))))
      (pss_cons (ps_fld (pv 0) (pe_op op_fdivZ (pv 1) (pv 3)) rfl)
      (pss_one (ps_fld (pv 0) (pe_op op_fdivZ (pv 2) (pv 3)) rfl)))))), ?_⟩
    refine ⟨_, rfl, _, _, true, rfl, .base (.int _), isIntK_int, _, rfl, iteF ?_⟩
    refine ⟨_, rfl, _, _, true, rfl, .base (.int _), isIntK_int, _, rfl, iteF ?_⟩
    refine ⟨_, rfl, rfl, _, rfl, ?_⟩
    exact ite2 (fun _ => hE) (fun e => absurd (decide_eq_true rfl) e)
/-- over by 0 -/
def spOver0 (C CN : Addr) : Sp := fun vs H _ E => ∃ a u p, vs = [.ref a, u] ∧ RatQ C H a p ∧ NumQ C H u 0 ∧ Sq 3900 p ∧ ∀ H', Same H H' → E (.ref CN) none H'
theorem ok_over0 {f f2 f3 : Addr} {fd fd2 fd3 : FuncData} (F : Fun K "over" "Ratio.over" sOver f fd) (T_Ratio : RatT K mg C) (C_parts_of : Cal P w K mg base 1 "parts_of" f2 fd2 ["number"] (spParts C))
    (Mk_ : Mk K C f3) (I0 : FnOk P w K mg base (L2.CX P w) 2 f3 fd3 ["self", "top", "bottom"] (spRInit0 CN)) (b3 : Binds K fd3 ["self", "top", "bottom"] []) :
    FnOk P w K mg base (L2.CX P w) 4 f fd ["self", "number"] (spOver0 C CN) := by
  refine F.okX scOver (fun vs H Q E h => ?_) (fun cdv A outer s H vs Q E hr h => ?_)
  · obtain ⟨a, u, p, rfl, _⟩ := h
    rfl
  · obtain ⟨a, u, p, rfl, hp, hq, zp, hE⟩ := h
    have nd := scOver.nd
    refine ⟨_, pss_cons (ps_asg (pe_call C_parts_of.F (hr.mono (by decide)) (by rfl) C_parts_of.mgf C_parts_of.kp C_parts_of.b .nil pass0 (pa_cons (pv 1) pa_nil)) (pg_tup (by rfl) (pgs_cons (pg_name (i := 2) nd rfl (Or.inl rfl)) (pgs_cons (pg_name (i := 3) nd rfl (Or.inl rfl)) pgs_nil))))
      (pss_one (ps_ret (pe_make Mk_ I0 (hr.mono (by decide)) (by rfl) T_Ratio.mgC b3 .nil (passes_call (takes_of rfl rfl rfl rfl) fun _ _ _ _ h => h) (pa_cons (pe_op op_mulW (pe_fld (pv 0) rfl) (pv 3)) (pa_cons (pe_op op_mulW (pe_fld (pv 0) rfl) (pv 2)) pa_nil))))), ?_⟩
    have hv := hq.at_
    obtain ⟨dx, h0⟩ := id hp
    refine ⟨_, rfl, _, _, _, rfl, hv, fun p1 hp1 => ⟨_, _, rfl, SqT.of upd_same, rfl, _, _, rfl, _, _, rfl, rfl, ?_⟩⟩
    have s1 : Same H (upd H p1 (.tup [.int (0 : Rat).num, .int ((0 : Rat).den : Int)])) := same_new hp1
    have h1 := s1 _ _ h0
    refine ⟨_, rfl, _, C, dx, _, _, rfl, h1, T_Ratio.cl, T_Ratio.nT, ratF_top _ _, _, rfl, _, _, rfl, rfl, (z4 zp).1.mul Sz1, _, rfl, _, C, dx, _, _, rfl, h1, T_Ratio.cl, T_Ratio.nB, ratF_bot _ _, _, rfl, _, _, rfl, rfl, (z4 zp).2.mul (by unfold Sz; decide +kernel), ?_⟩
    intro x dx2 hx hdx hne
    refine ⟨x, p.num * ((0 : Rat).den : Int), ?_, hE _ (s1.trans (same_two hdx hx hne))⟩
    show [V.ref x, V.int (p.num * ((0 : Rat).den : Int)), V.int ((p.den : Int) * (0 : Rat).num)] = _
    rw [show (p.den : Int) * (0 : Rat).num = 0 from Int.mul_zero _]
abbrev sHeard : Stmt := top 24
theorem scHd : FnScope ["_law_ask", "error"] ["_law_ask"] (defScope sHeard) := ⟨rfl, rfl, rfl, by decide +kernel, rfl, by decide +kernel, by decide +kernel⟩
/-- what is heard: the value in a list; NoDivisor told -/
def TTdiv (CN : Addr) : (XK → Hp → VK → Prop) → Hp → VK → Prop := fun tl H Q =>
  tl (fun cls _ H' => cls = .ref CN ∧ ∀ p, H' p = none → Q (.ref p) (upd H' p (.tup [.str "divisor", .non]))) H (fun v H' => ([v] : List V).length ≤ sizeLine ∧ ∀ p, H' p = none → Q (.ref p) (upd H' p (.lst [v])))
theorem never_suite {X : Cx} {b : List Stmt} : PSs X b (fun _ _ _ => False) := ⟨fun _ _ _ _ _ _ h => h.elim⟩
theorem heard_gives {X : Cx} {g CB CN CF : Addr} {cdg : Value} {q : Str} (hB : X.mg "BadRatio" = some (.ref CB)) (hN : X.mg "NoDivisor" = some (.ref CN)) (hF : X.mg "FifthError" = some (.ref CF)) (eB : PySem.W.exmOne X.K (.ref CN) (.ref CB) = some false) (eN : PySem.W.exmOne X.K (.ref CN) (.ref CN) = some true) :
    LamX.GivesTo X ["_law_ask", "error"] "_law_heard" (defScope sHeard) g cdg (defBody sHeard) "_law_ask" q (TTdiv CN) := by
  intro f c' s H Q tl act hc h
  have nd := scHd.nd
  refine ⟨_, pss_one (Own.ps_try_cl (X := (cxOf C8.CX0 X.prog X.w X.K X.mg X.base ["_law_ask", "error"] "_law_heard" (defScope sHeard) g cdg X.A X.stack s H C8.E0).nox)
      (tb := fun W D σ H => ∃ Ech : XK, (∀ cls d σ' H', Ech cls d H' → W cls d σ' H') ∧ σ[0]? = some (some (.ref f)) ∧ H c' = some (LamX.CodeO c' q) ∧ tl Ech H fun v H' => ([v] : List V).length ≤ sizeLine ∧ ∀ p, H' p = none → D.rt (.ref p) (upd H' p (.lst [v])))
      rfl rfl (fun W pn xe tk _ => ?_) (Own.cl_as (i := 1) rfl nd rfl rfl ⟨rfl, by decide, .inl hB⟩ (fun _ _ _ _ _ _ _ => never_suite)
        (Own.cl_on rfl ⟨rfl, by decide, .inl hN⟩ (fun a oe cls d pn _ _ => pss_one (ps_ret (pe_tup (pa_cons pe_str (pa_cons pe_non pa_nil)))))
          (Own.cl_on rfl ⟨rfl, by decide, .inl hF⟩ (fun _ _ _ _ _ _ _ => never_suite) (Own.cl_nil rfl rfl takes0))))), ?_⟩
  · refine ⟨fun pins s' σ H' D I h' => ?_⟩
    obtain ⟨Ech, hW, h1, h2, h3⟩ := h'
    exact (pss_one (ps_ret (pe_lst (pa_cons (act W pn xe Ech _ _ tk hW) pa_nil)))).run pins s' σ H' D I ⟨h1, h2, h3⟩
  · refine ⟨fun cls _ H' => cls = .ref CN ∧ ∀ p, H' p = none → Q (.ref p) (upd H' p (.tup [.str "divisor", .non])), fun cls d σ' H' z => ?_, rfl, hc, h⟩
    obtain ⟨e, k⟩ := z
    subst e
    exact ⟨false, eB, (fun z => nomatch z), fun _ => ⟨true, eN, fun _ a na => ⟨(by decide : 2 ≤ sizeLine), k⟩, (fun z => nomatch z)⟩⟩
end
end Toy
set_option maxRecDepth 100000
set_option maxHeartbeats 4000000
namespace Toy
open PySem PySem.Spec PyProof.Rows L2
/-! ### an error with one field: raised, and heard with it -/
structure ErT (K : PySem.W.Frag) (mg : Str → Option Value) (x fld : Str) (C fI : Addr) : Prop where
  o : OexC K C
  mgC : mg x = some (.ref C)
  ini : PySem.W.findIn K (.ref C) "__init__" = some (some (.ref fI))
  tyI : PySem.W.typeIn K (.ref fI) = some (.type "function")
  no : PySem.W.findIn K (.ref C) fld = some none
  xf : XfC K C
def spErI (C : Addr) (fld : Str) : Sp := fun vs H Q _ => ∃ a v, vs = [.ref a, v] ∧ H a = some (exo a C none) ∧ ∀ d, H d = none → d ≠ a → Q .non (upd (upd H d (exd d [(fld, v)])) a (exo a C (some d)))
theorem erI_go {H1 : Hp} {a C : Addr} {fld : Str} {v : V} {Q : XK} {E : XK} (ha : H1 a = none) (k : ∀ d H2, H1 d = none → Same H1 H2 → H2 d = some (.xd [(fld, v)]) → Q (.ref C) (some d) H2) :
    spErI C fld [.ref a, v] (upd H1 a (exo a C none)) (fun v H2 => v = .non ∧ ∃ (d : Addr) (fs : List (Str × V)), H2 a = some (exo a C (some d)) ∧ H2 d = some (exd d fs) ∧ H1 d = none ∧ Q (.ref C) (some d) (upd (del H2 a) d (.xd fs))) E := by
  refine ⟨a, v, rfl, upd_same, fun d hd hne => ?_⟩
  rw [upd_ne hne] at hd
  refine ⟨rfl, d, [(fld, v)], upd_same, by rw [upd_ne hne, upd_same], hd, k d _ hd (fun b o h => ?_) upd_same⟩
  have nd := ne_of_none h hd
  have na := ne_of_none h ha
  rw [upd_ne nd, del_ne na, upd_ne na, upd_ne nd, upd_ne na]
  exact h
section
variable {P : Program} {w : World} {K : PySem.W.Frag} {mg : Str → Option Value} {base : Heap} {C CN CB : Addr}
abbrev sBRI : Stmt := inClass (top 6) 0
theorem scBR : FnScope ["self", "part"] ["self", "part"] (defScope sBRI) := ⟨rfl, rfl, rfl, by decide +kernel, rfl, by decide +kernel, by decide +kernel⟩
theorem ok_bri {f : Addr} {fd : FuncData} (F : Fun K "__init__" "BadRatio.__init__" sBRI f fd) (TB : ErT K mg "BadRatio" "part" CB f) : FnOk P w K mg base CX0 1 f fd ["self", "part"] (spErI CB "part") := by
  refine F.ok scBR (fun vs H Q E h => ?_) (fun cdv A outer s H vs Q E hr h => ?_)
  · obtain ⟨a, v, rfl, _⟩ := h
    rfl
  · obtain ⟨a, v, rfl, ha, k⟩ := h
    refine ⟨_, (pss_one (ps_ost (pv 0) (pv 1))), ?_⟩
    exact ⟨_, rfl, _, rfl, a, CB, rfl, TB.o, TB.no, .inl ⟨ha, fun dx h n => k dx h n⟩⟩
/-- Ratio.of what is no number -/
def spOfBad (K : PySem.W.Frag) (C CB : Addr) : Sp := fun vs H _ E => ∃ v t, vs = [v] ∧ TyX K H v t ∧ isIntK K t false ∧ PySem.W.kitOne K t (.ref C) = some false ∧ ∀ d H', Same H H' → H' d = some (.xd [("part", .str "number")]) → E (.ref CB) (some d) H'
theorem ok_of_bad {f f1 f2 f3 : Addr} {fd fd1 fd2 fd3 : FuncData} {dvs : List Value} (F : Fun K "of" "Ratio.of" sOf f fd) (T : Bl mg) (T_Ratio : RatT K mg C) (C_is_int : Cal P w K mg base 1 "is_int" f1 fd1 ["value"] (spIsInt K)) (TB : ErT K mg "BadRatio" "part" CB f3) (FB : FnOk P w K mg base CX0 1 f3 fd3 ["self", "part"] (spErI CB "part")) (bB : Binds K fd3 ["self", "part"] [])
    (M_Ratio : Mak P w K mg base 2 "Ratio" C f2 fd2 ["self", "top", "bottom"] (spRInit C)) (hd : Vals [V.int 1] dvs) (hb1 : Binds K fd2 ["self", "top", "bottom"] dvs) : FnOk P w K mg base (L2.CX P w) 4 f fd ["number"] (spOfBad K C CB) := by
  refine F.okX scOf (fun vs H Q E h => ?_) (fun cdv A outer s H vs Q E hr h => ?_)
  · obtain ⟨v, t, rfl, _⟩ := h
    rfl
  · obtain ⟨v, t, rfl, ty, hi, hk, k⟩ := h
    have nd := scOf.nd
    refine ⟨_, pss_cons (ps_if (pt_val (pe_callB call_isi (by rfl) T.isinstance (by decide +kernel) (pa_cons (pv 0) (pa_cons (Own.pe_gref (by rfl) T_Ratio.mgC) pa_nil)))) (pss_one (ps_ret (pv 0))) pss_nil)
      (pss_cons (ps_if (pt_not (pt_val (pe_call C_is_int.F (hr.mono (by decide)) (by rfl) C_is_int.mgf C_is_int.kp C_is_int.b .nil pass0 (pa_cons (pv 0) pa_nil)))) (pss_one (ps_raise (by rfl) (takes_of rfl rfl rfl rfl) (pmk_oex TB.o TB.ini TB.tyI FB (hr.mono (by decide)) bB .nil pass0 (by rfl) TB.mgC (pa_cons pe_str pa_nil)))) pss_nil)
      (pss_one (ps_ret (pe_make M_Ratio.M M_Ratio.F (hr.mono (by decide)) (by rfl) M_Ratio.mgC hb1 hd pass0 (pa_cons (pv 0) pa_nil))))), ?_⟩
    refine ⟨_, rfl, _, _, t, _, false, rfl, .own _, ty, hk, _, rfl, iteF ?_⟩
    refine ⟨_, rfl, v, t, false, rfl, ty, hi, _, rfl, iteT ?_⟩
    exact ⟨by decide, fun a ha => erI_go ha fun d H2 _ s hd => k d H2 s hd⟩
/-- heard: the value in a list; NoDivisor and BadRatio told -/
def TTrat (CB CN : Addr) : (XK → Hp → VK → Prop) → Hp → VK → Prop := fun tl H Q =>
  tl (fun cls d H' => (cls = .ref CN ∧ ∀ p, H' p = none → Q (.ref p) (upd H' p (.tup [.str "divisor", .non]))) ∨ ∃ dd v, cls = .ref CB ∧ d = some dd ∧ H' dd = some (.xd [("part", v)]) ∧ ∀ p, H' p = none → Q (.ref p) (upd H' p (.tup [.str "ratio", v])))
    H (fun v H' => ([v] : List V).length ≤ sizeLine ∧ ∀ p, H' p = none → Q (.ref p) (upd H' p (.lst [v])))
theorem heard_rat {X : Cx} {g CF fB : Addr} {cdg : Value} {q : Str} (TB : ErT X.K X.mg "BadRatio" "part" CB fB) (hN : X.mg "NoDivisor" = some (.ref CN)) (hF : X.mg "FifthError" = some (.ref CF)) (eB : PySem.W.exmOne X.K (.ref CN) (.ref CB) = some false) (eN : PySem.W.exmOne X.K (.ref CN) (.ref CN) = some true) (eBB : PySem.W.exmOne X.K (.ref CB) (.ref CB) = some true) :
    LamX.GivesTo X ["_law_ask", "error"] "_law_heard" (defScope sHeard) g cdg (defBody sHeard) "_law_ask" q (TTrat CB CN) := by
  intro f c' s H Q tl act hc h
  have nd := scHd.nd
  refine ⟨_, pss_one (Own.ps_try_cl (X := (cxOf C8.CX0 X.prog X.w X.K X.mg X.base ["_law_ask", "error"] "_law_heard" (defScope sHeard) g cdg X.A X.stack s H C8.E0).nox)
      (tb := fun W D σ H => ∃ Ech : XK, (∀ cls d σ' H', Ech cls d H' → W cls d σ' H') ∧ σ[0]? = some (some (.ref f)) ∧ H c' = some (LamX.CodeO c' q) ∧ tl Ech H fun v H' => ([v] : List V).length ≤ sizeLine ∧ ∀ p, H' p = none → D.rt (.ref p) (upd H' p (.lst [v])))
      rfl rfl (fun W pn xe tk _ => ?_) (Own.cl_as (i := 1) rfl nd rfl rfl ⟨rfl, by decide, .inl TB.mgC⟩ (fun a oe cls d pn hz hf => pss_one (ps_ret (pe_tup (pa_cons pe_str (pa_cons (pe_xf (C := CB) TB.xf TB.no hz hf (pv 1)) pa_nil)))))
        (Own.cl_on rfl ⟨rfl, by decide, .inl hN⟩ (fun a oe cls d pn _ _ => pss_one (ps_ret (pe_tup (pa_cons pe_str (pa_cons pe_non pa_nil)))))
          (Own.cl_on rfl ⟨rfl, by decide, .inl hF⟩ (fun _ _ _ _ _ _ _ => never_suite) (Own.cl_nil rfl rfl takes0))))), ?_⟩
  · refine ⟨fun pins s' σ H' D I h' => ?_⟩
    obtain ⟨Ech, hW, h1, h2, h3⟩ := h'
    exact (pss_one (ps_ret (pe_lst (pa_cons (act W pn xe Ech _ _ tk hW) pa_nil)))).run pins s' σ H' D I ⟨h1, h2, h3⟩
  · refine ⟨fun cls d H' => (cls = .ref CN ∧ ∀ p, H' p = none → Q (.ref p) (upd H' p (.tup [.str "divisor", .non]))) ∨ ∃ dd v, cls = .ref CB ∧ d = some dd ∧ H' dd = some (.xd [("part", v)]) ∧ ∀ p, H' p = none → Q (.ref p) (upd H' p (.tup [.str "ratio", v])), fun cls d σ' H' z => ?_, rfl, hc, h⟩
    rcases z with ⟨e, k⟩ | ⟨dd, v, e, ed, hd, k⟩
    · subst e
      exact ⟨false, eB, (fun z => nomatch z), fun _ => ⟨true, eN, fun _ a na => ⟨(by decide : 2 ≤ sizeLine), k⟩, (fun z => nomatch z)⟩⟩
    · subst e
      refine ⟨true, eBB, fun _ hl a na => ?_, (fun z => nomatch z)⟩
      match σ', hl with
      | [s0, s1], _ => exact ⟨_, rfl, rfl, rfl, dd, _, v, ed, hd, rfl, (by decide : 2 ≤ sizeLine), k⟩
end
end Toy
set_option maxRecDepth 100000
set_option maxHeartbeats 4000000
set_option exponentiation.threshold 3000
namespace Toy
open PySem L2
open Rat (divInt)
/-! ### comparisons, read in rationals -/
theorem q_self {q : Rat} (h : (q.den : Int) = 1) : q = (q.num : Rat) := by
  apply Rat.ext
  · rw [Rat.num_intCast]
  · rw [Rat.den_intCast]
    omega
section
variable {P : Program} {w : World} {K : PySem.W.Frag} {mg : Str → Option Value} {base : Heap} {C : Addr} {H : Hp} {a : Addr} {u : V} {p q : Rat} {Q : VK} {E : XK} {g g1 g2 : Int → Bool} {r : Bool}
theorem cmpL (T : RatT K mg C) (hp : RatQ C H a p) (hq : NumQ C H u q) (zp : Sq 3900 p) (zq : Sq 3900 q) (e : g (p.num * q.den - q.num * p.den) = r) (k : ∀ H', Same H H' → Q (.bl r) H') : Own.rOwnC K C (spCmp C g) E (.ref a) u H Q := by
  obtain ⟨dx, h⟩ := id hp
  have ty : ∃ t, TyX K H u t ∧ PySem.W.notFirst K C t = true := by
    rcases hq.cases with ⟨i, rfl, _⟩ | ⟨b, rfl, hb⟩
    · exact ⟨_, .base (.int _), T.nI⟩
    · obtain ⟨dy, h2⟩ := hb
      exact ⟨_, T.ty h2, T.nC⟩
  obtain ⟨t, t1, t2⟩ := ty
  exact ⟨a, dx, _, t, rfl, h, t1, t2, _, _, _, _, _, _, rfl, (NumQ.rat hp).at_, hq.at_, ⟨(z4 zp).1, (z4 zp).2, (z4 zq).1, (z4 zq).2⟩, fun H' s => ⟨⟨_, rfl⟩, by rw [e]; exact k H' s⟩⟩
theorem cmpB (T : RatT K mg C) (hp : RatQ C H a p) (hq : NumQ C H u q) (zp : Sq 3900 p) (zq : Sq 3900 q) (e1 : g1 (q.num * p.den - p.num * q.den) = r) (e2 : g2 (p.num * q.den - q.num * p.den) = r) (k : ∀ H', Same H H' → Q (.bl r) H') :
    Own.rOwnC K C (spCmp C g1) E u (.ref a) H Q ∨ Own.rReflC C (spCmp C g2) E u (.ref a) H Q := by
  rcases hq.cases with ⟨i, rfl, rfl⟩ | ⟨b, rfl, hb⟩
  · obtain ⟨dx, h⟩ := id hp
    exact .inr ⟨i, a, dx, _, rfl, rfl, h, _, _, _, _, _, _, rfl, (NumQ.rat hp).at_, hq.at_, ⟨(z4 zp).1, (z4 zp).2, (z4 zq).1, (z4 zq).2⟩, fun H' s => ⟨⟨_, rfl⟩, by rw [e2]; exact k H' s⟩⟩
  · exact .inl (cmpL T hb (.rat hp) zq zp e1 k)
theorem eqLq {g : Bool → Bool} (hp : RatQ C H a p) (hq : NumQ C H u q) (k : ∀ H', Same H H' → Q (.bl (g (decide (p = q)))) H') : Own.rEqL C (spEqQ C) E g (.ref a) u H Q := by
  obtain ⟨dx, h⟩ := id hp
  exact ⟨a, dx, _, rfl, h, hq.ri, a, u, p, q, rfl, hp, hq, fun H' s => ⟨_, rfl, k H' s⟩⟩
theorem eqBq {g : Bool → Bool} (hp : RatQ C H a p) (hq : NumQ C H u q) (k : ∀ H', Same H H' → Q (.bl (g (decide (p = q)))) H') : Own.rEqL C (spEqQ C) E g u (.ref a) H Q ∨ Own.rEqR C (spEqQ C) E g u (.ref a) H Q := by
  rcases hq.cases with ⟨i, rfl, rfl⟩ | ⟨b, rfl, hb⟩
  · obtain ⟨dx, h⟩ := id hp
    exact .inr ⟨i, a, dx, _, rfl, rfl, h, a, _, p, _, rfl, hp, hq, fun H' s => ⟨_, rfl, k H' s⟩⟩
  · refine .inl (eqLq hb (.rat hp) fun H' s => ?_)
    rw [show decide (q = p) = decide (p = q) from decide_eq_decide.mpr eq_comm]
    exact k H' s
theorem mk_same {H1 H' : Hp} {x dx C : Addr} (hx : H1 x = none) (hdx : H1 dx = none) (hk : ∀ c o, (upd (upd H1 dx (.own x)) x (.ins C dx [])) c = some o → c ≠ x → H' c = some o) : Same H1 H' := fun c o e =>
  hk c o (by rw [upd_ne (ne_of_none e hx), upd_ne (ne_of_none e hdx)]; exact e) (ne_of_none e hx)
theorem asQ {x : Addr} {t b : Int} (hb : b ≠ 0) (e : divInt t b = q) (h : RatAt C H x (lowT t b) (lowB t b)) : RatQ C H x q := by
  rw [low_num hb, low_den hb, e] at h
  exact h
theorem dec_sub1 (x y : Int) : decide (x - y < 0) = decide (x < y) := decide_eq_decide.mpr (by omega)
theorem dec_sub2 (x y : Int) : decide (x - y ≤ 0) = decide (x ≤ y) := decide_eq_decide.mpr (by omega)
theorem dec_sub3 (x y : Int) : decide (0 < x - y) = decide (y < x) := decide_eq_decide.mpr (by omega)
theorem dec_sub4 (x y : Int) : decide (0 ≤ x - y) = decide (y ≤ x) := decide_eq_decide.mpr (by omega)
end
end Toy
set_option maxRecDepth 100000
set_option maxHeartbeats 4000000
set_option exponentiation.threshold 3000
namespace Toy
open PySem L2
open Rat (divInt)
theorem vdec (a b : Int) : decide (V.int a = V.int b) = decide (a = b) := by
  by_cases h : a = b
  · rw [decide_eq_true h, decide_eq_true (congrArg V.int h)]
  · rw [decide_eq_false h, decide_eq_false fun e => h (V.int.inj e)]
theorem iteTb {b : Bool} {A B : Prop} (h : b = true) (x : A) : if b = true then A else B := by
  subst h
  exact iteT x
theorem iteFb {b : Bool} {A B : Prop} (h : b = false) (x : B) : if b = true then A else B := by
  subst h
  exact iteF x
theorem cm {i j : Int} (h : i.natAbs ≤ 1000000000) : CMul i j := .inl ⟨by omega, by omega⟩
theorem cmr {i j : Int} (h : j.natAbs ≤ 1000000000) : CMul i j := .inr ⟨by omega, by omega⟩
theorem Sz.divW {i j : Int} (h0 : 0 < j) (z : Sz j) : CDivW i j := wide_div h0 z (by decide) (by decide)
theorem gcd_step {x y : Int} (hx : 0 ≤ x) (hy : 0 < y) : gcdI y (x % y) = gcdI x y := by
  obtain ⟨n, rfl⟩ := Int.eq_ofNat_of_zero_le hx
  obtain ⟨m, rfl⟩ := Int.eq_ofNat_of_zero_le (show 0 ≤ y by omega)
  unfold gcdI
  have e : ((n : Int) % (m : Int)) = ((n % m : Nat) : Int) := rfl
  rw [e, Int.natAbs_natCast, Int.natAbs_natCast, Int.natAbs_natCast, Nat.gcd_comm n m, Nat.gcd_rec m n, Nat.gcd_comm m]
theorem gcd_zero {x : Int} (hx : 0 ≤ x) : gcdI x 0 = x := by
  unfold gcdI
  show ((Nat.gcd x.natAbs 0 : Nat) : Int) = x
  rw [Nat.gcd_zero_right]
  omega
section
variable {P : Program} {w : World} {K : PySem.W.Frag} {mg : Str → Option Value} {base : Heap} {C : Addr}
def spPen (K : PySem.W.Frag) : Sp := fun vs H Q _ => ∃ (a : Addr) (ns : List Int), vs = [.ref a] ∧ SqL K H a (ns.map V.int) ∧ ns.length ≤ 63 ∧ ∀ p c H', Same H H' → H p = none → Pen H' p c 0 → Q (.ref p) H'
abbrev sPen : Stmt := top 21
theorem scPe : FnScope ["_law_script"] ["_law_script"] (defScope sPen) := ⟨rfl, rfl, rfl, by decide +kernel, rfl, by decide +kernel, by decide +kernel⟩
theorem cutV_ints (ns : List Int) (lo hi : Option Int) : ∃ ms : List Int, cutV (ns.map V.int) lo hi = ms.map V.int ∧ ms.length ≤ ns.length := by
  refine ⟨(ns.drop (HT.sIx (ns.map V.int).length 0 lo)).take (HT.sIx (ns.map V.int).length (ns.map V.int).length hi - HT.sIx (ns.map V.int).length 0 lo), ?_, ?_⟩
  · unfold cutV
    rw [← List.map_drop, ← List.map_take]
  · rw [List.length_take, List.length_drop]
    omega
theorem ok_pen {f : Addr} {fd : FuncData} (F : Fun K "_law_pen" "_law_pen" sPen f fd) (T : Bl mg) : FnOk P w K mg base CX0 1 f fd ["_law_script"] (spPen K) := by
  refine F.ok scPe (fun vs H Q E h => ?_) (fun cdv A outer s H vs Q E hr h => ?_)
  · obtain ⟨a, ns, rfl, _⟩ := h
    rfl
  · obtain ⟨a, ns, rfl, hS, hl, q⟩ := h
    have nd := scPe.nd
    refine ⟨_, pss_one (ps_ret (pe_lst (pa_cons (pe_callTy call_list_of (by rfl) T.list (by decide +kernel) (pa_cons (pe_slice sl_list (pv 0) po_none (po_some pe_int)) pa_nil)) (pa_cons pe_int (pa_cons pe_int pa_nil))))), ?_⟩
    obtain ⟨ms, e, hm⟩ := cutV_ints ns none (some 63)
    refine ⟨_, rfl, _, rfl, a, _, rfl, hS, fun c1 h1 => ⟨c1, _, rfl, .inl (SqL.of upd_same), fun c2 h2 => ⟨(by decide : 3 ≤ sizeLine), fun p hp => ?_⟩⟩⟩
    have s1 : Same H (upd H c1 (.lst (cutV (ns.map V.int) none (some 63)))) := same_new h1
    have s2 := s1.trans (same_new (o := .lst (cutV (ns.map V.int) none (some 63))) h2)
    have s3 := s2.trans (same_new (o := .lst [.ref c2, .int 0, .int 0]) hp)
    refine q p c2 _ s3 (s2.free hp) ⟨ms, 0, 0, ⟨upd_same, ?_, by omega, by decide⟩, by decide⟩
    have n2 : c2 ≠ p := by
      intro e2
      rw [← e2, upd_same] at hp
      cases hp
    rw [upd_ne n2, upd_same, e]
def spPick : Sp := fun vs H Q _ => ∃ p c s xs k, vs = [.ref p, .ref s] ∧ Pen H p c k ∧ k ≤ 1000000 ∧ H s = some (.lst xs) ∧ s ≠ p ∧ 0 < xs.length ∧ xs.length ≤ 1000 ∧ ∀ v H', v ∈ xs → Pen H' p c (k + 1) → But p H H' → Q v H'
abbrev sPick : Stmt := top 23
theorem scPk : FnScope ["_law_pen_here", "_law_some"] ["_law_pen_here", "_law_some"] (defScope sPick) := ⟨rfl, rfl, rfl, by decide +kernel, rfl, by decide +kernel, by decide +kernel⟩
theorem small_i {z : Int} (h : z.natAbs ≤ 1000000000) : z.natAbs < 2 ^ 2000 := Nat.lt_of_le_of_lt h (by decide +kernel)
theorem small_len {n : Nat} (h : n ≤ 1000000000) : (n : Int).natAbs < 2 ^ 2000 := Nat.lt_of_le_of_lt (show (n : Int).natAbs ≤ 1000000000 by omega) (by decide +kernel)
theorem ok_pick {f f1 : Addr} {fd fd1 : FuncData} (F : Fun K "_law_pick" "_law_pick" sPick f fd) (T : Bl mg) (C__law_draw : Cal P w K mg base 1 "_law_draw" f1 fd1 ["_law_pen_here", "_law_many"] spDraw) : FnOk P w K mg base CX0 2 f fd ["_law_pen_here", "_law_some"] spPick := by
  refine F.ok scPk (fun vs H Q E h => ?_) (fun cdv A outer s H vs Q E hr h => ?_)
  · obtain ⟨p, c, l, xs, k, rfl, _⟩ := h
    rfl
  · obtain ⟨p, c, l, xs, k, rfl, hP, hk, hl, hne, h0, h1, q⟩ := h
    have nd := scPk.nd
    refine ⟨_, pss_one (ps_ret (pe_ix ix_list (pv 1) (pe_call C__law_draw.F (hr.mono (by decide)) (by rfl) C__law_draw.mgf C__law_draw.kp C__law_draw.b .nil pass0 (pa_cons (pv 0) (pa_cons (pe_callB call_len (by rfl) T.len (by decide +kernel) (pa_cons (pv 1) pa_nil)) pa_nil))) (fun _ _ => rfl))), ?_⟩
    refine ⟨_, rfl, _, rfl, _, rfl, _, _, rfl, .inl ⟨_, SqL.of hl, rfl⟩, p, c, _, k, rfl, hP, hk, by omega, small_len (by omega), fun r H' r0 r1 hP' hB => ?_⟩
    exact ⟨l, xs, r, _, rfl, rfl, SqL.of (hB _ _ hl hne), atI_in r0 r1, q _ H' (List.getElem_mem _) hP' hB⟩

theorem Pen.ne_none {H : Hp} {p c a : Addr} {k : Nat} (h : Pen H p c k) (e : H a = none) : a ≠ p := by
  obtain ⟨_, _, _, W, _⟩ := h
  exact (ne_of_none W.hp e).symm
theorem Pen.ne_cell {H : Hp} {p c a : Addr} {k : Nat} (h : Pen H p c k) (e : H a = none) : a ≠ c := by
  obtain ⟨_, _, _, W, _⟩ := h
  exact (ne_of_none W.hc e).symm
theorem Pen.put {H : Hp} {p c a : Addr} {o : HO} {k : Nat} (h : Pen H p c k) (h1 : a ≠ p) (h2 : a ≠ c) : Pen (upd H a o) p c k := by
  obtain ⟨ns, b, l, W, hk⟩ := h
  exact ⟨ns, b, l, ⟨by rw [upd_ne h1.symm]; exact W.hp, by rw [upd_ne h2.symm]; exact W.hc, W.ln, W.b0⟩, hk⟩
theorem small_t {m : Int} (h0 : 0 < m) (h : m ≤ 10 ^ 38) : m.natAbs < 2 ^ 2000 := Nat.lt_of_le_of_lt (show m.natAbs ≤ 10 ^ 38 by omega) (by decide +kernel)
/-- a drawn integer -/
def spInteger : Sp := fun vs H Q _ => ∃ p c k, vs = [.ref p] ∧ Pen H p c k ∧ k ≤ 900000 ∧ ∀ z H', z.natAbs < 10 ^ 38 → Pen H' p c (k + 3) → But p H H' → Q (.int z) H'
abbrev sInteger : Stmt := top 25
theorem scIr : FnScope ["_law_pen_here", "_law_size", "_law_one_so"] ["_law_pen_here"] (defScope sInteger) := ⟨rfl, rfl, rfl, by decide +kernel, rfl, by decide +kernel, by decide +kernel⟩
theorem ok_integer {f f1 f2 : Addr} {fd fd1 fd2 : FuncData} (F : Fun K "_law_integer" "_law_integer" sInteger f fd) (C__law_draw : Cal P w K mg base 1 "_law_draw" f1 fd1 ["_law_pen_here", "_law_many"] spDraw) (C__law_pick : Cal P w K mg base 2 "_law_pick" f2 fd2 ["_law_pen_here", "_law_some"] spPick) :
    FnOk P w K mg base CX0 3 f fd ["_law_pen_here"] spInteger := by
  refine F.ok scIr (fun vs H Q E h => ?_) (fun cdv A outer s H vs Q E hr h => ?_)
  · obtain ⟨p, c, k, rfl, _⟩ := h
    rfl
  · obtain ⟨p, c, k, rfl, hP, hk, q⟩ := h
    have nd := scIr.nd
    refine ⟨_, pss_cons (ps_set (i := 1) nd rfl (Or.inl rfl) (pe_call C__law_pick.F (hr.mono (by decide)) (by rfl) C__law_pick.mgf C__law_pick.kp C__law_pick.b .nil pass0 (pa_cons (pv 0) (pa_cons (pe_lst (pa_cons pe_int (pa_cons pe_int (pa_cons pe_int (pa_cons (pe_op op_pow pe_int pe_int) (pa_cons (pe_op op_pow pe_int pe_int) (pa_cons (pe_op op_pow pe_int pe_int) pa_nil))))))) pa_nil))))
      (pss_cons (ps_set (i := 2) nd rfl (Or.inl rfl) (pe_call C__law_draw.F (hr.mono (by decide)) (by rfl) C__law_draw.mgf C__law_draw.kp C__law_draw.b .nil pass0 (pa_cons (pv 0) (pa_cons (pv 1) pa_nil))))
      (pss_one (ps_ret (pe_ifExp (pt_cmpR op_eq (pe_call C__law_draw.F (hr.mono (by decide)) (by rfl) C__law_draw.mgf C__law_draw.kp C__law_draw.b .nil pass0 (pa_cons (pv 0) (pa_cons pe_int pa_nil))) pe_int (nomark _)) (pv 2) (pe_op op_sub pe_int (pv 2)))))), ?_⟩
    refine ⟨_, rfl, _, _, rfl, rfl, ⟨by decide, by decide, by decide⟩, _, _, rfl, rfl, ⟨by decide, by decide, by decide⟩, _, _, rfl, rfl, ⟨by decide, by decide, by decide⟩, by decide, fun l hl => ?_⟩
    refine ⟨p, c, l, _, k, rfl, hP.same (same_new hl), by omega, upd_same, hP.ne_none hl, by decide, by decide, fun v H1 hv hP1 hB1 => ?_⟩
    have B1 : But p H H1 := (But.refl.new hl).trans hB1
    obtain ⟨m, rfl, m0, m1⟩ : ∃ m : Int, v = .int m ∧ 0 < m ∧ m ≤ 10 ^ 38 := by
      simp only [List.mem_cons, List.not_mem_nil, or_false] at hv
      rcases hv with h | h | h | h | h | h <;> exact ⟨_, h, by decide +kernel, by decide +kernel⟩
    refine ⟨_, rfl, _, rfl, p, c, m, k + 1, rfl, hP1, by omega, m0, small_t m0 m1, fun r H2 r0 r1 hP2 hB2 => ?_⟩
    refine ⟨_, rfl, p, c, 2, k + 2, rfl, hP2, by omega, by decide, by decide +kernel, fun z H3 z0 z1 hP3 hB3 => ⟨rfl, _, rfl, ?_⟩⟩
    have B3 := (B1.trans hB2).trans hB3
    refine ite2 (fun _ => ⟨_, rfl, q _ _ (by omega) hP3 B3⟩) (fun _ => ⟨_, rfl, _, _, rfl, rfl, q _ _ (by omega) hP3 B3⟩)
/-- a drawn pair, the second not 0 -/
def spPair : Sp := fun vs H Q _ => ∃ p c k, vs = [.ref p] ∧ Pen H p c k ∧ k ≤ 800000 ∧ ∀ t b x H', t.natAbs < 10 ^ 38 → b.natAbs < 10 ^ 38 → b ≠ 0 → Pen H' p c (k + 6) → But p H H' → H' x = some (.tup [.int t, .int b]) → Q (.ref x) H'
abbrev sPair : Stmt := top 26
theorem scPr : FnScope ["_law_pen_here", "_law_top", "_law_bottom"] ["_law_pen_here"] (defScope sPair) := ⟨rfl, rfl, rfl, by decide +kernel, rfl, by decide +kernel, by decide +kernel⟩
theorem ok_pair {f f1 : Addr} {fd fd1 : FuncData} (F : Fun K "_law_pair" "_law_pair" sPair f fd) (C__law_integer : Cal P w K mg base 3 "_law_integer" f1 fd1 ["_law_pen_here"] spInteger) : FnOk P w K mg base CX0 4 f fd ["_law_pen_here"] spPair := by
  refine F.ok scPr (fun vs H Q E h => ?_) (fun cdv A outer s H vs Q E hr h => ?_)
  · obtain ⟨p, c, k, rfl, _⟩ := h
    rfl
  · obtain ⟨p, c, k, rfl, hP, hk, q⟩ := h
    have nd := scPr.nd
    refine ⟨_, pss_cons (ps_par (i := 1) (j := 2) (by rfl) nd rfl rfl (by decide) rfl rfl (pa_cons (pe_call C__law_integer.F (hr.mono (by decide)) (by rfl) C__law_integer.mgf C__law_integer.kp C__law_integer.b .nil pass0 (pa_cons (pv 0) pa_nil)) (pa_cons (pe_call C__law_integer.F (hr.mono (by decide)) (by rfl) C__law_integer.mgf C__law_integer.kp C__law_integer.b .nil pass0 (pa_cons (pv 0) pa_nil)) pa_nil)) (by rfl))
      (pss_one (ps_ret (pe_tup (pa_cons (pv 1) (pa_cons (pe_ifExp (pt_cmpR op_ne (pv 2) pe_int (nomark _)) (pv 2) pe_int) pa_nil))))), ?_⟩
    refine ⟨_, rfl, p, c, k, rfl, hP, by omega, fun t H1 ht hP1 hB1 => ?_⟩
    refine ⟨_, rfl, p, c, k + 3, rfl, hP1, by omega, fun b H2 hb hP2 hB2 => ⟨_, _, rfl, ?_⟩⟩
    refine ⟨_, rfl, _, rfl, rfl, _, rfl, ?_⟩
    have B2 := hB1.trans hB2
    by_cases h0 : b = 0
    · refine iteFb (by rw [vdec, decide_eq_true h0]; rfl) ⟨(by decide : 2 ≤ sizeLine), fun x hc => ?_⟩
      exact q t 1 x _ ht (by decide) (by decide) (hP2.same (same_new hc)) (B2.new hc) upd_same
    · refine iteTb (by rw [vdec, decide_eq_false h0]; rfl) ⟨_, rfl, (by decide : 2 ≤ sizeLine), fun x hc => ?_⟩
      exact q t b x _ ht hb h0 (hP2.same (same_new hc)) (B2.new hc) upd_same
/-- lowest terms -/
def spLowest : Sp := fun vs H Q _ => ∃ t b, vs = [.int t, .int b] ∧ b ≠ 0 ∧ Sz t ∧ Sz b ∧ ∀ c, H c = none → Q (.ref c) (upd H c (.tup [.int (divInt t b).num, .int ((divInt t b).den : Int)]))
theorem low_pos {t b : Int} (h : 0 < b) : (1 * t) / gcdI t b = (divInt t b).num ∧ (1 * b) / gcdI t b = ((divInt t b).den : Int) := by
  have hg := gcdI_pos (t := t) (b := b) (by omega)
  rw [← low_num (by omega), ← low_den (by omega), Int.one_mul, Int.one_mul]
  unfold lowT lowB lowD
  rw [if_pos h, Int.fdiv_eq_ediv_of_nonneg _ (by omega), Int.fdiv_eq_ediv_of_nonneg _ (by omega)]
  exact ⟨rfl, rfl⟩
theorem low_neg {t b : Int} (h : b < 0) : (-1 * t) / gcdI t b = (divInt t b).num ∧ (-1 * b) / gcdI t b = ((divInt t b).den : Int) := by
  have hg := gcdI_pos (t := t) (b := b) (by omega)
  rw [← low_num (by omega), ← low_den (by omega)]
  unfold lowT lowB lowD
  rw [if_neg (by omega), ← Int.fdiv_eq_ediv_of_nonneg _ (by omega), ← Int.fdiv_eq_ediv_of_nonneg _ (by omega), ← Int.neg_fdiv_neg t, ← Int.neg_fdiv_neg b, Int.neg_neg, Int.neg_one_mul, Int.neg_one_mul]
  exact ⟨rfl, rfl⟩
abbrev sLowest : Stmt := top 27
theorem scLw : FnScope ["_law_top", "_law_bottom", "_law_one", "_law_other", "_law_sign"] ["_law_top", "_law_bottom"] (defScope sLowest) := ⟨rfl, rfl, rfl, by decide +kernel, rfl, by decide +kernel, by decide +kernel⟩
theorem ok_lowest {f : Addr} {fd : FuncData} (F : Fun K "_law_lowest" "_law_lowest" sLowest f fd) (T : Bl mg) : FnOk P w K mg base CX0 1 f fd ["_law_top", "_law_bottom"] spLowest := by
  refine F.ok scLw (fun vs H Q E h => ?_) (fun cdv A outer s H vs Q E hr h => ?_)
  · obtain ⟨t, b, rfl, _⟩ := h
    rfl
  · obtain ⟨x, y, rfl, hy, zx, zy, q⟩ := h
    have nd := scLw.nd
    refine ⟨_, pss_cons (ps_par (i := 2) (j := 3) (by rfl) nd rfl rfl (by decide) rfl rfl (pa_cons (pe_callB call_abs (by rfl) T.abs (by decide +kernel) (pa_cons (pv 0) pa_nil)) (pa_cons (pe_callB call_abs (by rfl) T.abs (by decide +kernel) (pa_cons (pv 1) pa_nil)) pa_nil)) (by rfl))
      (pss_cons (ps_while PassesOwn.never (pt_cmpR op_ne (pv 3) pe_int (nomark _)) (pss_one (ps_par (i := 2) (j := 3) (by rfl) nd rfl rfl (by decide) rfl rfl (pa_cons (pv 3) (pa_cons (pe_op op_mod (pe_callTy call_int1 (by rfl) T.int (by decide +kernel) (pa_cons (pv 2) pa_nil)) (pv 3)) pa_nil)) (by rfl))))
      (pss_cons (ps_set (i := 4) nd rfl (Or.inl rfl) (pe_ifExp (pt_cmpR op_gt (pv 1) pe_int (nomark _)) pe_int (pe_un un_neg pe_int)))
      (pss_one (ps_ret (pe_tup (pa_cons (pe_op op_fdivW (pe_op op_mul (pv 4) (pv 0)) (pv 2)) (pa_cons (pe_op op_fdivW (pe_op op_mul (pv 4) (pv 1)) (pv 2)) pa_nil))))))), ?_⟩
    refine ⟨_, rfl, _, rfl, _, rfl, _, rfl, _, _, rfl, ?_⟩
    have hg : gcdI (if x < 0 then -x else x) (if y < 0 then -y else y) = gcdI x y := by
      unfold gcdI
      rw [show (if x < 0 then -x else x).natAbs = x.natAbs by split <;> omega, show (if y < 0 then -y else y).natAbs = y.natAbs by split <;> omega]
    refine while_by (fun σ H' => ∃ u v : Int, σ = [some (.int x), some (.int y), some (.int u), some (.int v), none] ∧ 0 ≤ u ∧ 0 ≤ v ∧ gcdI u v = gcdI x y ∧ H' = H) (fun σ _ => match σ with | [_, _, _, some (.int v), _] => v.toNat | _ => 0) ⟨_, _, rfl, by split <;> omega, by split <;> omega, hg, rfl⟩ ?_ ?_
    · rintro σ H' ⟨u, v, rfl, u0, v0, g, rfl⟩
      refine ⟨_, rfl, rfl, _, rfl, ?_⟩
      by_cases hv : v = 0
      · refine iteFb (by rw [vdec, decide_eq_true hv]; rfl) ?_
        subst hv
        rw [gcd_zero u0] at g
        subst g
        have g0 := gcdI_pos (t := x) hy
        have zg := Sz.gcd (t := x) hy zy
        refine ⟨_, rfl, _, _, rfl, rfl, _, rfl, ?_⟩
        refine ite2 (fun hp => ?_) (fun hp => ?_)
        · have hp1 : 0 < y := of_decide_eq_true hp
          refine ⟨_, rfl, _, rfl, _, _, rfl, rfl, cm (by decide), _, rfl, _, _, rfl, rfl, zg.divW g0, _, rfl, _, rfl, _, _, rfl, rfl, cm (by decide), _, rfl, _, _, rfl, rfl, zg.divW g0, (by decide : 2 ≤ sizeLine), fun c hc => ?_⟩
          have e := low_pos (t := x) hp1
          show Q (.ref c) (upd _ c (.tup [.int (1 * x / gcdI x y), .int (1 * y / gcdI x y)]))
          rw [e.1, e.2]
          exact q c hc
        · have hp1 : ¬ 0 < y := fun e => hp (decide_eq_true e)
          refine ⟨_, rfl, _, rfl, _, rfl, _, _, rfl, rfl, cm (by decide), _, rfl, _, _, rfl, rfl, zg.divW g0, _, rfl, _, rfl, _, _, rfl, rfl, cm (by decide), _, rfl, _, _, rfl, rfl, zg.divW g0, (by decide : 2 ≤ sizeLine), fun c hc => ?_⟩
          have e := low_neg (t := x) (show y < 0 by omega)
          show Q (.ref c) (upd _ c (.tup [.int (-1 * x / gcdI x y), .int (-1 * y / gcdI x y)]))
          rw [e.1, e.2]
          exact q c hc
      · refine iteTb (by rw [vdec, decide_eq_false hv]; rfl) ⟨_, rfl, _, rfl, .inl ⟨_, rfl, _, rfl, _, _, rfl, rfl, (by omega : 0 < v), _, _, rfl, ⟨_, _, rfl, v0, (modB u (by omega)).1, (gcd_step u0 (by omega)).trans g, rfl⟩, ?_⟩⟩
        have h1 := modB u (show 0 < v by omega)
        show (u % v).toNat < v.toNat
        omega
    · rintro σ H' R R' hR ⟨v, e, sc, k, e2, r⟩
      exact ⟨v, e, sc, k, e2, hR _ _ r⟩
end
end Toy
set_option maxRecDepth 100000
set_option maxHeartbeats 4000000
set_option exponentiation.threshold 3000
namespace Own
open PySem PySem.Spec PyProof.Rows L2
open AutoSeq1 (wpAny_loadPart')
theorem int_fdiv_dec (b : Int) (u : Tok) (l : Addr) (C dx : Addr) :
    Meets (Builtin.«int.__floordiv__» ⟨[.int b u, .ref l], []⟩) (fun _ R s => s.heap.get? l = some (PySem.W.instObj C dx) ∧ R (.ok (.ret .notImplemented)) s) :=
  .of_wp fun prog w A R s h => by obtain ⟨hp, g, d, tk, os⟩ := s; obtain ⟨hl, h⟩ := h; wp_walk using wpAny_loadPart' hl, wpAny_load hl; exact ⟨_, rfl, h⟩
theorem int_mod_dec (b : Int) (u : Tok) (l : Addr) (C dx : Addr) :
    Meets (Builtin.«int.__mod__» ⟨[.int b u, .ref l], []⟩) (fun _ R s => s.heap.get? l = some (PySem.W.instObj C dx) ∧ R (.ok (.ret .notImplemented)) s) :=
  .of_wp fun prog w A R s h => by obtain ⟨hp, g, d, tk, os⟩ := s; obtain ⟨hl, h⟩ := h; wp_walk using wpAny_loadPart' hl, wpAny_load hl; exact ⟨_, rfl, h⟩
end Own
namespace Toy
open PySem L2
open Rat (divInt)
section
variable {P : Program} {w : World} {K : PySem.W.Frag} {mg : Str → Option Value} {base : Heap} {C CN CB : Addr}
/-! ### quotients by 0 -/
def spQuo0 (C CN : Addr) : Sp := fun vs H _ E => ∃ v u p, vs = [v, u] ∧ NumQ C H v p ∧ NumQ C H u 0 ∧ Sq 3900 p ∧ ∀ H', Same H H' → E (.ref CN) none H'
theorem ok_quo0 {f f2 : Addr} {fd fd2 : FuncData} (F : Fun K "_quotient" "_quotient" sQuo f fd) (TN : ExT K mg "NoDivisor" CN) (C_parts_of : Cal P w K mg base 1 "parts_of" f2 fd2 ["number"] (spParts C)) :
    FnOk P w K mg base (L2.CX P w) 2 f fd ["one", "other"] (spQuo0 C CN) := by
  refine F.okX scQuo (fun vs H Q E h => ?_) (fun cdv A outer s H vs Q E hr h => ?_)
  · obtain ⟨v, u, p, rfl, _⟩ := h
    rfl
  · obtain ⟨v, u, p, rfl, hp, hq, zp, k⟩ := h
    have nd := scQuo.nd
    refine ⟨_, pss_cons (ps_asg (pe_call C_parts_of.F (hr.mono (by decide)) (by rfl) C_parts_of.mgf C_parts_of.kp C_parts_of.b .nil pass0 (pa_cons (pv 0) pa_nil)) (pg_tup (by rfl) (pgs_cons (pg_name (i := 2) nd rfl (Or.inl rfl)) (pgs_cons (pg_name (i := 3) nd rfl (Or.inl rfl)) pgs_nil))))
      (pss_cons (ps_asg (pe_call C_parts_of.F (hr.mono (by decide)) (by rfl) C_parts_of.mgf C_parts_of.kp C_parts_of.b .nil pass0 (pa_cons (pv 1) pa_nil)) (pg_tup (by rfl) (pgs_cons (pg_name (i := 4) nd rfl (Or.inl rfl)) (pgs_cons (pg_name (i := 5) nd rfl (Or.inl rfl)) pgs_nil))))
      (pss_cons (ps_if (pt_cmpR op_eq (pv 4) pe_int (nomark _)) (pss_one (ps_raise (by rfl) (takes_of rfl rfl rfl rfl) (pmk_own0 TN (by rfl)))) pss_nil)
      (pss_one (ps_ret (pe_op op_fdivZ (pe_op op_mulW (pv 2) (pv 5)) (pe_op op_mulW (pv 3) (pv 4))))))), ?_⟩
    refine ⟨_, rfl, _, _, _, rfl, hp.at_, fun x1 hx1 => ⟨_, _, rfl, SqT.of upd_same, rfl, _, _, rfl, _, _, rfl, rfl, ?_⟩⟩
    have s1 : Same H (upd H x1 (.tup [.int p.num, .int (p.den : Int)])) := same_new hx1
    refine ⟨_, rfl, _, _, _, rfl, (hq.same s1).at_, fun x2 hx2 => ⟨_, _, rfl, SqT.of upd_same, rfl, _, _, rfl, _, _, rfl, rfl, ?_⟩⟩
    have s2 := same_new (o := .tup [.int (0 : Rat).num, .int ((0 : Rat).den : Int)]) hx2
    refine ⟨_, rfl, rfl, _, rfl, ?_⟩
    exact ite2 (fun _ => k _ (s1.trans s2)) (fun e => absurd (decide_eq_true rfl) e)
theorem ok_fdiv0 {f p1 f1 f2 : Addr} {fd fd1 fd2 : FuncData} (F : Fun K "__floordiv__" "Ratio.__floordiv__" sFDiv f fd) (T_Ratio : RatT K mg C) (S_Ratio_is_number : Sta P w K mg base 2 C "is_number" p1 f1 fd1 ["value"] (spIsNum K C))
    (Q0 : FnOk P w K mg base (L2.CX P w) 2 f2 fd2 ["one", "other"] (spQuo0 C CN)) (mgf : mg "_quotient" = some (.ref f2)) (kp : PySem.W.keepIn K (.ref f2) = true) (b : Binds K fd2 ["one", "other"] []) :
    FnOk P w K mg base (L2.CX P w) 3 f fd ["self", "other"] (spQuo0 C CN) := by
  refine F.okX scFDiv (fun vs H Q E h => ?_) (fun cdv A outer s H vs Q E hr h => ?_)
  · obtain ⟨v, u, p, rfl, _⟩ := h
    rfl
  · obtain ⟨v, u, p, rfl, hp, hq, z, k⟩ := h
    have nd := scFDiv.nd
    refine ⟨_, pss_cons (ps_if (pt_not (pt_val (Own.pe_smeth T_Ratio.rd S_Ratio_is_number.s S_Ratio_is_number.F (hr.mono (by decide)) S_Ratio_is_number.b pass0 (Own.pe_gref (by rfl) T_Ratio.mgC) (pa_cons (pv 1) pa_nil)))) pss_never pss_nil)
      (pss_one (ps_ret (pe_call Q0 (hr.mono (by decide)) (by rfl) mgf kp b .nil (passes_call (takes_of rfl rfl rfl rfl) fun _ _ _ _ h => h) (pa_cons (pv 0) (pa_cons (pv 1) pa_nil))))), ?_⟩
    obtain ⟨t, b, c, ty, hb, hc, hbc⟩ := hq.at_.info T_Ratio.toClT
    refine ⟨rfl, _, rfl, _, t, b, c, rfl, ty, hb, hc, _, rfl, iteNot hbc ?_⟩
    exact ⟨_, rfl, _, rfl, v, u, p, rfl, hp, hq, z, k⟩
/-! ### an int at the left of // and % -/
abbrev sRFDiv : Stmt := inClass (top 14) 15
theorem scRFDiv : FnScope ["self", "other"] ["self", "other"] (defScope sRFDiv) := ⟨rfl, rfl, rfl, by decide +kernel, rfl, by decide +kernel, by decide +kernel⟩
def spRQuo (C : Addr) : Sp := fun vs H Q _ => ∃ v u p q, vs = [v, u] ∧ NumQ C H v p ∧ NumQ C H u q ∧ (Sq 3900 p ∧ Sq 3900 q) ∧ p ≠ 0 ∧ ∀ H', Same H H' → Q (.int (q / p).floor) H'
theorem ok_rfdiv {f p1 f1 f2 : Addr} {fd fd1 fd2 : FuncData} (F : Fun K "__rfloordiv__" "Ratio.__rfloordiv__" sRFDiv f fd) (T_Ratio : RatT K mg C) (S_Ratio_is_number : Sta P w K mg base 2 C "is_number" p1 f1 fd1 ["value"] (spIsNum K C)) (C__quotient : Cal P w K mg base 2 "_quotient" f2 fd2 ["one", "other"] (spQuo C)) :
    FnOk P w K mg base CX0 3 f fd ["self", "other"] (spRQuo C) := by
  refine F.ok scRFDiv (fun vs H Q E h => ?_) (fun cdv A outer s H vs Q E hr h => ?_)
  · obtain ⟨v, u, p, q, rfl, _⟩ := h
    rfl
  · obtain ⟨v, u, p, q, rfl, hp, hq, z, h0, k⟩ := h
    have nd := scRFDiv.nd
    refine ⟨_, pss_cons (ps_if (pt_not (pt_val (Own.pe_smeth T_Ratio.rd S_Ratio_is_number.s S_Ratio_is_number.F (hr.mono (by decide)) S_Ratio_is_number.b pass0 (Own.pe_gref (by rfl) T_Ratio.mgC) (pa_cons (pv 1) pa_nil)))) pss_never pss_nil)
      (pss_one (ps_ret (pe_call C__quotient.F (hr.mono (by decide)) (by rfl) C__quotient.mgf C__quotient.kp C__quotient.b .nil pass0 (pa_cons (pv 1) (pa_cons (pv 0) pa_nil))))), ?_⟩
    obtain ⟨t, b, c, ty, hb, hc, hbc⟩ := hq.at_.info T_Ratio.toClT
    refine ⟨rfl, _, rfl, _, t, b, c, rfl, ty, hb, hc, _, rfl, iteNot hbc ?_⟩
    exact ⟨_, rfl, _, rfl, u, v, q, p, rfl, hq, hp, ⟨z.2, z.1⟩, h0, k⟩
def spRQuo0 (C CN : Addr) : Sp := fun vs H _ E => ∃ v u q, vs = [v, u] ∧ NumQ C H v 0 ∧ NumQ C H u q ∧ Sq 3900 q ∧ ∀ H', Same H H' → E (.ref CN) none H'
theorem ok_rfdiv0 {f p1 f1 f2 : Addr} {fd fd1 fd2 : FuncData} (F : Fun K "__rfloordiv__" "Ratio.__rfloordiv__" sRFDiv f fd) (T_Ratio : RatT K mg C) (S_Ratio_is_number : Sta P w K mg base 2 C "is_number" p1 f1 fd1 ["value"] (spIsNum K C))
    (Q0 : FnOk P w K mg base (L2.CX P w) 2 f2 fd2 ["one", "other"] (spQuo0 C CN)) (mgf : mg "_quotient" = some (.ref f2)) (kp : PySem.W.keepIn K (.ref f2) = true) (b : Binds K fd2 ["one", "other"] []) :
    FnOk P w K mg base (L2.CX P w) 3 f fd ["self", "other"] (spRQuo0 C CN) := by
  refine F.okX scRFDiv (fun vs H Q E h => ?_) (fun cdv A outer s H vs Q E hr h => ?_)
  · obtain ⟨v, u, p, rfl, _⟩ := h
    rfl
  · obtain ⟨v, u, q, rfl, hp, hq, z, k⟩ := h
    have nd := scRFDiv.nd
    refine ⟨_, pss_cons (ps_if (pt_not (pt_val (Own.pe_smeth T_Ratio.rd S_Ratio_is_number.s S_Ratio_is_number.F (hr.mono (by decide)) S_Ratio_is_number.b pass0 (Own.pe_gref (by rfl) T_Ratio.mgC) (pa_cons (pv 1) pa_nil)))) pss_never pss_nil)
      (pss_one (ps_ret (pe_call Q0 (hr.mono (by decide)) (by rfl) mgf kp b .nil (passes_call (takes_of rfl rfl rfl rfl) fun _ _ _ _ h => h) (pa_cons (pv 1) (pa_cons (pv 0) pa_nil))))), ?_⟩
    obtain ⟨t, b, c, ty, hb, hc, hbc⟩ := hq.at_.info T_Ratio.toClT
    refine ⟨rfl, _, rfl, _, t, b, c, rfl, ty, hb, hc, _, rfl, iteNot hbc ?_⟩
    exact ⟨_, rfl, _, rfl, u, v, q, rfl, hq, hp, z, k⟩
theorem ok_mod0 {f p1 f1 f2 p3 f3 f4 f5 f6 : Addr} {fd fd1 fd2 fd3 fd4 fd5 fd6 : FuncData} (F : Fun K "__mod__" "Ratio.__mod__" sMod f fd) (T_Ratio : RatT K mg C) (S_Ratio_is_number : Sta P w K mg base 2 C "is_number" p1 f1 fd1 ["value"] (spIsNum K C))
    (Q0 : FnOk P w K mg base (L2.CX P w) 2 f2 fd2 ["one", "other"] (spQuo0 C CN)) (mgf : mg "_quotient" = some (.ref f2)) (kp : PySem.W.keepIn K (.ref f2) = true) (b : Binds K fd2 ["one", "other"] [])
    (S_Ratio_of : Sta P w K mg base 4 C "of" p3 f3 fd3 ["number"] (spOfQ C)) (BM : BinF K C .Mult) (BS : BinF K C .Sub) (O_mul : Opr P w K mg base 4 C "__mul__" f4 fd4 ["self", "other"] (spBin C GT fun p q => p * q)) (O_rmul : Opr P w K mg base 5 C "__rmul__" f5 fd5 ["self", "other"] (spBin C GT fun p q => p * q))
    (O_sub : Opr P w K mg base 4 C "__sub__" f6 fd6 ["self", "other"] (spBin C GT fun p q => p - q)) :
    FnOk P w K mg base (L2.CX P w) 6 f fd ["self", "other"] (spQuo0 C CN) := by
  refine F.okX scMod (fun vs H Q E h => ?_) (fun cdv A outer s H vs Q E hr h => ?_)
  · obtain ⟨v, u, p, rfl, _⟩ := h
    rfl
  · obtain ⟨v, u, p, rfl, hp, hq, z, k⟩ := h
    have nd := scMod.nd
    refine ⟨_, pss_cons (ps_if (pt_not (pt_val (Own.pe_smeth T_Ratio.rd S_Ratio_is_number.s S_Ratio_is_number.F (hr.mono (by decide)) S_Ratio_is_number.b pass0 (Own.pe_gref (by rfl) T_Ratio.mgC) (pa_cons (pv 1) pa_nil)))) pss_never pss_nil)
      (pss_one (ps_ret (pe_op (op_B BS O_sub.F (hr.mono (by decide)) O_sub.at_ O_sub.fn O_sub.b pass0) (pv 0) (pe_op (op_R BM O_rmul.F (hr.mono (by decide)) O_rmul.at_ O_rmul.fn O_mul.at_ T_Ratio.sI O_rmul.b pass0 PySem.F.fills_int_mul PySem.F.slot_int_mul PySem.F.entry_int_mul PySem.F.args_int_mul_2 Own.int_mul_dec) (pe_call Q0 (hr.mono (by decide)) (by rfl) mgf kp b .nil (passes_call (takes_of rfl rfl rfl rfl) fun _ _ _ _ h => h) (pa_cons (pv 0) (pa_cons (pv 1) pa_nil))) (Own.pe_smeth T_Ratio.rd S_Ratio_of.s S_Ratio_of.F (hr.mono (by decide)) S_Ratio_of.b pass0 (Own.pe_gref (by rfl) T_Ratio.mgC) (pa_cons (pv 1) pa_nil)))))), ?_⟩
    obtain ⟨t, b, c, ty, hb, hc, hbc⟩ := hq.at_.info T_Ratio.toClT
    refine ⟨rfl, _, rfl, _, t, b, c, rfl, ty, hb, hc, _, rfl, iteNot hbc ?_⟩
    exact ⟨_, rfl, _, rfl, _, rfl, v, u, p, rfl, hp, hq, z, k⟩
abbrev sRMod : Stmt := inClass (top 14) 17
theorem scRMod : FnScope ["self", "other"] ["self", "other"] (defScope sRMod) := ⟨rfl, rfl, rfl, by decide +kernel, rfl, by decide +kernel, by decide +kernel⟩
def spRMod (C : Addr) : Sp := fun vs H Q _ => ∃ v u p q, vs = [v, u] ∧ NumQ C H v p ∧ NumQ C H u q ∧ (Sq 1000 p ∧ Sq 1000 q) ∧ p ≠ 0 ∧ ∀ a H', Same H H' → RatQ C H' a (qmod q p) → Q (.ref a) H'
end
end Toy
set_option maxRecDepth 100000
set_option maxHeartbeats 4000000
set_option exponentiation.threshold 3000
namespace Toy
open PySem L2
open Rat (divInt)
section
variable {P : Program} {w : World} {K : PySem.W.Frag} {mg : Str → Option Value} {base : Heap} {C CN CB : Addr}
theorem ok_rmod {f p1 f1 p3 f3 f4 : Addr} {fd fd1 fd3 fd4 : FuncData} (F : Fun K "__rmod__" "Ratio.__rmod__" sRMod f fd) (T_Ratio : RatT K mg C) (S_Ratio_is_number : Sta P w K mg base 2 C "is_number" p1 f1 fd1 ["value"] (spIsNum K C))
    (S_Ratio_of : Sta P w K mg base 4 C "of" p3 f3 fd3 ["number"] (spOfQ C)) (BMo : BinF K C .Mod) (O_mod : Opr P w K mg base 6 C "__mod__" f4 fd4 ["self", "other"] (spMod C)) :
    FnOk P w K mg base CX0 7 f fd ["self", "other"] (spRMod C) := by
  refine F.ok scRMod (fun vs H Q E h => ?_) (fun cdv A outer s H vs Q E hr h => ?_)
  · obtain ⟨v, u, p, q, rfl, _⟩ := h
    rfl
  · obtain ⟨v, u, p, q, rfl, hp, hq, ⟨zp, zq⟩, h0, k⟩ := h
    have nd := scRMod.nd
    refine ⟨_, pss_cons (ps_if (pt_not (pt_val (Own.pe_smeth T_Ratio.rd S_Ratio_is_number.s S_Ratio_is_number.F (hr.mono (by decide)) S_Ratio_is_number.b pass0 (Own.pe_gref (by rfl) T_Ratio.mgC) (pa_cons (pv 1) pa_nil)))) pss_never pss_nil)
      (pss_one (ps_ret (pe_op (op_B BMo O_mod.F (hr.mono (by decide)) O_mod.at_ O_mod.fn O_mod.b pass0) (Own.pe_smeth T_Ratio.rd S_Ratio_of.s S_Ratio_of.F (hr.mono (by decide)) S_Ratio_of.b pass0 (Own.pe_gref (by rfl) T_Ratio.mgC) (pa_cons (pv 1) pa_nil)) (pv 0)))), ?_⟩
    obtain ⟨t, b, c, ty, hb, hc, hbc⟩ := hq.at_.info T_Ratio.toClT
    refine ⟨rfl, _, rfl, _, t, b, c, rfl, ty, hb, hc, _, rfl, iteNot hbc ?_⟩
    refine ⟨rfl, _, rfl, _, q, rfl, hq, fun r H2 hr2 s2 => ?_⟩
    obtain ⟨dx, fs, h1⟩ := hr2.ins
    have hp2 := hp.same s2
    exact ⟨_, rfl, r, dx, fs, rfl, h1, hp2.ri, r, _, q, p, rfl, hr2, hp2, ⟨zq.mono (by decide), zp.mono (by decide)⟩, ⟨h0, zq, zp⟩, fun a H3 s3 ha => k a H3 (s2.trans s3) ha⟩
theorem ok_rmod0 {f p1 f1 p3 f3 f4 : Addr} {fd fd1 fd3 fd4 : FuncData} (F : Fun K "__rmod__" "Ratio.__rmod__" sRMod f fd) (T_Ratio : RatT K mg C) (S_Ratio_is_number : Sta P w K mg base 2 C "is_number" p1 f1 fd1 ["value"] (spIsNum K C))
    (S_Ratio_of : Sta P w K mg base 4 C "of" p3 f3 fd3 ["number"] (spOfQ C)) (BMo : BinF K C .Mod) (M0 : FnOk P w K mg base (L2.CX P w) 6 f4 fd4 ["self", "other"] (spQuo0 C CN))
    (at_ : PySem.W.findIn K (.ref C) "__mod__" = some (some (.ref f4))) (fn : PySem.W.isFn K (.ref f4) = true) (b : Binds K fd4 ["self", "other"] []) :
    FnOk P w K mg base (L2.CX P w) 7 f fd ["self", "other"] (spRQuo0 C CN) := by
  refine F.okX scRMod (fun vs H Q E h => ?_) (fun cdv A outer s H vs Q E hr h => ?_)
  · obtain ⟨v, u, p, rfl, _⟩ := h
    rfl
  · obtain ⟨v, u, q, rfl, hp, hq, z, k⟩ := h
    have nd := scRMod.nd
    refine ⟨_, pss_cons (ps_if (pt_not (pt_val (Own.pe_smeth T_Ratio.rd S_Ratio_is_number.s S_Ratio_is_number.F (hr.mono (by decide)) S_Ratio_is_number.b pass0 (Own.pe_gref (by rfl) T_Ratio.mgC) (pa_cons (pv 1) pa_nil)))) pss_never pss_nil)
      (pss_one (ps_ret (pe_op (op_B BMo M0 (hr.mono (by decide)) at_ fn b (passes_call (takes_of rfl rfl rfl rfl) fun _ _ _ _ h => h)) (Own.pe_smeth T_Ratio.rd S_Ratio_of.s S_Ratio_of.F (hr.mono (by decide)) S_Ratio_of.b pass0 (Own.pe_gref (by rfl) T_Ratio.mgC) (pa_cons (pv 1) pa_nil)) (pv 0)))), ?_⟩
    obtain ⟨t, b, c, ty, hb, hc, hbc⟩ := hq.at_.info T_Ratio.toClT
    refine ⟨rfl, _, rfl, _, t, b, c, rfl, ty, hb, hc, _, rfl, iteNot hbc ?_⟩
    refine ⟨rfl, _, rfl, _, q, rfl, hq, fun r H2 hr2 s2 => ?_⟩
    obtain ⟨dx, fs, h1⟩ := hr2.ins
    have hp2 := hp.same s2
    exact ⟨_, rfl, r, dx, fs, rfl, h1, hp2.ri, _, _, q, rfl, .rat hr2, hp2, z, fun H3 s3 => k H3 (s2.trans s3)⟩
abbrev sRSub : Stmt := inClass (top 14) 11
theorem scRSub : FnScope ["self", "other"] ["self", "other"] (defScope sRSub) := ⟨rfl, rfl, rfl, by decide +kernel, rfl, by decide +kernel, by decide +kernel⟩
theorem ok_rsub {f g g2 : Addr} {fd gd gd2 : FuncData} (F : Fun K "__rsub__" "Ratio.__rsub__" sRSub f fd) (B : BinF K C .Add) (O_add : Opr P w K mg base 4 C "__add__" g gd ["self", "other"] (spBin C GT fun p q => p + q)) (O_neg : Opr P w K mg base 4 C "__neg__" g2 gd2 ["self"] (spUn C fun p => -p)) :
    FnOk P w K mg base CX0 5 f fd ["self", "other"] (spBin C GT fun p q => -p + q) := by
  refine F.ok scRSub (fun vs H Q E h => ?_) (fun cdv A outer s H vs Q E hr h => ?_)
  · obtain ⟨a, u, p, q, rfl, _⟩ := h
    rfl
  · obtain ⟨a, u, p, q, rfl, hp, hq, z, g, k⟩ := h
    have nd := scRSub.nd
    refine ⟨_, pss_one (ps_ret (pe_op (op_B B O_add.F (hr.mono (by decide)) O_add.at_ O_add.fn O_add.b pass0) (pe_un (Own.un_ownNeg O_neg.F (hr.mono (by decide)) O_neg.at_ O_neg.fn O_neg.b pass0) (pv 0)) (pv 1))), ?_⟩
    obtain ⟨dx, fs, h1⟩ := hp.ins
    refine ⟨_, rfl, a, dx, fs, rfl, h1, a, p, rfl, hp, z.1, fun x H1 s1 hx => ?_⟩
    obtain ⟨dx1, fs1, h2⟩ := hx.ins
    exact ⟨_, rfl, x, dx1, fs1, rfl, h2, (hq.same s1).ri, x, u, -p, q, rfl, hx, hq.same s1, ⟨z.1.neg, z.2⟩, g, fun y H2 s2 hy => k y H2 (s1.trans s2) hy⟩
/-! ### the five signs, whichever of the two is a Ratio -/
structure NR (C : Addr) (H : Hp) (x y : V) (p q : Rat) : Prop where
  hx : NumQ C H x p
  hy : NumQ C H y q
  r : (∃ a, x = .ref a) ∨ ∃ a, y = .ref a
theorem NumQ.ofref {H : Hp} {a : Addr} {q : Rat} (h : NumQ C H (.ref a) q) : RatQ C H a q := by
  cases h with
  | rat h => exact h
theorem NR.same {H H' : Hp} {x y : V} {p q : Rat} (h : NR C H x y p q) (s : Same H H') : NR C H' x y p q := ⟨h.hx.same s, h.hy.same s, h.r⟩
theorem NR.cases {H : Hp} {x y : V} {p q : Rat} (h : NR C H x y p q) : (∃ a, x = .ref a ∧ RatQ C H a p ∧ NumQ C H y q) ∨ ∃ (i : Int) (b : Addr), x = .int i ∧ p = i ∧ y = .ref b ∧ RatQ C H b q := by
  rcases h.hx.cases with ⟨i, rfl, rfl⟩ | ⟨a, rfl, ha⟩
  · rcases h.r with ⟨a, e⟩ | ⟨b, rfl⟩
    · cases e
    · exact .inr ⟨i, b, rfl, rfl, rfl, h.hy.ofref⟩
  · exact .inl ⟨a, rfl, ha, h.hy⟩
/-- x op y is a Ratio -/
def rN (C : Addr) (G : Rat → Rat → Prop) (f : Rat → Rat → Rat) : R2 := fun x y H Q => ∃ p q, NR C H x y p q ∧ (Sq 3900 p ∧ Sq 3900 q) ∧ G p q ∧ ∀ a H', Same H H' → RatQ C H' a (f p q) → Q (.ref a) H'
theorem opN {X : Cx} {op : Operator} {E E' : XK} {G G' : Rat → Rat → Prop} {f f' : Rat → Rat → Rat} (h1 : OpR X (binaryOp op) (Own.rOwnB C (spBin C G f) E)) (h2 : OpR X (binaryOp op) (Own.rReflB C (spBin C G' f') E')) (hG : ∀ p q, G p q → G' q p) (hf : ∀ p q, f' q p = f p q) : OpR X (binaryOp op) (rN C G f) := by
  intro pins s σ H x y v u Q I rx ry ⟨p, q, n, z, g, k⟩
  rcases n.cases with ⟨a, rfl, ha, hy⟩ | ⟨i, b, rfl, rfl, rfl, hb⟩
  · obtain ⟨dx, fs, hi⟩ := ha.ins
    exact h1 pins s σ H _ _ v u Q I rx ry ⟨a, dx, fs, rfl, hi, hy.ri, a, y, p, q, rfl, ha, hy, z, g, k⟩
  · obtain ⟨dx, fs, hi⟩ := hb.ins
    exact h2 pins s σ H _ _ v u Q I rx ry ⟨i, b, dx, fs, rfl, rfl, hi, b, _, q, _, rfl, hb, n.hx, ⟨z.2, z.1⟩, hG _ _ g, fun a H' s h => k a H' s (by rw [← hf]; exact h)⟩
/-- x op y is an int, or there is no divisor -/
def rNI (C : Addr) (f : Rat → Rat → Int) : R2 := fun x y H Q => ∃ p q, NR C H x y p q ∧ (Sq 3900 p ∧ Sq 3900 q) ∧ q ≠ 0 ∧ ∀ H', Same H H' → Q (.int (f p q)) H'
def rN0 (C CN : Addr) (E : XK) : R2 := fun x y H _ => ∃ p, NR C H x y p 0 ∧ Sq 3900 p ∧ ∀ H', Same H H' → E (.ref CN) none H'
theorem opQ {X : Cx} {E E' : XK} (h1 : OpR X (binaryOp .FloorDiv) (Own.rOwnB C (spQuo C) E)) (h2 : OpR X (binaryOp .FloorDiv) (Own.rReflB C (spRQuo C) E')) : OpR X (binaryOp .FloorDiv) (rNI C fun p q => (p / q).floor) := by
  intro pins s σ H x y v u Q I rx ry ⟨p, q, n, z, g, k⟩
  rcases n.cases with ⟨a, rfl, ha, hy⟩ | ⟨i, b, rfl, rfl, rfl, hb⟩
  · obtain ⟨dx, fs, hi⟩ := ha.ins
    exact h1 pins s σ H _ _ v u Q I rx ry ⟨a, dx, fs, rfl, hi, hy.ri, _, y, p, q, rfl, n.hx, hy, z, g, k⟩
  · obtain ⟨dx, fs, hi⟩ := hb.ins
    exact h2 pins s σ H _ _ v u Q I rx ry ⟨i, b, dx, fs, rfl, rfl, hi, _, _, q, _, rfl, n.hy, n.hx, ⟨z.2, z.1⟩, g, k⟩
theorem opM {X : Cx} {E E' : XK} (h1 : OpR X (binaryOp .Mod) (Own.rOwnB C (spMod C) E)) (h2 : OpR X (binaryOp .Mod) (Own.rReflB C (spRMod C) E')) : OpR X (binaryOp .Mod) (rN C (fun p q => q ≠ 0 ∧ Sq 1000 p ∧ Sq 1000 q) qmod) := by
  intro pins s σ H x y v u Q I rx ry ⟨p, q, n, z, g, k⟩
  rcases n.cases with ⟨a, rfl, ha, hy⟩ | ⟨i, b, rfl, rfl, rfl, hb⟩
  · obtain ⟨dx, fs, hi⟩ := ha.ins
    exact h1 pins s σ H _ _ v u Q I rx ry ⟨a, dx, fs, rfl, hi, hy.ri, a, y, p, q, rfl, ha, hy, z, g, k⟩
  · obtain ⟨dx, fs, hi⟩ := hb.ins
    exact h2 pins s σ H _ _ v u Q I rx ry ⟨i, b, dx, fs, rfl, rfl, hi, _, _, q, _, rfl, n.hy, n.hx, ⟨g.2.2, g.2.1⟩, g.1, k⟩
theorem op0 {X : Cx} {op : Operator} {E : XK} (h1 : OpR X (binaryOp op) (Own.rOwnB C (spQuo0 C CN) E)) (h2 : OpR X (binaryOp op) (Own.rReflB C (spRQuo0 C CN) E)) : OpR X (binaryOp op) (rN0 C CN E) := by
  intro pins s σ H x y v u Q I rx ry ⟨p, n, z, k⟩
  rcases n.cases with ⟨a, rfl, ha, hy⟩ | ⟨i, b, rfl, rfl, rfl, hb⟩
  · obtain ⟨dx, fs, hi⟩ := ha.ins
    exact h1 pins s σ H _ _ v u Q I rx ry ⟨a, dx, fs, rfl, hi, hy.ri, _, y, p, rfl, n.hx, hy, z, k⟩
  · obtain ⟨dx, fs, hi⟩ := hb.ins
    exact h2 pins s σ H _ _ v u Q I rx ry ⟨i, b, dx, fs, rfl, rfl, hi, _, _, _, rfl, n.hy, n.hx, z, k⟩
end
end Toy
set_option maxRecDepth 100000
set_option maxHeartbeats 4000000
set_option exponentiation.threshold 3000
namespace Toy
open PySem L2
open Rat (divInt)
/-- a row of numbers -/
inductive RowQ (C : Addr) (H : Hp) : List V → List Rat → Prop
  | nil : RowQ C H [] []
  | cons {v : V} {q : Rat} {vs : List V} {qs : List Rat} (h : NumQ C H v q) (r : RowQ C H vs qs) : RowQ C H (v :: vs) (q :: qs)
def sumQ : List Rat → Rat
  | [] => 0
  | q :: qs => q + sumQ qs
theorem sumQ_app (a b : List Rat) : sumQ (a ++ b) = sumQ a + sumQ b := by
  induction a with
  | nil => simp [sumQ, Rat.zero_add]
  | cons x r ih =>
    show x + sumQ (r ++ b) = x + sumQ r + sumQ b
    rw [ih, Rat.add_assoc]
theorem sumQ_sq {qs : List Rat} (h : ∀ q ∈ qs, Sq 130 q) : Sq (131 * qs.length + 1) (sumQ qs) := by
  induction qs with
  | nil => exact Sq.int (i := 0) (by decide) (by decide)
  | cons q r ih =>
    have h1 := (h q (List.mem_cons_self ..)).add (ih fun x hx => h x (List.mem_cons_of_mem _ hx))
    exact h1.mono (by rw [List.length_cons]; omega)
theorem RowQ.len {C : Addr} {H : Hp} {vs : List V} {qs : List Rat} (h : RowQ C H vs qs) : vs.length = qs.length := by
  induction h with
  | nil => rfl
  | cons _ _ ih => rw [List.length_cons, List.length_cons, ih]
theorem RowQ.same {C : Addr} {H H' : Hp} {vs : List V} {qs : List Rat} (h : RowQ C H vs qs) (s : Same H H') : RowQ C H' vs qs := by
  induction h with
  | nil => exact .nil
  | cons a _ ih => exact .cons (a.same s) ih
theorem RowQ.take {C : Addr} {H : Hp} {vs : List V} {qs : List Rat} (h : RowQ C H vs qs) (n : Nat) : RowQ C H (vs.take n) (qs.take n) := by
  induction h generalizing n with
  | nil => cases n <;> exact .nil
  | cons a _ ih =>
    cases n with
    | zero => exact .nil
    | succ n => exact .cons a (ih n)
theorem RowQ.drop {C : Addr} {H : Hp} {vs : List V} {qs : List Rat} (h : RowQ C H vs qs) (n : Nat) : RowQ C H (vs.drop n) (qs.drop n) := by
  induction h generalizing n with
  | nil => cases n <;> exact .nil
  | cons a r ih =>
    cases n with
    | zero => exact .cons a r
    | succ n => exact ih n
theorem RowQ.app {C : Addr} {H : Hp} {vs us : List V} {qs ps : List Rat} (h : RowQ C H vs qs) (g : RowQ C H us ps) : RowQ C H (vs ++ us) (qs ++ ps) := by
  induction h with
  | nil => exact g
  | cons a _ ih => exact .cons a ih
theorem RowQ.rev {C : Addr} {H : Hp} {vs : List V} {qs : List Rat} (h : RowQ C H vs qs) : RowQ C H vs.reverse qs.reverse := by
  induction h with
  | nil => exact .nil
  | cons a _ ih =>
    rw [List.reverse_cons, List.reverse_cons]
    exact ih.app (.cons a .nil)
theorem sumQ_rev (qs : List Rat) : sumQ qs.reverse = sumQ qs := by
  induction qs with
  | nil => rfl
  | cons q r ih =>
    rw [List.reverse_cons, sumQ_app, ih]
    show sumQ r + (q + 0) = q + sumQ r
    rw [Rat.add_zero, Rat.add_comm]
theorem RowQ.mem {C : Addr} {H : Hp} {vs : List V} {qs : List Rat} (h : RowQ C H vs qs) {v : V} (hv : v ∈ vs) : ∃ q ∈ qs, NumQ C H v q := by
  induction h with
  | nil => cases hv
  | cons a _ ih =>
    rcases List.mem_cons.mp hv with rfl | hv
    · exact ⟨_, List.mem_cons_self .., a⟩
    · obtain ⟨q, h1, h2⟩ := ih hv
      exact ⟨q, List.mem_cons_of_mem _ h1, h2⟩
theorem cut_lo (xs : List V) (n : Nat) (h : n ≤ xs.length) : cutV xs none (some (n : Int)) = xs.take n := by
  unfold cutV
  rw [HT.sIx_nat, HT.sIx_none, List.drop_zero, Nat.sub_zero, Nat.min_eq_left h]
theorem cut_hi (xs : List V) (n : Nat) (h : n ≤ xs.length) : cutV xs (some (n : Int)) none = xs.drop n := by
  unfold cutV
  rw [HT.sIx_nat, HT.sIx_none, Nat.min_eq_left h, List.take_of_length_le (by rw [List.length_drop]; omega)]
section
variable {P : Program} {w : World} {K : PySem.W.Frag} {mg : Str → Option Value} {base : Heap} {C CN CB : Addr}
def spSumL (K : PySem.W.Frag) (C : Addr) (d : Nat) : Sp := fun vs H Q _ => ∃ a us qs, vs = [.ref a] ∧ SqL K H a us ∧ RowQ C H us qs ∧ us.length ≤ 2 ^ d ∧ us.length ≤ 8 ∧ (∀ q ∈ qs, Sq 130 q) ∧ ∀ x H', Same H H' → RatQ C H' x (sumQ qs) → Q (.ref x) H'
def spSumT (K : PySem.W.Frag) (C : Addr) (d : Nat) : Sp := fun vs H Q _ => ∃ a us qs, vs = [.ref a] ∧ SqT K H a us ∧ RowQ C H us qs ∧ us.length ≤ 2 ^ d ∧ us.length ≤ 8 ∧ (∀ q ∈ qs, Sq 130 q) ∧ ∀ x H', Same H H' → RatQ C H' x (sumQ qs) → Q (.ref x) H'
abbrev sSmd : Stmt := top 19
theorem scSmd : FnScope ["numbers", "half"] ["numbers"] (defScope sSmd) := ⟨rfl, rfl, rfl, by decide +kernel, rfl, by decide +kernel, by decide +kernel⟩
theorem ok_sumL {f p1 f1 f2 g1 g2 : Addr} {fd fd1 fd2 gd1 gd2 : FuncData} {dvs : List Value} (F : Fun K "_summed" "_summed" sSmd f fd) (mgf : mg "_summed" = some (.ref f)) (b : Binds K fd ["numbers"] []) (T : Bl mg) (T_Ratio : RatT K mg C)
    (S_Ratio_of : Sta P w K mg base 4 C "of" p1 f1 fd1 ["number"] (spOfQ C)) (M_Ratio : Mak P w K mg base 2 "Ratio" C f2 fd2 ["self", "top", "bottom"] (spRInit C)) (hd : Vals [V.int 1] dvs) (hb1 : Binds K fd2 ["self", "top", "bottom"] dvs)
    (BA : BinF K C .Add) (O_add : Opr P w K mg base 4 C "__add__" g1 gd1 ["self", "other"] (spBin C GT fun p q => p + q)) : ∀ d, FnOk P w K mg base CX0 (5 + d) f fd ["numbers"] (spSumL K C d) := by
  intro d
  induction d with
  | zero =>
    refine F.ok scSmd (fun vs H Q E h => ?_) (fun cdv A outer s H vs Q E hr h => ?_)
    · obtain ⟨a, us, qs, rfl, _⟩ := h
      rfl
    · obtain ⟨a, us, qs, rfl, hl, hq, h1, _, hz, k⟩ := h
      have nd := scSmd.nd
      refine ⟨_, pss_cons (ps_if (pt_cmpR op_eq (pe_callB call_len (by rfl) T.len (by decide +kernel) (pa_cons (pv 0) pa_nil)) pe_int (nomark _)) (pss_one (ps_ret (pe_make M_Ratio.M M_Ratio.F (hr.mono (by decide)) (by rfl) M_Ratio.mgC hb1 hd pass0 (pa_cons pe_int pa_nil)))) pss_nil)
        (pss_cons (ps_if (pt_cmpR op_eq (pe_callB call_len (by rfl) T.len (by decide +kernel) (pa_cons (pv 0) pa_nil)) pe_int (nomark _)) (pss_one (ps_ret (Own.pe_smeth T_Ratio.rd S_Ratio_of.s S_Ratio_of.F (hr.mono (by decide)) S_Ratio_of.b pass0 (Own.pe_gref (by rfl) T_Ratio.mgC) (pa_cons (pe_ix ix_list (pv 0) pe_int (fun _ _ => rfl)) pa_nil)))) pss_nil) pss_never), ?_⟩
      refine ⟨_, rfl, _, _, rfl, .inl ⟨_, hl, rfl⟩, rfl, _, rfl, ?_⟩
      cases hq with
      | nil =>
        refine iteTb (by decide) ?_
        exact mkQ (t := 0) (b := 1) (q := 0) (by decide) Sz1 (by decide +kernel) fun x H' s1 hR => k x H' s1 hR
      | cons hv r =>
        cases r with
        | nil =>
          refine iteFb (by rw [vdec]; rfl) ⟨_, rfl, _, _, rfl, .inl ⟨_, hl, rfl⟩, rfl, _, rfl, iteTb (by rw [vdec]; rfl) ?_⟩
          refine ⟨rfl, _, rfl, _, _, _, _, rfl, rfl, hl, rfl, _, _, rfl, hv, fun r H' hR s => k r H' s ?_⟩
          show RatQ C H' r (_ + 0)
          rw [Rat.add_zero]
          exact hR
        | cons h2 r2 => exact absurd h1 (by simp only [List.length_cons]; omega)
  | succ d ih =>
    have C__summed : Cal P w K mg base (5 + d) "_summed" f fd ["numbers"] (spSumL K C d) := ⟨ih, mgf, F.kp, b⟩
    refine F.ok scSmd (fun vs H Q E h => ?_) (fun cdv A outer s H vs Q E hr h => ?_)
    · obtain ⟨a, us, qs, rfl, _⟩ := h
      rfl
    · obtain ⟨a, us, qs, rfl, hl, hq, h1, h8, hz, k⟩ := h
      have nd := scSmd.nd
      replace hr : Room (5 + d) _ := hr
      refine ⟨_, pss_cons (ps_if (pt_cmpR op_eq (pe_callB call_len (by rfl) T.len (by decide +kernel) (pa_cons (pv 0) pa_nil)) pe_int (nomark _)) (pss_one (ps_ret (pe_make M_Ratio.M M_Ratio.F (hr.mono (by omega)) (by rfl) M_Ratio.mgC hb1 hd pass0 (pa_cons pe_int pa_nil)))) pss_nil)
        (pss_cons (ps_if (pt_cmpR op_eq (pe_callB call_len (by rfl) T.len (by decide +kernel) (pa_cons (pv 0) pa_nil)) pe_int (nomark _)) (pss_one (ps_ret (Own.pe_smeth T_Ratio.rd S_Ratio_of.s S_Ratio_of.F (hr.mono (by omega)) S_Ratio_of.b pass0 (Own.pe_gref (by rfl) T_Ratio.mgC) (pa_cons (pe_ix ix_list (pv 0) pe_int (fun _ _ => rfl)) pa_nil)))) pss_nil)
        (pss_cons (ps_set (i := 1) nd rfl (Or.inl rfl) (pe_op op_fdivW (pe_callB call_len (by rfl) T.len (by decide +kernel) (pa_cons (pv 0) pa_nil)) pe_int))
        (pss_one (ps_ret (pe_op (op_B BA O_add.F (hr.mono (by omega)) O_add.at_ O_add.fn O_add.b pass0) (pe_call C__summed.F (hr.mono (by omega)) (by rfl) C__summed.mgf C__summed.kp C__summed.b .nil pass0 (pa_cons (pe_slice sl_list (pv 0) po_none (po_some (pv 1))) pa_nil)) (pe_call C__summed.F (hr.mono (by omega)) (by rfl) C__summed.mgf C__summed.kp C__summed.b .nil pass0 (pa_cons (pe_slice sl_list (pv 0) (po_some (pv 1)) po_none) pa_nil))))))), ?_⟩
      refine ⟨_, rfl, _, _, rfl, .inl ⟨_, hl, rfl⟩, rfl, _, rfl, ?_⟩
      have hlen := hq.len
      cases hq with
      | nil =>
        refine iteTb (by decide) ?_
        exact mkQ (t := 0) (b := 1) (q := 0) (by decide) Sz1 (by decide +kernel) fun x H' s1 hR => k x H' s1 hR
      | cons hv r =>
        cases r with
        | nil =>
          refine iteFb (by rw [vdec]; rfl) ⟨_, rfl, _, _, rfl, .inl ⟨_, hl, rfl⟩, rfl, _, rfl, iteTb (by rw [vdec]; rfl) ?_⟩
          refine ⟨rfl, _, rfl, _, _, _, _, rfl, rfl, hl, rfl, _, _, rfl, hv, fun r H' hR s => k r H' s ?_⟩
          show RatQ C H' r (_ + 0)
          rw [Rat.add_zero]
          exact hR
        | cons h2 r2 =>
          have hq := RowQ.cons hv (RowQ.cons h2 r2)
          rename_i v0 q0 v1 q1 vs2 qs2
          generalize hus : (v0 :: v1 :: vs2) = us at hl hq h1 h8 hlen k
          generalize hqs : (q0 :: q1 :: qs2) = qs at hq hz hlen k
          have h2n : 2 ≤ us.length := by rw [← hus]; simp only [List.length_cons]; omega
          refine iteFb (by rw [vdec]; exact decide_eq_false (by omega)) ⟨_, rfl, _, _, rfl, .inl ⟨_, hl, rfl⟩, rfl, _, rfl, iteFb (by rw [vdec]; exact decide_eq_false (by omega)) ?_⟩
          refine ⟨_, rfl, _, _, rfl, .inl ⟨_, hl, rfl⟩, _, _, rfl, rfl, ⟨by decide, by decide⟩, ?_⟩
          have e : ((us.length : Int) / 2) = ((us.length / 2 : Nat) : Int) := by omega
          have hn : us.length / 2 ≤ us.length := by omega
          refine ⟨_, rfl, _, rfl, _, rfl, a, us, rfl, hl, fun p1 hp1 => ?_⟩
          have s1 : Same H (upd H p1 (.lst (cutV us none (some ((us.length : Int) / 2))))) := same_new hp1
          rw [e] at s1
          refine ⟨p1, us.take (us.length / 2), qs.take (us.length / 2), rfl, ?_, (hq.take _).same s1, by rw [List.length_take]; omega, by rw [List.length_take]; omega, fun q h => hz q (List.mem_of_mem_take h), fun x H2 s2 hx => ?_⟩
          · rw [← cut_lo us _ hn, ← e]
            exact SqL.of upd_same
          have s12 := s1.trans (by rw [e] at s2; exact s2)
          have hl2 := hl.ext s12
          refine ⟨_, rfl, _, rfl, _, rfl, a, us, rfl, hl2, fun p2 hp2 => ?_⟩
          have s3 : Same H2 (upd H2 p2 (.lst (cutV us (some ((us.length : Int) / 2)) none))) := same_new hp2
          rw [e] at s3
          refine ⟨p2, us.drop (us.length / 2), qs.drop (us.length / 2), rfl, ?_, (hq.drop _).same (s12.trans s3), by rw [List.length_drop]; omega, by rw [List.length_drop]; omega, fun q h => hz q (List.mem_of_mem_drop h), fun y H3 s4 hy => ?_⟩
          · rw [← cut_hi us _ hn, ← e]
            exact SqL.of upd_same
          have s34 := s3.trans (by rw [e] at s4; exact s4)
          have hx3 := hx.same s34
          obtain ⟨dx, fs, hi⟩ := hx3.ins
          obtain ⟨dy, gs, hj⟩ := hy.ins
          have z1 := (sumQ_sq (qs := qs.take (us.length / 2)) fun q h => hz q (List.mem_of_mem_take h)).mono (k := 3900) (by rw [List.length_take]; omega)
          have z2 := (sumQ_sq (qs := qs.drop (us.length / 2)) fun q h => hz q (List.mem_of_mem_drop h)).mono (k := 3900) (by rw [List.length_drop]; omega)
          refine ⟨x, dx, fs, rfl, hi, .inr ⟨y, dy, gs, rfl, hj⟩, x, _, _, _, rfl, hx3, .rat hy, ⟨z1, z2⟩, True.intro, fun z H4 s5 hz4 => k z H4 ((s12.trans s34).trans s5) ?_⟩
          replace hz4 : RatQ C H4 z (sumQ (qs.take (us.length / 2)) + sumQ (qs.drop (us.length / 2))) := hz4
          rw [← sumQ_app, List.take_append_drop] at hz4
          exact hz4
theorem ok_sumT {f p1 f1 f2 g1 g2 : Addr} {fd fd1 fd2 gd1 gd2 : FuncData} {dvs : List Value} (F : Fun K "_summed" "_summed" sSmd f fd) (mgf : mg "_summed" = some (.ref f)) (b : Binds K fd ["numbers"] []) (T : Bl mg) (T_Ratio : RatT K mg C)
    (S_Ratio_of : Sta P w K mg base 4 C "of" p1 f1 fd1 ["number"] (spOfQ C)) (M_Ratio : Mak P w K mg base 2 "Ratio" C f2 fd2 ["self", "top", "bottom"] (spRInit C)) (hd : Vals [V.int 1] dvs) (hb1 : Binds K fd2 ["self", "top", "bottom"] dvs)
    (BA : BinF K C .Add) (O_add : Opr P w K mg base 4 C "__add__" g1 gd1 ["self", "other"] (spBin C GT fun p q => p + q)) : ∀ d, FnOk P w K mg base CX0 (5 + d) f fd ["numbers"] (spSumT K C d) := by
  intro d
  induction d with
  | zero =>
    refine F.ok scSmd (fun vs H Q E h => ?_) (fun cdv A outer s H vs Q E hr h => ?_)
    · obtain ⟨a, us, qs, rfl, _⟩ := h
      rfl
    · obtain ⟨a, us, qs, rfl, hl, hq, h1, _, hz, k⟩ := h
      have nd := scSmd.nd
      refine ⟨_, pss_cons (ps_if (pt_cmpR op_eq (pe_callB call_len (by rfl) T.len (by decide +kernel) (pa_cons (pv 0) pa_nil)) pe_int (nomark _)) (pss_one (ps_ret (pe_make M_Ratio.M M_Ratio.F (hr.mono (by decide)) (by rfl) M_Ratio.mgC hb1 hd pass0 (pa_cons pe_int pa_nil)))) pss_nil)
        (pss_cons (ps_if (pt_cmpR op_eq (pe_callB call_len (by rfl) T.len (by decide +kernel) (pa_cons (pv 0) pa_nil)) pe_int (nomark _)) (pss_one (ps_ret (Own.pe_smeth T_Ratio.rd S_Ratio_of.s S_Ratio_of.F (hr.mono (by decide)) S_Ratio_of.b pass0 (Own.pe_gref (by rfl) T_Ratio.mgC) (pa_cons (pe_ix ix_tup (pv 0) pe_int (fun _ _ => rfl)) pa_nil)))) pss_nil) pss_never), ?_⟩
      refine ⟨_, rfl, _, _, rfl, .inr ⟨_, hl, rfl⟩, rfl, _, rfl, ?_⟩
      cases hq with
      | nil =>
        refine iteTb (by decide) ?_
        exact mkQ (t := 0) (b := 1) (q := 0) (by decide) Sz1 (by decide +kernel) fun x H' s1 hR => k x H' s1 hR
      | cons hv r =>
        cases r with
        | nil =>
          refine iteFb (by rw [vdec]; rfl) ⟨_, rfl, _, _, rfl, .inr ⟨_, hl, rfl⟩, rfl, _, rfl, iteTb (by rw [vdec]; rfl) ?_⟩
          refine ⟨rfl, _, rfl, _, _, _, _, rfl, rfl, hl, rfl, _, _, rfl, hv, fun r H' hR s => k r H' s ?_⟩
          show RatQ C H' r (_ + 0)
          rw [Rat.add_zero]
          exact hR
        | cons h2 r2 => exact absurd h1 (by simp only [List.length_cons]; omega)
  | succ d ih =>
    have C__summed : Cal P w K mg base (5 + d) "_summed" f fd ["numbers"] (spSumT K C d) := ⟨ih, mgf, F.kp, b⟩
    refine F.ok scSmd (fun vs H Q E h => ?_) (fun cdv A outer s H vs Q E hr h => ?_)
    · obtain ⟨a, us, qs, rfl, _⟩ := h
      rfl
    · obtain ⟨a, us, qs, rfl, hl, hq, h1, h8, hz, k⟩ := h
      have nd := scSmd.nd
      replace hr : Room (5 + d) _ := hr
      refine ⟨_, pss_cons (ps_if (pt_cmpR op_eq (pe_callB call_len (by rfl) T.len (by decide +kernel) (pa_cons (pv 0) pa_nil)) pe_int (nomark _)) (pss_one (ps_ret (pe_make M_Ratio.M M_Ratio.F (hr.mono (by omega)) (by rfl) M_Ratio.mgC hb1 hd pass0 (pa_cons pe_int pa_nil)))) pss_nil)
        (pss_cons (ps_if (pt_cmpR op_eq (pe_callB call_len (by rfl) T.len (by decide +kernel) (pa_cons (pv 0) pa_nil)) pe_int (nomark _)) (pss_one (ps_ret (Own.pe_smeth T_Ratio.rd S_Ratio_of.s S_Ratio_of.F (hr.mono (by omega)) S_Ratio_of.b pass0 (Own.pe_gref (by rfl) T_Ratio.mgC) (pa_cons (pe_ix ix_tup (pv 0) pe_int (fun _ _ => rfl)) pa_nil)))) pss_nil)
        (pss_cons (ps_set (i := 1) nd rfl (Or.inl rfl) (pe_op op_fdivW (pe_callB call_len (by rfl) T.len (by decide +kernel) (pa_cons (pv 0) pa_nil)) pe_int))
        (pss_one (ps_ret (pe_op (op_B BA O_add.F (hr.mono (by omega)) O_add.at_ O_add.fn O_add.b pass0) (pe_call C__summed.F (hr.mono (by omega)) (by rfl) C__summed.mgf C__summed.kp C__summed.b .nil pass0 (pa_cons (pe_slice sl_tup (pv 0) po_none (po_some (pv 1))) pa_nil)) (pe_call C__summed.F (hr.mono (by omega)) (by rfl) C__summed.mgf C__summed.kp C__summed.b .nil pass0 (pa_cons (pe_slice sl_tup (pv 0) (po_some (pv 1)) po_none) pa_nil))))))), ?_⟩
      refine ⟨_, rfl, _, _, rfl, .inr ⟨_, hl, rfl⟩, rfl, _, rfl, ?_⟩
      have hlen := hq.len
      cases hq with
      | nil =>
        refine iteTb (by decide) ?_
        exact mkQ (t := 0) (b := 1) (q := 0) (by decide) Sz1 (by decide +kernel) fun x H' s1 hR => k x H' s1 hR
      | cons hv r =>
        cases r with
        | nil =>
          refine iteFb (by rw [vdec]; rfl) ⟨_, rfl, _, _, rfl, .inr ⟨_, hl, rfl⟩, rfl, _, rfl, iteTb (by rw [vdec]; rfl) ?_⟩
          refine ⟨rfl, _, rfl, _, _, _, _, rfl, rfl, hl, rfl, _, _, rfl, hv, fun r H' hR s => k r H' s ?_⟩
          show RatQ C H' r (_ + 0)
          rw [Rat.add_zero]
          exact hR
        | cons h2 r2 =>
          have hq := RowQ.cons hv (RowQ.cons h2 r2)
          rename_i v0 q0 v1 q1 vs2 qs2
          generalize hus : (v0 :: v1 :: vs2) = us at hl hq h1 h8 hlen k
          generalize hqs : (q0 :: q1 :: qs2) = qs at hq hz hlen k
          have h2n : 2 ≤ us.length := by rw [← hus]; simp only [List.length_cons]; omega
          refine iteFb (by rw [vdec]; exact decide_eq_false (by omega)) ⟨_, rfl, _, _, rfl, .inr ⟨_, hl, rfl⟩, rfl, _, rfl, iteFb (by rw [vdec]; exact decide_eq_false (by omega)) ?_⟩
          refine ⟨_, rfl, _, _, rfl, .inr ⟨_, hl, rfl⟩, _, _, rfl, rfl, ⟨by decide, by decide⟩, ?_⟩
          have e : ((us.length : Int) / 2) = ((us.length / 2 : Nat) : Int) := by omega
          have hn : us.length / 2 ≤ us.length := by omega
          refine ⟨_, rfl, _, rfl, _, rfl, a, us, rfl, hl, fun h => by have h2 := h; rw [show (some ((us.length : Int) / 2)) = some ((us.length / 2 : Nat) : Int) from congrArg some e] at h2; rw [HT.sIx_nat, HT.sIx_none] at h2; omega, fun p1 hp1 => ?_⟩
          have s1 : Same H (upd H p1 (.tup (cutV us none (some ((us.length : Int) / 2))))) := same_new hp1
          rw [e] at s1
          refine ⟨p1, us.take (us.length / 2), qs.take (us.length / 2), rfl, ?_, (hq.take _).same s1, by rw [List.length_take]; omega, by rw [List.length_take]; omega, fun q h => hz q (List.mem_of_mem_take h), fun x H2 s2 hx => ?_⟩
          · rw [← cut_lo us _ hn, ← e]
            exact SqT.of upd_same
          have s12 := s1.trans (by rw [e] at s2; exact s2)
          have hl2 := hl.ext s12
          refine ⟨_, rfl, _, rfl, _, rfl, a, us, rfl, hl2, fun h => by have h2 := h; rw [show (some ((us.length : Int) / 2)) = some ((us.length / 2 : Nat) : Int) from congrArg some e] at h2; rw [HT.sIx_nat, HT.sIx_none] at h2; omega, fun p2 hp2 => ?_⟩
          have s3 : Same H2 (upd H2 p2 (.tup (cutV us (some ((us.length : Int) / 2)) none))) := same_new hp2
          rw [e] at s3
          refine ⟨p2, us.drop (us.length / 2), qs.drop (us.length / 2), rfl, ?_, (hq.drop _).same (s12.trans s3), by rw [List.length_drop]; omega, by rw [List.length_drop]; omega, fun q h => hz q (List.mem_of_mem_drop h), fun y H3 s4 hy => ?_⟩
          · rw [← cut_hi us _ hn, ← e]
            exact SqT.of upd_same
          have s34 := s3.trans (by rw [e] at s4; exact s4)
          have hx3 := hx.same s34
          obtain ⟨dx, fs, hi⟩ := hx3.ins
          obtain ⟨dy, gs, hj⟩ := hy.ins
          have z1 := (sumQ_sq (qs := qs.take (us.length / 2)) fun q h => hz q (List.mem_of_mem_take h)).mono (k := 3900) (by rw [List.length_take]; omega)
          have z2 := (sumQ_sq (qs := qs.drop (us.length / 2)) fun q h => hz q (List.mem_of_mem_drop h)).mono (k := 3900) (by rw [List.length_drop]; omega)
          refine ⟨x, dx, fs, rfl, hi, .inr ⟨y, dy, gs, rfl, hj⟩, x, _, _, _, rfl, hx3, .rat hy, ⟨z1, z2⟩, True.intro, fun z H4 s5 hz4 => k z H4 ((s12.trans s34).trans s5) ?_⟩
          replace hz4 : RatQ C H4 z (sumQ (qs.take (us.length / 2)) + sumQ (qs.drop (us.length / 2))) := hz4
          rw [← sumQ_app, List.take_append_drop] at hz4
          exact hz4
end
end Toy
set_option maxRecDepth 100000
set_option maxHeartbeats 4000000
set_option exponentiation.threshold 3000
namespace Toy
open PySem L2
open Rat (divInt)
section
variable {P : Program} {w : World} {K : PySem.W.Frag} {mg : Str → Option Value} {base : Heap} {C CN CB : Addr}
abbrev sTot : Stmt := inClass (top 14) 4
theorem scTot : FnScope ["numbers", "number"] ["numbers"] (defScope sTot) := ⟨rfl, rfl, rfl, by decide +kernel, rfl, by decide +kernel, by decide +kernel⟩
def LT : List Value := [.type "list", .type "tuple"]
theorem any_lst {K : PySem.W.Frag} : PySem.W.kitAny K (.type "list") LT = some true := kitAny_cons (b := true) (kit_ty (by decide +kernel)) (fun z => nomatch z) fun _ => rfl
theorem any_tup {K : PySem.W.Frag} : PySem.W.kitAny K (.type "tuple") LT = some true := kitAny_cons (b := false) (kit_ty (by decide +kernel)) (fun _ => kitAny_cons (b := true) (kit_ty (by decide +kernel)) (fun z => nomatch z) fun _ => rfl) fun z => nomatch z
theorem any_no {K : PySem.W.Frag} {t : Value} (h1 : PySem.W.kitOne K t (.type "list") = some false) (h2 : PySem.W.kitOne K t (.type "tuple") = some false) : PySem.W.kitAny K t LT = some false := kitAny_cons (b := false) h1 (fun _ => kitAny_cons (b := false) h2 (fun _ => kitAny_nil) fun z => nomatch z) fun z => nomatch z
theorem clsLT : Paired ClsV [.ty "list", .ty "tuple"] LT := .cons (.ty _) (.cons (.ty _) .nil)
/-- a Ratio or an integer -/
def Num1 (K : PySem.W.Frag) (C : Addr) (H : Hp) (v : V) : Prop := ∃ t b c, TyX K H v t ∧ isIntK K t b ∧ PySem.W.kitOne K t (.ref C) = some c ∧ (b || c) = true
def NoNum (K : PySem.W.Frag) (C : Addr) (H : Hp) (v : V) : Prop := ∃ t, TyX K H v t ∧ isIntK K t false ∧ PySem.W.kitOne K t (.ref C) = some false
theorem num1 (T : RatT K mg C) {H : Hp} {v : V} {q : Rat} (h : NumQ C H v q) : Num1 K C H v := by
  obtain ⟨t, b, c, ty, hb, hc, hbc⟩ := h.at_.info T.toClT
  exact ⟨t, b, c, ty, hb, hc, hbc⟩
def spTotL (K : PySem.W.Frag) (C : Addr) : Sp := fun vs H Q _ => ∃ a us qs, vs = [.ref a] ∧ H a = some (.lst us) ∧ RowQ C H us qs ∧ us.length ≤ 8 ∧ (∀ q ∈ qs, Sq 130 q) ∧ ∀ x H', Same H H' → RatQ C H' x (sumQ qs) → Q (.ref x) H'
def spTotT (K : PySem.W.Frag) (C : Addr) : Sp := fun vs H Q _ => ∃ a us qs, vs = [.ref a] ∧ H a = some (.tup us) ∧ RowQ C H us qs ∧ us.length ≤ 8 ∧ (∀ q ∈ qs, Sq 130 q) ∧ ∀ x H', Same H H' → RatQ C H' x (sumQ qs) → Q (.ref x) H'
theorem ok_totL {f p1 f1 f2 : Addr} {fd fd1 fd2 : FuncData} (F : Fun K "total" "Ratio.total" sTot f fd) (T : Bl mg) (zt : mg "tuple" = none) (T_Ratio : RatT K mg C) (S_Ratio_is_number : Sta P w K mg base 2 C "is_number" p1 f1 fd1 ["value"] (spIsNum K C))
    (C__summed : Cal P w K mg base 8 "_summed" f2 fd2 ["numbers"] (spSumL K C 3)) : FnOk P w K mg base CX0 9 f fd ["numbers"] (spTotL K C) := by
  refine F.ok scTot (fun vs H Q E h => ?_) (fun cdv A outer s H vs Q E hr h => ?_)
  · obtain ⟨a, us, qs, rfl, _⟩ := h
    rfl
  · obtain ⟨a, us, qs, rfl, hl, hq, h8, hz, k⟩ := h
    have nd := scTot.nd
    refine ⟨_, pss_cons (ps_if (pt_not (pt_val (pe_callB call_isiT (by rfl) T.isinstance (by decide +kernel) (pa_cons (pv 0) (pa_cons (pe_tup (pa_cons (pe_bltn (v := .ty "list") (u := .type "list") (by rfl) T.list (by decide +kernel) rfl) (pa_cons (pe_bltn (v := .ty "tuple") (u := .type "tuple") (by rfl) zt (by decide +kernel) rfl) pa_nil))) pa_nil))))) pss_never pss_nil)
      (pss_cons (ps_for PassesOwn.never rfl (pi_list (pv 0)) (pg_name (i := 1) nd rfl (Or.inl rfl)) (pss_one (ps_if (pt_not (pt_val (Own.pe_smeth T_Ratio.rd S_Ratio_is_number.s S_Ratio_is_number.F (hr.mono (by decide)) S_Ratio_is_number.b pass0 (Own.pe_gref (by rfl) T_Ratio.mgC) (pa_cons (pv 1) pa_nil)))) pss_never pss_nil)))
      (pss_one (ps_ret (pe_call C__summed.F (hr.mono (by decide)) (by rfl) C__summed.mgf C__summed.kp C__summed.b .nil pass0 (pa_cons (pv 0) pa_nil))))), ?_⟩
    refine ⟨_, rfl, (by decide : 2 ≤ sizeLine), fun tp htp => ⟨_, tp, _, _, LT, true, rfl, upd_same, clsLT, .base (.lst (same_new htp _ _ hl)), any_lst, _, rfl, iteF ?_⟩⟩
    have s1 : Same H (upd H tp (.tup [.ty "list", .ty "tuple"])) := same_new htp
    have hl1 := s1 _ _ hl
    refine ⟨_, rfl, a, rfl, ⟨_, SqL.of hl1⟩, ?_⟩
    refine for_list (xs := us) (K := K) (a := a) (fun j σ H' => ∃ y, σ = [some (.ref a), y] ∧ Same H H') ⟨_, rfl, s1⟩ (fun j σ H' _ ⟨y, e, s⟩ => SqL.of (s _ _ hl)) ?_ ?_
    · rintro j x σ H3 hx ⟨y, rfl, s3⟩
      obtain ⟨q, _, hn⟩ := hq.mem (List.mem_of_getElem? hx)
      obtain ⟨t, b, c, ty, hb, hc, hbc⟩ := num1 T_Ratio (hn.same s3)
      refine ⟨rfl, _, rfl, _, t, b, c, rfl, ty, hb, hc, _, rfl, iteNot hbc ?_⟩
      exact ⟨_, rfl, s3⟩
    · rintro σ H3 ⟨y, rfl, s3⟩
      exact ⟨_, rfl, a, us, qs, rfl, SqL.of (s3 _ _ hl), hq.same s3, h8, h8, hz, fun x H' s hx => k x H' (s3.trans s) hx⟩
theorem ok_totT {f p1 f1 f2 : Addr} {fd fd1 fd2 : FuncData} (F : Fun K "total" "Ratio.total" sTot f fd) (T : Bl mg) (zt : mg "tuple" = none) (T_Ratio : RatT K mg C) (S_Ratio_is_number : Sta P w K mg base 2 C "is_number" p1 f1 fd1 ["value"] (spIsNum K C))
    (C__summed : Cal P w K mg base 8 "_summed" f2 fd2 ["numbers"] (spSumT K C 3)) : FnOk P w K mg base CX0 9 f fd ["numbers"] (spTotT K C) := by
  refine F.ok scTot (fun vs H Q E h => ?_) (fun cdv A outer s H vs Q E hr h => ?_)
  · obtain ⟨a, us, qs, rfl, _⟩ := h
    rfl
  · obtain ⟨a, us, qs, rfl, hl, hq, h8, hz, k⟩ := h
    have nd := scTot.nd
    refine ⟨_, pss_cons (ps_if (pt_not (pt_val (pe_callB call_isiT (by rfl) T.isinstance (by decide +kernel) (pa_cons (pv 0) (pa_cons (pe_tup (pa_cons (pe_bltn (v := .ty "list") (u := .type "list") (by rfl) T.list (by decide +kernel) rfl) (pa_cons (pe_bltn (v := .ty "tuple") (u := .type "tuple") (by rfl) zt (by decide +kernel) rfl) pa_nil))) pa_nil))))) pss_never pss_nil)
      (pss_cons (ps_for PassesOwn.never rfl (pi_tup (pv 0)) (pg_name (i := 1) nd rfl (Or.inl rfl)) (pss_one (ps_if (pt_not (pt_val (Own.pe_smeth T_Ratio.rd S_Ratio_is_number.s S_Ratio_is_number.F (hr.mono (by decide)) S_Ratio_is_number.b pass0 (Own.pe_gref (by rfl) T_Ratio.mgC) (pa_cons (pv 1) pa_nil)))) pss_never pss_nil)))
      (pss_one (ps_ret (pe_call C__summed.F (hr.mono (by decide)) (by rfl) C__summed.mgf C__summed.kp C__summed.b .nil pass0 (pa_cons (pv 0) pa_nil))))), ?_⟩
    refine ⟨_, rfl, (by decide : 2 ≤ sizeLine), fun tp htp => ⟨_, tp, _, _, LT, true, rfl, upd_same, clsLT, .base (.tup (same_new htp _ _ hl)), any_tup, _, rfl, iteF ?_⟩⟩
    have s1 : Same H (upd H tp (.tup [.ty "list", .ty "tuple"])) := same_new htp
    have hl1 := s1 _ _ hl
    refine ⟨_, rfl, a, rfl, ⟨_, SqT.of hl1⟩, ?_⟩
    refine for_tup (xs := us) (K := K) (a := a) (fun j σ H' => ∃ y, σ = [some (.ref a), y] ∧ Same H H') ⟨_, rfl, s1⟩ (fun j σ H' _ ⟨y, e, s⟩ => SqT.of (s _ _ hl)) ?_ ?_
    · rintro j x σ H3 hx ⟨y, rfl, s3⟩
      obtain ⟨q, _, hn⟩ := hq.mem (List.mem_of_getElem? hx)
      obtain ⟨t, b, c, ty, hb, hc, hbc⟩ := num1 T_Ratio (hn.same s3)
      refine ⟨rfl, _, rfl, _, t, b, c, rfl, ty, hb, hc, _, rfl, iteNot hbc ?_⟩
      exact ⟨_, rfl, s3⟩
    · rintro σ H3 ⟨y, rfl, s3⟩
      exact ⟨_, rfl, a, us, qs, rfl, SqT.of (s3 _ _ hl), hq.same s3, h8, h8, hz, fun x H' s hx => k x H' (s3.trans s) hx⟩
/-- what is no list or tuple of numbers: another value, or one with a first wrong item -/
def BadTot (K : PySem.W.Frag) (C : Addr) (H : Hp) (v : V) : Prop := (∃ t, TyX K H v t ∧ PySem.W.kitAny K t LT = some false) ∨ (∃ a us u ws, v = .ref a ∧ H a = some (.lst (us ++ u :: ws)) ∧ (∀ x ∈ us, Num1 K C H x) ∧ NoNum K C H u) ∨ ∃ a u ws, v = .ref a ∧ H a = some (.tup (u :: ws)) ∧ NoNum K C H u
def spTotBad (K : PySem.W.Frag) (C CB : Addr) : Sp := fun vs H _ E => ∃ v, vs = [v] ∧ BadTot K C H v ∧ ∀ d H', Same H H' → H' d = some (.xd [("part", .str "numbers")]) → E (.ref CB) (some d) H'
end
end Toy
set_option maxRecDepth 100000
set_option maxHeartbeats 4000000
set_option exponentiation.threshold 3000
namespace Toy
open PySem L2
open Rat (divInt)
section
variable {P : Program} {w : World} {K : PySem.W.Frag} {mg : Str → Option Value} {base : Heap} {C CN CB : Addr}
theorem TyX.same {K : PySem.W.Frag} {H H' : Hp} {v : V} {t : Value} (h : TyX K H v t) (s : Same H H') : TyX K H' v t := by
  have k : ∀ {a : Addr} {o : HO}, H a = some o → H' a = some o := fun e => s _ _ e
  cases h with
  | base b =>
    refine .base ?_
    cases b with
    | non => exact .non
    | bl x => exact .bl x
    | int i => exact .int i
    | str x => exact .str x
    | flt x => exact .flt x
    | lst e => exact .lst (k e)
    | frz e => exact .frz (k e)
    | tup e => exact .tup (k e)
    | dK e => exact .dK (k e)
    | dT e => exact .dT (k e)
    | ins e cl ha hn htk hm => exact .ins (k e) cl ha hn htk hm
  | byt b => exact .byt b
  | set e => exact .set (k e)
  | kList e c => exact .kList e c
  | kTuple e c => exact .kTuple e c
  | kDict e c => exact .kDict e c
  | fTuple e => exact .fTuple (k e)
  | fDict e => exact .fDict (k e)
theorem Num1.same {H H' : Hp} {v : V} (h : Num1 K C H v) (s : Same H H') : Num1 K C H' v := let ⟨t, b, c, ty, r⟩ := h; ⟨t, b, c, TyX.same ty s, r⟩
theorem NoNum.same {H H' : Hp} {v : V} (h : NoNum K C H v) (s : Same H H') : NoNum K C H' v := let ⟨t, ty, r⟩ := h; ⟨t, TyX.same ty s, r⟩
theorem ok_totbad {f p1 f1 fB : Addr} {fd fd1 fdB : FuncData} (F : Fun K "total" "Ratio.total" sTot f fd) (T : Bl mg) (zt : mg "tuple" = none) (T_Ratio : RatT K mg C) (S_Ratio_is_number : Sta P w K mg base 2 C "is_number" p1 f1 fd1 ["value"] (spIsNum K C))
    (TB : ErT K mg "BadRatio" "part" CB fB) (FB : FnOk P w K mg base CX0 1 fB fdB ["self", "part"] (spErI CB "part")) (bB : Binds K fdB ["self", "part"] []) : FnOk P w K mg base (L2.CX P w) 9 f fd ["numbers"] (spTotBad K C CB) := by
  refine F.okX scTot (fun vs H Q E h => ?_) (fun cdv A outer s H vs Q E hr h => ?_)
  · obtain ⟨v, rfl, _⟩ := h
    rfl
  · obtain ⟨v, rfl, hv, k⟩ := h
    have nd := scTot.nd
    rcases hv with ⟨t, ty, no⟩ | ⟨a, us, u, ws, rfl, hl, hus, hu⟩ | ⟨a, u, ws, rfl, hl, hu⟩
    · refine ⟨_, pss_cons (ps_if (pt_not (pt_val (pe_callB call_isiT (by rfl) T.isinstance (by decide +kernel) (pa_cons (pv 0) (pa_cons (pe_tup (pa_cons (pe_bltn (v := .ty "list") (u := .type "list") (by rfl) T.list (by decide +kernel) rfl) (pa_cons (pe_bltn (v := .ty "tuple") (u := .type "tuple") (by rfl) zt (by decide +kernel) rfl) pa_nil))) pa_nil))))) (pss_one (ps_raise (by rfl) (takes_of rfl rfl rfl rfl) (pmk_oex TB.o TB.ini TB.tyI FB (hr.mono (by decide)) bB .nil pass0 (by rfl) TB.mgC (pa_cons pe_str pa_nil)))) pss_nil) pss_never, ?_⟩
      refine ⟨_, rfl, (by decide : 2 ≤ sizeLine), fun tp htp => ⟨_, tp, _, t, LT, false, rfl, upd_same, clsLT, TyX.same ty (same_new htp), no, _, rfl, iteT ?_⟩⟩
      have s1 : Same H (upd H tp (.tup [.ty "list", .ty "tuple"])) := same_new htp
      exact ⟨by decide, fun a ha => erI_go ha fun d H2 _ s hd => k d H2 (s1.trans s) hd⟩
    · refine ⟨_, pss_cons (ps_if (pt_not (pt_val (pe_callB call_isiT (by rfl) T.isinstance (by decide +kernel) (pa_cons (pv 0) (pa_cons (pe_tup (pa_cons (pe_bltn (v := .ty "list") (u := .type "list") (by rfl) T.list (by decide +kernel) rfl) (pa_cons (pe_bltn (v := .ty "tuple") (u := .type "tuple") (by rfl) zt (by decide +kernel) rfl) pa_nil))) pa_nil))))) pss_never pss_nil) (pss_cons (ps_for (passes_of rfl) rfl (pi_list (pv 0)) (pg_name (i := 1) nd rfl (Or.inl rfl)) (pss_one (ps_if (pt_not (pt_val (Own.pe_smeth T_Ratio.rd S_Ratio_is_number.s S_Ratio_is_number.F (hr.mono (by decide)) S_Ratio_is_number.b pass0 (Own.pe_gref (by rfl) T_Ratio.mgC) (pa_cons (pv 1) pa_nil)))) (pss_one (ps_raise (by rfl) (takes_of rfl rfl rfl rfl) (pmk_oex TB.o TB.ini TB.tyI FB (hr.mono (by decide)) bB .nil pass0 (by rfl) TB.mgC (pa_cons pe_str pa_nil)))) pss_nil))) pss_never), ?_⟩
      refine ⟨_, rfl, (by decide : 2 ≤ sizeLine), fun tp htp => ⟨_, tp, _, _, LT, true, rfl, upd_same, clsLT, .base (.lst (same_new htp _ _ hl)), any_lst, _, rfl, iteF ?_⟩⟩
      have s1 : Same H (upd H tp (.tup [.ty "list", .ty "tuple"])) := same_new htp
      have hl1 := s1 _ _ hl
      refine ⟨_, rfl, a, rfl, ⟨_, SqL.of hl1⟩, ?_⟩
      refine for_list (xs := us ++ u :: ws) (K := K) (a := a) (fun j σ H' => ∃ y, σ = [some (.ref a), y] ∧ Same H H' ∧ j ≤ us.length) ⟨_, rfl, s1, Nat.zero_le _⟩ (fun j σ H' _ ⟨y, e, s, _⟩ => SqL.of (s _ _ hl)) ?_ ?_
      · rintro j x σ H3 hx ⟨y, rfl, s3, hj⟩
        by_cases hlt : j < us.length
        · rw [List.getElem?_append_left hlt] at hx
          obtain ⟨t, b, c, ty, hb, hc, hbc⟩ := (hus x (List.mem_of_getElem? hx)).same s3
          refine ⟨rfl, _, rfl, _, t, b, c, rfl, ty, hb, hc, _, rfl, iteNot hbc ?_⟩
          exact ⟨_, rfl, s3, by omega⟩
        · have e : j = us.length := by omega
          subst e
          rw [List.getElem?_append_right (Nat.le_refl _), Nat.sub_self] at hx
          obtain rfl : u = x := Option.some.inj hx
          obtain ⟨t, ty, hi, hk⟩ := hu.same s3
          refine ⟨rfl, _, rfl, _, t, false, false, rfl, ty, hi, hk, _, rfl, iteT ?_⟩
          exact ⟨by decide, fun a ha => erI_go ha fun d H2 _ s hd => k d H2 (s3.trans s) hd⟩
      · rintro σ H3 ⟨y, rfl, s3, hj⟩
        rw [List.length_append, List.length_cons] at hj
        omega
    · refine ⟨_, pss_cons (ps_if (pt_not (pt_val (pe_callB call_isiT (by rfl) T.isinstance (by decide +kernel) (pa_cons (pv 0) (pa_cons (pe_tup (pa_cons (pe_bltn (v := .ty "list") (u := .type "list") (by rfl) T.list (by decide +kernel) rfl) (pa_cons (pe_bltn (v := .ty "tuple") (u := .type "tuple") (by rfl) zt (by decide +kernel) rfl) pa_nil))) pa_nil))))) pss_never pss_nil) (pss_cons (ps_for (passes_of rfl) rfl (pi_tup (pv 0)) (pg_name (i := 1) nd rfl (Or.inl rfl)) (pss_one (ps_if (pt_not (pt_val (Own.pe_smeth T_Ratio.rd S_Ratio_is_number.s S_Ratio_is_number.F (hr.mono (by decide)) S_Ratio_is_number.b pass0 (Own.pe_gref (by rfl) T_Ratio.mgC) (pa_cons (pv 1) pa_nil)))) (pss_one (ps_raise (by rfl) (takes_of rfl rfl rfl rfl) (pmk_oex TB.o TB.ini TB.tyI FB (hr.mono (by decide)) bB .nil pass0 (by rfl) TB.mgC (pa_cons pe_str pa_nil)))) pss_nil))) pss_never), ?_⟩
      refine ⟨_, rfl, (by decide : 2 ≤ sizeLine), fun tp htp => ⟨_, tp, _, _, LT, true, rfl, upd_same, clsLT, .base (.tup (same_new htp _ _ hl)), any_tup, _, rfl, iteF ?_⟩⟩
      have s1 : Same H (upd H tp (.tup [.ty "list", .ty "tuple"])) := same_new htp
      have hl1 := s1 _ _ hl
      refine ⟨_, rfl, a, rfl, ⟨_, SqT.of hl1⟩, ?_⟩
      refine for_tup (xs := u :: ws) (K := K) (a := a) (fun j σ H' => ∃ y, σ = [some (.ref a), y] ∧ Same H H' ∧ j = 0) ⟨_, rfl, s1, rfl⟩ (fun j σ H' _ ⟨y, e, s, _⟩ => SqT.of (s _ _ hl)) ?_ ?_
      · rintro j x σ H3 hx ⟨y, rfl, s3, rfl⟩
        obtain rfl : u = x := Option.some.inj hx
        obtain ⟨t, ty, hi, hk⟩ := hu.same s3
        refine ⟨rfl, _, rfl, _, t, false, false, rfl, ty, hi, hk, _, rfl, iteT ?_⟩
        exact ⟨by decide, fun a ha => erI_go ha fun d H2 _ s hd => k d H2 (s3.trans s) hd⟩
      · rintro σ H3 ⟨y, rfl, s3, hj⟩
        rw [List.length_cons] at hj
        omega
end
end Toy
set_option maxRecDepth 100000
set_option maxHeartbeats 4000000
set_option exponentiation.threshold 3000
namespace Toy
open PySem L2
open Rat (divInt)
def pairD (n d : Int) : PyData := .tuple [.int n, .int d]
def endT (q : Rat) : Str := (pairD q.num q.den).shown
theorem log_lt {i : Int} (h : i.natAbs < 2 ^ 1900) : i.natAbs.log2 < 1920 := by
  by_cases hz : i.natAbs = 0
  · rw [hz]; decide
  · have := (Nat.log2_lt hz).mpr h
    omega
theorem pairD_len {n d : Int} (h1 : n.natAbs < 2 ^ 1900) (h2 : d.natAbs < 2 ^ 1900) : (pairD n d).shown.length ≤ sizeLine := by
  have a := (show (Str.ofString (toString n)).length ≤ 1921 by rw [PySem.ofString_length]; exact PySem.int_text_length_le (k := 1920) (by decide) (log_lt h1))
  have b := (show (Str.ofString (toString d)).length ≤ 1921 by rw [PySem.ofString_length]; exact PySem.int_text_length_le (k := 1920) (by decide) (log_lt h2))
  have e : (pairD n d).shown = ("(" : Str) ++ ((Str.ofString (toString n)) ++ ", " ++ (Str.ofString (toString d))) ++ ((")" : String) : Str) := rfl
  rw [e, strLen_append, strLen_append, strLen_append, strLen_append, sizeLine_eq]
  have c1 : ((", " : String) : Str).length = 2 := rfl
  have c2 : (("(" : String) : Str).length = 1 := rfl
  have c3 : ((")" : String) : Str).length = 1 := rfl
  omega
section
variable {P : Program} {w : World} {K : PySem.W.Frag} {mg : Str → Option Value} {base : Heap} {C CN CB : Addr}
theorem rep_pair {H : Hp} {a : Addr} {n d : Int} (h : H a = some (.tup [.int n, .int d])) (h1 : n.natAbs < 2 ^ 1900) (h2 : d.natAbs < 2 ^ 1900) : Own.ReprOf K H (.ref a) (pairD n d).shown := by
  refine .dat (d := pairD n d) (.tup (SqT.of h) (.cons (.int _) (.cons (.int _) .nil))) ?_ rfl (Nat.le_of_ble_eq_true rfl) (pairD_len h1 h2)
  simp only [pairD, PyData.showable, PyData.showableAll, decide_eq_true (log_lt h1), decide_eq_true (log_lt h2), Bool.and_self]
theorem rep_q {H : Hp} {a : Addr} {q : Rat} (h : H a = some (.tup [.int q.num, .int (q.den : Int)])) (z : Sq 1900 q) : Own.ReprOf K H (.ref a) (endT q) := rep_pair h z.1 z.dd
structure CalG (P : Program) (w : World) (K : PySem.W.Frag) (mg : Str → Option Value) (base : Heap) (k : Nat) (x : Str) (f : Addr) (fd : FuncData) (ps : List Str) (sp : Sp) : Prop where
  F : Own.FnG P w K mg base CX0 k f fd ps sp
  mgf : mg x = some (.ref f)
  kp : PySem.W.keepIn K (.ref f) = true
  b : Binds K fd ps []
/-! ### the ends of a Ratio -/
def spEnds (C : Addr) : Sp := fun vs H Q _ => ∃ a q, vs = [.ref a] ∧ RatQ C H a q ∧ Sq 1900 q ∧ ∀ H', Same H H' → Q (.str (endT q)) H'
abbrev sEnds : Stmt := top 28
theorem scEnds : FnScope ["_law_value"] ["_law_value"] (defScope sEnds) := ⟨rfl, rfl, rfl, by decide +kernel, rfl, by decide +kernel, by decide +kernel⟩
theorem ok_ends {f : Addr} {fd : FuncData} (F : Fun K "_law_ends" "_law_ends" sEnds f fd) (T : Bl mg) (zr : mg "repr" = none) (T_Ratio : RatT K mg C) : Own.FnG P w K mg base CX0 1 f fd ["_law_value"] (spEnds C) := by
  refine Own.okG F scEnds (fun vs H Q E h => ?_) (fun cdv A outer s H vs Q E hg hr h => ?_)
  · obtain ⟨a, q, rfl, _⟩ := h
    rfl
  · obtain ⟨a, q, rfl, hR, z, k⟩ := h
    have nd := scEnds.nd
    refine ⟨_, pss_one (ps_ret (pe_ifExp (pt_val (pe_callB call_isi (by rfl) T.isinstance (by decide +kernel) (pa_cons (pv 0) (pa_cons (Own.pe_gref (by rfl) T_Ratio.mgC) pa_nil)))) (pe_callB (Own.call_reprA hg hr.units) (by rfl) zr (by decide +kernel) (pa_cons (pe_tup (pa_cons (pe_fld (pv 0) rfl) (pa_cons (pe_fld (pv 0) rfl) pa_nil))) pa_nil)) pe_str)), ?_⟩
    obtain ⟨dx, h⟩ := id hR
    refine ⟨_, rfl, _, _, _, _, true, rfl, .own _, T_Ratio.ty h, T_Ratio.kS, _, rfl, iteT ?_⟩
    refine ⟨_, rfl, a, C, dx, _, _, rfl, h, T_Ratio.cl, T_Ratio.nT, ratF_top _ _, _, rfl, a, C, dx, _, _, rfl, h, T_Ratio.cl, T_Ratio.nB, ratF_bot _ _, (by decide : 2 ≤ sizeLine), fun t ht => ?_⟩
    exact ⟨_, _, rfl, rep_q upd_same z, k _ (same_new ht)⟩
/-! ### a number of a pair -/
def spNumber (C : Addr) : Sp := fun vs H Q _ => ∃ p cc k t q, vs = [.ref p, .ref t] ∧ Pen H p cc k ∧ k ≤ 900000 ∧ H t = some (.tup [.int q.num, .int (q.den : Int)]) ∧ t ≠ p ∧ Sq 130 q ∧ ∀ u H', NumQ C H' u q → Pen H' p cc (k + 1) → But p H H' → Q u H'
abbrev sNumber : Stmt := top 29
theorem scNb : FnScope ["_law_pen_here", "_law_pair_here"] ["_law_pen_here", "_law_pair_here"] (defScope sNumber) := ⟨rfl, rfl, rfl, by decide +kernel, rfl, by decide +kernel, by decide +kernel⟩
theorem ok_number {f f1 f2 : Addr} {fd fd1 fd2 : FuncData} (F : Fun K "_law_number" "_law_number" sNumber f fd) (C__law_draw : Cal P w K mg base 1 "_law_draw" f1 fd1 ["_law_pen_here", "_law_many"] spDraw) (M_Ratio : Mak P w K mg base 2 "Ratio" C f2 fd2 ["self", "top", "bottom"] (spRInit C)) :
    FnOk P w K mg base CX0 4 f fd ["_law_pen_here", "_law_pair_here"] (spNumber C) := by
  refine F.ok scNb (fun vs H Q E h => ?_) (fun cdv A outer s H vs Q E hr h => ?_)
  · obtain ⟨p, cc, k, t, q, rfl, _⟩ := h
    rfl
  · obtain ⟨p, cc, k, t, q, rfl, hP, hk, ht, hne, z, kk⟩ := h
    have nd := scNb.nd
    refine ⟨_, pss_one (ps_ret (pe_ifExp (PW.pt (pw_and (pt_cmpR op_eq (pe_ix ix_tup (pv 1) pe_int (fun _ _ => rfl)) pe_int (nomark _)) (pw_and1 (pt_cmpR op_eq (pe_call C__law_draw.F (hr.mono (by decide)) (by rfl) C__law_draw.mgf C__law_draw.kp C__law_draw.b .nil pass0 (pa_cons (pv 0) (pa_cons pe_int pa_nil))) pe_int (nomark _))))) (pe_ix ix_tup (pv 1) pe_int (fun _ _ => rfl)) (pe_make M_Ratio.M M_Ratio.F (hr.mono (by decide)) (by rfl) M_Ratio.mgC M_Ratio.b .nil pass0 (pa_cons (pe_ix ix_tup (pv 1) pe_int (fun _ _ => rfl)) (pa_cons (pe_ix ix_tup (pv 1) pe_int (fun _ _ => rfl)) pa_nil))))), ?_⟩
    have mk : ∀ H1, H1 t = some (.tup [.int q.num, .int (q.den : Int)]) → Pen H1 p cc (k + 1) → But p H H1 → _ := fun H1 h1 hP1 hB1 => mkQ (H1 := H1) (C := C) (t := q.num) (b := (q.den : Int)) (Q := fun v H' => Q v H') (E := E0) (den_ne q) ((z.mono (by decide : 130 ≤ 8000)).2 : Sz (q.den : Int)) (Rat.num_divInt_den q) fun x H' s r => kk _ H' (.rat r) (hP1.same s) (hB1.trans (But.same s))
    refine ⟨_, rfl, t, _, _, _, rfl, rfl, SqT.of ht, rfl, rfl, ?_⟩
    have mkg : ∀ H1, H1 t = some (.tup [.int q.num, .int (q.den : Int)]) → Pen H1 p cc (k + 1) → But p H H1 → tMake C (spRInit C) [] E0 (tCons (tOp (rIxT K) (tVar 1) (tC (V.int 0))) (tCons (tOp (rIxT K) (tVar 1) (tC (V.int 1))) tNil)) (L2.start ["_law_pen_here", "_law_pair_here"] [V.ref p, V.ref t]) H1 Q := fun H1 h1 hP1 hB1 => by
      refine ⟨_, rfl, t, _, _, _, rfl, rfl, SqT.of h1, rfl, _, rfl, t, _, _, _, rfl, rfl, SqT.of h1, rfl, ?_⟩
      exact mk H1 h1 hP1 hB1
    refine ⟨_, rfl, ?_⟩
    by_cases h1 : (q.den : Int) = 1
    · refine iteTb (by rw [vdec]; exact decide_eq_true h1) ?_
      refine ⟨_, rfl, p, cc, 2, k, rfl, hP, by omega, by decide, by decide +kernel, fun z1 H1 z0 zz P1 B1 => ⟨rfl, _, rfl, ?_⟩⟩
      have ht1 := B1 _ _ ht hne
      refine ite2 (fun _ => ?_) (fun _ => mkg H1 ht1 P1 B1)
      refine ⟨_, rfl, t, _, _, _, rfl, rfl, SqT.of ht1, rfl, ?_⟩
      have e : q = (q.num : Rat) := by
        have e2 := Rat.num_divInt_den q
        rw [h1, q_int] at e2
        exact e2.symm
      exact kk _ H1 (by rw [e, Rat.num_intCast]; exact .int _) P1 B1
    · exact iteFb (by rw [vdec]; exact decide_eq_false h1) (mkg H ht (hP.mono (by omega)) (But.same (Same.refl H)))
end
end Toy
set_option maxRecDepth 100000
set_option maxHeartbeats 4000000
set_option exponentiation.threshold 3000
namespace Toy
open PySem L2
open Rat (divInt)
section
variable {P : Program} {w : World} {K : PySem.W.Frag} {mg : Str → Option Value} {base : Heap} {C CN CB : Addr}
/-! ### what is shown of what was heard -/
inductive Heard (C : Addr) (H : Hp) : V → V → Prop
  | div {t : Addr} (h : H t = some (.tup [.str "divisor", .non])) : Heard C H (.ref t) (.ref t)
  | rat {l a : Addr} {q : Rat} (h : H l = some (.lst [.ref a])) (r : RatQ C H a q) (z : Sq 1900 q) : Heard C H (.ref l) (.str (endT q))
  | int {l : Addr} {i : Int} (h : H l = some (.lst [.int i])) (z : i.natAbs < 2 ^ 1900) : Heard C H (.ref l) (.str (Str.ofString (toString i)))
theorem Heard.same {H H' : Hp} {v r : V} (h : Heard C H v r) (s : Same H H') : Heard C H' v r := by
  cases h with
  | div h => exact .div (s _ _ h)
  | rat h r z => exact .rat (s _ _ h) (r.same s) z
  | int h z => exact .int (s _ _ h) z
def spShown (C : Addr) : Sp := fun vs H Q _ => ∃ v r, vs = [v] ∧ Heard C H v r ∧ ∀ H', Same H H' → Q r H'
abbrev sShown : Stmt := top 30
theorem scShown : FnScope ["_law_heard_here"] ["_law_heard_here"] (defScope sShown) := ⟨rfl, rfl, rfl, by decide +kernel, rfl, by decide +kernel, by decide +kernel⟩
theorem ok_shown {f f1 : Addr} {fd fd1 : FuncData} (F : Fun K "_law_shown" "_law_shown" sShown f fd) (T : Bl mg) (zr : mg "repr" = none) (zt : mg "tuple" = none) (T_Ratio : RatT K mg C) (G_ends : CalG P w K mg base 1 "_law_ends" f1 fd1 ["_law_value"] (spEnds C)) : Own.FnG P w K mg base CX0 2 f fd ["_law_heard_here"] (spShown C) := by
  refine Own.okG F scShown (fun vs H Q E h => ?_) (fun cdv A outer s H vs Q E hg hr h => ?_)
  · obtain ⟨v, r, rfl, _⟩ := h
    rfl
  · obtain ⟨v, r, rfl, hv, k⟩ := h
    have nd := scShown.nd
    refine ⟨_, pss_cons (ps_if (pt_val (pe_callB call_isi (by rfl) T.isinstance (by decide +kernel) (pa_cons (pv 0) (pa_cons (pe_bltn (v := .ty "tuple") (u := .type "tuple") (by rfl) zt (by decide +kernel) rfl) pa_nil)))) (pss_one (ps_ret (pv 0))) pss_nil)
      (pss_one (ps_ret (pe_ifExp (pt_val (pe_callB call_isi (by rfl) T.isinstance (by decide +kernel) (pa_cons (pe_ix ix_list (pv 0) pe_int (fun _ _ => rfl)) (pa_cons (Own.pe_gref (by rfl) T_Ratio.mgC) pa_nil)))) (Own.pe_callG G_ends.F hg (hr.mono (by decide)) (by rfl) G_ends.mgf G_ends.kp G_ends.b pass0 (pa_cons (pe_ix ix_list (pv 0) pe_int (fun _ _ => rfl)) pa_nil)) (pe_callB (Own.call_reprA hg hr.units) (by rfl) zr (by decide +kernel) (pa_cons (pe_ix ix_list (pv 0) pe_int (fun _ _ => rfl)) pa_nil))))), ?_⟩
    cases hv with
    | div h =>
      refine ⟨_, rfl, _, _, _, _, true, rfl, .ty _, .base (.tup h), kit_ty (by decide +kernel), _, rfl, iteT ?_⟩
      exact ⟨_, rfl, k H (Same.refl H)⟩
    | rat h r z =>
      refine ⟨_, rfl, _, _, _, _, false, rfl, .ty _, .base (.lst h), kit_ty (by decide +kernel), _, rfl, iteF ?_⟩
      obtain ⟨dx, hi⟩ := id r
      refine ⟨_, rfl, _, _, _, _, rfl, rfl, SqL.of h, rfl, _, _, _, _, true, rfl, .own _, T_Ratio.ty hi, T_Ratio.kS, _, rfl, iteT ?_⟩
      exact ⟨_, rfl, _, _, _, _, rfl, rfl, SqL.of h, rfl, _, _, rfl, r, z, fun H' s => k H' s⟩
    | int h z =>
      refine ⟨_, rfl, _, _, _, _, false, rfl, .ty _, .base (.lst h), kit_ty (by decide +kernel), _, rfl, iteF ?_⟩
      refine ⟨_, rfl, _, _, _, _, rfl, rfl, SqL.of h, rfl, _, _, _, _, false, rfl, .own _, .base (.int _), T_Ratio.iK, _, rfl, iteF ?_⟩
      exact ⟨_, rfl, _, _, _, _, rfl, rfl, SqL.of h, rfl, _, _, rfl, .int _ (log_lt z), k H (Same.refl H)⟩
/-! ### the quotient by its rest -/
def spFloor : Sp := fun vs H Q _ => ∃ t b : Int, vs = [.int t, .int b] ∧ b ≠ 0 ∧ Sz b ∧ Q (.int (divInt t b).floor) H
abbrev sFloor : Stmt := top 31
theorem scFloor : FnScope ["_law_top", "_law_bottom"] ["_law_top", "_law_bottom"] (defScope sFloor) := ⟨rfl, rfl, rfl, by decide +kernel, rfl, by decide +kernel, by decide +kernel⟩
theorem rest_div (t : Int) {b : Int} (h : b ≠ 0) : (t - t % b) / b = t / b := by
  have e := Int.mul_ediv_add_emod t b
  rw [show t - t % b = b * (t / b) by omega, Int.mul_ediv_cancel_left _ h]
theorem ok_floor {f : Addr} {fd : FuncData} (F : Fun K "_law_floor" "_law_floor" sFloor f fd) (T : Bl mg) : FnOk P w K mg base CX0 1 f fd ["_law_top", "_law_bottom"] spFloor := by
  refine F.ok scFloor (fun vs H Q E h => ?_) (fun cdv A outer s H vs Q E hr h => ?_)
  · obtain ⟨t, b, rfl, _⟩ := h
    rfl
  · obtain ⟨t, b, rfl, h0, z, k⟩ := h
    have nd := scFloor.nd
    refine ⟨_, C8.pss_cut (ps_if (pt_cmpR op_lt (pv 1) pe_int (nomark _)) (pss_one (ps_par (i := 0) (j := 1) (by rfl) nd rfl rfl (by decide) rfl rfl (pa_cons (pe_op op_sub pe_int (pv 0)) (pa_cons (pe_op op_sub pe_int (pv 1)) pa_nil)) (by rfl))) pss_nil)
      (pss_one (ps_ret (pe_op op_fdivW (pe_op op_sub (pv 0) (pe_op op_mod (pe_callTy call_int1 (by rfl) T.int (by decide +kernel) (pa_cons (pv 0) pa_nil)) (pv 1))) (pv 1)))), ?_⟩
    refine ⟨fun σ H' => ∃ x y : Int, σ = [some (.int x), some (.int y)] ∧ 0 < y ∧ Sz y ∧ x / y = (divInt t b).floor ∧ H' = H, ?_, ?_⟩
    · refine ⟨_, rfl, _, _, rfl, rfl, _, rfl, ?_⟩
      by_cases hb : b < 0
      · refine iteTb (decide_eq_true hb) ?_
        refine ⟨_, rfl, _, _, rfl, rfl, _, rfl, _, _, rfl, rfl, _, _, rfl, ?_⟩
        refine ⟨0 - t, 0 - b, rfl, by omega, by rw [Int.zero_sub]; exact z.neg, ?_, rfl⟩
        rw [← q_fdiv h0, ← Int.neg_fdiv_neg, Int.fdiv_eq_ediv_of_nonneg _ (by omega), Int.zero_sub, Int.zero_sub]
      · refine iteFb (decide_eq_false hb) ?_
        refine ⟨t, b, rfl, by omega, z, ?_, rfl⟩
        rw [← q_fdiv h0, Int.fdiv_eq_ediv_of_nonneg _ (by omega)]
    · rintro σ H' ⟨x, y, rfl, y0, zy, e, rfl⟩
      refine ⟨_, rfl, _, rfl, .inl ⟨_, rfl, _, rfl, _, _, rfl, rfl, y0, _, _, rfl, rfl, _, rfl, _, _, rfl, rfl, zy.divW y0, ?_⟩⟩
      show Q (.int ((x - x % y) / y)) H'
      rw [rest_div x (by omega), e]
      exact k
end
end Toy
set_option maxRecDepth 100000
set_option maxHeartbeats 4000000
set_option exponentiation.threshold 9000
namespace Toy
open PySem L2
open Rat (divInt)
section
variable {P : Program} {w : World} {K : PySem.W.Frag} {mg : Str → Option Value} {base : Heap} {C CN CB : Addr}
abbrev intT (i : Int) : Str := Str.ofString (toString i)
def Due (H : Hp) (l : Addr) (p q : Rat) : Prop := ∃ x y, H l = some (.lst [.str (endT (p + q)), .str (endT (p - q)), .str (endT (p * q)), x, y]) ∧ ((q = 0 ∧ ∃ t, x = .ref t ∧ y = .ref t ∧ H t = some (.tup [.str "divisor", .non])) ∨ (q ≠ 0 ∧ x = .str (intT (p / q).floor) ∧ y = .str (endT (qmod p q))))
def spDue : Sp := fun vs H Q _ => ∃ t1 t2 p q, vs = [.ref t1, .ref t2] ∧ H t1 = some (.tup [.int p.num, .int (p.den : Int)]) ∧ H t2 = some (.tup [.int q.num, .int (q.den : Int)]) ∧ (Sq 130 p ∧ Sq 130 q) ∧ ∀ l H', Same H H' → Due H' l p q → Q (.ref l) H'
abbrev sDue : Stmt := top 32
theorem scDue : FnScope ["_law_one", "_law_other", "_law_a", "_law_b", "_law_c", "_law_d", "_law_due_here", "_law_whole", "_law_pair_here"] ["_law_one", "_law_other"] (defScope sDue) := ⟨rfl, rfl, rfl, by decide +kernel, rfl, by decide +kernel, by decide +kernel⟩
theorem _root_.Own.call_reprK {X : Cx} {K : PySem.W.Frag} (e : X.K = K) (hg : X.A.guards = some []) (hu : X.A.units + 64 < cLine) : CallR X (.builtin "repr") (Own.rReprA K) := e ▸ Own.call_reprA hg hu
theorem reprs {H1 : Hp} {D c1 c2 c3 : Addr} {e1 e2 e3 : Rat} (h1 : H1 c1 = some (.tup [.int e1.num, .int (e1.den : Int)])) (h2 : H1 c2 = some (.tup [.int e2.num, .int (e2.den : Int)])) (h3 : H1 c3 = some (.tup [.int e3.num, .int (e3.den : Int)])) (z1 : Sq 1900 e1) (z2 : Sq 1900 e2) (z3 : Sq 1900 e3) {H' : Hp} (hB : But D H1 H') (n1 : c1 ≠ D) (n2 : c2 ≠ D) (n3 : c3 ≠ D) :
    ∀ (j : Nat) (v : V), ([V.ref c1, .ref c2, .ref c3] : List V)[j]? = some v → ∃ t : Str, ([V.str (endT e1), .str (endT e2), .str (endT e3)] : List V)[j]? = some (V.str t) ∧ Own.ReprOf K H' v t := by
  intro j v hv
  match j, hv with
  | 0, hv => cases hv; exact ⟨_, rfl, rep_q (hB _ _ h1 n1) z1⟩
  | 1, hv => cases hv; exact ⟨_, rfl, rep_q (hB _ _ h2 n2) z2⟩
  | 2, hv => cases hv; exact ⟨_, rfl, rep_q (hB _ _ h3 n3) z3⟩
theorem floor_le {p q : Rat} {j k : Nat} (zp : Sq j p) (zq : Sq k q) (h : q ≠ 0) : (p / q).floor.natAbs < 2 ^ (j + k) := by
  have h1 := (zp.div zq h).1
  rw [Rat.floor_def]
  exact Nat.lt_of_le_of_lt (Int.natAbs_ediv_le_natAbs (p / q).num ((p / q).den : Int)) h1
theorem q_rest (p q : Rat) (W : Int) : divInt (p.num * q.den - W * q.num * p.den) ((p.den : Int) * q.den) = p - (W : Rat) * q := by
  have e1 : (W : Rat) * q = divInt (W * q.num) (q.den : Int) := by
    have e := Rat.divInt_mul_divInt W q.num (d₁ := 1) (d₂ := (q.den : Int))
    rw [q_int, Rat.num_divInt_den, Int.one_mul] at e
    exact e
  rw [e1]
  have e2 := Rat.divInt_sub_divInt p.num (W * q.num) (d₁ := (p.den : Int)) (d₂ := (q.den : Int)) (den_ne p) (den_ne q)
  rw [Rat.num_divInt_den] at e2
  exact e2.symm
theorem qmod_sq {p q : Rat} (zp : Sq 130 p) (zq : Sq 130 q) (h : q ≠ 0) : Sq 521 (qmod p q) := zp.sub ((Sq.int (floor_le zp zq h) (by decide)).mul zq)
theorem ok_due {f f1 f2 : Addr} {fd fd1 fd2 : FuncData} (F : Fun K "_law_due" "_law_due" sDue f fd) (zr : mg "repr" = none) (C__law_lowest : Cal P w K mg base 1 "_law_lowest" f1 fd1 ["_law_top", "_law_bottom"] spLowest) (C__law_floor : Cal P w K mg base 1 "_law_floor" f2 fd2 ["_law_top", "_law_bottom"] spFloor) : Own.FnG P w K mg base CX0 2 f fd ["_law_one", "_law_other"] spDue := by
  refine Own.okG F scDue (fun vs H Q E h => ?_) (fun cdv A outer s H vs Q E hg hr h => ?_)
  · obtain ⟨t1, t2, p, q, rfl, _⟩ := h
    rfl
  · obtain ⟨t1, t2, p, q, rfl, h1, h2, ⟨zp, zq⟩, k⟩ := h
    have nd := scDue.nd
    have yp : Sq 3900 p := zp.mono (by decide)
    have yq : Sq 3900 q := zq.mono (by decide)
    have sz : ∀ {a : Int} {m : Nat}, a.natAbs < 2 ^ m → m ≤ 8000 → Sz a := fun h e => Nat.lt_of_lt_of_le h (Nat.pow_le_pow_right (by decide) e)
    refine ⟨_, pss_cons (ps_asg (pe_tup (pa_cons (pv 0) (pa_cons (pv 1) pa_nil))) (pg_tup (by rfl) (pgs_cons (pg_tup (by rfl) (pgs_cons (pg_name (i := 2) nd rfl (Or.inl rfl)) (pgs_cons (pg_name (i := 3) nd rfl (Or.inl rfl)) pgs_nil))) (pgs_cons (pg_tup (by rfl) (pgs_cons (pg_name (i := 4) nd rfl (Or.inl rfl)) (pgs_cons (pg_name (i := 5) nd rfl (Or.inl rfl)) pgs_nil))) pgs_nil))))
      (pss_cons (ps_set (i := 6) nd rfl (Or.inl rfl) (pe_lst (pa_cons (pe_call C__law_lowest.F (hr.mono (by decide)) (by rfl) C__law_lowest.mgf C__law_lowest.kp C__law_lowest.b .nil pass0 (pa_cons (pe_op op_add (pe_op op_mulW (pv 2) (pv 5)) (pe_op op_mulW (pv 4) (pv 3))) (pa_cons (pe_op op_mulW (pv 3) (pv 5)) pa_nil))) (pa_cons (pe_call C__law_lowest.F (hr.mono (by decide)) (by rfl) C__law_lowest.mgf C__law_lowest.kp C__law_lowest.b .nil pass0 (pa_cons (pe_op op_sub (pe_op op_mulW (pv 2) (pv 5)) (pe_op op_mulW (pv 4) (pv 3))) (pa_cons (pe_op op_mulW (pv 3) (pv 5)) pa_nil))) (pa_cons (pe_call C__law_lowest.F (hr.mono (by decide)) (by rfl) C__law_lowest.mgf C__law_lowest.kp C__law_lowest.b .nil pass0 (pa_cons (pe_op op_mulW (pv 2) (pv 4)) (pa_cons (pe_op op_mulW (pv 3) (pv 5)) pa_nil))) pa_nil)))))
      (pss_cons (ps_if (pt_cmpR op_eq (pv 4) pe_int (nomark _)) (pss_one (ps_ret (pe_op op_cat (pe_lc (own := [("_law_pair_here", 8)]) (g := gName 8) (tt := tYes) rfl nd (pi_list (pv 6)) (blkOk_by (N := ["_law_one", "_law_other", "_law_a", "_law_b", "_law_c", "_law_d", "_law_due_here", "_law_whole", "_law_pair_here"]) (sc := defScope (top 32)) (by decide +kernel)) (fun _ _ _ _ _ => pg_name (i := 8) nd rfl (Or.inl rfl)) (fun _ _ _ _ _ => pts_nil) (fun _ _ _ _ _ => (pe_callB (Own.call_reprK (K := K) rfl hg hr.units) (by rfl) zr (by decide +kernel) (pa_cons (pv 8) pa_nil)))) (pe_op op_rep (pe_lst (pa_cons (pe_tup (pa_cons pe_str (pa_cons pe_non pa_nil))) pa_nil)) pe_int)))) pss_nil)
      (pss_cons (ps_set (i := 7) nd rfl (Or.inl rfl) (pe_call C__law_floor.F (hr.mono (by decide)) (by rfl) C__law_floor.mgf C__law_floor.kp C__law_floor.b .nil pass0 (pa_cons (pe_op op_mulW (pv 2) (pv 5)) (pa_cons (pe_op op_mulW (pv 3) (pv 4)) pa_nil))))
      (pss_one (ps_ret (pe_op op_cat (pe_lc (own := [("_law_pair_here", 8)]) (g := gName 8) (tt := tYes) rfl nd (pi_list (pv 6)) (blkOk_by (N := ["_law_one", "_law_other", "_law_a", "_law_b", "_law_c", "_law_d", "_law_due_here", "_law_whole", "_law_pair_here"]) (sc := defScope (top 32)) (by decide +kernel)) (fun _ _ _ _ _ => pg_name (i := 8) nd rfl (Or.inl rfl)) (fun _ _ _ _ _ => pts_nil) (fun _ _ _ _ _ => (pe_callB (Own.call_reprK (K := K) rfl hg hr.units) (by rfl) zr (by decide +kernel) (pa_cons (pv 8) pa_nil)))) (pe_lst (pa_cons (pe_callB (Own.call_reprA hg hr.units) (by rfl) zr (by decide +kernel) (pa_cons (pv 7) pa_nil)) (pa_cons (pe_callB (Own.call_reprA hg hr.units) (by rfl) zr (by decide +kernel) (pa_cons (pe_call C__law_lowest.F (hr.mono (by decide)) (by rfl) C__law_lowest.mgf C__law_lowest.kp C__law_lowest.b .nil pass0 (pa_cons (pe_op op_sub (pe_op op_mulW (pv 2) (pv 5)) (pe_op op_mulW (pe_op op_mulW (pv 7) (pv 4)) (pv 3))) (pa_cons (pe_op op_mulW (pv 3) (pv 5)) pa_nil))) pa_nil)) pa_nil))))))))), ?_⟩
    refine ⟨_, rfl, _, rfl, (by decide : 2 ≤ sizeLine), fun e0 he0 => ⟨_, _, rfl, SqT.of upd_same, rfl, _, _, rfl, ⟨_, _, rfl, SqT.of (same_new he0 _ _ h1), rfl, _, _, rfl, _, _, rfl, rfl, _, _, rfl, ⟨_, _, rfl, SqT.of (same_new he0 _ _ h2), rfl, _, _, rfl, _, _, rfl, rfl, rfl, ?_⟩⟩⟩⟩
    have s0 : Same H (upd H e0 (.tup [.ref t1, .ref t2])) := same_new he0
    have dne : (p.den : Int) * q.den ≠ 0 := dm_ne p q
    refine ⟨_, rfl, _, rfl, _, _, rfl, rfl, (z4 yp).1.mul (z4 yq).2, _, rfl, _, rfl, _, _, rfl, rfl, (z4 yq).1.mul (z4 yp).2, _, _, rfl, rfl, _, rfl, _, rfl, _, _, rfl, rfl, (z4 yp).2.mul (z4 yq).2, _, _, rfl, dne, sz (yp.tadd yq) (by decide), szd yp yq, fun c1 hc1 => ?_⟩
    rw [q_add] at *
    have s1 := s0.trans (same_new (o := .tup [.int (p + q).num, .int ((p + q).den : Int)]) hc1)
    refine ⟨_, rfl, _, rfl, _, _, rfl, rfl, (z4 yp).1.mul (z4 yq).2, _, rfl, _, rfl, _, _, rfl, rfl, (z4 yq).1.mul (z4 yp).2, _, _, rfl, rfl, _, rfl, _, rfl, _, _, rfl, rfl, (z4 yp).2.mul (z4 yq).2, _, _, rfl, dne, sz (yp.tsub yq) (by decide), szd yp yq, fun c2 hc2 => ?_⟩
    rw [q_sub]
    have s2 := same_new (o := .tup [.int (p - q).num, .int ((p - q).den : Int)]) hc2
    refine ⟨_, rfl, _, rfl, _, _, rfl, rfl, (z4 yp).1.mul (z4 yq).1, _, rfl, _, rfl, _, _, rfl, rfl, (z4 yp).2.mul (z4 yq).2, _, _, rfl, dne, sz (mul_lt yp.1 yq.1) (by decide), szd yp yq, fun c3 hc3 => ?_⟩
    rw [q_mul]
    have s3 := same_new (o := .tup [.int (p * q).num, .int ((p * q).den : Int)]) hc3
    refine ⟨(by decide : 3 ≤ sizeLine), fun l0 hl0 => ?_⟩
    have s4 := same_new (o := .lst [.ref c1, .ref c2, .ref c3]) hl0
    have g1 := s4 _ _ (s3 _ _ (s2 _ _ (upd_same (H := upd H e0 (.tup [.ref t1, .ref t2])) (a := c1) (o := .tup [.int (p + q).num, .int ((p + q).den : Int)]))))
    have g2 := s4 _ _ (s3 _ _ (upd_same (H := upd (upd H e0 (.tup [.ref t1, .ref t2])) c1 (.tup [.int (p + q).num, .int ((p + q).den : Int)])) (a := c2) (o := .tup [.int (p - q).num, .int ((p - q).den : Int)])))
    have g3 := s4 _ _ (upd_same (H := upd (upd (upd H e0 (.tup [.ref t1, .ref t2])) c1 (.tup [.int (p + q).num, .int ((p + q).den : Int)])) c2 (.tup [.int (p - q).num, .int ((p - q).den : Int)])) (a := c3) (o := .tup [.int (p * q).num, .int ((p * q).den : Int)]))
    have s14 := ((s1.trans s2).trans s3).trans s4
    have za : Sq 1900 (p + q) := (zp.add zq).mono (by decide)
    have zs : Sq 1900 (p - q) := (zp.sub zq).mono (by decide)
    have zm : Sq 1900 (p * q) := (zp.mul zq).mono (by decide)
    refine ⟨_, rfl, rfl, _, rfl, ?_⟩
    by_cases hq : q = 0
    · refine iteTb (by rw [vdec]; exact decide_eq_true (by rw [hq]; rfl)) ?_
      refine ⟨_, rfl, l0, rfl, ⟨_, SqL.of upd_same⟩, fun D hDn => ?_⟩
      have nl : l0 ≠ D := ne_of_none upd_same hDn
      refine lc_list (xs := [V.ref c1, .ref c2, .ref c3]) (K := K) (a := l0) (fun j H' => H' D = some (.lst (([V.str (endT (p + q)), .str (endT (p - q)), .str (endT (p * q))] : List V).take j)) ∧ But D _ H') ⟨upd_same, (But.same (Same.refl _)).new hDn⟩ (fun j H' _ h => SqL.of (h.2 _ _ upd_same nl)) ?_ ?_
      · rintro j x H' hx ⟨hDD, hB⟩
        obtain ⟨t, ht, hr⟩ := reprs (K := K) g1 g2 g3 za zs zm hB (ne_of_none g1 hDn) (ne_of_none g2 hDn) (ne_of_none g3 hDn) j x hx
        refine ⟨rfl, ?_⟩
        refine ⟨_, rfl, x, t, rfl, hr, _, hDD, ?_, upd_same.trans ?_, hB.upd⟩
        · rw [List.length_take, sizeLine_eq]
          exact Nat.lt_of_le_of_lt (Nat.min_le_right _ _) (show (3 : Nat) < 16777216 by decide)
        · rw [List.take_add_one, ht]
          rfl
      rintro H6 ⟨hD, hB6⟩
      have s6 : Same _ H6 := fun b o e => hB6 b o e (ne_of_none e hDn)
      refine ⟨(by decide : 2 ≤ sizeLine), fun m1 hm1 => ⟨(by decide : 1 ≤ sizeLine), fun lm hlm => ⟨lm, 2, _, rfl, rfl, upd_same, by decide, by decide, (by decide : 1 * 2 ≤ sizeLine), fun p1 hp1 => ?_⟩⟩⟩
      have v1 := same_new (o := .tup [.str "divisor", .non]) hm1
      have v2 := same_new (o := .lst [.ref m1]) hlm
      have v3 := same_new (o := .lst [.ref m1, .ref m1]) hp1
      refine ⟨D, p1, _, [.ref m1, .ref m1], rfl, rfl, v3 _ _ (v2 _ _ (v1 _ _ hD)), upd_same, (by decide : 3 + 2 ≤ sizeLine), fun l hl => ?_⟩
      have v4 := same_new (o := .lst ([.str (endT (p + q)), .str (endT (p - q)), .str (endT (p * q))] ++ [.ref m1, .ref m1])) hl
      refine k l _ ((s14.trans s6).trans (((v1.trans v2).trans v3).trans v4)) ⟨.ref m1, .ref m1, upd_same, .inl ⟨hq, m1, rfl, rfl, v4 _ _ (v3 _ _ (v2 _ _ upd_same))⟩⟩
    · have hn : q.num ≠ 0 := num_ne hq
      refine iteFb (by rw [vdec]; exact decide_eq_false hn) ?_
      have hd : (p.den : Int) * q.num ≠ 0 := dn_ne p hq
      have zd : Sz ((p.den : Int) * q.num) := Nat.lt_of_lt_of_le (mul_lt yp.dd yq.1) (Nat.pow_le_pow_right (by decide) (by decide))
      refine ⟨_, rfl, _, rfl, _, _, rfl, rfl, (z4 yp).1.mul (z4 yq).2, _, rfl, _, rfl, _, _, rfl, rfl, (z4 yp).2.mul (z4 yq).1, _, _, rfl, hd, zd, ?_⟩
      rw [q_div]
      refine ⟨_, rfl, l0, rfl, ⟨_, SqL.of upd_same⟩, fun D hDn => ?_⟩
      have nl : l0 ≠ D := ne_of_none upd_same hDn
      refine lc_list (xs := [V.ref c1, .ref c2, .ref c3]) (K := K) (a := l0) (fun j H' => H' D = some (.lst (([V.str (endT (p + q)), .str (endT (p - q)), .str (endT (p * q))] : List V).take j)) ∧ But D _ H') ⟨upd_same, (But.same (Same.refl _)).new hDn⟩ (fun j H' _ h => SqL.of (h.2 _ _ upd_same nl)) ?_ ?_
      · rintro j x H' hx ⟨hDD, hB⟩
        obtain ⟨t, ht, hr⟩ := reprs (K := K) g1 g2 g3 za zs zm hB (ne_of_none g1 hDn) (ne_of_none g2 hDn) (ne_of_none g3 hDn) j x hx
        refine ⟨rfl, ?_⟩
        refine ⟨_, rfl, x, t, rfl, hr, _, hDD, ?_, upd_same.trans ?_, hB.upd⟩
        · rw [List.length_take, sizeLine_eq]
          exact Nat.lt_of_le_of_lt (Nat.min_le_right _ _) (show (3 : Nat) < 16777216 by decide)
        · rw [List.take_add_one, ht]
          rfl
      rintro H6 ⟨hD, hB6⟩
      have s6 : Same _ H6 := fun b o e => hB6 b o e (ne_of_none e hDn)
      have zf := floor_le zp zq hq
      have zf2 : ((p / q).floor * q.num).natAbs < 2 ^ (260 + 130) := wide_lt zf zq.1
      have zf3 : ((p / q).floor * q.num * (p.den : Int)).natAbs < 2 ^ (260 + 130 + 130) := wide_lt zf2 zp.dd
      refine ⟨_, rfl, _, _, rfl, .int _ (log_lt (Nat.lt_of_lt_of_le zf (Nat.pow_le_pow_right (by decide) (by decide)))), ?_⟩
      refine ⟨_, rfl, _, rfl, _, _, rfl, rfl, (z4 yp).1.mul (z4 yq).2, _, rfl, _, rfl, _, _, rfl, rfl, wide_mul zf zq.1 (by decide) (by decide) (by decide), _, rfl, _, _, rfl, rfl, wide_mul zf2 zp.dd (by decide) (by decide) (by decide), _, _, rfl, rfl, _, rfl, _, rfl, _, _, rfl, rfl, (z4 yp).2.mul (z4 yq).2, _, _, rfl, dne, ?_, szd yp yq, fun c5 hc5 => ?_⟩
      · exact sz (sub_lt (mul_lt yp.1 yq.dd) (Nat.lt_of_lt_of_le zf3 (Nat.pow_le_pow_right (by decide) (by decide)))) (by decide)
      have e5 : divInt (p.num * q.den - (p / q).floor * q.num * p.den) ((p.den : Int) * q.den) = qmod p q := q_rest p q _
      rw [e5]
      have v1 := same_new (o := .tup [.int (qmod p q).num, .int ((qmod p q).den : Int)]) hc5
      refine ⟨_, _, rfl, rep_q upd_same ((qmod_sq zp zq hq).mono (by decide)), (by decide : 2 ≤ sizeLine), fun lp hlp => ?_⟩
      have v2 := same_new (o := .lst [.str (intT (p / q).floor), .str (endT (qmod p q))]) hlp
      refine ⟨D, lp, _, [.str (intT (p / q).floor), .str (endT (qmod p q))], rfl, rfl, v2 _ _ (v1 _ _ hD), upd_same, (by decide : 3 + 2 ≤ sizeLine), fun l hl => ?_⟩
      have v4 := same_new (o := .lst ([.str (endT (p + q)), .str (endT (p - q)), .str (endT (p * q))] ++ [.str (intT (p / q).floor), .str (endT (qmod p q))])) hl
      exact k l _ ((s14.trans s6).trans ((v1.trans v2).trans v4)) ⟨_, _, upd_same, .inr ⟨hq, rfl, rfl⟩⟩
end
end Toy
set_option maxRecDepth 100000
set_option maxHeartbeats 4000000
set_option exponentiation.threshold 9000
namespace Toy
open PySem L2
open Rat (divInt)
open LamX (Tabs TabS ExtN CodeO)
abbrev sSigns : Stmt := top 33
abbrev sOverR : Stmt := top 34
abbrev sTotR : Stmt := top 38
abbrev LQs : Str := (PyProof.Rows.envOfC "_law_signs_right" (defScope sSigns) 0 0 .none).qual ++ "<lambda>"
abbrev LQo : Str := (PyProof.Rows.envOfC "_law_over_right" (defScope sOverR) 0 0 .none).qual ++ "<lambda>"
abbrev LQt : Str := (PyProof.Rows.envOfC "_law_total_right" (defScope sTotR) 0 0 .none).qual ++ "<lambda>"
/-- the tables of the three defs that make lambdas -/
def Ts (P1 P2 P3 : Addr) : List (Addr × Str) := [(P1, LQs), (P2, LQo), (P3, LQt)]
structure Dst (P1 P2 P3 : Addr) : Prop where
  a : P1 ≠ P2
  b : P1 ≠ P3
  c : P2 ≠ P3
theorem ts_1 {P1 P2 P3 : Addr} : (P1, LQs) ∈ Ts P1 P2 P3 := List.mem_cons_self ..
theorem ts_2 {P1 P2 P3 : Addr} : (P2, LQo) ∈ Ts P1 P2 P3 := List.mem_cons_of_mem _ (List.mem_cons_self ..)
theorem ts_3 {P1 P2 P3 : Addr} : (P3, LQt) ∈ Ts P1 P2 P3 := List.mem_cons_of_mem _ (List.mem_cons_of_mem _ (List.mem_cons_self ..))
theorem u1 {P1 P2 P3 : Addr} {q1 q2 q3 : Str} (ds : Dst P1 P2 P3) (z : Addr × Str) (hz : z ∈ [(P1, q1), (P2, q2), (P3, q3)]) (e : z.1 = P1) : z.2 = q1 := by
  rcases List.mem_cons.mp hz with rfl | hz
  · rfl
  rcases List.mem_cons.mp hz with rfl | hz
  · exact absurd e.symm ds.a
  rw [List.mem_singleton.mp hz] at e
  exact absurd e.symm ds.b
theorem u2 {P1 P2 P3 : Addr} {q1 q2 q3 : Str} (ds : Dst P1 P2 P3) (z : Addr × Str) (hz : z ∈ [(P1, q1), (P2, q2), (P3, q3)]) (e : z.1 = P2) : z.2 = q2 := by
  rcases List.mem_cons.mp hz with rfl | hz
  · exact absurd e ds.a
  rcases List.mem_cons.mp hz with rfl | hz
  · rfl
  rw [List.mem_singleton.mp hz] at e
  exact absurd e.symm ds.c
theorem u3 {P1 P2 P3 : Addr} {q1 q2 q3 : Str} (ds : Dst P1 P2 P3) (z : Addr × Str) (hz : z ∈ [(P1, q1), (P2, q2), (P3, q3)]) (e : z.1 = P3) : z.2 = q3 := by
  rcases List.mem_cons.mp hz with rfl | hz
  · exact absurd e ds.b
  rcases List.mem_cons.mp hz with rfl | hz
  · exact absurd e ds.c
  rw [List.mem_singleton.mp hz]
theorem ts_u1 {P1 P2 P3 : Addr} (ds : Dst P1 P2 P3) : ∀ z ∈ Ts P1 P2 P3, z.1 = P1 → z.2 = LQs := u1 ds
theorem ts_u2 {P1 P2 P3 : Addr} (ds : Dst P1 P2 P3) : ∀ z ∈ Ts P1 P2 P3, z.1 = P2 → z.2 = LQo := u2 ds
theorem ts_u3 {P1 P2 P3 : Addr} (ds : Dst P1 P2 P3) : ∀ z ∈ Ts P1 P2 P3, z.1 = P3 → z.2 = LQt := u3 ds
theorem _root_.Own.okGC {P : Program} {w : World} {K : PySem.W.Frag} {mg : Str → Option Value} {base : Heap} {x qual : Str} {st : Stmt} {f c : Addr} {fd : FuncData} {N ps : List Str} {k : Nat} {sp : Sp} (F : Fun K x qual st f fd) (hc : fd.code = .ref c) (S : FnScope N ps (defScope st)) (len : ∀ vs H Q E, sp vs H Q E → vs.length = ps.length)
    (hbody : ∀ (A : Around) (outer : List Env) (s : Shared) (H : Hp) (vs : List V) (Q : VK) (E : XK), A.guards = some [] → Room k (A.deeper (PyProof.Rows.envOfC qual (defScope st) s.heap.objs.size f (.ref c))) → sp vs H Q E →
      ∃ t, PSs (cxOf CX0 P w K mg base N qual (defScope st) f (.ref c) A outer s H E).nox (defBody st) t ∧ t { nx := fun _ H' => Q .non H', rt := Q } (start N vs) H) : Own.FnG P w K mg base CX0 (k + 1) f fd ps sp := by
  obtain ⟨oc, od, kV, doc, pm, an, cdv, ct, osl, rfl, lk, hcd⟩ := F.ex
  obtain rfl : cdv = .ref c := hc
  refine ⟨len, fun A outer s H args us vs Q E hg hr e0 hb r hsp => LamX.run_ofS lk hcd S hr e0 hb r (len _ _ _ _ hsp) fun hr2 => ?_⟩
  obtain ⟨t, h, q⟩ := hbody A outer s H vs Q E hg hr2 hsp
  exact ⟨t, h.nox, q⟩
theorem sub_fix (p q : Rat) : -q + p = p - q := by
  rw [Rat.sub_eq_add_neg, Rat.add_comm]
theorem Heard.extN {C : Addr} {H H' : Hp} {v r : V} (h : Heard C H v r) (s : ExtN H H') : Heard C H' v r := by
  cases h with
  | div h => exact .div (s _ _ h (fun _ z => nomatch z))
  | rat h r z => exact .rat (s _ _ h (fun _ z => nomatch z)) (let ⟨dx, h⟩ := r; ⟨dx, s _ _ h (fun _ z => nomatch z)⟩) z
  | int h z => exact .int (s _ _ h (fun _ z => nomatch z)) z
theorem Heard.put {C : Addr} {H : Hp} {v r : V} {l : Addr} {xs : List V} {o : HO} (h : Heard C H v r) (hl : H l = some (.lst xs)) (n : v ≠ .ref l) : Heard C (upd H l o) v r := by
  cases h with
  | div h => exact .div (by rw [upd_ne (ne_of h hl (by intro z; cases z))]; exact h)
  | rat h r z =>
    obtain ⟨dx, hr⟩ := r
    exact .rat (by rw [upd_ne (fun e => n (by rw [e]))]; exact h) ⟨dx, by rw [upd_ne (ne_of hr hl (by intro z; cases z))]; exact hr⟩ z
  | int h z => exact .int (by rw [upd_ne (fun e => n (by rw [e]))]; exact h) z
/-- what is heard so far -/
structure RSg (C : Addr) (T : List (Addr × Str)) (H0 : Hp) (l t1 t2 : Addr) (v u : V) (p q : Rat) (H : Hp) (hs : List (V × V)) : Prop where
  ex : ExtN H0 H
  nl : ∀ o, H0 l = some o → ∃ ps, o = .tbl ps
  h1 : H t1 = some (.tup [.int p.num, .int (p.den : Int)])
  h2 : H t2 = some (.tup [.int q.num, .int (q.den : Int)])
  nr : NR C H v u p q
  t : Tabs T H
  ll : H l = some (.lst (hs.map fun z => z.1))
  el : ∀ z ∈ hs, Heard C H z.1 z.2
  ne : ∀ z ∈ hs, z.1 ≠ .ref l
theorem NumQ.extN {C : Addr} {H H' : Hp} {v : V} {q : Rat} (h : NumQ C H v q) (s : ExtN H H') : NumQ C H' v q := by
  rcases h.cases with ⟨i, rfl, rfl⟩ | ⟨a, rfl, dx, h⟩
  · exact .int _
  · exact .rat ⟨dx, s _ _ h (fun _ z => nomatch z)⟩
theorem NumQ.put {C : Addr} {H : Hp} {v : V} {q : Rat} {l : Addr} {xs : List V} {o : HO} (h : NumQ C H v q) (hl : H l = some (.lst xs)) : NumQ C (upd H l o) v q := by
  rcases h.cases with ⟨i, rfl, rfl⟩ | ⟨a, rfl, dx, h⟩
  · exact .int _
  · exact .rat ⟨dx, by rw [upd_ne (ne_of h hl (by intro z; cases z))]; exact h⟩
theorem tabs_put {T : List (Addr × Str)} {H : Hp} {l : Addr} {xs ys : List V} (t : Tabs T H) (hl : H l = some (.lst xs)) : Tabs T (upd H l (.lst ys)) := fun r hr => by
  obtain ⟨ps, h1, h2, h3⟩ := t r hr
  refine ⟨ps, by rw [upd_ne (ne_of h1 hl (by intro z; cases z))]; exact h1, h2, fun pos cv hc => ?_⟩
  obtain ⟨c, e1, e2⟩ := h3 pos cv hc
  refine ⟨c, e1, ?_⟩
  rw [upd_ne (ne_of e2 hl (by intro z; unfold CodeO at z; cases z))]
  exact e2
theorem NR.extN {C : Addr} {H H' : Hp} {v u : V} {p q : Rat} (h : NR C H v u p q) (s : ExtN H H') : NR C H' v u p q := ⟨h.hx.extN s, h.hy.extN s, h.r⟩
theorem RSg.step {C l t1 t2 pr : Addr} {T : List (Addr × Str)} {v u r : V} {p q : Rat} {H0 H H5 H6 : Hp} {hs : List (V × V)} {o : HO} (R : RSg C T H0 l t1 t2 v u p q H hs) (e5 : ExtN H H5) (T5 : Tabs T H5) (s6 : Same H5 H6) (hp : H6 pr = none) (hh : Heard C (upd H6 pr o) (.ref pr) r) :
    RSg C T H0 l t1 t2 v u p q (upd (upd H6 pr o) l (.lst ((hs.map fun z => z.1) ++ [.ref pr]))) (hs ++ [(.ref pr, r)]) := by
  have s7 := s6.trans (same_new (o := o) hp)
  have l5 := s7 _ _ (e5 _ _ R.ll (fun _ z => nomatch z))
  have npl : pr ≠ l := fun e => by
    have := s6 _ _ (e5 _ _ R.ll (fun _ z => nomatch z))
    rw [← e, hp] at this
    cases this
  refine ⟨fun b ob h n => ?_, R.nl, ?_, ?_, ⟨((R.nr.hx.extN e5).same s7).put l5, ((R.nr.hy.extN e5).same s7).put l5, R.nr.r⟩, tabs_put (T5.ext s7) l5, ?_, fun z hz => ?_, fun z hz => ?_⟩
  · have nb : b ≠ l := fun e => by
      rw [e] at h
      obtain ⟨ps, e2⟩ := R.nl _ h
      exact n ps e2
    rw [upd_ne nb]
    exact s7 _ _ (e5 _ _ (R.ex _ _ h n) n)
  · have h := s7 _ _ (e5 _ _ R.h1 (fun _ z => nomatch z))
    rw [upd_ne (ne_of h l5 (by intro z; cases z))]
    exact h
  · have h := s7 _ _ (e5 _ _ R.h2 (fun _ z => nomatch z))
    rw [upd_ne (ne_of h l5 (by intro z; cases z))]
    exact h
  · rw [List.map_append]
    exact upd_same
  · rcases List.mem_append.mp hz with hz | hz
    · exact (((R.el z hz).extN e5).same s7).put l5 (R.ne z hz)
    · rw [List.mem_singleton.mp hz]
      exact hh.put l5 (fun e => npl (V.ref.inj e))
  · rcases List.mem_append.mp hz with hz | hz
    · exact R.ne z hz
    · rw [List.mem_singleton.mp hz]
      exact fun e => npl (V.ref.inj e)
theorem okS (s : String) : PyData.strOk (Str.ofString s) = true := by
  unfold PyData.strOk
  rw [Str.ofString_eq_toList]
  simp only [List.all_toArray, List.all_map, List.all_eq_true, Function.comp_apply, decide_eq_true_eq]
  intro c _
  have h := c.valid
  have e : c.toNat = c.val.toNat := rfl
  rcases h with h | ⟨_, h⟩
  · rw [e]; omega
  · rw [e]; omega
theorem okApp {a b : Str} (h : PyData.strOk a = true) (g : PyData.strOk b = true) : PyData.strOk (a ++ b) = true := by
  unfold PyData.strOk at *
  rw [Str.cps_append, Array.all_append, h, g]
  rfl
theorem ok_endT (q : Rat) : PyData.strOk (endT q) = true := by
  have e : endT q = ("(" : Str) ++ ((Str.ofString (toString q.num)) ++ ", " ++ (Str.ofString (toString (q.den : Int)))) ++ ((")" : String) : Str) := rfl
  rw [e]
  exact okApp (okApp (okS _) (okApp (okApp (okS _) (okS _)) (okS _))) (okS _)
theorem sh5 {a b c d e : Str} (h1 : PyData.strOk a = true) (h2 : PyData.strOk b = true) (h3 : PyData.strOk c = true) (h4 : PyData.strOk d = true) (h5 : PyData.strOk e = true) : SeqAt.shaped (.list [.str a, .str b, .str c, .str d, .str e]) = true := by
  simp [SeqAt.shaped, PyData.canLay0, PyData.canLayAll0, PyData.depth, PyData.depthAll, h1, h2, h3, h4, h5]
theorem sh5d {a b c : Str} (h1 : PyData.strOk a = true) (h2 : PyData.strOk b = true) (h3 : PyData.strOk c = true) : SeqAt.shaped (.list [.str a, .str b, .str c, .tuple [.str "divisor", .none], .tuple [.str "divisor", .none]]) = true := by
  simp [SeqAt.shaped, PyData.canLay0, PyData.canLayAll0, PyData.depth, PyData.depthAll, h1, h2, h3, okS]
theorem eq5 {a b c d e : Str} : PyData.eqv (.list [.str a, .str b, .str c, .str d, .str e]) (.list [.str a, .str b, .str c, .str d, .str e]) = true := by simp [PyData.eqv, PyData.eqvAll]
theorem eq5d {a b c : Str} : PyData.eqv (.list [.str a, .str b, .str c, .tuple [.str "divisor", .none], .tuple [.str "divisor", .none]]) (.list [.str a, .str b, .str c, .tuple [.str "divisor", .none], .tuple [.str "divisor", .none]]) = true := by simp [PyData.eqv, PyData.eqvAll]
theorem extN_same' {H H1 H2 : Hp} (e : ExtN H H1) (s : Same H1 H2) : ExtN H H2 := fun b o h n => s _ _ (e b o h n)
theorem shown_at {C : Addr} {H : Hp} {hs : List (V × V)} (el : ∀ z ∈ hs, Heard C H z.1 z.2) (j : Nat) (x : V) (hx : (hs.map fun z => z.1)[j]? = some x) : ∃ r, (hs.map fun z => z.2)[j]? = some r ∧ Heard C H x r := by
  rw [List.getElem?_map] at hx
  rw [List.getElem?_map]
  cases h : hs[j]? with
  | none => rw [h] at hx; cases hx
  | some z =>
    rw [h] at hx
    obtain rfl := Option.some.inj hx
    exact ⟨_, rfl, el z (List.mem_of_getElem? h)⟩
theorem same_at {H0 H4 : Hp} {D : Addr} {o : HO} (hD : H0 D = none) (s : Same H0 H4) : Same H0 (upd H4 D o) := fun b u e => by
  rw [upd_ne (ne_of_none e hD)]
  exact s b u e
theorem RSg.start {C l t1 t2 pr : Addr} {T : List (Addr × Str)} {v u r : V} {p q : Rat} {H H1 H2 : Hp} {o : HO} (h1 : H t1 = some (.tup [.int p.num, .int (p.den : Int)])) (h2 : H t2 = some (.tup [.int q.num, .int (q.den : Int)])) (nr : NR C H v u p q) (e1 : ExtN H H1) (T1 : Tabs T H1) (s2 : Same H1 H2) (hp : H2 pr = none) (hh : Heard C (upd H2 pr o) (.ref pr) r) (hl : (upd H2 pr o) l = none) :
    RSg C T H l t1 t2 v u p q (upd (upd H2 pr o) l (.lst [.ref pr])) [(.ref pr, r)] := by
  have s3 := s2.trans (same_new (o := o) hp)
  have s4 := s3.trans (same_new (o := .lst [.ref pr]) hl)
  have npl : pr ≠ l := fun e => by rw [← e, upd_same] at hl; cases hl
  have a1 := e1 _ _ h1 (fun _ z => nomatch z)
  have a2 := e1 _ _ h2 (fun _ z => nomatch z)
  refine ⟨fun b ob h n => s4 _ _ (e1 _ _ h n), fun ob h => ?_, s4 _ _ a1, s4 _ _ a2, (nr.extN e1).same s4, T1.ext s4, upd_same, fun z hz => ?_, fun z hz => ?_⟩
  · cases ob with
    | tbl ps => exact ⟨ps, rfl⟩
    | _ => exact absurd (s3 _ _ (e1 _ _ h (fun _ z => nomatch z))) (by rw [hl]; exact fun z => nomatch z)
  · rw [List.mem_singleton.mp hz]
    exact hh.same (same_new hl)
  · rw [List.mem_singleton.mp hz]
    exact fun e => npl (V.ref.inj e)
section
variable {P : Program} {w : World} {K : PySem.W.Frag} {mg : Str → Option Value} {base : Heap} {C CN CB CF P1 P2 P3 c : Addr}
def spSigns (C P1 P2 P3 : Addr) : Sp := fun vs H Q _ => ∃ t1 t2 v u p q, vs = [.ref t1, .ref t2, v, u] ∧ H t1 = some (.tup [.int p.num, .int (p.den : Int)]) ∧ H t2 = some (.tup [.int q.num, .int (q.den : Int)]) ∧ NR C H v u p q ∧ (Sq 130 p ∧ Sq 130 q) ∧ Tabs (Ts P1 P2 P3) H ∧ ∀ H', ExtN H H' → Tabs (Ts P1 P2 P3) H' → Q (.bl true) H'
theorem scSigns : FnScope ["_law_one", "_law_other", "_law_mine", "_law_yours", "_law_heard_here", "_law_one_heard"] ["_law_one", "_law_other", "_law_mine", "_law_yours"] (defScope sSigns) := ⟨rfl, rfl, rfl, by decide +kernel, rfl, by decide +kernel, by decide +kernel⟩
theorem ok_signs {f g f1 f2 a1 a2 a3 a4 a5 a6 a7 a8 a9 b1 : Addr} {fd gd fd1 fd2 ad1 ad2 ad3 ad4 ad5 ad6 ad7 ad8 ad9 bd1 : FuncData} (F : Fun K "_law_signs_right" "_law_signs_right" sSigns f fd) (hcF : fd.code = .ref c) (TB : LamX.TabB base mg c P1) (ds : Dst P1 P2 P3) (T_Ratio : RatT K mg C)
    (FH : Fun K "_law_heard" "_law_heard" sHeard g gd) (mgH : mg "_law_heard" = some (.ref g)) (bH : Binds K gd ["_law_ask"] []) (hB : mg "BadRatio" = some (.ref CB)) (hN : mg "NoDivisor" = some (.ref CN)) (hF : mg "FifthError" = some (.ref CF)) (eB : PySem.W.exmOne K (.ref CN) (.ref CB) = some false) (eN : PySem.W.exmOne K (.ref CN) (.ref CN) = some true)
    (BA : BinF K C .Add) (BS : BinF K C .Sub) (BM : BinF K C .Mult) (BF : BinF K C .FloorDiv) (BMo : BinF K C .Mod)
    (O_add : Opr P w K mg base 4 C "__add__" a1 ad1 ["self", "other"] (spBin C GT fun p q => p + q)) (O_radd : Opr P w K mg base 5 C "__radd__" a2 ad2 ["self", "other"] (spBin C GT fun p q => p + q)) (O_sub : Opr P w K mg base 4 C "__sub__" a3 ad3 ["self", "other"] (spBin C GT fun p q => p - q)) (O_rsub : Opr P w K mg base 5 C "__rsub__" a4 ad4 ["self", "other"] (spBin C GT fun p q => -p + q))
    (O_mul : Opr P w K mg base 4 C "__mul__" a5 ad5 ["self", "other"] (spBin C GT fun p q => p * q)) (O_rmul : Opr P w K mg base 5 C "__rmul__" a6 ad6 ["self", "other"] (spBin C GT fun p q => p * q)) (O_fdiv : Opr P w K mg base 3 C "__floordiv__" a7 ad7 ["self", "other"] (spQuo C)) (O_rfdiv : Opr P w K mg base 3 C "__rfloordiv__" a8 ad8 ["self", "other"] (spRQuo C))
    (O_mod : Opr P w K mg base 6 C "__mod__" a9 ad9 ["self", "other"] (spMod C)) (O_rmod : Opr P w K mg base 7 C "__rmod__" b1 bd1 ["self", "other"] (spRMod C)) 
    (FD0 : FnOk P w K mg base (L2.CX P w) 3 a7 ad7 ["self", "other"] (spQuo0 C CN)) (RFD0 : FnOk P w K mg base (L2.CX P w) 3 a8 ad8 ["self", "other"] (spRQuo0 C CN)) (MD0 : FnOk P w K mg base (L2.CX P w) 6 a9 ad9 ["self", "other"] (spQuo0 C CN)) (RMD0 : FnOk P w K mg base (L2.CX P w) 7 b1 bd1 ["self", "other"] (spRQuo0 C CN))
    (G_shown : CalG P w K mg base 2 "_law_shown" f1 fd1 ["_law_heard_here"] (spShown C)) (G_due : CalG P w K mg base 2 "_law_due" f2 fd2 ["_law_one", "_law_other"] spDue) :
    Own.FnG P w K mg base CX0 10 f fd ["_law_one", "_law_other", "_law_mine", "_law_yours"] (spSigns C P1 P2 P3) := by
  have kH := FH.kp
  obtain ⟨oc, od, kV, doc, pm, an, cdv, ct, osl, egd, lk, hcg⟩ := FH.ex
  subst egd
  refine Own.okGC F hcF scSigns (fun vs H Q E h => ?_) (fun A outer s H vs Q E hg hr h => ?_)
  · obtain ⟨t1, t2, v, u, p, q, rfl, _⟩ := h
    rfl
  · obtain ⟨t1, t2, v, u, p, q, rfl, h1, h2, hn, ⟨zp, zq⟩, hT, k⟩ := h
    have nd := scSigns.nd
    have yp : Sq 3900 p := zp.mono (by decide)
    have yq : Sq 3900 q := zq.mono (by decide)
    refine ⟨_, pss_cons (ps_set (i := 4) nd rfl (Or.inl rfl) (pe_lst (pa_cons (LamX.pe_lamcall (T := Ts P1 P2 P3) (TT := TTdiv CN) (t := fun E => tOp (rN C GT fun p q => p + q) (tVar 2) (tVar 3)) (by rfl) mgH kH lk hcg bH scHd (by rfl) (.inl rfl) (heard_gives hB hN hF eB eN) TB (by rfl) (ts_1) (ts_u1 ds) hr (LamX.lamS_by (by rfl)) (by rfl) (fun _ _ _ _ _ => rfl) (fun A outer s H E f c' hr2 => pe_op (opN (op_B BA O_add.F (hr2.mono (by decide)) O_add.at_ O_add.fn O_add.b pass0) (op_R BA O_radd.F (hr2.mono (by decide)) O_radd.at_ O_radd.fn O_add.at_ T_Ratio.sI O_radd.b pass0 PySem.F.fills_int_add PySem.F.slot_int_add PySem.F.entry_int_add PySem.F.args_int_add_2 Own.int_add_dec) (fun _ _ g => g) (fun _ _ => Rat.add_comm _ _)) (pv 2) (pv 3))) pa_nil)))
      (pss_cons (ps_expr (pe_bm PySem.F.plainAttrs_list PySem.F.slot_list_append PySem.F.type_list_append mt_append (pv 4) (pa_cons (LamX.pe_lamcall (T := Ts P1 P2 P3) (TT := TTdiv CN) (t := fun E => tOp (rN C GT fun p q => p - q) (tVar 2) (tVar 3)) (by rfl) mgH kH lk hcg bH scHd (by rfl) (.inl rfl) (heard_gives hB hN hF eB eN) TB (by rfl) (ts_1) (ts_u1 ds) hr (LamX.lamS_by (by rfl)) (by rfl) (fun _ _ _ _ _ => rfl) (fun A outer s H E f c' hr2 => pe_op (opN (op_B BS O_sub.F (hr2.mono (by decide)) O_sub.at_ O_sub.fn O_sub.b pass0) (op_R BS O_rsub.F (hr2.mono (by decide)) O_rsub.at_ O_rsub.fn O_sub.at_ T_Ratio.sI O_rsub.b pass0 PySem.F.fills_int_sub PySem.F.slot_int_sub PySem.F.entry_int_sub PySem.F.args_int_sub_2 Own.int_sub_dec) (fun _ _ g => g) sub_fix) (pv 2) (pv 3))) pa_nil)))
      (pss_cons (ps_expr (pe_bm PySem.F.plainAttrs_list PySem.F.slot_list_append PySem.F.type_list_append mt_append (pv 4) (pa_cons (LamX.pe_lamcall (T := Ts P1 P2 P3) (TT := TTdiv CN) (t := fun E => tOp (rN C GT fun p q => p * q) (tVar 2) (tVar 3)) (by rfl) mgH kH lk hcg bH scHd (by rfl) (.inl rfl) (heard_gives hB hN hF eB eN) TB (by rfl) (ts_1) (ts_u1 ds) hr (LamX.lamS_by (by rfl)) (by rfl) (fun _ _ _ _ _ => rfl) (fun A outer s H E f c' hr2 => pe_op (opN (op_B BM O_mul.F (hr2.mono (by decide)) O_mul.at_ O_mul.fn O_mul.b pass0) (op_R BM O_rmul.F (hr2.mono (by decide)) O_rmul.at_ O_rmul.fn O_mul.at_ T_Ratio.sI O_rmul.b pass0 PySem.F.fills_int_mul PySem.F.slot_int_mul PySem.F.entry_int_mul PySem.F.args_int_mul_2 Own.int_mul_dec) (fun _ _ g => g) (fun _ _ => Rat.mul_comm _ _)) (pv 2) (pv 3))) pa_nil)))
      (pss_cons (ps_expr (pe_bm PySem.F.plainAttrs_list PySem.F.slot_list_append PySem.F.type_list_append mt_append (pv 4) (pa_cons (LamX.pe_lamcall (T := Ts P1 P2 P3) (TT := TTdiv CN) (t := fun E => tOp (fun x y H Q => rNI C (fun p q => (p / q).floor) x y H Q ∨ rN0 C CN E x y H Q) (tVar 2) (tVar 3)) (by rfl) mgH kH lk hcg bH scHd (by rfl) (.inl rfl) (heard_gives hB hN hF eB eN) TB (by rfl) (ts_1) (ts_u1 ds) hr (LamX.lamS_by (by rfl)) (by rfl) (fun _ _ _ _ _ => rfl) (fun A outer s H E f c' hr2 => pe_op (OpR.or (opQ (op_B BF O_fdiv.F (hr2.mono (by decide)) O_fdiv.at_ O_fdiv.fn O_fdiv.b pass0) (op_R BF O_rfdiv.F (hr2.mono (by decide)) O_rfdiv.at_ O_rfdiv.fn O_fdiv.at_ T_Ratio.sI O_rfdiv.b pass0 PySem.F.fills_int_floordiv PySem.F.slot_int_floordiv PySem.F.entry_int_floordiv PySem.F.args_int_floordiv_2 Own.int_fdiv_dec)) (op0 (op_B BF FD0 (hr2.mono (by decide)) O_fdiv.at_ O_fdiv.fn O_fdiv.b (passes_call (takes_of rfl rfl rfl rfl) fun _ _ _ _ h => h)) (op_R BF RFD0 (hr2.mono (by decide)) O_rfdiv.at_ O_rfdiv.fn O_fdiv.at_ T_Ratio.sI O_rfdiv.b (passes_call (takes_of rfl rfl rfl rfl) fun _ _ _ _ h => h) PySem.F.fills_int_floordiv PySem.F.slot_int_floordiv PySem.F.entry_int_floordiv PySem.F.args_int_floordiv_2 Own.int_fdiv_dec))) (pv 2) (pv 3))) pa_nil)))
      (pss_cons (ps_expr (pe_bm PySem.F.plainAttrs_list PySem.F.slot_list_append PySem.F.type_list_append mt_append (pv 4) (pa_cons (LamX.pe_lamcall (T := Ts P1 P2 P3) (TT := TTdiv CN) (t := fun E => tOp (fun x y H Q => rN C (fun p q => q ≠ 0 ∧ Sq 1000 p ∧ Sq 1000 q) qmod x y H Q ∨ rN0 C CN E x y H Q) (tVar 2) (tVar 3)) (by rfl) mgH kH lk hcg bH scHd (by rfl) (.inl rfl) (heard_gives hB hN hF eB eN) TB (by rfl) (ts_1) (ts_u1 ds) hr (LamX.lamS_by (by rfl)) (by rfl) (fun _ _ _ _ _ => rfl) (fun A outer s H E f c' hr2 => pe_op (OpR.or (opM (op_B BMo O_mod.F (hr2.mono (by decide)) O_mod.at_ O_mod.fn O_mod.b pass0) (op_R BMo O_rmod.F (hr2.mono (by decide)) O_rmod.at_ O_rmod.fn O_mod.at_ T_Ratio.sI O_rmod.b pass0 PySem.F.fills_int_mod PySem.F.slot_int_mod PySem.F.entry_int_mod PySem.F.args_int_mod_2 Own.int_mod_dec)) (op0 (op_B BMo MD0 (hr2.mono (by decide)) O_mod.at_ O_mod.fn O_mod.b (passes_call (takes_of rfl rfl rfl rfl) fun _ _ _ _ h => h)) (op_R BMo RMD0 (hr2.mono (by decide)) O_rmod.at_ O_rmod.fn O_mod.at_ T_Ratio.sI O_rmod.b (passes_call (takes_of rfl rfl rfl rfl) fun _ _ _ _ h => h) PySem.F.fills_int_mod PySem.F.slot_int_mod PySem.F.entry_int_mod PySem.F.args_int_mod_2 Own.int_mod_dec))) (pv 2) (pv 3))) pa_nil)))
      (pss_one (ps_ret (pe_cmpR (op_eqD hr.units) (pe_lc (own := [("_law_one_heard", 5)]) (g := gName 5) (tt := tYes) rfl nd (pi_list (pv 4)) (blkOk_by (N := ["_law_one", "_law_other", "_law_mine", "_law_yours", "_law_heard_here", "_law_one_heard"]) (sc := defScope (top 33)) (by decide +kernel)) (fun _ _ _ _ _ => pg_name (i := 5) nd rfl (Or.inl rfl)) (fun _ _ _ _ _ => pts_nil) (fun _ _ _ _ _ => (Own.pe_callG G_shown.F hg (hr.mono (by decide)) (by rfl) G_shown.mgf G_shown.kp G_shown.b pass0 (pa_cons (pv 5) pa_nil)))) (Own.pe_callG G_due.F hg (hr.mono (by decide)) (by rfl) G_due.mgf G_due.kp G_due.b pass0 (pa_cons (pv 0) (pa_cons (pv 1) pa_nil))) (nomark _)))))))), ?_⟩
    refine ⟨hT, fun H1 e1 T1 => ⟨_, rfl, _, rfl, p, q, hn.extN e1, ⟨yp, yq⟩, True.intro, fun a2 H2 s2 ha2 => ⟨(by decide : 1 ≤ sizeLine), fun q1 hq1 => ⟨(by decide : 1 ≤ sizeLine), fun l hl => ?_⟩⟩⟩⟩
    have R1 := RSg.start h1 h2 hn e1 T1 s2 hq1 (.rat upd_same (ha2.same (same_new hq1)) ((zp.add zq).mono (by decide))) hl
    refine ⟨_, rfl, .inl ⟨rfl, _, SqL.of R1.ll⟩, R1.t, fun H3 e3 T3 => ⟨_, rfl, _, rfl, p, q, R1.nr.extN e3, ⟨yp, yq⟩, True.intro, fun a4 H4 s4 ha4 => ⟨(by decide : 1 ≤ sizeLine), fun q2 hq2 => ⟨l, _, _, rfl, rfl, same_new hq2 _ _ (s4 _ _ (e3 _ _ R1.ll (fun _ z => nomatch z))), (by decide : 1 < sizeLine), ?_⟩⟩⟩⟩
    have R2 := R1.step e3 T3 s4 hq2 (.rat upd_same (ha4.same (same_new hq2)) ((zp.sub zq).mono (by decide)))
    refine ⟨_, rfl, .inl ⟨rfl, _, SqL.of R2.ll⟩, R2.t, fun H5 e5 T5 => ⟨_, rfl, _, rfl, p, q, R2.nr.extN e5, ⟨yp, yq⟩, True.intro, fun a6 H6 s6 ha6 => ⟨(by decide : 1 ≤ sizeLine), fun q3 hq3 => ⟨l, _, _, rfl, rfl, same_new hq3 _ _ (s6 _ _ (e5 _ _ R2.ll (fun _ z => nomatch z))), (by decide : 2 < sizeLine), ?_⟩⟩⟩⟩
    have R3 := R2.step e5 T5 s6 hq3 (.rat upd_same (ha6.same (same_new hq3)) ((zp.mul zq).mono (by decide)))
    refine ⟨_, rfl, .inl ⟨rfl, _, SqL.of R3.ll⟩, R3.t, fun H7 e7 T7 => ⟨_, rfl, _, rfl, ?_⟩⟩
    by_cases hq : q = 0
    · subst hq
      refine .inr ⟨p, R3.nr.extN e7, yp, fun H8 s8 => ⟨rfl, fun q4 hq4 => ⟨l, _, _, rfl, rfl, same_new hq4 _ _ (s8 _ _ (e7 _ _ R3.ll (fun _ z => nomatch z))), (by decide : 3 < sizeLine), ?_⟩⟩⟩
      have R4 := R3.step e7 T7 s8 hq4 (.div upd_same)
      refine ⟨_, rfl, .inl ⟨rfl, _, SqL.of R4.ll⟩, R4.t, fun H9 e9 T9 => ⟨_, rfl, _, rfl, .inr ⟨p, R4.nr.extN e9, yp, fun H10 s10 => ⟨rfl, fun q5 hq5 => ⟨l, _, _, rfl, rfl, same_new hq5 _ _ (s10 _ _ (e9 _ _ R4.ll (fun _ z => nomatch z))), (by decide : 4 < sizeLine), ?_⟩⟩⟩⟩⟩
      have R5 := R4.step e9 T9 s10 hq5 (.div upd_same)
      refine ⟨_, rfl, l, rfl, ⟨_, SqL.of R5.ll⟩, fun D hD => ?_⟩
      have el5 := R5.el
      refine lc_list (te := fun σ H Q => tCons (tVar 5) tNil σ H fun vs H1 => spShown C vs H1 Q E0) (g := gName 5) (tt := tYes) (xs := [.ref q1, .ref q2, .ref q3, .ref q4, .ref q5]) (K := K) (a := l) (fun j H' => H' D = some (.lst (([.str (endT (p + 0)), .str (endT (p - 0)), .str (endT (p * 0)), .ref q4, .ref q5] : List V).take j)) ∧ Same _ H') ⟨upd_same, same_new hD⟩ (fun j H' _ h => SqL.of (h.2 _ _ R5.ll)) ?_ ?_
      · rintro j x H' hx ⟨hDD, hS⟩
        obtain ⟨r, hr, hh⟩ := shown_at el5 j x hx
        refine ⟨rfl, ?_⟩
        refine ⟨_, rfl, x, r, rfl, hh.same hS, fun H'' s'' => ⟨_, s'' _ _ hDD, ?_, upd_same.trans ?_, same_at hD (hS.trans s'')⟩⟩
        · rw [List.length_take, sizeLine_eq]
          exact Nat.lt_of_le_of_lt (Nat.min_le_right _ _) (show (5 : Nat) < 16777216 by decide)
        · replace hr : ([.str (endT (p + 0)), .str (endT (p - 0)), .str (endT (p * 0)), .ref q4, .ref q5] : List V)[j]? = some r := hr
          rw [List.take_add_one, hr]
          rfl
      rintro H11 ⟨hD11, s11⟩
      have g1 := s11 _ _ R5.h1
      have g2 := s11 _ _ R5.h2
      refine ⟨_, rfl, _, rfl, t1, t2, p, 0, rfl, g1, g2, ⟨zp, zq⟩, fun l2 H12 s12 hdue => ?_⟩
      have hD12 := s12 _ _ hD11
      obtain ⟨x, y, hl2, ⟨_, t, rfl, rfl, ht⟩ | ⟨h0, _⟩⟩ := hdue
      · have d4 : H12 q4 = some (.tup [.str "divisor", .non]) := by
          have := (el5 (.ref q4, .ref q4) (by simp)).same (s11.trans s12)
          cases this with
          | div h => exact h
        have d5 : H12 q5 = some (.tup [.str "divisor", .non]) := by
          have := (el5 (.ref q5, .ref q5) (by simp)).same (s11.trans s12)
          cases this with
          | div h => exact h
        have tl : ∀ {a : Addr}, H12 a = some (.tup [.str "divisor", .non]) → Dp K H12 (.ref a) (.tuple [.str "divisor", .none]) := fun h => .tup (SqT.of h) (.cons (.str _) (.cons .non .nil))
        refine ⟨_, _, .lst (SqL.of hD12) (.cons (.str _) (.cons (.str _) (.cons (.str _) (.cons (tl d4) (.cons (tl d5) .nil))))), .lst (SqL.of hl2) (.cons (.str _) (.cons (.str _) (.cons (.str _) (.cons (tl ht) (.cons (tl ht) .nil))))), sh5d (ok_endT _) (ok_endT _) (ok_endT _), sh5d (ok_endT _) (ok_endT _) (ok_endT _), ?_⟩
        rw [eq5d]
        exact k _ ((extN_same' R5.ex (s11.trans s12))) (R5.t.ext (s11.trans s12))
      · exact absurd rfl h0
    · have zf := floor_le zp zq hq
      refine .inl ⟨p, q, R3.nr.extN e7, ⟨yp, yq⟩, hq, fun H8 s8 => ⟨(by decide : 1 ≤ sizeLine), fun q4 hq4 => ⟨l, _, _, rfl, rfl, same_new hq4 _ _ (s8 _ _ (e7 _ _ R3.ll (fun _ z => nomatch z))), (by decide : 3 < sizeLine), ?_⟩⟩⟩
      have R4 := R3.step e7 T7 s8 hq4 (.int upd_same (Nat.lt_of_lt_of_le zf (Nat.pow_le_pow_right (by decide) (by decide))))
      refine ⟨_, rfl, .inl ⟨rfl, _, SqL.of R4.ll⟩, R4.t, fun H9 e9 T9 => ⟨_, rfl, _, rfl, .inl ⟨p, q, R4.nr.extN e9, ⟨yp, yq⟩, ⟨hq, zp.mono (by decide), zq.mono (by decide)⟩, fun a10 H10 s10 ha10 => ⟨(by decide : 1 ≤ sizeLine), fun q5 hq5 => ⟨l, _, _, rfl, rfl, same_new hq5 _ _ (s10 _ _ (e9 _ _ R4.ll (fun _ z => nomatch z))), (by decide : 4 < sizeLine), ?_⟩⟩⟩⟩⟩
      have R5 := R4.step e9 T9 s10 hq5 (.rat upd_same (ha10.same (same_new hq5)) ((qmod_sq zp zq hq).mono (by decide)))
      refine ⟨_, rfl, l, rfl, ⟨_, SqL.of R5.ll⟩, fun D hD => ?_⟩
      have el5 := R5.el
      refine lc_list (te := fun σ H Q => tCons (tVar 5) tNil σ H fun vs H1 => spShown C vs H1 Q E0) (g := gName 5) (tt := tYes) (xs := [.ref q1, .ref q2, .ref q3, .ref q4, .ref q5]) (K := K) (a := l) (fun j H' => H' D = some (.lst (([.str (endT (p + q)), .str (endT (p - q)), .str (endT (p * q)), .str (intT (p / q).floor), .str (endT (qmod p q))] : List V).take j)) ∧ Same _ H') ⟨upd_same, same_new hD⟩ (fun j H' _ h => SqL.of (h.2 _ _ R5.ll)) ?_ ?_
      · rintro j x H' hx ⟨hDD, hS⟩
        obtain ⟨r, hr, hh⟩ := shown_at el5 j x hx
        refine ⟨rfl, ?_⟩
        refine ⟨_, rfl, x, r, rfl, hh.same hS, fun H'' s'' => ⟨_, s'' _ _ hDD, ?_, upd_same.trans ?_, same_at hD (hS.trans s'')⟩⟩
        · rw [List.length_take, sizeLine_eq]
          exact Nat.lt_of_le_of_lt (Nat.min_le_right _ _) (show (5 : Nat) < 16777216 by decide)
        · replace hr : ([.str (endT (p + q)), .str (endT (p - q)), .str (endT (p * q)), .str (intT (p / q).floor), .str (endT (qmod p q))] : List V)[j]? = some r := hr
          rw [List.take_add_one, hr]
          rfl
      rintro H11 ⟨hD11, s11⟩
      have g1 := s11 _ _ R5.h1
      have g2 := s11 _ _ R5.h2
      refine ⟨_, rfl, _, rfl, t1, t2, p, q, rfl, g1, g2, ⟨zp, zq⟩, fun l2 H12 s12 hdue => ?_⟩
      have hD12 := s12 _ _ hD11
      obtain ⟨x, y, hl2, ⟨h0, _⟩ | ⟨_, rfl, rfl⟩⟩ := hdue
      · exact absurd h0 hq
      · refine ⟨_, _, .lst (SqL.of hD12) (.cons (.str _) (.cons (.str _) (.cons (.str _) (.cons (.str _) (.cons (.str _) .nil))))), .lst (SqL.of hl2) (.cons (.str _) (.cons (.str _) (.cons (.str _) (.cons (.str _) (.cons (.str _) .nil))))), sh5 (ok_endT _) (ok_endT _) (ok_endT _) (okS _) (ok_endT _), sh5 (ok_endT _) (ok_endT _) (ok_endT _) (okS _) (ok_endT _), ?_⟩
        rw [eq5]
        exact k _ ((extN_same' R5.ex (s11.trans s12))) (R5.t.ext (s11.trans s12))
end
end Toy
set_option maxRecDepth 100000
set_option maxHeartbeats 4000000
set_option exponentiation.threshold 9000
namespace Toy
open PySem L2
open Rat (divInt)
open LamX (Tabs TabS ExtN CodeO)
theorem okD : SeqAt.shaped (.tuple [.str "divisor", .none]) = true := by
  simp [SeqAt.shaped, PyData.canLay0, PyData.canLayAll0, PyData.depth, PyData.depthAll]
  exact okS "divisor"
theorem okE (q : Rat) : SeqAt.shaped (.str (endT q)) = true := by
  simp [SeqAt.shaped, PyData.canLay0, PyData.depth, ok_endT]
theorem rat_over (n d : Int) : (ratF n d).lookup ("over" : Str) = none := by
  unfold ratF
  rw [lookup_putF, if_neg (by decide +kernel), lookup_putF, if_neg (by decide +kernel)]
  rfl
theorem extNs {H H1 : Hp} (s : Same H H1) : ExtN H H1 := fun b o h _ => s b o h
section
variable {P : Program} {w : World} {K : PySem.W.Frag} {mg : Str → Option Value} {base : Heap} {C CN CB CF P1 P2 P3 c : Addr}
def spOverR (C P1 P2 P3 : Addr) : Sp := fun vs H Q _ => ∃ t1 t2 u p q, vs = [.ref t1, .ref t2, u] ∧ H t1 = some (.tup [.int p.num, .int (p.den : Int)]) ∧ H t2 = some (.tup [.int q.num, .int (q.den : Int)]) ∧ NumQ C H u q ∧ (Sq 130 p ∧ Sq 130 q) ∧ Tabs (Ts P1 P2 P3) H ∧ ∀ H', ExtN H H' → Tabs (Ts P1 P2 P3) H' → Q (.bl true) H'
theorem scOverR : FnScope ["_law_one", "_law_other", "_law_yours", "_law_heard_here"] ["_law_one", "_law_other", "_law_yours"] (defScope sOverR) := ⟨rfl, rfl, rfl, by decide +kernel, rfl, by decide +kernel, by decide +kernel⟩
theorem ok_overR {f g f1 f2 f3 a1 : Addr} {fd gd fd1 fd2 fd3 ad1 : FuncData} (F : Fun K "_law_over_right" "_law_over_right" sOverR f fd) (hcF : fd.code = .ref c) (TB : LamX.TabB base mg c P2) (ds : Dst P1 P2 P3) (T_Ratio : RatT K mg C) (zr : mg "repr" = none)
    (FH : Fun K "_law_heard" "_law_heard" sHeard g gd) (mgH : mg "_law_heard" = some (.ref g)) (bH : Binds K gd ["_law_ask"] []) (hB : mg "BadRatio" = some (.ref CB)) (hN : mg "NoDivisor" = some (.ref CN)) (hF : mg "FifthError" = some (.ref CF)) (eB : PySem.W.exmOne K (.ref CN) (.ref CB) = some false) (eN : PySem.W.exmOne K (.ref CN) (.ref CN) = some true)
    (D_Ratio_over : Dot P w K mg base 4 C "over" a1 ad1 ["self", "number"] (spBin C (fun _ q => q ≠ 0) fun p q => p / q)) (I0 : FnOk P w K mg base (L2.CX P w) 4 a1 ad1 ["self", "number"] (spOver0 C CN)) (KB_over : KBn K ad1 ["self", "number"] 1 ["number"] (fun us ws => us ++ ws) (fun vs zs => vs ++ zs))
    (M_Ratio : Mak P w K mg base 2 "Ratio" C f3 fd3 ["self", "top", "bottom"] (spRInit C)) (G_shown : CalG P w K mg base 2 "_law_shown" f1 fd1 ["_law_heard_here"] (spShown C)) (C__law_lowest : Cal P w K mg base 1 "_law_lowest" f2 fd2 ["_law_top", "_law_bottom"] spLowest) :
    Own.FnG P w K mg base CX0 10 f fd ["_law_one", "_law_other", "_law_yours"] (spOverR C P1 P2 P3) := by
  have kH := FH.kp
  obtain ⟨oc, od, kV, doc, pm, an, cdv, ct, osl, egd, lk, hcg⟩ := FH.ex
  subst egd
  refine Own.okGC F hcF scOverR (fun vs H Q E h => ?_) (fun A outer s H vs Q E hg hr h => ?_)
  · obtain ⟨t1, t2, u, p, q, rfl, _⟩ := h
    rfl
  · obtain ⟨t1, t2, u, p, q, rfl, h1, h2, hn, ⟨zp, zq⟩, hT, k⟩ := h
    have nd := scOverR.nd
    have yp : Sq 3900 p := zp.mono (by decide)
    have yq : Sq 3900 q := zq.mono (by decide)
    by_cases hq : q = 0
    · subst hq
      refine ⟨_, pss_cons (ps_set (i := 3) nd rfl (Or.inl rfl) (Own.pe_callG G_shown.F hg (hr.mono (by decide)) (by rfl) G_shown.mgf G_shown.kp G_shown.b pass0 (pa_cons (LamX.pe_lamcall (T := Ts P1 P2 P3) (TT := TTdiv CN) (t := fun E => Own.tMethK0 C "over" (["number"] : List Str).length (spOver0 C CN) (fun us ws => us ++ ws) E (tMake C (spRInit C) [] E (tCons (tOp (rIxT K) (tVar 0) (tC (.int 0))) (tCons (tOp (rIxT K) (tVar 0) (tC (.int 1))) tNil))) (tCons (tVar 2) tNil)) (by rfl) mgH kH lk hcg bH scHd (by rfl) (.inl rfl) (heard_gives hB hN hF eB eN) TB (by rfl) (ts_2) (ts_u2 ds) hr (LamX.lamS_by (by rfl)) (by rfl) (fun _ _ _ _ _ => rfl) (fun A outer s H E f c' hr2 => Own.pe_methK0 (pe_make M_Ratio.M M_Ratio.F (hr2.mono (by decide)) (by rfl) M_Ratio.mgC M_Ratio.b .nil pass0 (pa_cons (pe_ix ix_tup (pv 0) pe_int (fun _ _ => rfl)) (pa_cons (pe_ix ix_tup (pv 0) pe_int (fun _ _ => rfl)) pa_nil))) T_Ratio.cl D_Ratio_over.m I0 (hr2.mono (by decide)) KB_over (passes_call (takes_of rfl rfl rfl rfl) fun _ _ _ _ h => h) (pk_cons (pv 2) pk_nil))) pa_nil)))
      (pss_one (ps_ret (pe_cmpR (op_eqD hr.units) (pv 3) (pe_ifExp (pt_cmpR op_eq (pe_ix ix_tup (pv 1) pe_int (fun _ _ => rfl)) pe_int (nomark _)) (pe_tup (pa_cons pe_str (pa_cons pe_non pa_nil))) (pe_callB (Own.call_reprA hg hr.units) (by rfl) zr (by decide +kernel) (pa_cons (pe_call C__law_lowest.F (hr.mono (by decide)) (by rfl) C__law_lowest.mgf C__law_lowest.kp C__law_lowest.b .nil pass0 (pa_cons (pe_op op_mulW (pe_ix ix_tup (pv 0) pe_int (fun _ _ => rfl)) (pe_ix ix_tup (pv 1) pe_int (fun _ _ => rfl))) (pa_cons (pe_op op_mulW (pe_ix ix_tup (pv 0) pe_int (fun _ _ => rfl)) (pe_ix ix_tup (pv 1) pe_int (fun _ _ => rfl))) pa_nil))) pa_nil))) (nomark _)))), ?_⟩
      refine ⟨hT, fun H1 e1 T1 => ⟨_, rfl, t1, _, _, _, rfl, rfl, SqT.of (e1 _ _ h1 (fun _ z => nomatch z)), rfl, _, rfl, t1, _, _, _, rfl, rfl, SqT.of (e1 _ _ h1 (fun _ z => nomatch z)), rfl, ?_⟩⟩
      intro x dx hx hdx hne
      refine ⟨x, dx, p.num, (p.den : Int), rfl, upd_same, den_ne p, (z4 yp).2, fun H2 hR hk => ⟨rfl, ?_⟩⟩
      have s2 := mk_same hx hdx hk
      have hp := asQ (den_ne p) (Rat.num_divInt_den p) hR
      obtain ⟨da, hia⟩ := id hp
      refine ⟨x, da, _, rfl, hia, rat_over _ _, _, rfl, rfl, x, u, p, rfl, hp, (hn.extN e1).same s2, yp, fun H3 s3 => ⟨rfl, fun pr hpr => ?_⟩⟩
      refine ⟨_, _, rfl, .div upd_same, fun H4 s4 => ?_⟩
      have s34 := s3.trans ((same_new (o := .tup [.str "divisor", .non]) hpr).trans s4)
      have g4 : H4 pr = some (.tup [.str "divisor", .non]) := s4 _ _ upd_same
      have x4 : ExtN H H4 := extN_same' (extN_same' e1 s2) s34
      have h24 := x4 _ _ h2 (fun _ z => nomatch z)
      refine ⟨_, rfl, _, rfl, t2, _, _, _, rfl, rfl, SqT.of h24, rfl, rfl, _, rfl, ?_⟩
      refine iteTb (by rw [vdec]; exact decide_eq_true rfl) ⟨(by decide : 2 ≤ sizeLine), fun e5 he5 => ?_⟩
      have s5 := same_new (o := .tup [.str "divisor", .non]) he5
      refine ⟨_, _, .tup (SqT.of (s5 _ _ g4)) (.cons (.str _) (.cons .non .nil)), .tup (SqT.of upd_same) (.cons (.str _) (.cons .non .nil)), okD, okD, ?_⟩
      rw [show PyData.eqv (.tuple [.str "divisor", .none]) (.tuple [.str "divisor", .none]) = true by simp [PyData.eqv, PyData.eqvAll]]
      exact k _ (extN_same' x4 s5) ((((T1.ext s2).ext s34)).ext s5)
    · refine ⟨_, pss_cons (ps_set (i := 3) nd rfl (Or.inl rfl) (Own.pe_callG G_shown.F hg (hr.mono (by decide)) (by rfl) G_shown.mgf G_shown.kp G_shown.b pass0 (pa_cons (LamX.pe_lamcall (T := Ts P1 P2 P3) (TT := TTdiv CN) (t := fun E => Own.tMethK0 C "over" (["number"] : List Str).length (spBin C (fun _ q => q ≠ 0) fun p q => p / q) (fun us ws => us ++ ws) E (tMake C (spRInit C) [] E (tCons (tOp (rIxT K) (tVar 0) (tC (.int 0))) (tCons (tOp (rIxT K) (tVar 0) (tC (.int 1))) tNil))) (tCons (tVar 2) tNil)) (by rfl) mgH kH lk hcg bH scHd (by rfl) (.inl rfl) (heard_gives hB hN hF eB eN) TB (by rfl) (ts_2) (ts_u2 ds) hr (LamX.lamS_by (by rfl)) (by rfl) (fun _ _ _ _ _ => rfl) (fun A outer s H E f c' hr2 => Own.pe_methK0 (pe_make M_Ratio.M M_Ratio.F (hr2.mono (by decide)) (by rfl) M_Ratio.mgC M_Ratio.b .nil pass0 (pa_cons (pe_ix ix_tup (pv 0) pe_int (fun _ _ => rfl)) (pa_cons (pe_ix ix_tup (pv 0) pe_int (fun _ _ => rfl)) pa_nil))) T_Ratio.cl D_Ratio_over.m D_Ratio_over.F (hr2.mono (by decide)) KB_over pass0 (pk_cons (pv 2) pk_nil))) pa_nil)))
      (pss_one (ps_ret (pe_cmpR (op_eqD hr.units) (pv 3) (pe_ifExp (pt_cmpR op_eq (pe_ix ix_tup (pv 1) pe_int (fun _ _ => rfl)) pe_int (nomark _)) (pe_tup (pa_cons pe_str (pa_cons pe_non pa_nil))) (pe_callB (Own.call_reprA hg hr.units) (by rfl) zr (by decide +kernel) (pa_cons (pe_call C__law_lowest.F (hr.mono (by decide)) (by rfl) C__law_lowest.mgf C__law_lowest.kp C__law_lowest.b .nil pass0 (pa_cons (pe_op op_mulW (pe_ix ix_tup (pv 0) pe_int (fun _ _ => rfl)) (pe_ix ix_tup (pv 1) pe_int (fun _ _ => rfl))) (pa_cons (pe_op op_mulW (pe_ix ix_tup (pv 0) pe_int (fun _ _ => rfl)) (pe_ix ix_tup (pv 1) pe_int (fun _ _ => rfl))) pa_nil))) pa_nil))) (nomark _)))), ?_⟩
      refine ⟨hT, fun H1 e1 T1 => ⟨_, rfl, t1, _, _, _, rfl, rfl, SqT.of (e1 _ _ h1 (fun _ z => nomatch z)), rfl, _, rfl, t1, _, _, _, rfl, rfl, SqT.of (e1 _ _ h1 (fun _ z => nomatch z)), rfl, ?_⟩⟩
      intro x dx hx hdx hne
      refine ⟨x, dx, p.num, (p.den : Int), rfl, upd_same, den_ne p, (z4 yp).2, fun H2 hR hk => ⟨rfl, ?_⟩⟩
      have s2 := mk_same hx hdx hk
      have hp := asQ (den_ne p) (Rat.num_divInt_den p) hR
      obtain ⟨da, hia⟩ := id hp
      refine ⟨x, da, _, rfl, hia, rat_over _ _, _, rfl, rfl, x, u, p, q, rfl, hp, (hn.extN e1).same s2, ⟨yp, yq⟩, hq, fun a3 H3 s3 ha3 => ⟨(by decide : 1 ≤ sizeLine), fun pr hpr => ?_⟩⟩
      have zd : Sq 1900 (p / q) := (zp.div zq hq).mono (by decide)
      refine ⟨_, _, rfl, .rat upd_same (ha3.same (same_new hpr)) zd, fun H4 s4 => ?_⟩
      have s34 := s3.trans ((same_new (o := .lst [.ref a3]) hpr).trans s4)
      have x4 : ExtN H H4 := extN_same' (extN_same' e1 s2) s34
      have h14 := x4 _ _ h1 (fun _ z => nomatch z)
      have h24 := x4 _ _ h2 (fun _ z => nomatch z)
      refine ⟨_, rfl, _, rfl, t2, _, _, _, rfl, rfl, SqT.of h24, rfl, rfl, _, rfl, ?_⟩
      refine iteFb (by rw [vdec]; exact decide_eq_false (num_ne hq)) ?_
      refine ⟨_, rfl, t1, _, _, _, rfl, rfl, SqT.of h14, rfl, _, rfl, t2, _, _, _, rfl, rfl, SqT.of h24, rfl, _, _, rfl, rfl, (z4 yp).1.mul (z4 yq).2, _, rfl, t1, _, _, _, rfl, rfl, SqT.of h14, rfl, _, rfl, t2, _, _, _, rfl, rfl, SqT.of h24, rfl, _, _, rfl, rfl, (z4 yp).2.mul (z4 yq).1, _, _, rfl, dn_ne p hq, ?_, ?_, fun c5 hc5 => ?_⟩
      · exact Nat.lt_of_lt_of_le (mul_lt yp.1 yq.dd) (Nat.pow_le_pow_right (by decide) (by decide))
      · exact Nat.lt_of_lt_of_le (mul_lt yp.dd yq.1) (Nat.pow_le_pow_right (by decide) (by decide))
      rw [q_div]
      have s5 := same_new (o := .tup [.int (p / q).num, .int ((p / q).den : Int)]) hc5
      refine ⟨_, _, rfl, rep_q upd_same zd, ?_⟩
      refine ⟨_, _, .str _, .str _, okE _, okE _, ?_⟩
      rw [show PyData.eqv (.str (endT (p / q))) (.str (endT (p / q))) = true by simp [PyData.eqv]]
      exact k _ (extN_same' x4 s5) ((((T1.ext s2).ext s34)).ext s5)
end
end Toy
set_option maxRecDepth 100000
set_option maxHeartbeats 4000000
/-! x op= y, x of an own class without a method in place. -/
namespace Own
open PySem PySem.Spec PyProof.Rows L2
open PySem.W (Looks findIn)
/-- no class of the line has the name -/
def noIn (K : PySem.W.Frag) (C : Addr) (i : Str) : Bool := match PySem.W.clsIn K C with
  | some cd => cd.mro.all fun c => match findIn K c i with | some none => true | _ => false
  | none => false
section
variable {M : Model} {h : Heap} {K : PySem.W.Frag} {C : Addr} {nm : String} {add : Bool}
theorem noI (X : K.In h) (hn : noIn K C (dunderI nm) = true) : Looks M h (fillsInplaceSlot (.ref C) nm add) false := by
  unfold noIn at hn
  cases hcd : PySem.W.clsIn K C with
  | none => rw [hcd] at hn; cases hn
  | some cd =>
    rw [hcd] at hn
    dsimp only at hn
    intro A Q E s k q
    have Lm : Looks M h (mroOf (.ref C)) cd.mro := (PySem.W.looks_clsIn X hcd).andThen (f := fun cd => pure cd.mro) .now
    have Lm' := Lm.keeps k
    obtain ⟨hh, g, d, tt, os⟩ := s
    have X' : K.In hh := X.keeps k
    unfold fillsInplaceSlot
    refine wpAny_bind (Lm'.at ?_)
    generalize cd.mro = cs at hn ⊢
    clear Lm Lm'
    induction cs with
    | nil => exact wpAny_pure q
    | cons c r ih =>
      rw [List.all_cons, Bool.and_eq_true] at hn
      obtain ⟨h1, h2⟩ := hn
      rw [List.anyM_cons]
      refine wpAny_bind (wpAny_bind ?_)
      cases hf : findIn K c (dunderI nm) with
      | none => rw [hf] at h1; cases h1
      | some o =>
        cases o with
        | some x => rw [hf] at h1; cases h1
        | none =>
          have L : Looks M hh (typeLookup c (dunderI nm)) none := PySem.W.looks_findIn X' hf
          refine L.at (wpAny_pure ?_)
          exact ih h2
end
section
variable {X : Cx} {CX : CXT} {k : Nat} {C f : Addr} {fd : FuncData} {ps : List Str} {sp : Sp} {E : XK} {op : Operator}
theorem ip_own {fo ro rc : Option Value} (F : FnOk X.prog X.w X.K X.mg X.base CX k f fd ps sp) (hr : Room k X.A) (hs : findIn X.K (.ref C) (PySem.dunder op.info.2) = some (some (.ref f))) (hf : PySem.W.isFn X.K (.ref f) = true)
    (hc : PySem.W.selfFirst X.K C = true) (hR : findIn X.K (.ref C) (dunderR op.info.2) = some rc) (hp : rc = none ∨ ∃ g : Addr, rc = some (.ref g)) (h1 : findIn X.K (.type "int") (PySem.dunder op.info.2) = some fo)
    (h2 : findIn X.K (.type "int") (dunderR op.info.2) = some ro) (hsub : PySem.W.subIn X.K (.type "int") (.ref C) = some false) (hno : noIn X.K C (dunderI op.info.2) = true) (hb : Binds X.K fd ps []) (hx : Passes CX X E) : OpR X (inplaceOp op) (rOwnB C sp E) := by
  intro pins s σ H x y u v Q I rx ry h
  obtain ⟨a, dx, fs, rfl, ha, hy, hsp⟩ := h
  cases rx
  obtain ⟨mA, O, _⟩ := ins_get I.hok ha
  obtain ⟨od, J, _⟩ := O.look
  have KX := I.kIn
  obtain ⟨cd, rest, hcd, hm⟩ := PySem.W.ksp_first hc
  have one : wpAny (model X.prog X.w) X.A (tryMethod (.ref a) (PySem.dunder op.info.2) v) (fun r s' => ∃ z, r = some z ∧ EP X pins σ Q z s') X.xe s := by
    have r2 : Vals [V.ref a, y] [Value.ref a, v] := .cons rfl (.cons ry .nil)
    refine PySem.W.ksp_try KX J hs hf (wpAny_mono (run_fn F hr hb .nil hx I r2 hsp) (fun w s' q => ?_) fun _ _ e => e)
    obtain ⟨v', H', I', rv, q⟩ := q
    exact relV_back rv ⟨v', H', I', rv, q⟩
  have L3 : Looks (model X.prog X.w) s.heap (fillsNumberSlot (.ref C) op.info.2) true := PySem.W.fills_K KX hcd hm hs
  have L6 : Looks (model X.prog X.w) s.heap (numberSlotInPython (.ref C) op.info.2) true := PySem.W.ksp_inPy KX hs hR hp
  unfold inplaceOp
  refine wpAny_holding (wpAny_bind (J.type.here (wpAny_bind ((noI KX hno).here ?_))))
  simp only [Bool.false_eq_true, if_false, pure_bind]
  refine wpAny_bind ?_
  suffices hb1 : wpAny (model X.prog X.w) X.A (binaryOp1 op.info.2 (.ref a) v) (fun r s' => ∃ z, r = some z ∧ EP X pins σ Q z s') X.xe s from
    wpAny_mono hb1 (fun r s' z => by
      obtain ⟨z, rfl, hq⟩ := z
      exact wpAny_pure hq) fun _ _ e => e
  unfold binaryOp1
  refine wpAny_bind (J.type.here ?_)
  rcases hy with ⟨j, rfl⟩ | ⟨b, dy, gs, rfl, hb'⟩
  · obtain ⟨t, rfl⟩ := ry
    have L4 : Looks (model X.prog X.w) s.heap (fillsNumberSlot (.type "int") op.info.2) _ := PySem.W.ksp_fillsT KX h1 h2
    have hne : (Value.ref C == Value.type "int") = false := Bool.eq_false_iff.mpr fun q => by cases beq_iff_eq.mp q
    have hpy : numberSlotInPython (.type "int") op.info.2 = pure false := rfl
    refine wpAny_bind (wpAny_of_eq (show typeOf (.int j t) = pure (.type "int") from rfl) (wpAny_bind (L3.here ?_)))
    simp only [hne, Bool.false_eq_true, if_false]
    refine wpAny_bind (L4.here ?_)
    generalize ((fo.isSome && !isSeqSlot fo) || (ro.isSome && !isSeqSlot ro)) = rt
    cases rt with
    | false =>
      simp only [Bool.and_false, Bool.false_and, Bool.false_eq_true, if_false, if_true, pure_bind]
      refine wpAny_bind (wpAny_mono one (fun r s' z => ?_) fun _ _ e => e)
      obtain ⟨z, rfl, hq⟩ := z
      exact wpAny_pure ⟨_, rfl, hq⟩
    | true =>
      simp only [Bool.and_self, if_true]
      refine wpAny_bind ((PySem.W.looks_subIn KX hsub).here ?_)
      simp only [Bool.false_eq_true, if_false, pure_bind, Bool.not_false, Bool.and_self, if_true]
      refine wpAny_bind (L6.here ?_)
      simp only [hpy, pure_bind, Bool.not_false, if_true]
      refine wpAny_bind ((PySem.W.looks_findIn KX h2).here ?_)
      refine wpAny_bind (wpAny_mono one (fun r s' z => ?_) fun _ _ e => e)
      obtain ⟨z, rfl, hq⟩ := z
      exact wpAny_pure ⟨_, rfl, hq⟩
  · cases ry
    obtain ⟨mB, O', _⟩ := ins_get I.hok hb'
    obtain ⟨od', J', _⟩ := O'.look
    refine wpAny_bind (J'.type.here (wpAny_bind (L3.here ?_)))
    simp only [beq_self_eq_true, if_true, pure_bind, Bool.and_false, Bool.false_and, Bool.false_eq_true, if_false]
    refine wpAny_bind (wpAny_mono one (fun r s' z => ?_) fun _ _ e => e)
    obtain ⟨z, rfl, hq⟩ := z
    exact wpAny_pure ⟨_, rfl, hq⟩
end
end Own
set_option maxRecDepth 100000
set_option maxHeartbeats 4000000
set_option exponentiation.threshold 9000
namespace Toy
open PySem L2
open Rat (divInt)
section
variable {P : Program} {w : World} {K : PySem.W.Frag} {mg : Str → Option Value} {base : Heap} {C CN CB CF P1 P2 P3 c : Addr}
theorem ip_B {X : Cx} {CX : CXT} {k : Nat} {f : Addr} {fd : FuncData} {ps : List Str} {sp : Sp} {E : XK} {op : Operator} (B : BinF X.K C op) (hno : Own.noIn X.K C (dunderI op.info.2) = true) (F : FnOk X.prog X.w X.K X.mg X.base CX k f fd ps sp) (hr : Room k X.A)
    (hs : PySem.W.findIn X.K (.ref C) (PySem.dunder op.info.2) = some (some (.ref f))) (hf : PySem.W.isFn X.K (.ref f) = true) (hb : Binds X.K fd ps []) (hx : Passes CX X E) : OpR X (inplaceOp op) (Own.rOwnB C sp E) := by
  obtain ⟨rc, hR, hp⟩ := B.hR
  obtain ⟨fo, h1⟩ := B.h1
  obtain ⟨ro, h2⟩ := B.h2
  exact Own.ip_own F hr hs hf B.hc hR hp h1 h2 B.hs hno hb hx
theorem eq0q {H : Hp} {u : V} {q : Rat} {Q : VK} {E : XK} (hq : NumQ C H u q) (k : ∀ H', Same H H' → Q (.bl (decide (q = 0))) H') : Own.rEqL C (spEqQ C) E (fun b => b) u (.int 0) H Q ∨ rEq u (.int 0) H Q := by
  rcases hq.cases with ⟨i, rfl, rfl⟩ | ⟨b, rfl, hb⟩
  · refine .inr ⟨rfl, ?_⟩
    have e : decide (((i : Int) : Rat) = 0) = decide (V.int i = V.int 0) := decide_eq_decide.mpr ⟨fun z => by rw [Rat.intCast_eq_zero_iff.mp z], fun z => by cases z; rfl⟩
    have k1 := k H (Same.refl H)
    rw [e] at k1
    exact k1
  · exact .inl (eqLq hb (.int 0) fun H' s => k H' s)
theorem bq {sp : Sp} {E : XK} {H : Hp} {a : Addr} {u : V} {p q : Rat} {Q : VK} (hp : RatQ C H a p) (hq : NumQ C H u q) (k : sp [.ref a, u] H Q E) : Own.rOwnB C sp E (.ref a) u H Q := by
  obtain ⟨dx, fs, h⟩ := hp.ins
  exact ⟨a, dx, fs, rfl, h, hq.ri, k⟩
def spInPl (C : Addr) : Sp := fun vs H Q _ => ∃ a u p q, vs = [.ref a, u] ∧ RatQ C H a p ∧ NumQ C H u q ∧ (Sq 200 p ∧ Sq 200 q) ∧ ∀ H', Same H H' → Q (.bl true) H'
abbrev sInPl : Stmt := top 35
theorem scInPl : FnScope ["_law_made", "_law_yours", "_law_held"] ["_law_made", "_law_yours"] (defScope sInPl) := ⟨rfl, rfl, rfl, by decide +kernel, rfl, by decide +kernel, by decide +kernel⟩
theorem ok_inpl {f a5 a7 a9 c1 : Addr} {fd ad5 ad7 ad9 cd1 : FuncData} (F : Fun K "_law_in_place_right" "_law_in_place_right" sInPl f fd) (T_Ratio : RatT K mg C) (hne : PySem.W.findIn K (.ref C) "__ne__" = some (some (.builtin "object.__ne__"))) (hO : PySem.W.subIn K (.ref C) (.type "object") = some true) (ni_BA : Own.noIn K C (dunderI "add") = true) (ni_BS : Own.noIn K C (dunderI "sub") = true) (ni_BM : Own.noIn K C (dunderI "mul") = true) (ni_BF : Own.noIn K C (dunderI "floordiv") = true) (ni_BMo : Own.noIn K C (dunderI "mod") = true) (BM : BinF K C .Mult) (BF : BinF K C .FloorDiv) (BMo : BinF K C .Mod)
    (O_mul : Opr P w K mg base 4 C "__mul__" a5 ad5 ["self", "other"] (spBin C GT fun p q => p * q)) (O_fdiv : Opr P w K mg base 3 C "__floordiv__" a7 ad7 ["self", "other"] (spQuo C)) (O_mod : Opr P w K mg base 6 C "__mod__" a9 ad9 ["self", "other"] (spMod C)) (O_eq : Opr P w K mg base 3 C "__eq__" c1 cd1 ["self", "other"] (spEqQ C)) :
    FnOk P w K mg base CX0 7 f fd ["_law_made", "_law_yours"] (spInPl C) := by
  refine F.ok scInPl (fun vs H Q E h => ?_) (fun cdv A outer s H vs Q E hr h => ?_)
  · obtain ⟨a, u, p, q, rfl, _⟩ := h
    rfl
  · obtain ⟨a, u, p, q, rfl, hp, hq, ⟨zp, zq⟩, k⟩ := h
    have nd := scInPl.nd
    have yp : Sq 3900 p := zp.mono (by decide)
    have yq : Sq 3900 q := zq.mono (by decide)
    refine ⟨_, pss_cons (ps_set (i := 2) nd rfl (Or.inl rfl) (pv 0))
      (pss_cons (ps_aug (i := 2) nd rfl (.inl rfl) (pv 1) (ip_B BM (ni_BM) O_mul.F (hr.mono (by decide)) O_mul.at_ O_mul.fn O_mul.b pass0))
      (pss_cons (ps_if (pt_cmpR (Own.op_neL O_eq.F (hr.mono (by decide)) O_eq.at_ hne hO O_eq.fn T_Ratio.nI O_eq.b pass0) (pv 2) (pe_op (op_B BM O_mul.F (hr.mono (by decide)) O_mul.at_ O_mul.fn O_mul.b pass0) (pv 0) (pv 1)) (nomark _)) (pss_one (ps_ret pe_bl)) pss_nil)
      (pss_cons (ps_if (pt_cmpR (OpR.or (Own.op_eqL O_eq.F (hr.mono (by decide)) O_eq.at_ O_eq.fn T_Ratio.nI O_eq.b pass0) op_eq) (pv 1) pe_int (nomark _)) (pss_one (ps_ret pe_bl)) pss_nil)
      (pss_cons (ps_set (i := 2) nd rfl (Or.inl rfl) (pv 0))
      (pss_cons (ps_aug (i := 2) nd rfl (.inl rfl) (pv 1) (ip_B BF (ni_BF) O_fdiv.F (hr.mono (by decide)) O_fdiv.at_ O_fdiv.fn O_fdiv.b pass0))
      (pss_cons (ps_if (pt_cmpR op_ne (pv 2) (pe_op (op_B BF O_fdiv.F (hr.mono (by decide)) O_fdiv.at_ O_fdiv.fn O_fdiv.b pass0) (pv 0) (pv 1)) (nomark _)) (pss_one (ps_ret pe_bl)) pss_nil)
      (pss_cons (ps_set (i := 2) nd rfl (Or.inl rfl) (pv 0))
      (pss_cons (ps_aug (i := 2) nd rfl (.inl rfl) (pv 1) (ip_B BMo (ni_BMo) O_mod.F (hr.mono (by decide)) O_mod.at_ O_mod.fn O_mod.b pass0))
      (pss_one (ps_ret (pe_cmpR (Own.op_eqL O_eq.F (hr.mono (by decide)) O_eq.at_ O_eq.fn T_Ratio.nI O_eq.b pass0) (pv 2) (pe_op (op_B BMo O_mod.F (hr.mono (by decide)) O_mod.at_ O_mod.fn O_mod.b pass0) (pv 0) (pv 1)) (nomark _)))))))))))), ?_⟩
    refine ⟨_, rfl, _, rfl, _, rfl, bq hp hq ⟨a, u, p, q, rfl, hp, hq, ⟨yp, yq⟩, trivial, fun m1 H1 s1 hm1 => ?_⟩⟩
    have hp1 := hp.same s1
    have hq1 := hq.same s1
    refine ⟨_, rfl, _, rfl, _, rfl, bq hp1 hq1 ⟨a, u, p, q, rfl, hp1, hq1, ⟨yp, yq⟩, trivial, fun m2 H2 s2 hm2 => ?_⟩⟩
    refine eqLq (hm1.same s2) (.rat hm2) fun H3 s3 => ⟨_, rfl, iteFb (by rw [decide_eq_true rfl]; rfl) ?_⟩
    have s03 := s1.trans (s2.trans s3)
    have hp3 := hp.same s03
    have hq3 := hq.same s03
    refine ⟨_, rfl, eq0q hq3 fun H4 s4 => ⟨_, rfl, ?_⟩⟩
    have s04 := s03.trans s4
    by_cases hz : q = 0
    · exact iteTb (decide_eq_true hz) (k _ s04)
    refine iteFb (decide_eq_false hz) ?_
    have hp4 := hp.same s04
    have hq4 := hq.same s04
    refine ⟨_, rfl, _, rfl, _, rfl, bq hp4 hq4 ⟨_, u, p, q, rfl, .rat hp4, hq4, ⟨yp, yq⟩, hz, fun H5 s5 => ?_⟩⟩
    have s05 := s04.trans s5
    have hp5 := hp.same s05
    have hq5 := hq.same s05
    refine ⟨_, rfl, _, rfl, _, rfl, bq hp5 hq5 ⟨_, u, p, q, rfl, .rat hp5, hq5, ⟨yp, yq⟩, hz, fun H6 s6 => ?_⟩⟩
    have s06 := s05.trans s6
    have hp6 := hp.same s06
    have hq6 := hq.same s06
    refine ⟨rfl, _, rfl, iteFb (by rw [decide_eq_true rfl]; rfl) ?_⟩
    refine ⟨_, rfl, _, rfl, _, rfl, bq hp6 hq6 ⟨a, u, p, q, rfl, hp6, hq6, ⟨yp, yq⟩, ⟨hz, zp.mono (by decide), zq.mono (by decide)⟩, fun m7 H7 s7 hm7 => ?_⟩⟩
    have s07 := s06.trans s7
    have hp7 := hp.same s07
    have hq7 := hq.same s07
    refine ⟨_, rfl, _, rfl, _, rfl, bq hp7 hq7 ⟨a, u, p, q, rfl, hp7, hq7, ⟨yp, yq⟩, ⟨hz, zp.mono (by decide), zq.mono (by decide)⟩, fun m8 H8 s8 hm8 => ?_⟩⟩
    refine eqLq (hm7.same s8) (.rat hm8) fun H9 s9 => ?_
    rw [decide_eq_true rfl]
    exact k _ (s07.trans (s8.trans s9))
end
end Toy
set_option maxRecDepth 100000
set_option maxHeartbeats 4000000
/-! x op= e by an own method that only raises; what is wanted behind it may speak of the names. -/
namespace Own
open PySem PySem.Spec PyProof.Rows L2
open PySem.W (Looks findIn)
section
variable {X : Cx} {k : Nat} {C f : Addr} {fd : FuncData} {ps : List Str} {sp : Sp} {op : Operator} {W : WX} {i : Nat} {n : Str} {e : Expr} {te : TE} {pos pos' : Pos}
theorem ps_ipL {fo ro rc : Option Value} (tk : Takes X W) (hN : X.N.Nodup) (hi : X.N[i]? = some n) (hx : X.env.scope.names.lookup n = some .local) (he : PE X e te) (F : FnOk X.prog X.w X.K X.mg X.base (L2.CX X.prog X.w) k f fd ps sp) (hr : Room k X.A)
    (hs : findIn X.K (.ref C) (PySem.dunder op.info.2) = some (some (.ref f))) (hf : PySem.W.isFn X.K (.ref f) = true)
    (hc : PySem.W.selfFirst X.K C = true) (hR : findIn X.K (.ref C) (dunderR op.info.2) = some rc) (hp : rc = none ∨ ∃ g : Addr, rc = some (.ref g)) (h1 : findIn X.K (.type "int") (PySem.dunder op.info.2) = some fo)
    (h2 : findIn X.K (.type "int") (dunderR op.info.2) = some ro) (hsub : PySem.W.subIn X.K (.type "int") (.ref C) = some false) (hno : noIn X.K C (dunderI op.info.2) = true) (hb : Binds X.K fd ps []) :
    PS X (.AugAssign (.Name n pos') op e pos) (fun _ σ H => ∃ a, σ[i]? = some (some (.ref a)) ∧ te σ H fun y H1 => ∃ dx fs, H1 a = some (.ins C dx fs) ∧ ((∃ j, y = .int j) ∨ ∃ b dy gs, y = .ref b ∧ H1 b = some (.ins C dy gs)) ∧ sp [.ref a, y] H1 (fun _ _ => False) fun cls d H2 => W cls d σ H2) := by
  refine ⟨fun pins s σ H D I h => ?_⟩
  obtain ⟨a, ea, h⟩ := h
  obtain ⟨m, hn, hl⟩ := id I.loc
  obtain ⟨u, ru, l⟩ := hl i n (.ref a) hi ea (.inl hx)
  obtain rfl : u = Value.ref a := ru
  have hk : X.env.kindOf n = some .local := hx
  rcases l with ⟨_, hm⟩ | ⟨hk', _⟩
  · refine wpAny_AugAssign_Name (wpAny_loadName_local I.ok.kind hk hn hm ?_)
    refine wpAny_mono (he.run pins s σ H _ I h) (fun v t z => ?_) fun _ _ e => e
    obtain ⟨y, H1, J, ry, dx, fs, ha, hy, hsp⟩ := z
    obtain ⟨mA, O, _⟩ := ins_get J.hok ha
    obtain ⟨od, L, _⟩ := O.look
    have KX := J.kIn
    obtain ⟨cd, rest, hcd, hmro⟩ := PySem.W.ksp_first hc
    have one : wpAny (model X.prog X.w) X.A (tryMethod (.ref a) (PySem.dunder op.info.2) v) (fun r s' => ∃ z, r = some z ∧ False) X.xe t := by
      have r2 : Vals [V.ref a, y] [Value.ref a, v] := .cons rfl (.cons ry .nil)
      have hlen : [Value.ref a, v].length = ps.length := by rw [← r2.length]; exact F.len _ _ _ _ hsp
      refine PySem.W.ksp_try KX L hs hf (wpAny_call (codeAny_mono (F.run X.A X.stack t H1 ⟨[Value.ref a, v], []⟩ _ _ _ _ hr J.env0 (hb t _ KX hlen) r2 hsp) fun r s' q => ?_))
      cases r with
      | error x => exact tk x s' (XE.of_call J (fun _ _ _ z => z) q)
      | ok fl => cases fl with
        | ret w => exact absurd (J.after q) (fun ⟨_, _, _, _, z⟩ => z)
        | next => exact False.elim q
        | brk => exact False.elim q
        | cont => exact False.elim q
    have L3 : Looks (model X.prog X.w) t.heap (fillsNumberSlot (.ref C) op.info.2) true := PySem.W.fills_K KX hcd hmro hs
    have L6 : Looks (model X.prog X.w) t.heap (numberSlotInPython (.ref C) op.info.2) true := PySem.W.ksp_inPy KX hs hR hp
    have one' : ∀ {Q : Option Value → Shared → Prop}, wpAny (model X.prog X.w) X.A (tryMethod (.ref a) (PySem.dunder op.info.2) v) Q X.xe t := wpAny_mono one (fun r s' ⟨_, _, z⟩ => z.elim) fun _ _ e => e
    unfold inplaceOp
    refine wpAny_holding (wpAny_bind (L.type.here (wpAny_bind ((noI KX hno).here ?_))))
    simp only [Bool.false_eq_true, if_false]
    refine wpAny_bind ?_
    unfold binaryOp1
    refine wpAny_bind (L.type.here ?_)
    rcases hy with ⟨j, rfl⟩ | ⟨b, dy, gs, rfl, hb'⟩
    · obtain ⟨tok, rfl⟩ := ry
      have L4 : Looks (model X.prog X.w) t.heap (fillsNumberSlot (.type "int") op.info.2) _ := PySem.W.ksp_fillsT KX h1 h2
      have hne : (Value.ref C == Value.type "int") = false := Bool.eq_false_iff.mpr fun q => by cases beq_iff_eq.mp q
      have hpy : numberSlotInPython (.type "int") op.info.2 = pure false := rfl
      refine wpAny_bind (wpAny_of_eq (show typeOf (.int j tok) = pure (.type "int") from rfl) (wpAny_bind (L3.here ?_)))
      simp only [hne, Bool.false_eq_true, if_false]
      refine wpAny_bind (L4.here ?_)
      generalize ((fo.isSome && !isSeqSlot fo) || (ro.isSome && !isSeqSlot ro)) = rt
      cases rt with
      | false =>
        simp only [Bool.and_false, Bool.false_and, Bool.false_eq_true, if_false, if_true, pure_bind]
        exact wpAny_bind one'
      | true =>
        simp only [Bool.and_self, if_true]
        refine wpAny_bind ((PySem.W.looks_subIn KX hsub).here ?_)
        simp only [Bool.false_eq_true, if_false, pure_bind, Bool.not_false, Bool.and_self, if_true]
        refine wpAny_bind (L6.here ?_)
        simp only [hpy, pure_bind, Bool.not_false, if_true]
        exact wpAny_bind ((PySem.W.looks_findIn KX h2).here (wpAny_bind one'))
    · cases ry
      obtain ⟨mB, O', _⟩ := ins_get J.hok hb'
      obtain ⟨od', J', _⟩ := O'.look
      refine wpAny_bind (J'.type.here (wpAny_bind (L3.here ?_)))
      simp only [beq_self_eq_true, if_true, pure_bind, Bool.and_false, Bool.false_and, Bool.false_eq_true, if_false]
      exact wpAny_bind one'
  · rw [hk] at hk'
    rcases hk' with z | z <;> cases z
end
end Own
set_option maxRecDepth 100000
set_option maxHeartbeats 4000000
set_option exponentiation.threshold 9000
namespace Toy
open PySem L2
open Rat (divInt)
section
variable {P : Program} {w : World} {K : PySem.W.Frag} {mg : Str → Option Value} {base : Heap} {C CN CB CF P1 P2 P3 c : Addr}
theorem ps_ipB {X : Cx} {k : Nat} {f : Addr} {fd : FuncData} {ps : List Str} {sp : Sp} {op : Operator} {W : WX} {i : Nat} {n : Str} {e : Expr} {te : TE} {pos pos' : Pos} (B : BinF X.K C op) (hno : Own.noIn X.K C (dunderI op.info.2) = true)
    (tk : Takes X W) (hN : X.N.Nodup) (hi : X.N[i]? = some n) (hx : X.env.scope.names.lookup n = some .local) (he : PE X e te) (F : FnOk X.prog X.w X.K X.mg X.base (L2.CX X.prog X.w) k f fd ps sp) (hr : Room k X.A)
    (hs : PySem.W.findIn X.K (.ref C) (PySem.dunder op.info.2) = some (some (.ref f))) (hf : PySem.W.isFn X.K (.ref f) = true) (hb : Binds X.K fd ps []) :
    PS X (.AugAssign (.Name n pos') op e pos) (fun _ σ H => ∃ a, σ[i]? = some (some (.ref a)) ∧ te σ H fun y H1 => ∃ dx fs, H1 a = some (.ins C dx fs) ∧ ((∃ j, y = .int j) ∨ ∃ b dy gs, y = .ref b ∧ H1 b = some (.ins C dy gs)) ∧ sp [.ref a, y] H1 (fun _ _ => False) fun cls d H2 => W cls d σ H2) := by
  obtain ⟨rc, hR, hp⟩ := B.hR
  obtain ⟨fo, h1⟩ := B.h1
  obtain ⟨ro, h2⟩ := B.h2
  exact Own.ps_ipL tk hN hi hx he F hr hs hf B.hc hR hp h1 h2 B.hs hno hb
def spKept (C : Addr) : Sp := fun vs H Q _ => ∃ a p, vs = [.ref a] ∧ RatQ C H a p ∧ Sq 200 p ∧ ∀ H', Same H H' → Q (.bl true) H'
abbrev sKept : Stmt := top 36
theorem scKept : FnScope ["_law_made", "_law_held", "_law_found"] ["_law_made"] (defScope sKept) := ⟨rfl, rfl, rfl, by decide +kernel, rfl, by decide +kernel, by decide +kernel⟩
theorem ok_kept {f a7 a9 c1 : Addr} {fd ad7 ad9 cd1 : FuncData} (F : Fun K "_law_is_kept" "_law_is_kept" sKept f fd) (T_Ratio : RatT K mg C) (ni_BA : Own.noIn K C (dunderI "add") = true) (ni_BS : Own.noIn K C (dunderI "sub") = true) (ni_BM : Own.noIn K C (dunderI "mul") = true) (ni_BF : Own.noIn K C (dunderI "floordiv") = true) (ni_BMo : Own.noIn K C (dunderI "mod") = true) (BF : BinF K C .FloorDiv) (BMo : BinF K C .Mod) (hN : mg "NoDivisor" = some (.ref CN)) (eN : PySem.W.exmOne K (.ref CN) (.ref CN) = some true)
    (O_fdiv : Opr P w K mg base 3 C "__floordiv__" a7 ad7 ["self", "other"] (spQuo C)) (O_mod : Opr P w K mg base 6 C "__mod__" a9 ad9 ["self", "other"] (spMod C)) (FD0 : FnOk P w K mg base (L2.CX P w) 3 a7 ad7 ["self", "other"] (spQuo0 C CN)) (MD0 : FnOk P w K mg base (L2.CX P w) 6 a9 ad9 ["self", "other"] (spQuo0 C CN)) (O_eq : Opr P w K mg base 3 C "__eq__" c1 cd1 ["self", "other"] (spEqQ C)) :
    FnOk P w K mg base CX0 7 f fd ["_law_made"] (spKept C) := by
  refine F.ok scKept (fun vs H Q E h => ?_) (fun cdv A outer s H vs Q E hr h => ?_)
  · obtain ⟨a, p, rfl, _⟩ := h
    rfl
  · obtain ⟨a, p, rfl, hp, zp, k⟩ := h
    have nd := scKept.nd
    have yp : Sq 3900 p := zp.mono (by decide)
    obtain ⟨dx, fs, hi⟩ := hp.ins
    refine ⟨_, pss_cons (ps_par (i := 1) (j := 2) (by rfl) nd rfl rfl (by decide) rfl rfl (pa_cons (pv 0) (pa_cons pe_int pa_nil)) (by rfl))
      (pss_cons (Own.ps_try_cl rfl rfl (fun W pn xe tk _ => pss_one (ps_ipB BF ni_BF tk nd rfl rfl pe_int FD0 (hr.mono (by decide)) O_fdiv.at_ O_fdiv.fn O_fdiv.b (i := 1))) (Own.cl_on rfl ⟨rfl, by decide, .inl hN⟩ (fun a oe cls d pn _ _ => pss_one (ps_set (i := 2) nd rfl (.inl rfl) (pe_op op_add (pv 2) pe_int))) (Own.cl_nil rfl rfl takes0)))
      (pss_cons (Own.ps_try_cl rfl rfl (fun W pn xe tk _ => pss_one (ps_ipB BMo ni_BMo tk nd rfl rfl pe_int MD0 (hr.mono (by decide)) O_mod.at_ O_mod.fn O_mod.b (i := 1))) (Own.cl_on rfl ⟨rfl, by decide, .inl hN⟩ (fun a oe cls d pn _ _ => pss_one (ps_set (i := 2) nd rfl (.inl rfl) (pe_op op_add (pv 2) pe_int))) (Own.cl_nil rfl rfl takes0)))
      (pss_one (ps_ret (pe_and (pe_cmpR op_eq (pv 2) pe_int (nomark _)) (pe_one (pe_cmpR (Own.op_eqL O_eq.F (hr.mono (by decide)) O_eq.at_ O_eq.fn T_Ratio.nI O_eq.b pass0) (pv 1) (pv 0) (nomark _)))))))), ?_⟩
    refine ⟨_, rfl, _, _, rfl, a, rfl, dx, fs, hi, .inl ⟨_, rfl⟩, _, _, p, rfl, .rat hp, .int 0, yp, fun H1 s1 => ?_⟩
    refine ⟨true, eN, fun _ b hb => ⟨_, rfl, _, _, rfl, rfl, ?_⟩, (fun z => nomatch z)⟩
    have hp1 := hp.same s1
    obtain ⟨dx1, fs1, hi1⟩ := hp1.ins
    refine ⟨a, rfl, dx1, fs1, hi1, .inl ⟨_, rfl⟩, _, _, p, rfl, .rat hp1, .int 0, yp, fun H2 s2 => ?_⟩
    refine ⟨true, eN, fun _ b hb => ⟨_, rfl, _, _, rfl, rfl, ?_⟩, (fun z => nomatch z)⟩
    have s02 := s1.trans s2
    have hp2 := hp.same s02
    refine ⟨_, rfl, rfl, _, rfl, iteTb (by decide) ?_⟩
    refine ⟨_, rfl, _, rfl, eqLq hp2 (.rat hp2) fun H3 s3 => ?_⟩
    rw [decide_eq_true rfl]
    exact k _ (s02.trans s3)
end
end Toy
set_option maxRecDepth 100000
set_option maxHeartbeats 4000000
set_option exponentiation.threshold 9000
namespace Toy
open PySem L2
open Rat (divInt)
section
variable {P : Program} {w : World} {K : PySem.W.Frag} {mg : Str → Option Value} {base : Heap} {C CN CB CF P1 P2 P3 c : Addr}
theorem abs_num (p : Rat) : p.abs.num = (if p.num < 0 then -p.num else p.num) ∧ p.abs.den = p.den := by
  by_cases h : p.num < 0
  · rw [if_pos h, Rat.abs, if_neg (fun z => by have := Rat.num_nonneg.mpr z; omega)]
    exact ⟨Rat.neg_num p, Rat.neg_den p⟩
  · rw [if_neg h, Rat.abs, if_pos (Rat.num_nonneg.mp (by omega))]
    exact ⟨rfl, rfl⟩
theorem Sq.abs' {k : Nat} {p : Rat} (h : Sq k p) : Sq k p.abs := by
  obtain ⟨e1, e2⟩ := abs_num p
  refine ⟨?_, ?_⟩
  · rw [e1]
    have := h.1
    split <;> omega
  · rw [e2]
    exact h.2
theorem rep_neg {H : Hp} {a : Addr} {q : Rat} (h : H a = some (.tup [.int (0 - q.num), .int (q.den : Int)])) (z : Sq 1900 q) : Own.ReprOf K H (.ref a) (endT (-q)) := by
  refine rep_q ?_ z.neg
  rw [Rat.neg_num, Rat.neg_den, h, Int.zero_sub]
theorem rep_abs {H : Hp} {a : Addr} {q : Rat} (h : H a = some (.tup [.int (if q.num < 0 then -q.num else q.num), .int (q.den : Int)])) (z : Sq 1900 q) : Own.ReprOf K H (.ref a) (endT q.abs) := by
  refine rep_q ?_ z.abs'
  rw [(abs_num q).1, (abs_num q).2, h]
theorem qm_lo (p : Rat) : 0 ≤ qmod p 5 := by
  have h := Rat.floor_le (p / 5)
  have e : p / 5 * 5 = p := Rat.div_mul_cancel (by decide)
  have h2 := Rat.mul_le_mul_of_nonneg_right h (show (0 : Rat) ≤ 5 by decide)
  rw [e] at h2
  unfold qmod
  grind
theorem qm_hi (p : Rat) : qmod p 5 < 5 := by
  have h := Rat.lt_floor_add_one (p / 5)
  have e : p / 5 * 5 = p := Rat.div_mul_cancel (by decide)
  have h2 := Rat.mul_lt_mul_of_pos_right h (show (0 : Rat) < 5 by decide)
  rw [e] at h2
  unfold qmod
  rw [Rat.intCast_add] at h2
  grind
theorem qm_eq (p : Rat) : qmod p 5 = p - ((5 * (p / 5).floor : Int) : Rat) := by
  unfold qmod
  rw [Rat.intCast_mul]
  have : ((5 : Int) : Rat) = 5 := rfl
  grind
theorem qm_eq5 (p : Rat) : qmod p ((5 : Int) : Rat) = p - ((5 * (p / ((5 : Int) : Rat)).floor : Int) : Rat) := qm_eq p
theorem lt_dec (p q : Rat) : decide (p.num * q.den - q.num * p.den < 0) = decide (p < q) := by
  rw [dec_sub1]
  exact decide_eq_decide.mpr (Rat.lt_iff p q).symm
theorem ge_dec (p q : Rat) : decide (0 ≤ p.num * q.den - q.num * p.den) = decide (q ≤ p) := by
  rw [dec_sub4]
  exact decide_eq_decide.mpr (Rat.le_iff q p).symm
end
end Toy
set_option maxRecDepth 100000
set_option maxHeartbeats 4000000
set_option exponentiation.threshold 9000
namespace Toy
open PySem L2
open Rat (divInt)
section
variable {P : Program} {w : World} {K : PySem.W.Frag} {mg : Str → Option Value} {base : Heap} {C CN CB CF P1 P2 P3 c : Addr}
theorem sh2 {a b : Str} (h1 : PyData.strOk a = true) (h2 : PyData.strOk b = true) : SeqAt.shaped (.list [.str a, .str b]) = true := by simp [SeqAt.shaped, PyData.canLay0, PyData.canLayAll0, PyData.depth, PyData.depthAll, h1, h2]
theorem eq2 {a b : Str} : PyData.eqv (.list [.str a, .str b]) (.list [.str a, .str b]) = true := by simp [PyData.eqv, PyData.eqvAll]
def spKeptR (C : Addr) : Sp := fun vs H Q _ => ∃ t1 u p q, vs = [.ref t1, u] ∧ H t1 = some (.tup [.int p.num, .int (p.den : Int)]) ∧ NumQ C H u q ∧ (Sq 130 p ∧ Sq 130 q) ∧ ∀ H', Same H H' → Q (.bl true) H'
abbrev sKeptR : Stmt := top 37
theorem scKeptR : FnScope ["_law_one", "_law_yours", "_law_made", "_law_held", "_law_kept"] ["_law_one", "_law_yours"] (defScope sKeptR) := ⟨rfl, rfl, rfl, by decide +kernel, rfl, by decide +kernel, by decide +kernel⟩
theorem ok_keptr {f a1 a3 a5 a7 a9 c1 c2 c3 c4 c5 f1 f2 f3 f4 : Addr} {fd ad1 ad3 ad5 ad7 ad9 cd1 cd2 cd3 cd4 cd5 fd1 fd2 fd3 fd4 : FuncData} (F : Fun K "_law_kept_right" "_law_kept_right" sKeptR f fd) (T : Bl mg) (zr : mg "repr" = none) (T_Ratio : RatT K mg C) (hne : PySem.W.findIn K (.ref C) "__ne__" = some (some (.builtin "object.__ne__"))) (hO : PySem.W.subIn K (.ref C) (.type "object") = some true) (ni_BA : Own.noIn K C (dunderI "add") = true) (ni_BS : Own.noIn K C (dunderI "sub") = true) (ni_BM : Own.noIn K C (dunderI "mul") = true) (ni_BF : Own.noIn K C (dunderI "floordiv") = true) (ni_BMo : Own.noIn K C (dunderI "mod") = true) (BA : BinF K C .Add) (BS : BinF K C .Sub) (BM : BinF K C .Mult) (BF : BinF K C .FloorDiv) (BMo : BinF K C .Mod)
    (O_add : Opr P w K mg base 4 C "__add__" a1 ad1 ["self", "other"] (spBin C GT fun p q => p + q)) (O_sub : Opr P w K mg base 4 C "__sub__" a3 ad3 ["self", "other"] (spBin C GT fun p q => p - q))
    (O_mul : Opr P w K mg base 4 C "__mul__" a5 ad5 ["self", "other"] (spBin C GT fun p q => p * q)) (O_fdiv : Opr P w K mg base 3 C "__floordiv__" a7 ad7 ["self", "other"] (spQuo C)) (O_mod : Opr P w K mg base 6 C "__mod__" a9 ad9 ["self", "other"] (spMod C)) (O_eq : Opr P w K mg base 3 C "__eq__" c1 cd1 ["self", "other"] (spEqQ C))
    (O_lt : Opr P w K mg base 3 C "__lt__" c2 cd2 ["self", "other"] (spCmp C fun z => decide (z < 0))) (O_ge : Opr P w K mg base 3 C "__ge__" c3 cd3 ["self", "other"] (spCmp C fun z => decide (0 ≤ z))) (O_neg : Opr P w K mg base 4 C "__neg__" c4 cd4 ["self"] (spUn C fun p => -p)) (O_abs : Opr P w K mg base 4 C "__abs__" c5 cd5 ["self"] (spUn C Rat.abs))
    (M_Ratio : Mak P w K mg base 2 "Ratio" C f1 fd1 ["self", "top", "bottom"] (spRInit C)) (G_ends : CalG P w K mg base 1 "_law_ends" f2 fd2 ["_law_value"] (spEnds C)) (C__law_in_place_right : Cal P w K mg base 7 "_law_in_place_right" f3 fd3 ["_law_made", "_law_yours"] (spInPl C)) (C__law_is_kept : Cal P w K mg base 7 "_law_is_kept" f4 fd4 ["_law_made"] (spKept C)) :
    Own.FnG P w K mg base CX0 8 f fd ["_law_one", "_law_yours"] (spKeptR C) := by
  refine Own.okG F scKeptR (fun vs H Q E h => ?_) (fun cdv A outer s H vs Q E hg hr h => ?_)
  · obtain ⟨t1, u, p, q, rfl, _⟩ := h
    rfl
  · obtain ⟨t1, u, p, q, rfl, h1, hq, ⟨zp, zq⟩, k⟩ := h
    have nd := scKeptR.nd
    have yp : Sq 3900 p := zp.mono (by decide)
    have yq : Sq 3900 q := zq.mono (by decide)
    have xp : Sq 1900 p := zp.mono (by decide)
    have ysum : Sq 1900 (p + q) := (zp.add zq).mono (by decide)
    have z3 : Sq 2 (((3 : Int) : Rat)) := Sq.int (by decide) (by decide)
    have z7 : Sq 3900 (((7 : Int) : Rat)) := Sq.int (by decide +kernel) (by decide)
    have z5 : Sq 1000 (((5 : Int) : Rat)) := Sq.int (by decide +kernel) (by decide)
    have y3 : Sq 132 (p * ((3 : Int) : Rat)) := zp.mul z3
    refine ⟨_, pss_cons (ps_set (i := 2) nd rfl (Or.inl rfl) (pe_make M_Ratio.M M_Ratio.F (hr.mono (by decide)) (by rfl) M_Ratio.mgC M_Ratio.b .nil pass0 (pa_cons (pe_ix ix_tup (pv 0) pe_int (fun _ _ => rfl)) (pa_cons (pe_ix ix_tup (pv 0) pe_int (fun _ _ => rfl)) pa_nil))))
      (pss_cons (ps_if (pt_cmpR (op_neD hr.units) (pe_lst (pa_cons (Own.pe_callG G_ends.F hg (hr.mono (by decide)) (by rfl) G_ends.mgf G_ends.kp G_ends.b pass0 (pa_cons (pe_un (Own.un_ownNeg O_neg.F (hr.mono (by decide)) O_neg.at_ O_neg.fn O_neg.b pass0) (pv 2)) pa_nil)) (pa_cons (Own.pe_callG G_ends.F hg (hr.mono (by decide)) (by rfl) G_ends.mgf G_ends.kp G_ends.b pass0 (pa_cons (pe_callB (Own.call_ownAbs O_abs.F (hr.mono (by decide)) O_abs.at_ O_abs.fn O_abs.b pass0) (by rfl) T.abs (by decide +kernel) (pa_cons (pv 2) pa_nil)) pa_nil)) pa_nil))) (pe_lst (pa_cons (pe_callB (Own.call_reprA hg hr.units) (by rfl) zr (by decide +kernel) (pa_cons (pe_tup (pa_cons (pe_op op_sub pe_int (pe_ix ix_tup (pv 0) pe_int (fun _ _ => rfl))) (pa_cons (pe_ix ix_tup (pv 0) pe_int (fun _ _ => rfl)) pa_nil))) pa_nil)) (pa_cons (pe_callB (Own.call_reprA hg hr.units) (by rfl) zr (by decide +kernel) (pa_cons (pe_tup (pa_cons (pe_callB call_abs (by rfl) T.abs (by decide +kernel) (pa_cons (pe_ix ix_tup (pv 0) pe_int (fun _ _ => rfl)) pa_nil)) (pa_cons (pe_ix ix_tup (pv 0) pe_int (fun _ _ => rfl)) pa_nil))) pa_nil)) pa_nil))) (nomark _)) (pss_one (ps_ret pe_bl)) pss_nil)
      (pss_cons (ps_set (i := 3) nd rfl (Or.inl rfl) (pv 2))
      (pss_cons (ps_aug (i := 3) nd rfl (.inl rfl) (pv 1) (ip_B BA (ni_BA) O_add.F (hr.mono (by decide)) O_add.at_ O_add.fn O_add.b pass0))
      (pss_cons (ps_if (PW.pt (pw_or (pt_cmpR (Own.op_neL O_eq.F (hr.mono (by decide)) O_eq.at_ hne hO O_eq.fn T_Ratio.nI O_eq.b pass0) (pv 3) (pe_op (op_B BA O_add.F (hr.mono (by decide)) O_add.at_ O_add.fn O_add.b pass0) (pv 2) (pv 1)) (nomark _)) (pw_or1 (pt_cmpR op_ne (Own.pe_callG G_ends.F hg (hr.mono (by decide)) (by rfl) G_ends.mgf G_ends.kp G_ends.b pass0 (pa_cons (pv 2) pa_nil)) (pe_callB (Own.call_reprA hg hr.units) (by rfl) zr (by decide +kernel) (pa_cons (pv 0) pa_nil)) (nomark _))))) (pss_one (ps_ret pe_bl)) pss_nil)
      (pss_cons (ps_set (i := 4) nd rfl (Or.inl rfl) (pv 3))
      (pss_cons (ps_aug (i := 3) nd rfl (.inl rfl) (pv 2) (ip_B BS (ni_BS) O_sub.F (hr.mono (by decide)) O_sub.at_ O_sub.fn O_sub.b pass0))
      (pss_cons (ps_if (PW.pt (pw_or (pt_cmpR (Own.op_neL O_eq.F (hr.mono (by decide)) O_eq.at_ hne hO O_eq.fn T_Ratio.nI O_eq.b pass0) (pv 3) (pv 1) (nomark _)) (pw_or1 (pt_cmpR (Own.op_neL O_eq.F (hr.mono (by decide)) O_eq.at_ hne hO O_eq.fn T_Ratio.nI O_eq.b pass0) (pv 4) (pe_op (op_B BA O_add.F (hr.mono (by decide)) O_add.at_ O_add.fn O_add.b pass0) (pv 2) (pv 1)) (nomark _))))) (pss_one (ps_ret pe_bl)) pss_nil)
      (pss_cons (ps_par (i := 3) (j := 4) (by rfl) nd rfl rfl (by decide) rfl rfl (pa_cons (pv 2) (pa_cons (pe_op (op_B BM O_mul.F (hr.mono (by decide)) O_mul.at_ O_mul.fn O_mul.b pass0) (pv 2) pe_int) pa_nil)) (by rfl))
      (pss_cons (ps_aug (i := 3) nd rfl (.inl rfl) pe_int (ip_B BM (ni_BM) O_mul.F (hr.mono (by decide)) O_mul.at_ O_mul.fn O_mul.b pass0))
      (pss_cons (ps_if (PW.pt (pw_or (pt_cmpR (Own.op_neL O_eq.F (hr.mono (by decide)) O_eq.at_ hne hO O_eq.fn T_Ratio.nI O_eq.b pass0) (pv 3) (pv 4) (nomark _)) (pw_or1 (pt_cmpR op_ne (Own.pe_callG G_ends.F hg (hr.mono (by decide)) (by rfl) G_ends.mgf G_ends.kp G_ends.b pass0 (pa_cons (pv 2) pa_nil)) (pe_callB (Own.call_reprA hg hr.units) (by rfl) zr (by decide +kernel) (pa_cons (pv 0) pa_nil)) (nomark _))))) (pss_one (ps_ret pe_bl)) pss_nil)
      (pss_cons (ps_aug (i := 3) nd rfl (.inl rfl) pe_int (ip_B BF (ni_BF) O_fdiv.F (hr.mono (by decide)) O_fdiv.at_ O_fdiv.fn O_fdiv.b pass0))
      (pss_cons (ps_if (PW.pt (pw_or (pt_cmpR op_ne (pv 3) (pe_op (op_B BF O_fdiv.F (hr.mono (by decide)) O_fdiv.at_ O_fdiv.fn O_fdiv.b pass0) (pv 4) pe_int) (nomark _)) (pw_or1 (pt_cmpR (Own.op_neL O_eq.F (hr.mono (by decide)) O_eq.at_ hne hO O_eq.fn T_Ratio.nI O_eq.b pass0) (pv 4) (pe_op (op_B BM O_mul.F (hr.mono (by decide)) O_mul.at_ O_mul.fn O_mul.b pass0) (pv 2) pe_int) (nomark _))))) (pss_one (ps_ret pe_bl)) pss_nil)
      (pss_cons (ps_set (i := 3) nd rfl (Or.inl rfl) (pv 4))
      (pss_cons (ps_aug (i := 3) nd rfl (.inl rfl) pe_int (ip_B BMo (ni_BMo) O_mod.F (hr.mono (by decide)) O_mod.at_ O_mod.fn O_mod.b pass0))
      (pss_cons (ps_if (PW.pt (pw_or (pt_cmpR (Own.op_neL O_eq.F (hr.mono (by decide)) O_eq.at_ hne hO O_eq.fn T_Ratio.nI O_eq.b pass0) (pv 3) (pe_op (op_B BS O_sub.F (hr.mono (by decide)) O_sub.at_ O_sub.fn O_sub.b pass0) (pv 4) (pe_op op_mulW pe_int (pe_op (op_B BF O_fdiv.F (hr.mono (by decide)) O_fdiv.at_ O_fdiv.fn O_fdiv.b pass0) (pv 4) pe_int))) (nomark _)) (pw_or (pt_cmpR (Own.op_neL O_eq.F (hr.mono (by decide)) O_eq.at_ hne hO O_eq.fn T_Ratio.nI O_eq.b pass0) (pv 4) (pe_op (op_B BM O_mul.F (hr.mono (by decide)) O_mul.at_ O_mul.fn O_mul.b pass0) (pv 2) pe_int) (nomark _)) (pw_or (pt_cmpR (Own.op_ownC O_lt.F (hr.mono (by decide)) O_lt.at_ O_lt.fn O_lt.b pass0) (pv 3) pe_int (nomark _)) (pw_or1 (pt_cmpR (Own.op_ownC O_ge.F (hr.mono (by decide)) O_ge.at_ O_ge.fn O_ge.b pass0) (pv 3) pe_int (nomark _))))))) (pss_one (ps_ret pe_bl)) pss_nil)
      (pss_one (ps_ret (pe_and (pe_call C__law_in_place_right.F (hr.mono (by decide)) (by rfl) C__law_in_place_right.mgf C__law_in_place_right.kp C__law_in_place_right.b .nil pass0 (pa_cons (pv 2) (pa_cons (pv 1) pa_nil))) (pe_one (pe_call C__law_is_kept.F (hr.mono (by decide)) (by rfl) C__law_is_kept.mgf C__law_is_kept.kp C__law_is_kept.b .nil pass0 (pa_cons (pv 2) pa_nil))))))))))))))))))))), ?_⟩
    refine ⟨_, rfl, t1, _, _, _, rfl, rfl, SqT.of h1, rfl, _, rfl, t1, _, _, _, rfl, rfl, SqT.of h1, rfl, ?_⟩
    intro x dx hx hdx hne'
    refine ⟨x, dx, p.num, (p.den : Int), rfl, upd_same, den_ne p, (z4 yp).2, fun H2 hR hk => ⟨rfl, ?_⟩⟩
    have s2 := mk_same hx hdx hk
    have hp := asQ (den_ne p) (Rat.num_divInt_den p) hR
    have g2 := s2 _ _ h1
    have hq2 := hq.same s2
    obtain ⟨dy, fs, hi⟩ := hp.ins
    refine ⟨_, rfl, x, dy, fs, rfl, hi, x, p, rfl, hp, yp, fun m3 H3 s3 hm3 => ?_⟩
    refine ⟨m3, -p, rfl, hm3, xp.neg, fun H4 s4 => ?_⟩
    have s24 := s3.trans s4
    have hp4 := hp.same s24
    obtain ⟨dy4, fs4, hi4⟩ := hp4.ins
    refine ⟨_, rfl, x, dy4, fs4, rfl, hi4, x, p, rfl, hp4, yp, fun m5 H5 s5 hm5 => ?_⟩
    refine ⟨m5, p.abs, rfl, hm5, xp.abs', fun H6 s6 => ⟨(by decide : 2 ≤ sizeLine), fun l hl => ?_⟩⟩
    have s26 := s24.trans (s5.trans s6)
    have s7 := same_new (o := .lst [.str (endT (-p)), .str (endT p.abs)]) hl
    have s27 := s26.trans s7
    have g7 := s27 _ _ g2
    refine ⟨_, rfl, t1, _, _, _, rfl, rfl, SqT.of g7, rfl, _, _, rfl, rfl, _, rfl, t1, _, _, _, rfl, rfl, SqT.of g7, rfl, (by decide : 2 ≤ sizeLine), fun e8 he8 => ⟨_, _, rfl, rep_neg upd_same xp, ?_⟩⟩
    have s8 := same_new (o := .tup [.int (0 - p.num), .int (p.den : Int)]) he8
    have g8 := s8 _ _ g7
    refine ⟨_, rfl, t1, _, _, _, rfl, rfl, SqT.of g8, rfl, _, rfl, _, rfl, t1, _, _, _, rfl, rfl, SqT.of g8, rfl, (by decide : 2 ≤ sizeLine), fun e9 he9 => ⟨_, _, rfl, rep_abs upd_same xp, ?_⟩⟩
    have s9 := same_new (o := .tup [.int (if p.num < 0 then -p.num else p.num), .int (p.den : Int)]) he9
    refine ⟨(by decide : 2 ≤ sizeLine), fun l2 hl2 => ?_⟩
    have s10 := same_new (o := .lst [.str (endT (-p)), .str (endT p.abs)]) hl2
    have s89 := s8.trans (s9.trans s10)
    refine ⟨_, _, .lst (SqL.of (s89 _ _ upd_same)) (.cons (.str _) (.cons (.str _) .nil)), .lst (SqL.of upd_same) (.cons (.str _) (.cons (.str _) .nil)), sh2 (ok_endT _) (ok_endT _), sh2 (ok_endT _) (ok_endT _), ?_⟩
    refine ⟨_, rfl, iteFb (by rw [eq2]; rfl) ?_⟩
    have s210 := s27.trans s89
    have s011 := s2.trans s210
    have hp11 := hp.same s210
    have hq11 := hq.same s011
    have h11 := s011 _ _ h1
    refine ⟨_, rfl, _, rfl, _, rfl, bq hp11 hq11 ⟨x, u, p, q, rfl, hp11, hq11, ⟨yp, yq⟩, trivial, fun a12 H12 s12 ha12 => ?_⟩⟩
    have hp12 := hp11.same s12
    have hq12 := hq11.same s12
    refine ⟨_, rfl, _, rfl, _, rfl, bq hp12 hq12 ⟨x, u, p, q, rfl, hp12, hq12, ⟨yp, yq⟩, trivial, fun a13 H13 s13 ha13 => ?_⟩⟩
    refine eqLq (ha12.same s13) (.rat ha13) fun H14 s14 => ⟨_, rfl, iteFb (by rw [decide_eq_true rfl]; rfl) ?_⟩
    have s1214 := s13.trans s14
    have hp14 := hp12.same s1214
    have h14 := (s12.trans s1214) _ _ h11
    refine ⟨_, rfl, x, p, rfl, hp14, xp, fun H15 s15 => ⟨_, rfl, _, _, rfl, rep_q (s15 _ _ h14) xp, rfl, _, rfl, iteFb (by rw [decide_eq_true rfl]; rfl) ?_⟩⟩
    have hp15 := hp14.same s15
    have ha15 := ha12.same (s1214.trans s15)
    have hq15 := hq12.same (s1214.trans s15)
    have wsum : Sq 3900 (p + q) := ysum.mono (by decide)
    refine ⟨_, rfl, _, rfl, _, rfl, bq ha15 (.rat hp15) ⟨a12, .ref x, p + q, p, rfl, ha15, .rat hp15, ⟨wsum, yp⟩, trivial, fun a16 H16 s16 ha16 => ?_⟩⟩
    have hq16 := hq15.same s16
    have epq : p + q - p = q := by grind
    refine ⟨_, rfl, _, rfl, eqLq ha16 hq16 fun H17 s17 => ⟨_, rfl, iteFb (by rw [decide_eq_true epq]; rfl) ?_⟩⟩
    have s1517 := s16.trans s17
    have hp17 := hp15.same s1517
    have hq17 := hq15.same s1517
    have ha17 := ha15.same s1517
    refine ⟨_, rfl, _, rfl, _, rfl, bq hp17 hq17 ⟨x, u, p, q, rfl, hp17, hq17, ⟨yp, yq⟩, trivial, fun a18 H18 s18 ha18 => ?_⟩⟩
    refine eqLq (ha17.same s18) (.rat ha18) fun H19 s19 => ⟨_, rfl, iteFb (by rw [decide_eq_true rfl]; rfl) ?_⟩
    have s1719 := s18.trans s19
    have hp19 := hp17.same s1719
    have hq19 := hq17.same s1719
    have w3 : Sq 3900 (((3 : Int) : Rat)) := z3.mono (by decide)
    refine ⟨_, rfl, _, rfl, bq hp19 (.int 3) ⟨x, .int 3, p, _, rfl, hp19, .int 3, ⟨yp, w3⟩, trivial, fun a20 H20 s20 ha20 => ⟨_, _, rfl, ?_⟩⟩⟩
    have hp20 := hp19.same s20
    refine ⟨_, rfl, bq hp20 (.int 3) ⟨x, .int 3, p, _, rfl, hp20, .int 3, ⟨yp, w3⟩, trivial, fun a21 H21 s21 ha21 => ?_⟩⟩
    refine ⟨_, rfl, _, rfl, eqLq ha21 (.rat (ha20.same s21)) fun H22 s22 => ⟨_, rfl, iteFb (by rw [decide_eq_true rfl]; rfl) ?_⟩⟩
    have s2022 := s21.trans s22
    have hp22 := hp20.same s2022
    have s1122 := s12.trans (s1214.trans (s15.trans (s1517.trans (s1719.trans (s20.trans s2022)))))
    have h22 := s1122 _ _ h11
    refine ⟨_, rfl, x, p, rfl, hp22, xp, fun H23 s23 => ⟨_, rfl, _, _, rfl, rep_q (s23 _ _ h22) xp, rfl, _, rfl, iteFb (by rw [decide_eq_true rfl]; rfl) ?_⟩⟩
    have ha23 := ha20.same (s2022.trans s23)
    have hd23 := ha21.same (s22.trans s23)
    have w33 : Sq 3900 (p * ((3 : Int) : Rat)) := y3.mono (by decide)
    have w333 : Sq 1000 (p * ((3 : Int) : Rat)) := y3.mono (by decide)
    have n7 : ((7 : Int) : Rat) ≠ 0 := by decide
    have n5 : ((5 : Int) : Rat) ≠ 0 := by decide
    refine ⟨_, rfl, bq hd23 (.int 7) ⟨_, .int 7, _, _, rfl, .rat hd23, .int 7, ⟨w33, z7⟩, n7, fun H24 s24 => ?_⟩⟩
    have ha24 := ha23.same s24
    refine ⟨_, rfl, _, rfl, bq ha24 (.int 7) ⟨_, .int 7, _, _, rfl, .rat ha24, .int 7, ⟨w33, z7⟩, n7, fun H25 s25 => ⟨rfl, _, rfl, iteFb (by rw [decide_eq_true rfl]; rfl) ?_⟩⟩⟩
    have s2225 := s23.trans (s24.trans s25)
    have hp25 := hp22.same s2225
    have ha25 := ha24.same s25
    refine ⟨_, rfl, _, rfl, bq hp25 (.int 3) ⟨x, .int 3, p, _, rfl, hp25, .int 3, ⟨yp, w3⟩, trivial, fun a26 H26 s26 ha26 => ?_⟩⟩
    refine eqLq (ha25.same s26) (.rat ha26) fun H27 s27 => ⟨_, rfl, iteFb (by rw [decide_eq_true rfl]; rfl) ?_⟩
    have s2527 := s26.trans s27
    have hp27 := hp25.same s2527
    have ha27 := ha25.same s2527
    have w5 : Sq 3900 (((5 : Int) : Rat)) := z5.mono (by decide)
    refine ⟨_, rfl, _, rfl, bq ha27 (.int 5) ⟨a20, .int 5, _, _, rfl, ha27, .int 5, ⟨w33, w5⟩, ⟨n5, w333, z5⟩, fun a28 H28 s28 ha28 => ?_⟩⟩
    have ha28' := ha27.same s28
    have zf : (p * ((3 : Int) : Rat) / ((5 : Int) : Rat)).floor.natAbs < 2 ^ (132 + 1000) := floor_le y3 z5 n5
    have zi : Sz (p * ((3 : Int) : Rat) / ((5 : Int) : Rat)).floor := Nat.lt_of_lt_of_le zf (Nat.pow_le_pow_right (by decide) (by decide))
    have zm : Sq 3900 (((5 * (p * ((3 : Int) : Rat) / ((5 : Int) : Rat)).floor : Int) : Rat)) := by
      rw [Rat.intCast_mul]
      exact (z5.mul (Sq.int zf (by decide))).mono (by decide)
    refine ⟨_, rfl, _, rfl, _, rfl, bq ha28' (.int 5) ⟨_, .int 5, _, _, rfl, .rat ha28', .int 5, ⟨w33, w5⟩, n5, fun H29 s29 => ⟨_, _, rfl, rfl, (show Sz 5 by unfold Sz; decide +kernel).mul zi, ?_⟩⟩⟩
    have ha29 := ha28'.same s29
    refine bq ha29 (.int _) ⟨a20, _, _, _, rfl, ha29, .int _, ⟨w33, zm⟩, trivial, fun a30 H30 s30 ha30 => ?_⟩
    have s2830 := s29.trans s30
    refine eqLq (ha28.same s2830) (.rat ha30) fun H31 s31 => ⟨_, rfl, iteFb (congrArg (fun b => !b) (decide_eq_true (qm_eq5 (p * ((3 : Int) : Rat))))) ?_⟩
    have s2831 := s2830.trans s31
    have hp31 := hp27.same (s28.trans s2831)
    have ha31 := ha28'.same s2831
    have hd31 := ha28.same s2831
    refine ⟨_, rfl, _, rfl, bq hp31 (.int 3) ⟨x, .int 3, p, _, rfl, hp31, .int 3, ⟨yp, w3⟩, trivial, fun a32 H32 s32 ha32 => ?_⟩⟩
    refine eqLq (ha31.same s32) (.rat ha32) fun H33 s33 => ⟨_, rfl, iteFb (by rw [decide_eq_true rfl]; rfl) ?_⟩
    have s3133 := s32.trans s33
    have hd33 := hd31.same s3133
    have zq5 : Sq 3900 (qmod (p * ((3 : Int) : Rat)) ((5 : Int) : Rat)) := (y3.sub ((Sq.int zf (by decide)).mul z5)).mono (by decide)
    have z0 : Sq 3900 (((0 : Int) : Rat)) := Sq.int (by decide) (by decide)
    refine ⟨_, rfl, cmpL T_Ratio hd33 (.int 0) zq5 z0 ((lt_dec _ _).trans (decide_eq_false (Rat.not_lt.mpr (qm_lo _)))) fun H34 s34 => ⟨_, rfl, iteFb rfl ?_⟩⟩
    have hd34 := hd33.same s34
    refine ⟨_, rfl, cmpL T_Ratio hd34 (.int 5) zq5 w5 ((ge_dec _ _).trans (decide_eq_false (Rat.not_le.mpr (qm_hi _)))) fun H35 s35 => ⟨_, rfl, iteFb rfl ?_⟩⟩
    have s3135 := s3133.trans (s34.trans s35)
    have hp35 := hp31.same s3135
    have sAll : Same _ H35 := s1122.trans (s2225.trans (s2527.trans (s28.trans (s2831.trans s3135))))
    have hq35 := hq11.same sAll
    refine ⟨_, rfl, _, rfl, x, u, p, q, rfl, hp35, hq35, ⟨zp.mono (by decide), zq.mono (by decide)⟩, fun H36 s36 => ⟨_, rfl, iteTb rfl ?_⟩⟩
    refine ⟨_, rfl, x, p, rfl, hp35.same s36, zp.mono (by decide), fun H37 s37 => ?_⟩
    exact k _ (s011.trans (sAll.trans (s36.trans s37)))
end
end Toy
set_option maxRecDepth 100000
set_option maxHeartbeats 4000000
namespace Own
open PySem PySem.Spec PyProof.Rows L2
def tSMethK0 (C : Addr) (n : Nat) (sp : Sp) (gV : List V → List V → List V) (E : XK) (ta : TE) (tk : TA) : TE := fun σ H Q => ta σ H fun x H1 => x = .ref C ∧ tk σ H1 fun zs H2 => zs.length = n ∧ sp (gV [] zs) H2 Q E
section
variable {X : Cx} {CX : CXT} {k : Nat} {C p f : Addr} {mc : Value} {sp : Sp} {E : XK} {o : Expr} {m : Str} {pos apos : Pos} {ta : TE} {tk : TA} {pl : Sem Bool} {fd : FuncData} {ps ks : List Str} {kws : List Keyword} {g : List Value → List Value → List Value} {gV : List V → List V → List V}
theorem pe_smethK0 (r : ClX.CRead X.K C mc) (c : SMet X.K C mc m p f) (F : FnOk X.prog X.w X.K X.mg X.base CX k f fd ps sp) (hr : Room k X.A) (hb : KBn X.K fd ps 0 ks g gV) (hx : Passes CX X E) (he : PE X o ta) (hkw : PK X kws tk)
    (hall : (backToKw pos (keywordEach kws X.env)).all (·.1.isSome) = true := by rfl) (hks : (backToKw pos (keywordEach kws X.env)).filterMap (·.1) = ks := by rfl)
    (hpl : ((backTo pos (starEach [] X.env)).any (·.1) || (backToKw pos (keywordEach kws X.env)).any (·.1.isNone)) = false := by rfl)
    (ht : eval (.Call (.Attribute o m apos) [] kws pos) X.env = (do
      let ov ← eval o X.env
      standAt apos.atName
      let (f, first) ← holding [ov] (getMethod ov m pl)
      callWith pos f first (backTo pos (starEach [] X.env)) (backToKw pos (keywordEach kws X.env))) := by rfl) :
    PE X (.Call (.Attribute o m apos) [] kws pos) (tSMethK0 C ks.length sp gV E ta tk) := by
  refine ⟨fun pins s σ H Q I h => ?_⟩
  refine PySem.W.methodCall_KW (pl := pl) (thn (he.run pins s σ H _ I h) fun u s1 z => ?_) ht
  obtain ⟨x, H1, I1, rx, ex, q⟩ := z
  subst ex
  obtain rfl : u = Value.ref C := rx
  refine PySem.W.method_cls I1.kIn r.ga (getsm_ok I1 r c fun s2 I2 => ?_)
  refine PySem.W.callWith_KW0 (first := []) (h₀ := X.base) I.ok.mod.kin c.kp hall (thn (hkw.run pos pins s2 σ H1 _ I2 q) fun ws s3 z => ?_) hpl
  obtain ⟨zs, H2, I3, rz, hl, q2⟩ := z
  refine ⟨I3.kIn, ?_⟩
  rw [hks]
  exact run_fnN (us := []) (vs := []) F hr hb hx I3 .nil rz rfl hl q2
end
end Own
set_option maxRecDepth 100000
set_option maxHeartbeats 4000000
set_option exponentiation.threshold 9000
namespace Toy
open PySem L2
open Rat (divInt)
open LamX (Tabs TabS ExtN CodeO)
section
variable {P : Program} {w : World} {K : PySem.W.Frag} {mg : Str → Option Value} {base : Heap} {C CN CB CF P1 P2 P3 c : Addr}
theorem RowQ.get {H : Hp} {vs : List V} {qs : List Rat} (h : RowQ C H vs qs) : ∀ {j : Nat} {v : V}, vs[j]? = some v → ∃ q, qs[j]? = some q ∧ NumQ C H v q := by
  induction h with
  | nil => intro j v z; cases z
  | cons a r ih =>
    intro j v z
    cases j with
    | zero => cases z; exact ⟨_, rfl, a⟩
    | succ j => exact ih z
theorem RowQ.put {H : Hp} {vs : List V} {qs : List Rat} {l : Addr} {xs : List V} {o : HO} (h : RowQ C H vs qs) (hl : H l = some (.lst xs)) : RowQ C (upd H l o) vs qs := by
  induction h with
  | nil => exact .nil
  | cons a _ ih => exact .cons (a.put hl) ih
theorem RowQ.extN {H H' : Hp} {vs : List V} {qs : List Rat} (h : RowQ C H vs qs) (s : ExtN H H') : RowQ C H' vs qs := by
  induction h with
  | nil => exact .nil
  | cons a _ ih => exact .cons (a.extN s) ih
theorem sum_step {qs : List Rat} {j : Nat} {q : Rat} (h : qs[j]? = some q) : sumQ (qs.take (j + 1)) = sumQ (qs.take j) + q := by
  rw [List.take_add_one, h, sumQ_app]
  show _ + (q + 0) = _
  rw [Rat.add_zero]
structure KitNo (K : PySem.W.Frag) (C : Addr) : Prop where
  non : PySem.W.kitOne K (.type "NoneType") (.ref C) = some false
  bl : PySem.W.kitOne K (.type "bool") (.ref C) = some false
  str : PySem.W.kitOne K (.type "str") (.ref C) = some false
  lst : PySem.W.kitOne K (.type "list") (.ref C) = some false
  cL : PySem.W.kitOne K (.ref C) (.type "list") = some false
  cT : PySem.W.kitOne K (.ref C) (.type "tuple") = some false
theorem bt_non {H : Hp} : BadTot K C H .non := .inl ⟨_, .base .non, any_no (kit_ty (by decide +kernel)) (kit_ty (by decide +kernel))⟩
theorem bt_bl {H : Hp} (b : Bool) : BadTot K C H (.bl b) := .inl ⟨_, .base (.bl b), any_no (kit_ty (by decide +kernel)) (kit_ty (by decide +kernel))⟩
theorem bt_int {H : Hp} (i : Int) : BadTot K C H (.int i) := .inl ⟨_, .base (.int i), any_no (kit_ty (by decide +kernel)) (kit_ty (by decide +kernel))⟩
theorem bt_str {H : Hp} (x : Str) : BadTot K C H (.str x) := .inl ⟨_, .base (.str x), any_no (kit_ty (by decide +kernel)) (kit_ty (by decide +kernel))⟩
theorem bt_dct {H : Hp} {a : Addr} {kvs : List (Key × V)} (h : H a = some (.dK kvs)) : BadTot K C H (.ref a) := .inl ⟨_, .base (.dK h), any_no (kit_ty (by decide +kernel)) (kit_ty (by decide +kernel))⟩
theorem bt_rat (T : RatT K mg C) (kn : KitNo K C) {H : Hp} {a : Addr} {q : Rat} (h : RatQ C H a q) : BadTot K C H (.ref a) := by
  obtain ⟨dx, h⟩ := h
  exact .inl ⟨_, T.ty h, any_no kn.cL kn.cT⟩
theorem nn_non (kn : KitNo K C) {H : Hp} : NoNum K C H .non := ⟨_, .base .non, ⟨false, false, kit_ty (by decide +kernel), kit_ty (by decide +kernel), rfl⟩, kn.non⟩
theorem nn_bl (kn : KitNo K C) {H : Hp} (b : Bool) : NoNum K C H (.bl b) := ⟨_, .base (.bl b), ⟨true, true, kit_ty (by decide +kernel), kit_ty (by decide +kernel), rfl⟩, kn.bl⟩
theorem nn_str (kn : KitNo K C) {H : Hp} (x : Str) : NoNum K C H (.str x) := ⟨_, .base (.str x), ⟨false, false, kit_ty (by decide +kernel), kit_ty (by decide +kernel), rfl⟩, kn.str⟩
theorem nn_lst (kn : KitNo K C) {H : Hp} {a : Addr} {xs : List V} (h : H a = some (.lst xs)) : NoNum K C H (.ref a) := ⟨_, .base (.lst h), ⟨false, false, kit_ty (by decide +kernel), kit_ty (by decide +kernel), rfl⟩, kn.lst⟩
theorem bt_l {H : Hp} {a : Addr} {us : List V} {u : V} (h : H a = some (.lst (us ++ [u]))) (hu : ∀ x ∈ us, Num1 K C H x) (n : NoNum K C H u) : BadTot K C H (.ref a) := .inr (.inl ⟨a, us, u, [], rfl, h, hu, n⟩)
theorem bt_t {H : Hp} {a : Addr} {u : V} (h : H a = some (.tup [u])) (n : NoNum K C H u) : BadTot K C H (.ref a) := .inr (.inr ⟨a, u, [], rfl, h, n⟩)
theorem tabs_but {Ts : List (Addr × Str)} {H H' : Hp} {p : Addr} {xs : List V} (t : Tabs Ts H) (hp : H p = some (.lst xs)) (b : But p H H') : Tabs Ts H' := fun r hr => by
  obtain ⟨ps, h1, h2, h3⟩ := t r hr
  refine ⟨ps, b _ _ h1 (ne_of h1 hp (by intro z; cases z)), h2, fun pos cv hc => ?_⟩
  obtain ⟨c, e1, e2⟩ := h3 pos cv hc
  exact ⟨c, e1, b _ _ e2 (ne_of e2 hp (by intro z; unfold CodeO at z; cases z))⟩
theorem pen_ne {H : Hp} {p c l : Addr} {k : Nat} (h : Pen H p c k) (hl : H l = none) : l ≠ p := by
  obtain ⟨_, _, _, W, _⟩ := h
  exact fun z => by
    rw [z, W.hp] at hl
    cases hl
theorem Pen.lst {H : Hp} {p c : Addr} {k : Nat} (h : Pen H p c k) : ∃ xs, H p = some (.lst xs) := by
  obtain ⟨_, _, _, W, _⟩ := h
  exact ⟨_, W.hp⟩
theorem Pen.extN {H H' : Hp} {p c : Addr} {k : Nat} (h : Pen H p c k) (e : ExtN H H') : Pen H' p c k := by
  obtain ⟨ns, b, l, W, hb⟩ := h
  exact ⟨ns, b, l, ⟨e _ _ W.hp (fun _ z => nomatch z), e _ _ W.hc (fun _ z => nomatch z), W.ln, W.b0⟩, hb⟩
/-- all but p and the tables -/
def ButN (p : Addr) (H H' : Hp) : Prop := ∀ b o, H b = some o → b ≠ p → (∀ ps, o ≠ .tbl ps) → H' b = some o
theorem ButN.of {p : Addr} {H H' : Hp} (h : But p H H') : ButN p H H' := fun b o e n _ => h b o e n
theorem ButN.ofN {p : Addr} {H H' : Hp} (h : ExtN H H') : ButN p H H' := fun b o e _ n => h b o e n
theorem ButN.trans {p : Addr} {H H1 H2 : Hp} (a : ButN p H H1) (b : ButN p H1 H2) : ButN p H H2 := fun c o e n m => b c o (a c o e n m) n m
theorem NumQ.butN {H H' : Hp} {p : Addr} {v : V} {q : Rat} {xs : List V} (h : NumQ C H v q) (hp : H p = some (.lst xs)) (s : ButN p H H') : NumQ C H' v q := by
  rcases h.cases with ⟨i, rfl, rfl⟩ | ⟨a, rfl, dx, h⟩
  · exact .int _
  · exact .rat ⟨dx, s _ _ h (ne_of h hp (by intro z; cases z)) (fun _ z => nomatch z)⟩
theorem RowQ.butN {H H' : Hp} {p : Addr} {vs : List V} {qs : List Rat} {xs : List V} (h : RowQ C H vs qs) (hp : H p = some (.lst xs)) (s : ButN p H H') : RowQ C H' vs qs := by
  induction h with
  | nil => exact .nil
  | cons a _ ih => exact .cons (a.butN hp s) ih
theorem okR2 : SeqAt.shaped (.tuple [.str "ratio", .str "numbers"]) = true := by
  simp [SeqAt.shaped, PyData.canLay0, PyData.canLayAll0, PyData.depth, PyData.depthAll]
  exact ⟨okS "ratio", okS "numbers"⟩
end
end Toy
set_option maxRecDepth 100000
set_option maxHeartbeats 4000000
set_option exponentiation.threshold 9000
namespace Toy
open PySem L2
open Rat (divInt)
open LamX (Tabs TabS ExtN CodeO)
section
variable {P : Program} {w : World} {K : PySem.W.Frag} {mg : Str → Option Value} {base : Heap} {C CN CB CF P1 P2 P3 c : Addr}
def spTotR (C P1 P2 P3 : Addr) : Sp := fun vs H Q _ => ∃ p cc k l us qs, vs = [.ref p, .ref l] ∧ Pen H p cc k ∧ k ≤ 900000 ∧ H l = some (.lst us) ∧ l ≠ p ∧ RowQ C H us qs ∧ us.length ≤ 8 ∧ (∀ q ∈ qs, Sq 130 q) ∧ Tabs (Ts P1 P2 P3) H ∧ ∀ H', Pen H' p cc (k + 1) → ButN p H H' → Tabs (Ts P1 P2 P3) H' → Q (.bl true) H'
theorem scTotR : FnScope ["_law_pen_here", "_law_row_so", "_law_due_here", "_law_one_so", "_law_odd"] ["_law_pen_here", "_law_row_so"] (defScope sTotR) := ⟨rfl, rfl, rfl, by decide +kernel, rfl, by decide +kernel, by decide +kernel⟩
theorem ok_totr {f g a1 c1 f1 f2 f3 p4 f4 fB : Addr} {fd gd ad1 cd1 fd1 fd2 fd3 fd4 : FuncData} {dvs : List Value} (F : Fun K "_law_total_right" "_law_total_right" sTotR f fd) (hcF : fd.code = .ref c) (TB : LamX.TabB base mg c P3) (ds : Dst P1 P2 P3) (T : Bl mg) (zt : mg "tuple" = none) (T_Ratio : RatT K mg C) (kn : KitNo K C) (hne : PySem.W.findIn K (.ref C) "__ne__" = some (some (.builtin "object.__ne__"))) (hO : PySem.W.subIn K (.ref C) (.type "object") = some true)
    (FH : Fun K "_law_heard" "_law_heard" sHeard g gd) (mgH : mg "_law_heard" = some (.ref g)) (bH : Binds K gd ["_law_ask"] []) (ET : ErT K mg "BadRatio" "part" CB fB) (hN : mg "NoDivisor" = some (.ref CN)) (hF : mg "FifthError" = some (.ref CF)) (eB : PySem.W.exmOne K (.ref CN) (.ref CB) = some false) (eN : PySem.W.exmOne K (.ref CN) (.ref CN) = some true) (eBB : PySem.W.exmOne K (.ref CB) (.ref CB) = some true)
    (BA : BinF K C .Add) (O_add : Opr P w K mg base 4 C "__add__" a1 ad1 ["self", "other"] (spBin C GT fun p q => p + q)) (O_eq : Opr P w K mg base 3 C "__eq__" c1 cd1 ["self", "other"] (spEqQ C)) (M_Ratio : Mak P w K mg base 2 "Ratio" C f1 fd1 ["self", "top", "bottom"] (spRInit C)) (hd : Vals [V.int 1] dvs) (hb1 : Binds K fd1 ["self", "top", "bottom"] dvs)
    (C__law_pick : Cal P w K mg base 2 "_law_pick" f3 fd3 ["_law_pen_here", "_law_some"] spPick) (G_ends : CalG P w K mg base 1 "_law_ends" f2 fd2 ["_law_value"] (spEnds C)) (S_Ratio_total : Sta P w K mg base 9 C "total" p4 f4 fd4 ["numbers"] (spTotL K C)) (FT : FnOk P w K mg base CX0 9 f4 fd4 ["numbers"] (spTotT K C)) (FB : FnOk P w K mg base (L2.CX P w) 9 f4 fd4 ["numbers"] (spTotBad K C CB))
    (KB_total : KBn K fd4 ["numbers"] 0 ["numbers"] (fun us ws => us ++ ws) (fun vs zs => vs ++ zs)) :
    Own.FnG P w K mg base CX0 12 f fd ["_law_pen_here", "_law_row_so"] (spTotR C P1 P2 P3) := by
  have kH := FH.kp
  obtain ⟨oc, od, kV, doc, pm, an, cdv, ct, osl, egd, lk, hcg⟩ := FH.ex
  subst egd
  refine Own.okGC F hcF scTotR (fun vs H Q E h => ?_) (fun A outer s H vs Q E hg hr h => ?_)
  · obtain ⟨p, cc, k, l, us, qs, rfl, _⟩ := h
    rfl
  · obtain ⟨p, cc, k, l, us, qs, rfl, hP, hk, hl, hlp, hq, h8, hz, hT, kk⟩ := h
    have nd := scTotR.nd
    have zs : Sq 1900 (sumQ qs) := (sumQ_sq hz).mono (by have := hq.len; omega)
    refine ⟨_, pss_cons (ps_set (i := 2) nd rfl (Or.inl rfl) (pe_make M_Ratio.M M_Ratio.F (hr.mono (by decide)) (by rfl) M_Ratio.mgC hb1 hd pass0 (pa_cons pe_int pa_nil)))
      (pss_cons (ps_for PassesOwn.never rfl (pi_list (pv 1)) (pg_name (i := 3) nd rfl (Or.inl rfl)) (pss_one (ps_set (i := 2) nd rfl (Or.inl rfl) (pe_op (op_B BA O_add.F (hr.mono (by decide)) O_add.at_ O_add.fn O_add.b pass0) (pv 2) (pv 3)))))
      (pss_cons (ps_if (PW.pt (pw_or (pt_cmpR op_ne (Own.pe_callG G_ends.F hg (hr.mono (by decide)) (by rfl) G_ends.mgf G_ends.kp G_ends.b pass0 (pa_cons (Own.pe_smeth T_Ratio.rd S_Ratio_total.s S_Ratio_total.F (hr.mono (by decide)) S_Ratio_total.b pass0 (Own.pe_gref (by rfl) T_Ratio.mgC) (pa_cons (pv 1) pa_nil)) pa_nil)) (Own.pe_callG G_ends.F hg (hr.mono (by decide)) (by rfl) G_ends.mgf G_ends.kp G_ends.b pass0 (pa_cons (pv 2) pa_nil)) (nomark _)) (pw_or1 (pt_cmpR (Own.op_neL O_eq.F (hr.mono (by decide)) O_eq.at_ hne hO O_eq.fn T_Ratio.nI O_eq.b pass0) (Own.pe_smethK0 T_Ratio.rd S_Ratio_total.s FT (hr.mono (by decide)) KB_total pass0 (Own.pe_gref (by rfl) T_Ratio.mgC) (pk_cons (pe_callTy call_tuple_of (by rfl) zt (by decide +kernel) (pa_cons (pe_revL (pv 1)) pa_nil)) pk_nil)) (pv 2) (nomark _))))) (pss_one (ps_ret pe_bl)) pss_nil)
      (pss_cons (ps_set (i := 4) nd rfl (Or.inr rfl) (pe_call C__law_pick.F (hr.mono (by decide)) (by rfl) C__law_pick.mgf C__law_pick.kp C__law_pick.b .nil pass0 (pa_cons (pv 0) (pa_cons (pe_lst (pa_cons pe_non (pa_cons pe_bl (pa_cons pe_int (pa_cons pe_str (pa_cons pe_dnewK (pa_cons (pe_lst (pa_cons pe_int (pa_cons pe_non pa_nil))) (pa_cons (pe_tup (pa_cons pe_bl pa_nil)) (pa_cons (pe_lst (pa_cons pe_str pa_nil)) (pa_cons (pe_make M_Ratio.M M_Ratio.F (hr.mono (by decide)) (by rfl) M_Ratio.mgC hb1 hd pass0 (pa_cons pe_int pa_nil)) (pa_cons (pe_lst (pa_cons (pe_lst (pa_cons pe_int pa_nil)) pa_nil)) (pa_cons (pe_op op_cat (pv 1) (pe_lst (pa_cons pe_bl pa_nil))) pa_nil)))))))))))) pa_nil))))
      (pss_one (ps_ret (pe_cmpR (op_eqD hr.units) (LamX.pe_lamcall (T := Ts P1 P2 P3) (TT := TTrat CB CN) (t := fun E => Own.tSMeth C (spTotBad K C CB) E (tC (.ref C)) (tCons (tVar 4) tNil)) (by rfl) mgH kH lk hcg bH scHd (by rfl) (.inl rfl) (heard_rat ET hN hF eB eN eBB) TB (by rfl) (ts_3) (ts_u3 ds) hr (LamX.lamS_by (by rfl)) (by rfl) (fun _ _ _ _ _ => rfl) (fun A outer s H E f c' hr2 => Own.pe_smeth T_Ratio.rd S_Ratio_total.s FB (hr2.mono (by decide)) S_Ratio_total.b (passes_call (takes_of rfl rfl rfl rfl) fun _ _ _ _ h => h) (Own.pe_gref (by rfl) T_Ratio.mgC) (pa_cons (pv 4) pa_nil))) (pe_tup (pa_cons pe_str (pa_cons pe_str pa_nil))) (nomark _))))))), ?_⟩
    intro x0 dx0 hx0 hdx0 hne0
    refine ⟨x0, dx0, 0, 1, rfl, upd_same, by decide, Sz1, fun H1 hR1 hk1 => ⟨rfl, ?_⟩⟩
    have s1 := mk_same hx0 hdx0 hk1
    have hr1 : RatQ C H1 x0 0 := asQ (by decide) (q_int 0) hR1
    refine ⟨_, rfl, l, rfl, ⟨_, SqL.of (s1 _ _ hl)⟩, ?_⟩
    refine for_list (xs := us) (K := K) (a := l) (fun j σ H' => ∃ x y, σ = [some (.ref p), some (.ref l), some (.ref x), y, none] ∧ Same H H' ∧ RatQ C H' x (sumQ (qs.take j))) ⟨x0, _, rfl, s1, hr1⟩ (fun j σ H' _ ⟨x, y, e, s, _⟩ => SqL.of (s _ _ hl)) ?_ ?_
    · rintro j v σ H3 hv ⟨x, y, rfl, s3, hx⟩
      obtain ⟨q, hqj, hn⟩ := (hq.same s3).get hv
      have zt' : Sq 3900 (sumQ (qs.take j)) := (sumQ_sq fun q h => hz q (List.mem_of_mem_take h)).mono (by have := hq.len; have := Nat.min_le_right j qs.length; rw [List.length_take]; omega)
      have zq : Sq 3900 q := (hz q (List.mem_of_getElem? hqj)).mono (by decide)
      refine ⟨_, rfl, _, rfl, bq hx hn ⟨x, v, _, q, rfl, hx, hn, ⟨zt', zq⟩, trivial, fun a4 H4 s4 ha4 => ?_⟩⟩
      exact ⟨a4, _, rfl, s3.trans s4, by rw [sum_step hqj]; exact ha4⟩
    rintro σ H2 ⟨x, y, rfl, s2, hx⟩
    rw [List.take_of_length_le (by rw [← hq.len]; omega)] at hx
    have hl2 := s2 _ _ hl
    have hq2 := hq.same s2
    refine ⟨rfl, _, rfl, l, us, qs, rfl, hl2, hq2, h8, hz, fun x3 H3 s3 hx3 => ⟨x3, _, rfl, hx3, zs, fun H4 s4 => ?_⟩⟩
    have hx4 := hx.same (s3.trans s4)
    refine ⟨_, rfl, x, _, rfl, hx4, zs, fun H5 s5 => ⟨rfl, _, rfl, iteFb (by rw [decide_eq_true rfl]; rfl) ?_⟩⟩
    have s25 := s3.trans (s4.trans s5)
    have hl5 := s25 _ _ hl2
    refine ⟨rfl, _, rfl, l, us, rfl, SqL.of hl5, fun r6 hr6 => ⟨r6, _, rfl, .inl ⟨SqL.of upd_same, fun t7 ht7 => ⟨rfl, ?_⟩⟩⟩⟩
    have s6 := same_new (o := .lst us.reverse) hr6
    have s7 := same_new (o := .tup us.reverse) ht7
    have s27 := s25.trans (s6.trans s7)
    refine ⟨t7, us.reverse, qs.reverse, rfl, upd_same, (hq2.same s27).rev, by rw [List.length_reverse]; exact h8, (fun q h => hz q (List.mem_reverse.mp h)), fun x8 H8 s8 hx8 => ?_⟩
    rw [sumQ_rev] at hx8
    refine ⟨_, rfl, eqLq hx8 (.rat (hx.same (s27.trans s8))) fun H9 s9 => ⟨_, rfl, iteFb (by rw [decide_eq_true rfl]; rfl) ?_⟩⟩
    have s09 := s2.trans (s27.trans (s8.trans s9))
    refine ⟨_, rfl, fun d10 hd10 => ⟨(by decide : 2 ≤ sizeLine), fun l11 hl11 => ⟨(by decide : 1 ≤ sizeLine), fun t12 ht12 => ⟨(by decide : 1 ≤ sizeLine), fun l13 hl13 => ?_⟩⟩⟩⟩
    have g10 := same_new (o := .dK []) hd10
    have g11 := same_new (o := .lst [.int 1, .non]) hl11
    have g12 := same_new (o := .tup [.bl true]) ht12
    have g13 := same_new (o := .lst [.str "1"]) hl13
    intro xr dxr hxr hdxr hner
    refine ⟨xr, dxr, 1, 1, rfl, upd_same, by decide, Sz1, fun H14 hR14 hk14 => ⟨rfl, ?_⟩⟩
    have g14 := mk_same hxr hdxr hk14
    have hr14 : RatQ C H14 xr 1 := asQ (by decide) (q_int 1) hR14
    refine ⟨(by decide : 1 ≤ sizeLine), fun l15 hl15 => ⟨(by decide : 1 ≤ sizeLine), fun l16 hl16 => ⟨_, rfl, (by decide : 1 ≤ sizeLine), fun l17 hl17 => ?_⟩⟩⟩
    have g15 := same_new (o := .lst [.int 1]) hl15
    have g16 := same_new (o := .lst [.ref l15]) hl16
    have g17 := same_new (o := .lst [.bl false]) hl17
    have h09 := hP.same s09
    have n10 := pen_ne h09 hd10
    have h10 := h09.same g10
    have n11 := pen_ne h10 hl11
    have h11 := h10.same g11
    have n12 := pen_ne h11 ht12
    have h12 := h11.same g12
    have n13 := pen_ne h12 hl13
    have h13 := h12.same g13
    have nxr := pen_ne h13 hxr
    have h14 := h13.same g14
    have n15 := pen_ne h14 hl15
    have h15 := h14.same g15
    have n16 := pen_ne h15 hl16
    have h16 := h15.same g16
    have h17 := h16.same g17
    have e17 := ((((((((s09.trans g10).trans g11).trans g12).trans g13).trans g14).trans g15).trans g16).trans g17)
    refine ⟨l, l17, us, [.bl false], rfl, rfl, e17 _ _ hl, upd_same, (by show us.length + 1 ≤ sizeLine; exact Nat.le_trans (Nat.add_le_add_right h8 1) (by decide)), fun l18 hl18 => ⟨(by decide : 11 ≤ sizeLine), fun s19 hs19 => ?_⟩⟩
    have n18 := pen_ne h17 hl18
    have g18 := same_new (o := .lst (us ++ [.bl false])) hl18
    have h18 := h17.same g18
    have n19 := pen_ne h18 hs19
    have g19 := same_new (o := .lst [.non, .bl true, .int 3, .str "12", .ref d10, .ref l11, .ref t12, .ref l13, .ref xr, .ref l16, .ref l18]) hs19
    refine ⟨p, cc, s19, _, k, rfl, h18.same g19, by omega, upd_same, n19, (by decide : 0 < 11), (by decide : 11 ≤ 1000), fun odd H20 hv P20 B20 => ?_⟩
    have e19 := (e17.trans g18).trans g19
    obtain ⟨pxs, hpx⟩ := (h18.same g19).lst
    have T20 := tabs_but (hT.ext e19) hpx B20
    refine ⟨T20, fun H21 e21 T21 => ?_⟩
    have up : ∀ (a : Addr) (o : HO), (upd (upd (upd (upd (upd H14 l15 (.lst [.int 1])) l16 (.lst [.ref l15])) l17 (.lst [.bl false])) l18 (.lst (us ++ [.bl false]))) s19 (.lst [.non, .bl true, .int 3, .str "12", .ref d10, .ref l11, .ref t12, .ref l13, .ref xr, .ref l16, .ref l18])) a = some o → a ≠ p → (∀ ps, o ≠ .tbl ps) → H21 a = some o := fun a o h n m => e21 _ _ (B20 _ _ h n) m
    have f14 := (((g15.trans g16).trans g17).trans g18).trans g19
    have f13 := g14.trans f14
    have bad : BadTot K C H21 odd := by
      rcases List.mem_cons.mp hv with rfl | hv
      · exact bt_non
      rcases List.mem_cons.mp hv with rfl | hv
      · exact bt_bl _
      rcases List.mem_cons.mp hv with rfl | hv
      · exact bt_int _
      rcases List.mem_cons.mp hv with rfl | hv
      · exact bt_str _
      rcases List.mem_cons.mp hv with rfl | hv
      · exact bt_dct (up _ _ (f13 _ _ (g13 _ _ (g12 _ _ (g11 _ _ upd_same)))) n10 (fun _ z => nomatch z))
      rcases List.mem_cons.mp hv with rfl | hv
      · refine bt_l (us := [.int 1]) (up _ _ (f13 _ _ (g13 _ _ (g12 _ _ upd_same))) n11 (fun _ z => nomatch z)) (fun x hx => ?_) (nn_non kn)
        rw [List.mem_singleton.mp hx]
        exact num1 T_Ratio (.int 1)
      rcases List.mem_cons.mp hv with rfl | hv
      · exact bt_t (up _ _ (f13 _ _ (g13 _ _ upd_same)) n12 (fun _ z => nomatch z)) (nn_bl kn _)
      rcases List.mem_cons.mp hv with rfl | hv
      · exact bt_l (us := []) (up _ _ (f13 _ _ upd_same) n13 (fun _ z => nomatch z)) (fun x hx => nomatch hx) (nn_str kn _)
      rcases List.mem_cons.mp hv with rfl | hv
      · obtain ⟨dd, h⟩ := hr14
        exact bt_rat T_Ratio kn (q := 1) ⟨dd, up _ _ (f14 _ _ h) nxr (fun _ z => nomatch z)⟩
      rcases List.mem_cons.mp hv with rfl | hv
      · exact bt_l (us := []) (up _ _ (g19 _ _ (g18 _ _ (g17 _ _ upd_same))) n16 (fun _ z => nomatch z)) (fun x hx => nomatch hx) (nn_lst kn (up _ _ (g19 _ _ (g18 _ _ (g17 _ _ (g16 _ _ upd_same)))) n15 (fun _ z => nomatch z)))
      rcases List.mem_cons.mp hv with rfl | hv
      · refine bt_l (us := us) (up _ _ (g19 _ _ upd_same) n18 (fun _ z => nomatch z)) (fun x hx => ?_) (nn_bl kn _)
        have hq21 : RowQ C H21 us qs := (((hq.same e19).butN hpx (ButN.of B20))).extN e21
        obtain ⟨q, _, hn⟩ := hq21.mem hx
        exact num1 T_Ratio hn
      cases hv
    refine ⟨rfl, odd, rfl, odd, rfl, bad, fun d H22 s22 hd22 => .inr ⟨d, _, rfl, rfl, hd22, fun r hr23 => ⟨(by decide : 2 ≤ sizeLine), fun w24 hw24 => ?_⟩⟩⟩
    have s23 := same_new (o := .tup [.str "ratio", .str "numbers"]) hr23
    have s24 := same_new (o := .tup [.str "ratio", .str "numbers"]) hw24
    refine ⟨_, _, .tup (SqT.of (s24 _ _ upd_same)) (.cons (.str _) (.cons (.str _) .nil)), .tup (SqT.of upd_same) (.cons (.str _) (.cons (.str _) .nil)), okR2, okR2, ?_⟩
    rw [show PyData.eqv (.tuple [.str "ratio", .str "numbers"]) (.tuple [.str "ratio", .str "numbers"]) = true by simp [PyData.eqv, PyData.eqvAll]]
    have sE := (s22.trans s23).trans s24
    exact kk _ ((P20.extN e21).same sE) (((ButN.of (But.same e19)).trans (ButN.of B20)).trans (ButN.ofN (extN_same' e21 sE))) (T21.ext sE)
end
end Toy
set_option maxRecDepth 100000
set_option maxHeartbeats 4000000
set_option exponentiation.threshold 9000
namespace Toy
open PySem L2
open Rat (divInt)
open LamX (Tabs TabS ExtN CodeO)
section
variable {P : Program} {w : World} {K : PySem.W.Frag} {mg : Str → Option Value} {base : Heap} {C CN CB CF P1 P2 P3 c : Addr}
/-- the law's heap between two steps -/
structure LS (C P1 P2 P3 : Addr) (H : Hp) (p cc l : Addr) (us : List V) (qs : List Rat) (n : Nat) : Prop where
  pen : Pen H p cc n
  ll : H l = some (.lst us)
  ne : l ≠ p
  row : RowQ C H us qs
  sq : ∀ q ∈ qs, Sq 130 q
  tabs : Tabs (Ts P1 P2 P3) H
theorem LS.but {H H' : Hp} {p cc l : Addr} {us : List V} {qs : List Rat} {n m : Nat} (L : LS C P1 P2 P3 H p cc l us qs n) (hP : Pen H' p cc m) (b : But p H H') : LS C P1 P2 P3 H' p cc l us qs m := by
  obtain ⟨xs, hp⟩ := L.pen.lst
  exact ⟨hP, b _ _ L.ll L.ne, L.ne, L.row.butN hp (ButN.of b), L.sq, tabs_but L.tabs hp b⟩
theorem LS.butN {H H' : Hp} {p cc l : Addr} {us : List V} {qs : List Rat} {n m : Nat} (L : LS C P1 P2 P3 H p cc l us qs n) (hP : Pen H' p cc m) (b : ButN p H H') (t : Tabs (Ts P1 P2 P3) H') : LS C P1 P2 P3 H' p cc l us qs m := by
  obtain ⟨xs, hp⟩ := L.pen.lst
  exact ⟨hP, b _ _ L.ll L.ne (fun _ z => nomatch z), L.ne, L.row.butN hp b, L.sq, t⟩
theorem LS.ext {H H' : Hp} {p cc l : Addr} {us : List V} {qs : List Rat} {n : Nat} (L : LS C P1 P2 P3 H p cc l us qs n) (e : ExtN H H') (t : Tabs (Ts P1 P2 P3) H') : LS C P1 P2 P3 H' p cc l us qs n :=
  ⟨L.pen.extN e, e _ _ L.ll (fun _ z => nomatch z), L.ne, L.row.extN e, L.sq, t⟩
theorem LS.same {H H' : Hp} {p cc l : Addr} {us : List V} {qs : List Rat} {n : Nat} (L : LS C P1 P2 P3 H p cc l us qs n) (s : Same H H') : LS C P1 P2 P3 H' p cc l us qs n := L.ext (extNs s) (L.tabs.ext s)
theorem LS.tne {H : Hp} {p cc l x : Addr} {us xs : List V} {qs : List Rat} {n : Nat} (L : LS C P1 P2 P3 H p cc l us qs n) (h : H x = some (.tup xs)) : x ≠ p := by
  obtain ⟨ys, hp⟩ := L.pen.lst
  exact ne_of h hp (fun z => nomatch z)
theorem LS.add {H : Hp} {p cc l : Addr} {us : List V} {qs : List Rat} {n : Nat} {u : V} {q : Rat} (L : LS C P1 P2 P3 H p cc l us qs n) (hu : NumQ C H u q) (z : Sq 130 q) (hc : cc ≠ l) : LS C P1 P2 P3 (upd H l (.lst (us ++ [u]))) p cc l (us ++ [u]) (qs ++ [q]) n := by
  have hB : But l H (upd H l (.lst (us ++ [u]))) := (But.refl).upd
  refine ⟨?_, upd_same, L.ne, (L.row.put L.ll).app (.cons (hu.put L.ll) .nil), fun r hr => ?_, tabs_put L.tabs L.ll⟩
  · obtain ⟨ns, b, k, W, hb⟩ := L.pen
    exact ⟨ns, b, k, ⟨hB _ _ W.hp (Ne.symm L.ne), hB _ _ W.hc hc, W.ln, W.b0⟩, hb⟩
  · rcases List.mem_append.mp hr with hr | hr
    · exact L.sq r hr
    · rw [List.mem_singleton.mp hr]; exact z
theorem p38 {z : Int} (h : z.natAbs < 10 ^ 38) : z.natAbs < 2 ^ 130 := Nat.lt_trans h (by decide +kernel)
theorem s38 {z : Int} (h : z.natAbs < 10 ^ 38) : Sz z := Nat.lt_of_lt_of_le (p38 h) (Nat.pow_le_pow_right (by decide) (by decide))
theorem NumQ.but {H H' : Hp} {p : Addr} {v : V} {q : Rat} {xs : List V} (h : NumQ C H v q) (hp : H p = some (.lst xs)) (s : But p H H') : NumQ C H' v q := h.butN hp (ButN.of s)
def spLaw (K : PySem.W.Frag) (P1 P2 P3 : Addr) : Sp := fun vs H Q _ => ∃ (a : Addr) (ns : List Int), vs = [.ref a] ∧ SqL K H a (ns.map V.int) ∧ ns.length ≤ 63 ∧ Tabs (Ts P1 P2 P3) H ∧ ∀ H', Q (.bl true) H'
abbrev sLaw : Stmt := top 39
theorem scL : FnScope ["_law_script", "_law_pen_here", "_law_row_so", "_law_turn", "_law_one", "_law_other", "_law_yours"] ["_law_script"] (defScope sLaw) := ⟨rfl, rfl, rfl, by decide +kernel, rfl, by decide +kernel, by decide +kernel⟩
theorem ok_law {f f1 f2 f3 f4 f5 f6 f7 f8 f9 g1 g2 g3 p3 : Addr} {fd fd1 fd2 fd3 fd4 fd5 fd6 fd7 fd8 fd9 gd1 gd2 gd3 : FuncData} (F : Fun K "law" "law" sLaw f fd) (T : Bl mg) (T_Ratio : RatT K mg C) (C__law_pen : Cal P w K mg base 1 "_law_pen" f1 fd1 ["_law_script"] (spPen K)) (C__law_pair : Cal P w K mg base 4 "_law_pair" f2 fd2 ["_law_pen_here"] spPair)
    (C__law_draw : Cal P w K mg base 1 "_law_draw" f3 fd3 ["_law_pen_here", "_law_many"] spDraw) (C__law_pick : Cal P w K mg base 2 "_law_pick" f4 fd4 ["_law_pen_here", "_law_some"] spPick) (C__law_lowest : Cal P w K mg base 1 "_law_lowest" f5 fd5 ["_law_top", "_law_bottom"] spLowest) (C__law_number : Cal P w K mg base 4 "_law_number" f6 fd6 ["_law_pen_here", "_law_pair_here"] (spNumber C))
    (G_signs : CalG P w K mg base 10 "_law_signs_right" f7 fd7 ["_law_one", "_law_other", "_law_mine", "_law_yours"] (spSigns C P1 P2 P3)) (G_over : CalG P w K mg base 10 "_law_over_right" f8 fd8 ["_law_one", "_law_other", "_law_yours"] (spOverR C P1 P2 P3)) (G_keptr : CalG P w K mg base 8 "_law_kept_right" f9 fd9 ["_law_one", "_law_yours"] (spKeptR C))
    (G_totr : CalG P w K mg base 12 "_law_total_right" g1 gd1 ["_law_pen_here", "_law_row_so"] (spTotR C P1 P2 P3)) (G_ends : CalG P w K mg base 1 "_law_ends" g2 gd2 ["_law_value"] (spEnds C)) (M_Ratio : Mak P w K mg base 2 "Ratio" C g3 gd3 ["self", "top", "bottom"] (spRInit C))
    {ft : Addr} {fdt : FuncData} (S_Ratio_total : Sta P w K mg base 9 C "total" p3 ft fdt ["numbers"] (spTotL K C)) :
    Own.FnG P w K mg base CX0 13 f fd ["_law_script"] (spLaw K P1 P2 P3) := by
  refine Own.okG F scL (fun vs H Q E h => ?_) (fun cdv A outer s H vs Q E hg hr h => ?_)
  · obtain ⟨a, ns, rfl, _⟩ := h
    rfl
  · obtain ⟨a, ns, rfl, hS, hl, hT, kq⟩ := h
    have nd := scL.nd
    refine ⟨_, pss_cons (ps_set (i := 1) nd rfl (Or.inl rfl) (pe_call C__law_pen.F (hr.mono (by decide)) (by rfl) C__law_pen.mgf C__law_pen.kp C__law_pen.b .nil pass0 (pa_cons (pv 0) pa_nil)))
      (pss_cons (ps_set (i := 2) nd rfl (Or.inl rfl) (pe_lst pa_nil))
      (pss_cons (ps_for PassesOwn.never rfl (pi_range1 (by rfl) T.range (pa_cons pe_int pa_nil)) (pg_name (i := 3) nd rfl (Or.inl rfl)) (pss_cons (ps_par (i := 4) (j := 5) (by rfl) nd rfl rfl (by decide) rfl rfl (pa_cons (pe_call C__law_pair.F (hr.mono (by decide)) (by rfl) C__law_pair.mgf C__law_pair.kp C__law_pair.b .nil pass0 (pa_cons (pv 1) pa_nil)) (pa_cons (pe_call C__law_pair.F (hr.mono (by decide)) (by rfl) C__law_pair.mgf C__law_pair.kp C__law_pair.b .nil pass0 (pa_cons (pv 1) pa_nil)) pa_nil)) (by rfl))
      (C8.pss_cut (ps_if (pt_cmpR op_eq (pe_call C__law_draw.F (hr.mono (by decide)) (by rfl) C__law_draw.mgf C__law_draw.kp C__law_draw.b .nil pass0 (pa_cons (pv 1) (pa_cons pe_int pa_nil))) pe_int (nomark _)) (pss_one (ps_set (i := 5) nd rfl (Or.inl rfl) (pe_tup (pa_cons (pe_call C__law_pick.F (hr.mono (by decide)) (by rfl) C__law_pick.mgf C__law_pick.kp C__law_pick.b .nil pass0 (pa_cons (pv 1) (pa_cons (pe_lst (pa_cons pe_int (pa_cons pe_int (pa_cons pe_int (pa_cons (pe_un un_neg pe_int) (pa_cons (pe_ix ix_tup (pv 5) pe_int (fun _ _ => rfl)) pa_nil)))))) pa_nil))) (pa_cons pe_int pa_nil))))) pss_nil)
      (pss_cons (ps_par (i := 4) (j := 5) (by rfl) nd rfl rfl (by decide) rfl rfl (pa_cons (pe_call C__law_lowest.F (hr.mono (by decide)) (by rfl) C__law_lowest.mgf C__law_lowest.kp C__law_lowest.b .nil pass0 (pa_cons (pe_ix ix_tup (pv 4) pe_int (fun _ _ => rfl)) (pa_cons (pe_ix ix_tup (pv 4) pe_int (fun _ _ => rfl)) pa_nil))) (pa_cons (pe_call C__law_lowest.F (hr.mono (by decide)) (by rfl) C__law_lowest.mgf C__law_lowest.kp C__law_lowest.b .nil pass0 (pa_cons (pe_ix ix_tup (pv 5) pe_int (fun _ _ => rfl)) (pa_cons (pe_ix ix_tup (pv 5) pe_int (fun _ _ => rfl)) pa_nil))) pa_nil)) (by rfl))
      (pss_cons (ps_set (i := 6) nd rfl (Or.inl rfl) (pe_call C__law_number.F (hr.mono (by decide)) (by rfl) C__law_number.mgf C__law_number.kp C__law_number.b .nil pass0 (pa_cons (pv 1) (pa_cons (pv 5) pa_nil))))
      (pss_cons (ps_if (pt_not (pt_val (Own.pe_callG G_signs.F hg (hr.mono (by decide)) (by rfl) G_signs.mgf G_signs.kp G_signs.b pass0 (pa_cons (pv 4) (pa_cons (pv 5) (pa_cons (pe_make M_Ratio.M M_Ratio.F (hr.mono (by decide)) (by rfl) M_Ratio.mgC M_Ratio.b .nil pass0 (pa_cons (pe_ix ix_tup (pv 4) pe_int (fun _ _ => rfl)) (pa_cons (pe_ix ix_tup (pv 4) pe_int (fun _ _ => rfl)) pa_nil))) (pa_cons (pv 6) pa_nil))))))) (pss_one (ps_ret pe_bl)) pss_nil)
      (pss_cons (ps_if (pt_not (pt_val (Own.pe_callG G_signs.F hg (hr.mono (by decide)) (by rfl) G_signs.mgf G_signs.kp G_signs.b pass0 (pa_cons (pv 5) (pa_cons (pv 4) (pa_cons (pv 6) (pa_cons (pe_make M_Ratio.M M_Ratio.F (hr.mono (by decide)) (by rfl) M_Ratio.mgC M_Ratio.b .nil pass0 (pa_cons (pe_ix ix_tup (pv 4) pe_int (fun _ _ => rfl)) (pa_cons (pe_ix ix_tup (pv 4) pe_int (fun _ _ => rfl)) pa_nil))) pa_nil))))))) (pss_one (ps_ret pe_bl)) pss_nil)
      (pss_cons (ps_if (PW.pt (pw_or (pt_not (pt_val (Own.pe_callG G_over.F hg (hr.mono (by decide)) (by rfl) G_over.mgf G_over.kp G_over.b pass0 (pa_cons (pv 4) (pa_cons (pv 5) (pa_cons (pv 6) pa_nil)))))) (pw_or1 (pt_not (pt_val (Own.pe_callG G_keptr.F hg (hr.mono (by decide)) (by rfl) G_keptr.mgf G_keptr.kp G_keptr.b pass0 (pa_cons (pv 4) (pa_cons (pv 6) pa_nil)))))))) (pss_one (ps_ret pe_bl)) pss_nil)
      (pss_one (ps_expr (pe_bm PySem.F.plainAttrs_list PySem.F.slot_list_append PySem.F.type_list_append mt_append (pv 2) (pa_cons (pv 6) pa_nil))))))))))))
      (pss_cons (ps_if (PW.pt (pw_or (pt_not (pt_val (Own.pe_callG G_totr.F hg (hr.mono (by decide)) (by rfl) G_totr.mgf G_totr.kp G_totr.b pass0 (pa_cons (pv 1) (pa_cons (pv 2) pa_nil))))) (pw_or1 (pt_not (pt_val (Own.pe_callG G_totr.F hg (hr.mono (by decide)) (by rfl) G_totr.mgf G_totr.kp G_totr.b pass0 (pa_cons (pv 1) (pa_cons (pe_slice sl_list (pv 2) po_none (po_some pe_int)) pa_nil)))))))) (pss_one (ps_ret pe_bl)) pss_nil)
      (pss_one (ps_ret (pe_cmpR op_eq (Own.pe_callG G_ends.F hg (hr.mono (by decide)) (by rfl) G_ends.mgf G_ends.kp G_ends.b pass0 (pa_cons (Own.pe_smeth T_Ratio.rd S_Ratio_total.s S_Ratio_total.F (hr.mono (by decide)) S_Ratio_total.b pass0 (Own.pe_gref (by rfl) T_Ratio.mgC) (pa_cons (pe_lst pa_nil) pa_nil)) pa_nil)) pe_str (nomark _))))))), ?_⟩
    refine ⟨_, rfl, a, ns, rfl, hS, hl, fun p cc H0 s0 hp0 hP0 => ?_⟩
    refine ⟨(by decide : 0 ≤ sizeLine), fun l hl0 => ?_⟩
    have n0 := pen_ne hP0 hl0
    have ncl : cc ≠ l := by
      obtain ⟨_, _, _, W, _⟩ := hP0
      exact ne_of_none W.hc hl0
    have L0 : LS C P1 P2 P3 (upd H0 l (.lst [])) p cc l [] [] 0 := ⟨hP0.same (same_new hl0), upd_same, n0, .nil, (fun q h => nomatch h), (hT.ext s0).ext (same_new hl0)⟩
    refine ⟨8, rfl, by decide, by decide, ?_⟩
    refine for_range (lo := 0) (n := 8) (fun i σ H' => ∃ x3 x4 x5 x6 us qs, σ = [some (.ref a), some (.ref p), some (.ref l), x3, x4, x5, x6] ∧ LS C P1 P2 P3 H' p cc l us qs (30 * i) ∧ us.length = i) ⟨_, _, _, _, [], [], rfl, L0, rfl⟩ ?_ ?_
    · rintro i σ H1 hi ⟨x3, x4, x5, x6, us, qs, rfl, L1, hlen⟩
      refine ⟨_, rfl, p, cc, _, rfl, L1.pen, by omega, fun t b x1 H2 ht hb hb0 W2 B2 h1 => ?_⟩
      have L2 := L1.but W2 B2
      refine ⟨_, rfl, p, cc, _, rfl, W2, by omega, fun t' b' x2 H3 ht' hb' hb0' W3 B3 h2 => ⟨_, _, rfl, ?_⟩⟩
      have L3 := L2.but W3 B3
      have h13 := B3 _ _ h1 (L2.tne h1)
      refine ⟨fun σ H' => ∃ x2 t' b' x6, σ = [some (.ref a), some (.ref p), some (.ref l), some (.int (0 + (i : Int))), some (.ref x1), some (.ref x2), x6] ∧ LS C P1 P2 P3 H' p cc l us qs (30 * i + 20) ∧ H' x1 = some (.tup [.int t, .int b]) ∧ H' x2 = some (.tup [.int t', .int b']) ∧ t'.natAbs < 10 ^ 38 ∧ b'.natAbs < 10 ^ 38 ∧ b' ≠ 0, ?_, ?_⟩
      · refine ⟨_, rfl, p, cc, 3, _, rfl, W3, by omega, by decide, by decide +kernel, fun r H4 r0 r3 W4 B4 => ⟨rfl, _, rfl, ?_⟩⟩
        have L4 := L3.but W4 B4
        have h14 := B4 _ _ h13 (L3.tne h13)
        have h24 := B4 _ _ h2 (L3.tne h2)
        by_cases hr0 : r = 0
        · refine iteTb (by rw [hr0]; exact decide_eq_true rfl) ?_
          refine ⟨_, rfl, 1, rfl, _, rfl, x2, _, _, _, rfl, rfl, SqT.of h24, rfl, (by decide : 5 ≤ sizeLine), fun s5 hs5 => ?_⟩
          have n5 := pen_ne L4.pen hs5
          have g5 := same_new (o := .lst [.int 0, .int 0, .int 1, .int (-1), .int t']) hs5
          have L5 := L4.same g5
          refine ⟨p, cc, s5, _, _, rfl, L5.pen, by omega, upd_same, n5, (by decide : 0 < 5), (by decide : 5 ≤ 1000), fun v H6 hv W6 B6 => ⟨(by decide : 2 ≤ sizeLine), fun t7 ht7 => ?_⟩⟩
          have L6 := L5.but W6 B6
          obtain ⟨z, rfl, hz⟩ : ∃ z : Int, v = .int z ∧ z.natAbs < 10 ^ 38 := by
            rcases List.mem_cons.mp hv with rfl | hv
            · exact ⟨0, rfl, by decide⟩
            rcases List.mem_cons.mp hv with rfl | hv
            · exact ⟨0, rfl, by decide⟩
            rcases List.mem_cons.mp hv with rfl | hv
            · exact ⟨1, rfl, by decide +kernel⟩
            rcases List.mem_cons.mp hv with rfl | hv
            · exact ⟨-1, rfl, by decide +kernel⟩
            rcases List.mem_cons.mp hv with rfl | hv
            · exact ⟨t', rfl, ht'⟩
            cases hv
          have g7 := same_new (o := .tup [.int z, .int 1]) ht7
          have L7 := L6.same g7
          exact ⟨t7, z, 1, _, rfl, ⟨L7.pen.mono (by omega), L7.ll, L7.ne, L7.row, L7.sq, L7.tabs⟩, g7 _ _ (B6 _ _ (g5 _ _ h14) (L5.tne (g5 _ _ h14))), upd_same, hz, by decide +kernel, by decide⟩
        · refine iteFb (decide_eq_false fun z => hr0 (by cases z; rfl)) ?_
          exact ⟨x2, t', b', _, rfl, ⟨L4.pen.mono (by omega), L4.ll, L4.ne, L4.row, L4.sq, L4.tabs⟩, h14, h24, ht', hb', hb0'⟩
      · rintro σ H5 ⟨x2, t', b', x6, rfl, L5, h15, h25, ht', hb', hb0'⟩
        refine ⟨_, rfl, x1, _, _, _, rfl, rfl, SqT.of h15, rfl, _, rfl, x1, _, _, _, rfl, rfl, SqT.of h15, rfl, t, b, rfl, hb0, s38 ht, s38 hb, fun c1 hc1 => ?_⟩
        have g6 := same_new (o := .tup [.int (divInt t b).num, .int ((divInt t b).den : Int)]) hc1
        have h26 := g6 _ _ h25
        refine ⟨_, rfl, x2, _, _, _, rfl, rfl, SqT.of h26, rfl, _, rfl, x2, _, _, _, rfl, rfl, SqT.of h26, rfl, t', b', rfl, hb0', s38 ht', s38 hb', fun c2 hc2 => ⟨_, _, rfl, ?_⟩⟩
        have g7 := same_new (o := .tup [.int (divInt t' b').num, .int ((divInt t' b').den : Int)]) hc2
        have zp : Sq 130 (divInt t b) := Sq.of hb0 (p38 ht) (p38 hb)
        have zq : Sq 130 (divInt t' b') := Sq.of hb0' (p38 ht') (p38 hb')
        have L7 := (L5.same g6).same g7
        have e1 : (upd (upd H5 c1 (.tup [.int (divInt t b).num, .int ((divInt t b).den : Int)])) c2 (.tup [.int (divInt t' b').num, .int ((divInt t' b').den : Int)])) c1 = some (.tup [.int (divInt t b).num, .int ((divInt t b).den : Int)]) := g7 _ _ upd_same
        have e2 : (upd (upd H5 c1 (.tup [.int (divInt t b).num, .int ((divInt t b).den : Int)])) c2 (.tup [.int (divInt t' b').num, .int ((divInt t' b').den : Int)])) c2 = some (.tup [.int (divInt t' b').num, .int ((divInt t' b').den : Int)]) := upd_same
        generalize divInt t b = pq at *
        generalize divInt t' b' = qq at *
        have yp : Sq 3900 pq := zp.mono (by decide)
        refine ⟨_, rfl, _, rfl, p, cc, _, c2, qq, rfl, L7.pen, by omega, e2, L7.tne e2, zq, fun u H8 hu W8 B8 => ?_⟩
        have L8 := L7.but W8 B8
        have e18 := B8 _ _ e1 (L7.tne e1)
        have e28 := B8 _ _ e2 (L7.tne e2)
        refine ⟨_, rfl, _, rfl, _, rfl, c1, _, _, _, rfl, rfl, SqT.of e18, rfl, _, rfl, c1, _, _, _, rfl, rfl, SqT.of e18, rfl, ?_⟩
        intro x dx hx hdx hne
        refine ⟨x, dx, pq.num, (pq.den : Int), rfl, upd_same, den_ne pq, (z4 yp).2, fun H9 hR hk => ⟨rfl, ?_⟩⟩
        have s9 := mk_same hx hdx hk
        have hp9 := asQ (den_ne pq) (Rat.num_divInt_den pq) hR
        have L9 := L8.same s9
        refine ⟨_, rfl, c1, c2, .ref x, u, pq, qq, rfl, s9 _ _ e18, s9 _ _ e28, ⟨.rat hp9, hu.same s9, .inl ⟨x, rfl⟩⟩, ⟨zp, zq⟩, L9.tabs, fun H10 x10 T10 => ⟨_, rfl, iteNot rfl ?_⟩⟩
        have x810 := (extNs s9).trans x10
        have L10 := L8.ext x810 T10
        have e110 := x810 _ _ e18 (fun _ z => nomatch z)
        have e210 := x810 _ _ e28 (fun _ z => nomatch z)
        have hu10 := hu.extN x810
        refine ⟨_, rfl, _, rfl, _, rfl, _, rfl, c1, _, _, _, rfl, rfl, SqT.of e110, rfl, _, rfl, c1, _, _, _, rfl, rfl, SqT.of e110, rfl, ?_⟩
        intro y dy hy hdy hney
        refine ⟨y, dy, pq.num, (pq.den : Int), rfl, upd_same, den_ne pq, (z4 yp).2, fun H11 hRy hky => ⟨rfl, ?_⟩⟩
        have s11 := mk_same hy hdy hky
        have hp11 := asQ (den_ne pq) (Rat.num_divInt_den pq) hRy
        have L11 := L10.same s11
        refine ⟨c2, c1, u, .ref y, qq, pq, rfl, s11 _ _ e210, s11 _ _ e110, ⟨hu10.same s11, .rat hp11, .inr ⟨y, rfl⟩⟩, ⟨zq, zp⟩, L11.tabs, fun H12 x12 T12 => ⟨_, rfl, iteNot rfl ?_⟩⟩
        have x1012 := (extNs s11).trans x12
        have L12 := L10.ext x1012 T12
        have e112 := x1012 _ _ e110 (fun _ z => nomatch z)
        have e212 := x1012 _ _ e210 (fun _ z => nomatch z)
        have hu12 := hu10.extN x1012
        refine ⟨_, rfl, _, rfl, _, rfl, c1, c2, u, pq, qq, rfl, e112, e212, hu12, ⟨zp, zq⟩, L12.tabs, fun H13 x13 T13 => ⟨_, rfl, iteFb rfl ?_⟩⟩
        have L13 := L12.ext x13 T13
        have e113 := x13 _ _ e112 (fun _ z => nomatch z)
        have hu13 := hu12.extN x13
        refine ⟨_, rfl, _, rfl, c1, u, pq, qq, rfl, e113, hu13, ⟨zp, zq⟩, fun H14 s14 => ⟨_, rfl, iteFb rfl ?_⟩⟩
        have L14 := L13.same s14
        refine ⟨_, rfl, .inl ⟨rfl, _, SqL.of L14.ll⟩, _, rfl, l, us, u, rfl, rfl, L14.ll, (by rw [hlen]; exact Nat.lt_trans hi (by decide)), ?_⟩
        have L15 := L14.add (hu13.same s14) zq ncl
        exact ⟨_, _, _, _, us ++ [u], qs ++ [qq], rfl, ⟨L15.pen.mono (by omega), L15.ll, L15.ne, L15.row, L15.sq, L15.tabs⟩, by rw [List.length_append, hlen]; rfl⟩
    · rintro σ H1 ⟨x3, x4, x5, x6, us, qs, rfl, L1, hlen⟩
      refine ⟨_, rfl, _, rfl, p, cc, _, l, us, qs, rfl, L1.pen, by omega, L1.ll, L1.ne, L1.row, by omega, L1.sq, L1.tabs, fun H2 W2 B2 T2 => ⟨_, rfl, iteFb rfl ?_⟩⟩
      have L2 := L1.butN W2 B2 T2
      have ct : cutV us none (some 1) = us.take 1 := cut_lo us 1 (by omega)
      refine ⟨_, rfl, _, rfl, 1, rfl, l, us, rfl, SqL.of L2.ll, fun s3 hs3 => ?_⟩
      have n3 := pen_ne L2.pen hs3
      have g3 := same_new (o := .lst (cutV us none (some 1))) hs3
      have L3 := L2.same g3
      refine ⟨p, cc, _, s3, us.take 1, qs.take 1, rfl, L3.pen, by omega, by rw [← ct]; exact upd_same, n3, L3.row.take 1, Nat.le_trans (by rw [List.length_take]; exact Nat.min_le_right ..) (show us.length ≤ 8 by omega), (fun q h => L3.sq q (List.mem_of_mem_take h)), L3.tabs, fun H4 W4 B4 T4 => ⟨_, rfl, iteFb rfl ?_⟩⟩
      refine ⟨rfl, (by decide : 0 ≤ sizeLine), fun e5 he5 => ⟨e5, [], [], rfl, upd_same, .nil, by decide, (fun q h => nomatch h), fun x6 H6 s6 hx6 => ⟨x6, 0, rfl, hx6, Sq.int (i := 0) (by decide) (by decide), fun H7 s7 => ⟨rfl, ?_⟩⟩⟩⟩
      have e0 : endT 0 = ("(0, 1)" : Str) := by decide +kernel
      rw [e0, decide_eq_true rfl]
      exact kq _
end
end Toy
set_option maxRecDepth 100000
set_option maxHeartbeats 4000000
namespace Toy
open PySem L2
/-! ### the end -/
theorem _root_.L2.Fun.kbn {K : PySem.W.Frag} {x qual : Str} {st : Stmt} {f : Addr} {fd : FuncData} {ps ks : List Str} {n : Nat} {g : List Value → List Value → List Value} {gV : List V → List V → List V} (F : Fun K x qual st f fd)
    (h : ∀ (kV doc pm : Value) (an : Option Addr) (cdv ct : Value) (us ws : List Value), us.length = n → ws.length = ks.length → bindArgs (PySem.W.fnOf x qual (defArgs st) (defBody st) (defScope st) .none kV doc pm an cdv ct) ⟨us, ks.zip ws⟩ = pure (ps.zip (g us ws)))
    (hg : ∀ {vs : List V} {us : List Value} {zs : List V} {ws : List Value}, Vals vs us → Vals zs ws → Vals (gV vs zs) (g us ws)) : KBn K fd ps n ks g gV := by
  obtain ⟨oc, od, kV, doc, pm, an, cdv, ct, osl, rfl, lk, hcd⟩ := F.ex
  exact ⟨fun s us ws _ hu hw => .of_eq (h kV doc pm an cdv ct us ws hu hw), hg⟩
theorem ts_law {H : Hp} {P1 P2 P3 : Addr} (h1 : H P1 = some (.tbl #[])) (h2 : H P2 = some (.tbl #[])) (h3 : H P3 = some (.tbl #[])) : LamX.Tabs (Ts P1 P2 P3) H := fun r hr => by
  rcases List.mem_cons.mp hr with rfl | hr
  · exact .nil h1
  rcases List.mem_cons.mp hr with rfl | hr
  · exact .nil h2
  rw [List.mem_singleton.mp hr]
  exact .nil h3
theorem all_mk {l : PySem.W.OpenLaw} {w : World} {K : PySem.W.Frag} {h : Heap} {mg : Str → Option Value} {fa CR CB CN CF gAdd gSub gMult gFloorDiv gMod cR0 Pt0 cR1 Pt1 cR2 Pt2 f0 f1 p1 f2 f3 f4 dT4 f5 f6 f7 f8 p8 f9 f10 f11 f12 f13 f14 f15 f16 f17 f18 f19 f20 f21 f22 f23 f24 f25 p25 f26 f27 f28 f29 f30 f31 f32 f33 f34 f35 f36 f37 f38 f39 f40 f41 f42 f43 f44 : Addr} (X : K.In h) (G : h.Ns mainGlobals mg) (hfa : mg "law" = some (.ref fa))
    {o1Add o2Add : Option Value}
    {o1Sub o2Sub : Option Value}
    {o1Mult o2Mult : Option Value}
    {o1FloorDiv o2FloorDiv : Option Value}
    {o1Mod o2Mod : Option Value}
    {od0 an0 : Option Addr} {sl0 : Array (Option Value)} {oc0 kV0 dc0 pm0 cd0 ct0 : Value}
    {rest1 : List Value}
    {od1 an1 : Option Addr} {sl1 : Array (Option Value)} {oc1 kV1 dc1 pm1 cd1 ct1 : Value}
    {od2 an2 : Option Addr} {sl2 : Array (Option Value)} {oc2 kV2 dc2 pm2 cd2 ct2 : Value}
    {od3 an3 : Option Addr} {sl3 : Array (Option Value)} {oc3 kV3 dc3 pm3 cd3 ct3 : Value}
    {od4 an4 : Option Addr} {sl4 : Array (Option Value)} {oc4 kV4 dc4 pm4 cd4 ct4 : Value}
    {doc4 : Value} {dod4 : Option Addr} {dn4 : Nat} {dsl4 : Array (Option Value)} {dtk4 : Tok}
    {od5 an5 : Option Addr} {sl5 : Array (Option Value)} {oc5 kV5 dc5 pm5 cd5 ct5 : Value}
    {od6 an6 : Option Addr} {sl6 : Array (Option Value)} {oc6 kV6 dc6 pm6 cd6 ct6 : Value}
    {od7 an7 : Option Addr} {sl7 : Array (Option Value)} {oc7 kV7 dc7 pm7 cd7 ct7 : Value}
    {rest8 : List Value}
    {od8 an8 : Option Addr} {sl8 : Array (Option Value)} {oc8 kV8 dc8 pm8 cd8 ct8 : Value}
    {od9 an9 : Option Addr} {sl9 : Array (Option Value)} {oc9 kV9 dc9 pm9 cd9 ct9 : Value}
    {od10 an10 : Option Addr} {sl10 : Array (Option Value)} {oc10 kV10 dc10 pm10 cd10 ct10 : Value}
    {od11 an11 : Option Addr} {sl11 : Array (Option Value)} {oc11 kV11 dc11 pm11 cd11 ct11 : Value}
    {od12 an12 : Option Addr} {sl12 : Array (Option Value)} {oc12 kV12 dc12 pm12 cd12 ct12 : Value}
    {od13 an13 : Option Addr} {sl13 : Array (Option Value)} {oc13 kV13 dc13 pm13 cd13 ct13 : Value}
    {od14 an14 : Option Addr} {sl14 : Array (Option Value)} {oc14 kV14 dc14 pm14 cd14 ct14 : Value}
    {od15 an15 : Option Addr} {sl15 : Array (Option Value)} {oc15 kV15 dc15 pm15 cd15 ct15 : Value}
    {od16 an16 : Option Addr} {sl16 : Array (Option Value)} {oc16 kV16 dc16 pm16 cd16 ct16 : Value}
    {od17 an17 : Option Addr} {sl17 : Array (Option Value)} {oc17 kV17 dc17 pm17 cd17 ct17 : Value}
    {od18 an18 : Option Addr} {sl18 : Array (Option Value)} {oc18 kV18 dc18 pm18 cd18 ct18 : Value}
    {od19 an19 : Option Addr} {sl19 : Array (Option Value)} {oc19 kV19 dc19 pm19 cd19 ct19 : Value}
    {od20 an20 : Option Addr} {sl20 : Array (Option Value)} {oc20 kV20 dc20 pm20 cd20 ct20 : Value}
    {od21 an21 : Option Addr} {sl21 : Array (Option Value)} {oc21 kV21 dc21 pm21 cd21 ct21 : Value}
    {od22 an22 : Option Addr} {sl22 : Array (Option Value)} {oc22 kV22 dc22 pm22 cd22 ct22 : Value}
    {od23 an23 : Option Addr} {sl23 : Array (Option Value)} {oc23 kV23 dc23 pm23 cd23 ct23 : Value}
    {od24 an24 : Option Addr} {sl24 : Array (Option Value)} {oc24 kV24 dc24 pm24 cd24 ct24 : Value}
    {rest25 : List Value}
    {od25 an25 : Option Addr} {sl25 : Array (Option Value)} {oc25 kV25 dc25 pm25 cd25 ct25 : Value}
    {od26 an26 : Option Addr} {sl26 : Array (Option Value)} {oc26 kV26 dc26 pm26 cd26 ct26 : Value}
    {od27 an27 : Option Addr} {sl27 : Array (Option Value)} {oc27 kV27 dc27 pm27 cd27 ct27 : Value}
    {od28 an28 : Option Addr} {sl28 : Array (Option Value)} {oc28 kV28 dc28 pm28 cd28 ct28 : Value}
    {od29 an29 : Option Addr} {sl29 : Array (Option Value)} {oc29 kV29 dc29 pm29 cd29 ct29 : Value}
    {od30 an30 : Option Addr} {sl30 : Array (Option Value)} {oc30 kV30 dc30 pm30 cd30 ct30 : Value}
    {od31 an31 : Option Addr} {sl31 : Array (Option Value)} {oc31 kV31 dc31 pm31 cd31 ct31 : Value}
    {od32 an32 : Option Addr} {sl32 : Array (Option Value)} {oc32 kV32 dc32 pm32 cd32 ct32 : Value}
    {od33 an33 : Option Addr} {sl33 : Array (Option Value)} {oc33 kV33 dc33 pm33 cd33 ct33 : Value}
    {od34 an34 : Option Addr} {sl34 : Array (Option Value)} {oc34 kV34 dc34 pm34 cd34 ct34 : Value}
    {od35 an35 : Option Addr} {sl35 : Array (Option Value)} {oc35 kV35 dc35 pm35 cd35 ct35 : Value}
    {od36 an36 : Option Addr} {sl36 : Array (Option Value)} {oc36 kV36 dc36 pm36 cd36 ct36 : Value}
    {od37 an37 : Option Addr} {sl37 : Array (Option Value)} {oc37 kV37 dc37 pm37 cd37 ct37 : Value}
    {od38 an38 : Option Addr} {sl38 : Array (Option Value)} {oc38 kV38 dc38 pm38 ct38 : Value}
    {od39 an39 : Option Addr} {sl39 : Array (Option Value)} {oc39 kV39 dc39 pm39 ct39 : Value}
    {od40 an40 : Option Addr} {sl40 : Array (Option Value)} {oc40 kV40 dc40 pm40 cd40 ct40 : Value}
    {od41 an41 : Option Addr} {sl41 : Array (Option Value)} {oc41 kV41 dc41 pm41 cd41 ct41 : Value}
    {od42 an42 : Option Addr} {sl42 : Array (Option Value)} {oc42 kV42 dc42 pm42 cd42 ct42 : Value}
    {od43 an43 : Option Addr} {sl43 : Array (Option Value)} {oc43 kV43 dc43 pm43 ct43 : Value}
    {od44 an44 : Option Addr} {sl44 : Array (Option Value)} {oc44 kV44 dc44 pm44 cd44 ct44 : Value}
    (aCR : PySem.W.nsIn K mainGlobals "Ratio" = some (some (.ref CR)))
    (pgCR : PySem.W.plainGet K CR Str.empty = true)
    (hdCR : PySem.W.hasDictIn K CR = true)
    (poCR : PySem.W.plainOver K CR = true)
    (saCR : PySem.W.findIn K (.ref CR) "__setattr__" = some (some (.builtin "object.__setattr__")))
    (rdCR : PySem.W.readsIn K CR (.type "type") = true)
    (gaCR : PySem.W.specialIn K (.ref CR) "__getattribute__" = some (some (.builtin "type.__getattribute__")))
    (caCR : PySem.W.findIn K (.ref CR) "__class__" = some (some (.builtin "object.__class__")))
    (cmCR : PySem.W.mroIn K CR (.type "object") = some true)
    (sICR : PySem.W.subIn K (.ref CR) (.type "int") = some false)
    (nICR : PySem.W.notFirst K CR (.type "int") = true)
    (nCCR : PySem.W.notFirst K CR (.ref CR) = true)
    (kICR : PySem.W.kitOne K (.ref CR) (.type "int") = some false)
    (kBCR : PySem.W.kitOne K (.ref CR) (.type "bool") = some false)
    (iKCR : PySem.W.kitOne K (.type "int") (.ref CR) = some false)
    (kSCR : PySem.W.kitOne K (.ref CR) (.ref CR) = some true)
    (n_topCR : PySem.W.findIn K (.ref CR) "top" = some none)
    (n_bottomCR : PySem.W.findIn K (.ref CR) "bottom" = some none)
    (mkCR : PySem.W.makesIn K CR = true)
    (kcCR : PySem.W.keepIn K (.ref CR) = true)
    (cn : PySem.W.specialIn K (.builtin "object.__class__") "__get__" = some (some (.builtin "getset_descriptor.__get__")))
    (ct : PySem.W.takesIn K (.builtin "object.__class__") = some true)
    (z_int : PySem.W.nsIn K mainGlobals "int" = some none)
    (z_len : PySem.W.nsIn K mainGlobals "len" = some none)
    (z_abs : PySem.W.nsIn K mainGlobals "abs" = some none)
    (z_list : PySem.W.nsIn K mainGlobals "list" = some none)
    (z_range : PySem.W.nsIn K mainGlobals "range" = some none)
    (z_isinstance : PySem.W.nsIn K mainGlobals "isinstance" = some none)
    (z_bool : PySem.W.nsIn K mainGlobals "bool" = some none)
    (z_repr : PySem.W.nsIn K mainGlobals "repr" = some none)
    (z_tuple : PySem.W.nsIn K mainGlobals "tuple" = some none)
    (z_gcd : PySem.W.nsIn K mainGlobals "gcd" = some (some (.builtin "math.gcd")))
    (aCB : PySem.W.nsIn K mainGlobals "BadRatio" = some (some (.ref CB)))
    (lkCB : ∃ nm q N bs bm sn sub ab col dd k0 k1 k2 k3 k5, K.lookup CB = some (excClassObj nm q CB N bs bm true sn sub ab col dd k0 k1 k2 k3 k5 "ValueError.__new__") ∧ PySem.HandSPX.refsVE bm = true)
    (saCB : PySem.W.findIn K (.ref CB) "__setattr__" = some (some (.builtin "object.__setattr__")))
    (exCB : PySem.W.subIn K (.ref CB) (.type "BaseException") = some true)
    (tyCB : PySem.W.typeIn K (.ref CB) = some (.type "type"))
    (kpCB : PySem.W.keepIn K (.ref CB) = true)
    (inCB : PySem.W.findIn K (.ref CB) "__init__" = some (some (.ref f24)))
    (tiCB : PySem.W.typeIn K (.ref f24) = some (.type "function"))
    (noCB : PySem.W.findIn K (.ref CB) "part" = some none)
    (xfCB : PySem.W.findIn K (.ref CB) "__getattribute__" = some (some (.builtin "BaseException.__getattribute__")))
    (xgCB : PySem.W.findIn K (.ref CB) "__getattr__" = some none)
    (xhCB : PySem.W.hasDictIn K CB = true)
    (aCN : PySem.W.nsIn K mainGlobals "NoDivisor" = some (some (.ref CN)))
    (xCN : PySem.W.excIn K CN [.type "ValueError", .type "Exception", .type "BaseException", .type "object"] "ValueError.__new__" = true)
    (kpCN : PySem.W.keepIn K (.ref CN) = true)
    (bCN : PySem.W.subIn K (.ref CN) (.type "BaseException") = some true)
    (tCN : PySem.W.typeIn K (.ref CN) = some (.type "type"))
    (aCF : PySem.W.nsIn K mainGlobals "FifthError" = some (some (.ref CF)))
    (e_CN_CB : PySem.W.exmOne K (.ref CN) (.ref CB) = some false)
    (e_CN_CN : PySem.W.exmOne K (.ref CN) (.ref CN) = some true)
    (e_CB_CB : PySem.W.exmOne K (.ref CB) (.ref CB) = some true)
    (neR : PySem.W.findIn K (.ref CR) "__ne__" = some (some (.builtin "object.__ne__")))
    (sO : PySem.W.subIn K (.ref CR) (.type "object") = some true)
    (sIR : PySem.W.subIn K (.type "int") (.ref CR) = some false)
    (sf : PySem.W.selfFirst K CR = true)
    (i1Add : PySem.W.findIn K (.type "int") "__add__" = some o1Add)
    (i2Add : PySem.W.findIn K (.type "int") "__radd__" = some o2Add)
    (rAdd : PySem.W.findIn K (.ref CR) "__radd__" = some (some (.ref gAdd)))
    (i1Sub : PySem.W.findIn K (.type "int") "__sub__" = some o1Sub)
    (i2Sub : PySem.W.findIn K (.type "int") "__rsub__" = some o2Sub)
    (rSub : PySem.W.findIn K (.ref CR) "__rsub__" = some (some (.ref gSub)))
    (i1Mult : PySem.W.findIn K (.type "int") "__mul__" = some o1Mult)
    (i2Mult : PySem.W.findIn K (.type "int") "__rmul__" = some o2Mult)
    (rMult : PySem.W.findIn K (.ref CR) "__rmul__" = some (some (.ref gMult)))
    (i1FloorDiv : PySem.W.findIn K (.type "int") "__floordiv__" = some o1FloorDiv)
    (i2FloorDiv : PySem.W.findIn K (.type "int") "__rfloordiv__" = some o2FloorDiv)
    (rFloorDiv : PySem.W.findIn K (.ref CR) "__rfloordiv__" = some (some (.ref gFloorDiv)))
    (i1Mod : PySem.W.findIn K (.type "int") "__mod__" = some o1Mod)
    (i2Mod : PySem.W.findIn K (.type "int") "__rmod__" = some o2Mod)
    (rMod : PySem.W.findIn K (.ref CR) "__rmod__" = some (some (.ref gMod)))
    (tab0 : PySem.W.tabIn K "_law_signs_right" = some (cR0, Pt0))
    (chd0 : PySem.W.codeHdIn K cR0 Pt0 = true)
    (outP0 : K.lookup Pt0 = none)
    (eP0 : h.get? Pt0 = some (PySem.W.tabObj #[]))
    (tab1 : PySem.W.tabIn K "_law_over_right" = some (cR1, Pt1))
    (chd1 : PySem.W.codeHdIn K cR1 Pt1 = true)
    (outP1 : K.lookup Pt1 = none)
    (eP1 : h.get? Pt1 = some (PySem.W.tabObj #[]))
    (tab2 : PySem.W.tabIn K "_law_total_right" = some (cR2, Pt2))
    (chd2 : PySem.W.codeHdIn K cR2 Pt2 = true)
    (outP2 : K.lookup Pt2 = none)
    (eP2 : h.get? Pt2 = some (PySem.W.tabObj #[]))
    (kn1 : PySem.W.kitOne K (.type "NoneType") (.ref CR) = some false)
    (kn2 : PySem.W.kitOne K (.type "bool") (.ref CR) = some false)
    (kn3 : PySem.W.kitOne K (.type "str") (.ref CR) = some false)
    (kn4 : PySem.W.kitOne K (.type "list") (.ref CR) = some false)
    (kn5 : PySem.W.kitOne K (.ref CR) (.type "list") = some false)
    (kn6 : PySem.W.kitOne K (.ref CR) (.type "tuple") = some false)
    (ni1 : Own.noIn K CR (dunderI "add") = true)
    (ni2 : Own.noIn K CR (dunderI "sub") = true)
    (ni3 : Own.noIn K CR (dunderI "mul") = true)
    (ni4 : Own.noIn K CR (dunderI "floordiv") = true)
    (ni5 : Own.noIn K CR (dunderI "mod") = true)
    (d01 : Pt0 ≠ Pt1)
    (d02 : Pt0 ≠ Pt2)
    (d12 : Pt1 ≠ Pt2)
    (a0 : PySem.W.nsIn K mainGlobals "is_int" = some (some (.ref f0)))
    (l0 : K.lookup f0 = some ⟨oc0, od0, .func (PySem.W.fnOf "is_int" "is_int" (defArgs sIsInt) (defBody sIsInt) (defScope sIsInt) .none kV0 dc0 pm0 an0 cd0 ct0), sl0⟩)
    (c0 : PySem.W.codeIn K cd0 "is_int" = true)
    (k0 : PySem.W.keepIn K (.ref f0) = true)
    (a1 : PySem.W.findCls K (.ref CR) (.type "type") "is_number" = some (.get (.builtin "staticmethod.__get__") (.ref p1) .none (.ref CR)))
    (r1 : PySem.W.recIn K p1 "staticmethod" = some (.ref f1 :: rest1))
    (l1 : K.lookup f1 = some ⟨oc1, od1, .func (PySem.W.fnOf "is_number" "Ratio.is_number" (defArgs sIsNum) (defBody sIsNum) (defScope sIsNum) .none kV1 dc1 pm1 an1 cd1 ct1), sl1⟩)
    (c1 : PySem.W.codeIn K cd1 "Ratio.is_number" = true)
    (k1 : PySem.W.keepIn K (.ref f1) = true)
    (a2 : PySem.W.nsIn K mainGlobals "parts_of" = some (some (.ref f2)))
    (l2 : K.lookup f2 = some ⟨oc2, od2, .func (PySem.W.fnOf "parts_of" "parts_of" (defArgs sParts) (defBody sParts) (defScope sParts) .none kV2 dc2 pm2 an2 cd2 ct2), sl2⟩)
    (c2 : PySem.W.codeIn K cd2 "parts_of" = true)
    (k2 : PySem.W.keepIn K (.ref f2) = true)
    (a3 : PySem.W.nsIn K mainGlobals "_lead" = some (some (.ref f3)))
    (l3 : K.lookup f3 = some ⟨oc3, od3, .func (PySem.W.fnOf "_lead" "_lead" (defArgs sLead) (defBody sLead) (defScope sLead) .none kV3 dc3 pm3 an3 cd3 ct3), sl3⟩)
    (c3 : PySem.W.codeIn K cd3 "_lead" = true)
    (k3 : PySem.W.keepIn K (.ref f3) = true)
    (a4 : PySem.W.findIn K (.ref CR) "__init__" = some (some (.ref f4)))
    (i4 : PySem.W.isFn K (.ref f4) = true)
    (l4 : K.lookup f4 = some ⟨oc4, od4, .func (PySem.W.fnOf "__init__" "Ratio.__init__" (defArgs sRInit) (defBody sRInit) (defScope sRInit) (.ref dT4) kV4 dc4 pm4 an4 cd4 ct4), sl4⟩)
    (c4 : PySem.W.codeIn K cd4 "Ratio.__init__" = true)
    (k4 : PySem.W.keepIn K (.ref f4) = true)
    (d4 : K.lookup dT4 = some ⟨doc4, dod4, .seq #[.int 1 dtk4] dn4, dsl4⟩)
    (a5 : PySem.W.findIn K (.ref CR) "__lt__" = some (some (.ref f5)))
    (i5 : PySem.W.isFn K (.ref f5) = true)
    (l5 : K.lookup f5 = some ⟨oc5, od5, .func (PySem.W.fnOf "__lt__" "Ratio.__lt__" (defArgs sLt) (defBody sLt) (defScope sLt) .none kV5 dc5 pm5 an5 cd5 ct5), sl5⟩)
    (c5 : PySem.W.codeIn K cd5 "Ratio.__lt__" = true)
    (k5 : PySem.W.keepIn K (.ref f5) = true)
    (a6 : PySem.W.findIn K (.ref CR) "__ge__" = some (some (.ref f6)))
    (i6 : PySem.W.isFn K (.ref f6) = true)
    (l6 : K.lookup f6 = some ⟨oc6, od6, .func (PySem.W.fnOf "__ge__" "Ratio.__ge__" (defArgs sGe) (defBody sGe) (defScope sGe) .none kV6 dc6 pm6 an6 cd6 ct6), sl6⟩)
    (c6 : PySem.W.codeIn K cd6 "Ratio.__ge__" = true)
    (k6 : PySem.W.keepIn K (.ref f6) = true)
    (a7 : PySem.W.findIn K (.ref CR) "__eq__" = some (some (.ref f7)))
    (i7 : PySem.W.isFn K (.ref f7) = true)
    (l7 : K.lookup f7 = some ⟨oc7, od7, .func (PySem.W.fnOf "__eq__" "Ratio.__eq__" (defArgs sEq) (defBody sEq) (defScope sEq) .none kV7 dc7 pm7 an7 cd7 ct7), sl7⟩)
    (c7 : PySem.W.codeIn K cd7 "Ratio.__eq__" = true)
    (k7 : PySem.W.keepIn K (.ref f7) = true)
    (a8 : PySem.W.findCls K (.ref CR) (.type "type") "of" = some (.get (.builtin "staticmethod.__get__") (.ref p8) .none (.ref CR)))
    (r8 : PySem.W.recIn K p8 "staticmethod" = some (.ref f8 :: rest8))
    (l8 : K.lookup f8 = some ⟨oc8, od8, .func (PySem.W.fnOf "of" "Ratio.of" (defArgs sOf) (defBody sOf) (defScope sOf) .none kV8 dc8 pm8 an8 cd8 ct8), sl8⟩)
    (c8 : PySem.W.codeIn K cd8 "Ratio.of" = true)
    (k8 : PySem.W.keepIn K (.ref f8) = true)
    (a9 : PySem.W.findIn K (.ref CR) "over" = some (some (.ref f9)))
    (i9 : PySem.W.isFn K (.ref f9) = true)
    (l9 : K.lookup f9 = some ⟨oc9, od9, .func (PySem.W.fnOf "over" "Ratio.over" (defArgs sOver) (defBody sOver) (defScope sOver) .none kV9 dc9 pm9 an9 cd9 ct9), sl9⟩)
    (c9 : PySem.W.codeIn K cd9 "Ratio.over" = true)
    (k9 : PySem.W.keepIn K (.ref f9) = true)
    (a10 : PySem.W.findIn K (.ref CR) "__add__" = some (some (.ref f10)))
    (i10 : PySem.W.isFn K (.ref f10) = true)
    (l10 : K.lookup f10 = some ⟨oc10, od10, .func (PySem.W.fnOf "__add__" "Ratio.__add__" (defArgs sAdd) (defBody sAdd) (defScope sAdd) .none kV10 dc10 pm10 an10 cd10 ct10), sl10⟩)
    (c10 : PySem.W.codeIn K cd10 "Ratio.__add__" = true)
    (k10 : PySem.W.keepIn K (.ref f10) = true)
    (a11 : PySem.W.findIn K (.ref CR) "__sub__" = some (some (.ref f11)))
    (i11 : PySem.W.isFn K (.ref f11) = true)
    (l11 : K.lookup f11 = some ⟨oc11, od11, .func (PySem.W.fnOf "__sub__" "Ratio.__sub__" (defArgs sSub) (defBody sSub) (defScope sSub) .none kV11 dc11 pm11 an11 cd11 ct11), sl11⟩)
    (c11 : PySem.W.codeIn K cd11 "Ratio.__sub__" = true)
    (k11 : PySem.W.keepIn K (.ref f11) = true)
    (a12 : PySem.W.findIn K (.ref CR) "__mul__" = some (some (.ref f12)))
    (i12 : PySem.W.isFn K (.ref f12) = true)
    (l12 : K.lookup f12 = some ⟨oc12, od12, .func (PySem.W.fnOf "__mul__" "Ratio.__mul__" (defArgs sMul) (defBody sMul) (defScope sMul) .none kV12 dc12 pm12 an12 cd12 ct12), sl12⟩)
    (c12 : PySem.W.codeIn K cd12 "Ratio.__mul__" = true)
    (k12 : PySem.W.keepIn K (.ref f12) = true)
    (a13 : PySem.W.findIn K (.ref CR) "__radd__" = some (some (.ref f13)))
    (i13 : PySem.W.isFn K (.ref f13) = true)
    (l13 : K.lookup f13 = some ⟨oc13, od13, .func (PySem.W.fnOf "__radd__" "Ratio.__radd__" (defArgs sRAdd) (defBody sRAdd) (defScope sRAdd) .none kV13 dc13 pm13 an13 cd13 ct13), sl13⟩)
    (c13 : PySem.W.codeIn K cd13 "Ratio.__radd__" = true)
    (k13 : PySem.W.keepIn K (.ref f13) = true)
    (a14 : PySem.W.findIn K (.ref CR) "__rmul__" = some (some (.ref f14)))
    (i14 : PySem.W.isFn K (.ref f14) = true)
    (l14 : K.lookup f14 = some ⟨oc14, od14, .func (PySem.W.fnOf "__rmul__" "Ratio.__rmul__" (defArgs sRMul) (defBody sRMul) (defScope sRMul) .none kV14 dc14 pm14 an14 cd14 ct14), sl14⟩)
    (c14 : PySem.W.codeIn K cd14 "Ratio.__rmul__" = true)
    (k14 : PySem.W.keepIn K (.ref f14) = true)
    (a15 : PySem.W.findIn K (.ref CR) "__neg__" = some (some (.ref f15)))
    (i15 : PySem.W.isFn K (.ref f15) = true)
    (l15 : K.lookup f15 = some ⟨oc15, od15, .func (PySem.W.fnOf "__neg__" "Ratio.__neg__" (defArgs sNeg) (defBody sNeg) (defScope sNeg) .none kV15 dc15 pm15 an15 cd15 ct15), sl15⟩)
    (c15 : PySem.W.codeIn K cd15 "Ratio.__neg__" = true)
    (k15 : PySem.W.keepIn K (.ref f15) = true)
    (a16 : PySem.W.findIn K (.ref CR) "__abs__" = some (some (.ref f16)))
    (i16 : PySem.W.isFn K (.ref f16) = true)
    (l16 : K.lookup f16 = some ⟨oc16, od16, .func (PySem.W.fnOf "__abs__" "Ratio.__abs__" (defArgs sAbs) (defBody sAbs) (defScope sAbs) .none kV16 dc16 pm16 an16 cd16 ct16), sl16⟩)
    (c16 : PySem.W.codeIn K cd16 "Ratio.__abs__" = true)
    (k16 : PySem.W.keepIn K (.ref f16) = true)
    (a17 : PySem.W.findIn K (.ref CR) "__rsub__" = some (some (.ref f17)))
    (i17 : PySem.W.isFn K (.ref f17) = true)
    (l17 : K.lookup f17 = some ⟨oc17, od17, .func (PySem.W.fnOf "__rsub__" "Ratio.__rsub__" (defArgs sRSub) (defBody sRSub) (defScope sRSub) .none kV17 dc17 pm17 an17 cd17 ct17), sl17⟩)
    (c17 : PySem.W.codeIn K cd17 "Ratio.__rsub__" = true)
    (k17 : PySem.W.keepIn K (.ref f17) = true)
    (a18 : PySem.W.nsIn K mainGlobals "_quotient" = some (some (.ref f18)))
    (l18 : K.lookup f18 = some ⟨oc18, od18, .func (PySem.W.fnOf "_quotient" "_quotient" (defArgs sQuo) (defBody sQuo) (defScope sQuo) .none kV18 dc18 pm18 an18 cd18 ct18), sl18⟩)
    (c18 : PySem.W.codeIn K cd18 "_quotient" = true)
    (k18 : PySem.W.keepIn K (.ref f18) = true)
    (a19 : PySem.W.findIn K (.ref CR) "__floordiv__" = some (some (.ref f19)))
    (i19 : PySem.W.isFn K (.ref f19) = true)
    (l19 : K.lookup f19 = some ⟨oc19, od19, .func (PySem.W.fnOf "__floordiv__" "Ratio.__floordiv__" (defArgs sFDiv) (defBody sFDiv) (defScope sFDiv) .none kV19 dc19 pm19 an19 cd19 ct19), sl19⟩)
    (c19 : PySem.W.codeIn K cd19 "Ratio.__floordiv__" = true)
    (k19 : PySem.W.keepIn K (.ref f19) = true)
    (a20 : PySem.W.findIn K (.ref CR) "__rfloordiv__" = some (some (.ref f20)))
    (i20 : PySem.W.isFn K (.ref f20) = true)
    (l20 : K.lookup f20 = some ⟨oc20, od20, .func (PySem.W.fnOf "__rfloordiv__" "Ratio.__rfloordiv__" (defArgs sRFDiv) (defBody sRFDiv) (defScope sRFDiv) .none kV20 dc20 pm20 an20 cd20 ct20), sl20⟩)
    (c20 : PySem.W.codeIn K cd20 "Ratio.__rfloordiv__" = true)
    (k20 : PySem.W.keepIn K (.ref f20) = true)
    (a21 : PySem.W.findIn K (.ref CR) "__mod__" = some (some (.ref f21)))
    (i21 : PySem.W.isFn K (.ref f21) = true)
    (l21 : K.lookup f21 = some ⟨oc21, od21, .func (PySem.W.fnOf "__mod__" "Ratio.__mod__" (defArgs sMod) (defBody sMod) (defScope sMod) .none kV21 dc21 pm21 an21 cd21 ct21), sl21⟩)
    (c21 : PySem.W.codeIn K cd21 "Ratio.__mod__" = true)
    (k21 : PySem.W.keepIn K (.ref f21) = true)
    (a22 : PySem.W.findIn K (.ref CR) "__rmod__" = some (some (.ref f22)))
    (i22 : PySem.W.isFn K (.ref f22) = true)
    (l22 : K.lookup f22 = some ⟨oc22, od22, .func (PySem.W.fnOf "__rmod__" "Ratio.__rmod__" (defArgs sRMod) (defBody sRMod) (defScope sRMod) .none kV22 dc22 pm22 an22 cd22 ct22), sl22⟩)
    (c22 : PySem.W.codeIn K cd22 "Ratio.__rmod__" = true)
    (k22 : PySem.W.keepIn K (.ref f22) = true)
    (a23 : PySem.W.nsIn K mainGlobals "_summed" = some (some (.ref f23)))
    (l23 : K.lookup f23 = some ⟨oc23, od23, .func (PySem.W.fnOf "_summed" "_summed" (defArgs sSmd) (defBody sSmd) (defScope sSmd) .none kV23 dc23 pm23 an23 cd23 ct23), sl23⟩)
    (c23 : PySem.W.codeIn K cd23 "_summed" = true)
    (k23 : PySem.W.keepIn K (.ref f23) = true)
    (l24 : K.lookup f24 = some ⟨oc24, od24, .func (PySem.W.fnOf "__init__" "BadRatio.__init__" (defArgs sBRI) (defBody sBRI) (defScope sBRI) .none kV24 dc24 pm24 an24 cd24 ct24), sl24⟩)
    (c24 : PySem.W.codeIn K cd24 "BadRatio.__init__" = true)
    (k24 : PySem.W.keepIn K (.ref f24) = true)
    (a25 : PySem.W.findCls K (.ref CR) (.type "type") "total" = some (.get (.builtin "staticmethod.__get__") (.ref p25) .none (.ref CR)))
    (r25 : PySem.W.recIn K p25 "staticmethod" = some (.ref f25 :: rest25))
    (l25 : K.lookup f25 = some ⟨oc25, od25, .func (PySem.W.fnOf "total" "Ratio.total" (defArgs sTot) (defBody sTot) (defScope sTot) .none kV25 dc25 pm25 an25 cd25 ct25), sl25⟩)
    (c25 : PySem.W.codeIn K cd25 "Ratio.total" = true)
    (k25 : PySem.W.keepIn K (.ref f25) = true)
    (a26 : PySem.W.nsIn K mainGlobals "_law_pen" = some (some (.ref f26)))
    (l26 : K.lookup f26 = some ⟨oc26, od26, .func (PySem.W.fnOf "_law_pen" "_law_pen" (defArgs sPen) (defBody sPen) (defScope sPen) .none kV26 dc26 pm26 an26 cd26 ct26), sl26⟩)
    (c26 : PySem.W.codeIn K cd26 "_law_pen" = true)
    (k26 : PySem.W.keepIn K (.ref f26) = true)
    (a27 : PySem.W.nsIn K mainGlobals "_law_draw" = some (some (.ref f27)))
    (l27 : K.lookup f27 = some ⟨oc27, od27, .func (PySem.W.fnOf "_law_draw" "_law_draw" (defArgs sDraw) (defBody sDraw) (defScope sDraw) .none kV27 dc27 pm27 an27 cd27 ct27), sl27⟩)
    (c27 : PySem.W.codeIn K cd27 "_law_draw" = true)
    (k27 : PySem.W.keepIn K (.ref f27) = true)
    (a28 : PySem.W.nsIn K mainGlobals "_law_pick" = some (some (.ref f28)))
    (l28 : K.lookup f28 = some ⟨oc28, od28, .func (PySem.W.fnOf "_law_pick" "_law_pick" (defArgs sPick) (defBody sPick) (defScope sPick) .none kV28 dc28 pm28 an28 cd28 ct28), sl28⟩)
    (c28 : PySem.W.codeIn K cd28 "_law_pick" = true)
    (k28 : PySem.W.keepIn K (.ref f28) = true)
    (a29 : PySem.W.nsIn K mainGlobals "_law_heard" = some (some (.ref f29)))
    (l29 : K.lookup f29 = some ⟨oc29, od29, .func (PySem.W.fnOf "_law_heard" "_law_heard" (defArgs sHeard) (defBody sHeard) (defScope sHeard) .none kV29 dc29 pm29 an29 cd29 ct29), sl29⟩)
    (c29 : PySem.W.codeIn K cd29 "_law_heard" = true)
    (k29 : PySem.W.keepIn K (.ref f29) = true)
    (a30 : PySem.W.nsIn K mainGlobals "_law_integer" = some (some (.ref f30)))
    (l30 : K.lookup f30 = some ⟨oc30, od30, .func (PySem.W.fnOf "_law_integer" "_law_integer" (defArgs sInteger) (defBody sInteger) (defScope sInteger) .none kV30 dc30 pm30 an30 cd30 ct30), sl30⟩)
    (c30 : PySem.W.codeIn K cd30 "_law_integer" = true)
    (k30 : PySem.W.keepIn K (.ref f30) = true)
    (a31 : PySem.W.nsIn K mainGlobals "_law_pair" = some (some (.ref f31)))
    (l31 : K.lookup f31 = some ⟨oc31, od31, .func (PySem.W.fnOf "_law_pair" "_law_pair" (defArgs sPair) (defBody sPair) (defScope sPair) .none kV31 dc31 pm31 an31 cd31 ct31), sl31⟩)
    (c31 : PySem.W.codeIn K cd31 "_law_pair" = true)
    (k31 : PySem.W.keepIn K (.ref f31) = true)
    (a32 : PySem.W.nsIn K mainGlobals "_law_lowest" = some (some (.ref f32)))
    (l32 : K.lookup f32 = some ⟨oc32, od32, .func (PySem.W.fnOf "_law_lowest" "_law_lowest" (defArgs sLowest) (defBody sLowest) (defScope sLowest) .none kV32 dc32 pm32 an32 cd32 ct32), sl32⟩)
    (c32 : PySem.W.codeIn K cd32 "_law_lowest" = true)
    (k32 : PySem.W.keepIn K (.ref f32) = true)
    (a33 : PySem.W.nsIn K mainGlobals "_law_ends" = some (some (.ref f33)))
    (l33 : K.lookup f33 = some ⟨oc33, od33, .func (PySem.W.fnOf "_law_ends" "_law_ends" (defArgs sEnds) (defBody sEnds) (defScope sEnds) .none kV33 dc33 pm33 an33 cd33 ct33), sl33⟩)
    (c33 : PySem.W.codeIn K cd33 "_law_ends" = true)
    (k33 : PySem.W.keepIn K (.ref f33) = true)
    (a34 : PySem.W.nsIn K mainGlobals "_law_number" = some (some (.ref f34)))
    (l34 : K.lookup f34 = some ⟨oc34, od34, .func (PySem.W.fnOf "_law_number" "_law_number" (defArgs sNumber) (defBody sNumber) (defScope sNumber) .none kV34 dc34 pm34 an34 cd34 ct34), sl34⟩)
    (c34 : PySem.W.codeIn K cd34 "_law_number" = true)
    (k34 : PySem.W.keepIn K (.ref f34) = true)
    (a35 : PySem.W.nsIn K mainGlobals "_law_shown" = some (some (.ref f35)))
    (l35 : K.lookup f35 = some ⟨oc35, od35, .func (PySem.W.fnOf "_law_shown" "_law_shown" (defArgs sShown) (defBody sShown) (defScope sShown) .none kV35 dc35 pm35 an35 cd35 ct35), sl35⟩)
    (c35 : PySem.W.codeIn K cd35 "_law_shown" = true)
    (k35 : PySem.W.keepIn K (.ref f35) = true)
    (a36 : PySem.W.nsIn K mainGlobals "_law_floor" = some (some (.ref f36)))
    (l36 : K.lookup f36 = some ⟨oc36, od36, .func (PySem.W.fnOf "_law_floor" "_law_floor" (defArgs sFloor) (defBody sFloor) (defScope sFloor) .none kV36 dc36 pm36 an36 cd36 ct36), sl36⟩)
    (c36 : PySem.W.codeIn K cd36 "_law_floor" = true)
    (k36 : PySem.W.keepIn K (.ref f36) = true)
    (a37 : PySem.W.nsIn K mainGlobals "_law_due" = some (some (.ref f37)))
    (l37 : K.lookup f37 = some ⟨oc37, od37, .func (PySem.W.fnOf "_law_due" "_law_due" (defArgs sDue) (defBody sDue) (defScope sDue) .none kV37 dc37 pm37 an37 cd37 ct37), sl37⟩)
    (c37 : PySem.W.codeIn K cd37 "_law_due" = true)
    (k37 : PySem.W.keepIn K (.ref f37) = true)
    (a38 : PySem.W.nsIn K mainGlobals "_law_signs_right" = some (some (.ref f38)))
    (l38 : K.lookup f38 = some ⟨oc38, od38, .func (PySem.W.fnOf "_law_signs_right" "_law_signs_right" (defArgs sSigns) (defBody sSigns) (defScope sSigns) .none kV38 dc38 pm38 an38 (.ref cR0) ct38), sl38⟩)
    (c38 : PySem.W.codeIn K (.ref cR0) "_law_signs_right" = true)
    (k38 : PySem.W.keepIn K (.ref f38) = true)
    (a39 : PySem.W.nsIn K mainGlobals "_law_over_right" = some (some (.ref f39)))
    (l39 : K.lookup f39 = some ⟨oc39, od39, .func (PySem.W.fnOf "_law_over_right" "_law_over_right" (defArgs sOverR) (defBody sOverR) (defScope sOverR) .none kV39 dc39 pm39 an39 (.ref cR1) ct39), sl39⟩)
    (c39 : PySem.W.codeIn K (.ref cR1) "_law_over_right" = true)
    (k39 : PySem.W.keepIn K (.ref f39) = true)
    (a40 : PySem.W.nsIn K mainGlobals "_law_in_place_right" = some (some (.ref f40)))
    (l40 : K.lookup f40 = some ⟨oc40, od40, .func (PySem.W.fnOf "_law_in_place_right" "_law_in_place_right" (defArgs sInPl) (defBody sInPl) (defScope sInPl) .none kV40 dc40 pm40 an40 cd40 ct40), sl40⟩)
    (c40 : PySem.W.codeIn K cd40 "_law_in_place_right" = true)
    (k40 : PySem.W.keepIn K (.ref f40) = true)
    (a41 : PySem.W.nsIn K mainGlobals "_law_is_kept" = some (some (.ref f41)))
    (l41 : K.lookup f41 = some ⟨oc41, od41, .func (PySem.W.fnOf "_law_is_kept" "_law_is_kept" (defArgs sKept) (defBody sKept) (defScope sKept) .none kV41 dc41 pm41 an41 cd41 ct41), sl41⟩)
    (c41 : PySem.W.codeIn K cd41 "_law_is_kept" = true)
    (k41 : PySem.W.keepIn K (.ref f41) = true)
    (a42 : PySem.W.nsIn K mainGlobals "_law_kept_right" = some (some (.ref f42)))
    (l42 : K.lookup f42 = some ⟨oc42, od42, .func (PySem.W.fnOf "_law_kept_right" "_law_kept_right" (defArgs sKeptR) (defBody sKeptR) (defScope sKeptR) .none kV42 dc42 pm42 an42 cd42 ct42), sl42⟩)
    (c42 : PySem.W.codeIn K cd42 "_law_kept_right" = true)
    (k42 : PySem.W.keepIn K (.ref f42) = true)
    (a43 : PySem.W.nsIn K mainGlobals "_law_total_right" = some (some (.ref f43)))
    (l43 : K.lookup f43 = some ⟨oc43, od43, .func (PySem.W.fnOf "_law_total_right" "_law_total_right" (defArgs sTotR) (defBody sTotR) (defScope sTotR) .none kV43 dc43 pm43 an43 (.ref cR2) ct43), sl43⟩)
    (c43 : PySem.W.codeIn K (.ref cR2) "_law_total_right" = true)
    (k43 : PySem.W.keepIn K (.ref f43) = true)
    (a44 : PySem.W.nsIn K mainGlobals "law" = some (some (.ref f44)))
    (l44 : K.lookup f44 = some ⟨oc44, od44, .func (PySem.W.fnOf "law" "law" (defArgs sLaw) (defBody sLaw) (defScope sLaw) .none kV44 dc44 pm44 an44 cd44 ct44), sl44⟩)
    (c44 : PySem.W.codeIn K cd44 "law" = true)
    (k44 : PySem.W.keepIn K (.ref f44) = true) :
    ∃ tabs, Own.LawG l w K 13 63 "_law_script" mg fa h tabs := by
  have e := hfa.symm.trans (PySem.W.mg_of X G a44)
  cases e
  have T : Bl mg := ⟨PySem.W.mg_none_of X G z_int, PySem.W.mg_none_of X G z_len, PySem.W.mg_none_of X G z_abs, PySem.W.mg_none_of X G z_list, PySem.W.mg_none_of X G z_range, PySem.W.mg_none_of X G z_isinstance, PySem.W.mg_none_of X G z_bool, PySem.W.mg_of X G z_gcd⟩
  have T_Ratio : RatT K mg CR := ⟨⟨⟨pgCR, hdCR, poCR, saCR⟩, PySem.W.mg_of X G aCR, ⟨rdCR, gaCR⟩, caCR, cn, ct, cmCR, kICR, kBCR, kSCR, iKCR, sICR, nICR, nCCR⟩, n_topCR, n_bottomCR⟩
  have E_BadRatio : ErT K mg "BadRatio" "part" CB f24 := ⟨⟨lkCB, saCB, exCB, tyCB, kpCB⟩, PySem.W.mg_of X G aCB, inCB, tiCB, noCB, ⟨xfCB, xgCB, exCB, xhCB⟩⟩
  have E_NoDivisor : ExT K mg "NoDivisor" CN := ⟨PySem.W.mg_of X G aCN, xCN, kpCN, bCN, tCN⟩
  have BA : BinF K CR .Add := ⟨sf, ⟨_, rAdd, .inr ⟨_, rfl⟩⟩, ⟨_, i1Add⟩, ⟨_, i2Add⟩, sIR⟩
  have BS : BinF K CR .Sub := ⟨sf, ⟨_, rSub, .inr ⟨_, rfl⟩⟩, ⟨_, i1Sub⟩, ⟨_, i2Sub⟩, sIR⟩
  have BM : BinF K CR .Mult := ⟨sf, ⟨_, rMult, .inr ⟨_, rfl⟩⟩, ⟨_, i1Mult⟩, ⟨_, i2Mult⟩, sIR⟩
  have BF : BinF K CR .FloorDiv := ⟨sf, ⟨_, rFloorDiv, .inr ⟨_, rfl⟩⟩, ⟨_, i1FloorDiv⟩, ⟨_, i2FloorDiv⟩, sIR⟩
  have BMo : BinF K CR .Mod := ⟨sf, ⟨_, rMod, .inr ⟨_, rfl⟩⟩, ⟨_, i1Mod⟩, ⟨_, i2Mod⟩, sIR⟩
  have F0 := fun_mk (st := sIsInt) l0 c0 k0
  have b0 := F0.binds (ps := ["value"]) fun _ _ _ _ _ _ us hl => match us, hl with | [_], _ => rfl
  have F1 := fun_mk (st := sIsNum) l1 c1 k1
  have b1 := F1.binds (ps := ["value"]) fun _ _ _ _ _ _ us hl => match us, hl with | [_], _ => rfl
  have F2 := fun_mk (st := sParts) l2 c2 k2
  have b2 := F2.binds (ps := ["number"]) fun _ _ _ _ _ _ us hl => match us, hl with | [_], _ => rfl
  have F3 := fun_mk (st := sLead) l3 c3 k3
  have b3 := F3.binds (ps := ["one", "other"]) fun _ _ _ _ _ _ us hl => match us, hl with | [_, _], _ => rfl
  have F4 : FunD K "__init__" "Ratio.__init__" (defArgs sRInit) (defBody sRInit) (defScope sRInit) [.int 1] [] f4 _ := ⟨⟨_, _, _, _, _, _, _, _, _, _, rfl, l4, c4, .inr ⟨(fun z => nomatch z), _, _, [_], _, rfl, d4, rfl, .cons ⟨_, rfl⟩ .nil⟩, .inl rfl⟩, k4⟩
  obtain ⟨ds4, hds4, b4⟩ := F4.binds1 (ps := ["self", "top", "bottom"]) 3 1 (fun z => nomatch z) rfl fun _ _ _ _ _ _ _ us its hu hi => match us, hu, its, hi with | [_, _, _], _, [_], _ => ⟨_, rfl, rfl⟩
  cases hds4
  obtain ⟨dv4, hdv4, bd4⟩ := F4.binds1 (ps := ["self", "top", "bottom"]) 2 0 (fun z => nomatch z) rfl fun _ _ _ _ _ _ _ us its hu hi => match us, hu, its, hi with | [_, _], _, [_], _ => ⟨_, rfl, rfl⟩
  have F5 := fun_mk (st := sLt) l5 c5 k5
  have b5 := F5.binds (ps := ["self", "other"]) fun _ _ _ _ _ _ us hl => match us, hl with | [_, _], _ => rfl
  have F6 := fun_mk (st := sGe) l6 c6 k6
  have b6 := F6.binds (ps := ["self", "other"]) fun _ _ _ _ _ _ us hl => match us, hl with | [_, _], _ => rfl
  have F7 := fun_mk (st := sEq) l7 c7 k7
  have b7 := F7.binds (ps := ["self", "other"]) fun _ _ _ _ _ _ us hl => match us, hl with | [_, _], _ => rfl
  have F8 := fun_mk (st := sOf) l8 c8 k8
  have b8 := F8.binds (ps := ["number"]) fun _ _ _ _ _ _ us hl => match us, hl with | [_], _ => rfl
  have F9 := fun_mk (st := sOver) l9 c9 k9
  have b9 := F9.binds (ps := ["self", "number"]) fun _ _ _ _ _ _ us hl => match us, hl with | [_, _], _ => rfl
  have F10 := fun_mk (st := sAdd) l10 c10 k10
  have b10 := F10.binds (ps := ["self", "other"]) fun _ _ _ _ _ _ us hl => match us, hl with | [_, _], _ => rfl
  have F11 := fun_mk (st := sSub) l11 c11 k11
  have b11 := F11.binds (ps := ["self", "other"]) fun _ _ _ _ _ _ us hl => match us, hl with | [_, _], _ => rfl
  have F12 := fun_mk (st := sMul) l12 c12 k12
  have b12 := F12.binds (ps := ["self", "other"]) fun _ _ _ _ _ _ us hl => match us, hl with | [_, _], _ => rfl
  have F13 := fun_mk (st := sRAdd) l13 c13 k13
  have b13 := F13.binds (ps := ["self", "other"]) fun _ _ _ _ _ _ us hl => match us, hl with | [_, _], _ => rfl
  have F14 := fun_mk (st := sRMul) l14 c14 k14
  have b14 := F14.binds (ps := ["self", "other"]) fun _ _ _ _ _ _ us hl => match us, hl with | [_, _], _ => rfl
  have F15 := fun_mk (st := sNeg) l15 c15 k15
  have b15 := F15.binds (ps := ["self"]) fun _ _ _ _ _ _ us hl => match us, hl with | [_], _ => rfl
  have F16 := fun_mk (st := sAbs) l16 c16 k16
  have b16 := F16.binds (ps := ["self"]) fun _ _ _ _ _ _ us hl => match us, hl with | [_], _ => rfl
  have F17 := fun_mk (st := sRSub) l17 c17 k17
  have b17 := F17.binds (ps := ["self", "other"]) fun _ _ _ _ _ _ us hl => match us, hl with | [_, _], _ => rfl
  have F18 := fun_mk (st := sQuo) l18 c18 k18
  have b18 := F18.binds (ps := ["one", "other"]) fun _ _ _ _ _ _ us hl => match us, hl with | [_, _], _ => rfl
  have F19 := fun_mk (st := sFDiv) l19 c19 k19
  have b19 := F19.binds (ps := ["self", "other"]) fun _ _ _ _ _ _ us hl => match us, hl with | [_, _], _ => rfl
  have F20 := fun_mk (st := sRFDiv) l20 c20 k20
  have b20 := F20.binds (ps := ["self", "other"]) fun _ _ _ _ _ _ us hl => match us, hl with | [_, _], _ => rfl
  have F21 := fun_mk (st := sMod) l21 c21 k21
  have b21 := F21.binds (ps := ["self", "other"]) fun _ _ _ _ _ _ us hl => match us, hl with | [_, _], _ => rfl
  have F22 := fun_mk (st := sRMod) l22 c22 k22
  have b22 := F22.binds (ps := ["self", "other"]) fun _ _ _ _ _ _ us hl => match us, hl with | [_, _], _ => rfl
  have F23 := fun_mk (st := sSmd) l23 c23 k23
  have b23 := F23.binds (ps := ["numbers"]) fun _ _ _ _ _ _ us hl => match us, hl with | [_], _ => rfl
  have F24 := fun_mk (st := sBRI) l24 c24 k24
  have b24 := F24.binds (ps := ["self", "part"]) fun _ _ _ _ _ _ us hl => match us, hl with | [_, _], _ => rfl
  have F25 := fun_mk (st := sTot) l25 c25 k25
  have b25 := F25.binds (ps := ["numbers"]) fun _ _ _ _ _ _ us hl => match us, hl with | [_], _ => rfl
  have F26 := fun_mk (st := sPen) l26 c26 k26
  have b26 := F26.binds (ps := ["_law_script"]) fun _ _ _ _ _ _ us hl => match us, hl with | [_], _ => rfl
  have F27 := fun_mk (st := sDraw) l27 c27 k27
  have b27 := F27.binds (ps := ["_law_pen_here", "_law_many"]) fun _ _ _ _ _ _ us hl => match us, hl with | [_, _], _ => rfl
  have F28 := fun_mk (st := sPick) l28 c28 k28
  have b28 := F28.binds (ps := ["_law_pen_here", "_law_some"]) fun _ _ _ _ _ _ us hl => match us, hl with | [_, _], _ => rfl
  have F29 := fun_mk (st := sHeard) l29 c29 k29
  have b29 := F29.binds (ps := ["_law_ask"]) fun _ _ _ _ _ _ us hl => match us, hl with | [_], _ => rfl
  have F30 := fun_mk (st := sInteger) l30 c30 k30
  have b30 := F30.binds (ps := ["_law_pen_here"]) fun _ _ _ _ _ _ us hl => match us, hl with | [_], _ => rfl
  have F31 := fun_mk (st := sPair) l31 c31 k31
  have b31 := F31.binds (ps := ["_law_pen_here"]) fun _ _ _ _ _ _ us hl => match us, hl with | [_], _ => rfl
  have F32 := fun_mk (st := sLowest) l32 c32 k32
  have b32 := F32.binds (ps := ["_law_top", "_law_bottom"]) fun _ _ _ _ _ _ us hl => match us, hl with | [_, _], _ => rfl
  have F33 := fun_mk (st := sEnds) l33 c33 k33
  have b33 := F33.binds (ps := ["_law_value"]) fun _ _ _ _ _ _ us hl => match us, hl with | [_], _ => rfl
  have F34 := fun_mk (st := sNumber) l34 c34 k34
  have b34 := F34.binds (ps := ["_law_pen_here", "_law_pair_here"]) fun _ _ _ _ _ _ us hl => match us, hl with | [_, _], _ => rfl
  have F35 := fun_mk (st := sShown) l35 c35 k35
  have b35 := F35.binds (ps := ["_law_heard_here"]) fun _ _ _ _ _ _ us hl => match us, hl with | [_], _ => rfl
  have F36 := fun_mk (st := sFloor) l36 c36 k36
  have b36 := F36.binds (ps := ["_law_top", "_law_bottom"]) fun _ _ _ _ _ _ us hl => match us, hl with | [_, _], _ => rfl
  have F37 := fun_mk (st := sDue) l37 c37 k37
  have b37 := F37.binds (ps := ["_law_one", "_law_other"]) fun _ _ _ _ _ _ us hl => match us, hl with | [_, _], _ => rfl
  have F38 := fun_mk (st := sSigns) l38 c38 k38
  have b38 := F38.binds (ps := ["_law_one", "_law_other", "_law_mine", "_law_yours"]) fun _ _ _ _ _ _ us hl => match us, hl with | [_, _, _, _], _ => rfl
  have F39 := fun_mk (st := sOverR) l39 c39 k39
  have b39 := F39.binds (ps := ["_law_one", "_law_other", "_law_yours"]) fun _ _ _ _ _ _ us hl => match us, hl with | [_, _, _], _ => rfl
  have F40 := fun_mk (st := sInPl) l40 c40 k40
  have b40 := F40.binds (ps := ["_law_made", "_law_yours"]) fun _ _ _ _ _ _ us hl => match us, hl with | [_, _], _ => rfl
  have F41 := fun_mk (st := sKept) l41 c41 k41
  have b41 := F41.binds (ps := ["_law_made"]) fun _ _ _ _ _ _ us hl => match us, hl with | [_], _ => rfl
  have F42 := fun_mk (st := sKeptR) l42 c42 k42
  have b42 := F42.binds (ps := ["_law_one", "_law_yours"]) fun _ _ _ _ _ _ us hl => match us, hl with | [_, _], _ => rfl
  have F43 := fun_mk (st := sTotR) l43 c43 k43
  have b43 := F43.binds (ps := ["_law_pen_here", "_law_row_so"]) fun _ _ _ _ _ _ us hl => match us, hl with | [_, _], _ => rfl
  have F44 := fun_mk (st := sLaw) l44 c44 k44
  have b44 := F44.binds (ps := ["_law_script"]) fun _ _ _ _ _ _ us hl => match us, hl with | [_], _ => rfl
  refine ⟨[(cR0, Pt0), (cR1, Pt1), (cR2, Pt2)], fun z hz => ?_, fun z hz => ?_, PySem.W.fnOf "law" "law" (defArgs sLaw) (defBody sLaw) (defScope sLaw) .none kV44 dc44 pm44 an44 cd44 ct44, (spLaw K Pt0 Pt1 Pt2), fun s v => .of_eq rfl, fun H a ns hl hT hS => ⟨a, ns, rfl, hS, hl, ts_law (hT (cR0, Pt0) (List.mem_cons_self ..)) (hT (cR1, Pt1) (List.mem_cons_of_mem _ (List.mem_cons_self ..))) (hT (cR2, Pt2) (List.mem_cons_of_mem _ (List.mem_cons_of_mem _ (List.mem_cons_self ..)))), fun _ => rfl⟩, fun base _ _ TBs => ?_⟩
  · simp only [List.mem_cons, List.not_mem_nil, or_false] at hz
    rcases hz with rfl | rfl | rfl
    · exact ⟨PySem.W.codeHd_of_K X chd0, eP0⟩
    · exact ⟨PySem.W.codeHd_of_K X chd1, eP1⟩
    · exact ⟨PySem.W.codeHd_of_K X chd2, eP2⟩
  · simp only [List.mem_cons, List.not_mem_nil, or_false] at hz
    rcases hz with rfl | rfl | rfl
    · exact outP0
    · exact outP1
    · exact outP2
  have TB0 := TBs (cR0, Pt0) (by simp)
  have TB1 := TBs (cR1, Pt1) (by simp)
  have TB2 := TBs (cR2, Pt2) (by simp)
  have C_is_int : Cal l.prog w K mg base 1 "is_int" f0 _ ["value"] (spIsInt K) := ⟨(ok_isint F0 T), PySem.W.mg_of X G a0, k0, b0⟩
  have S_Ratio_is_number : Sta l.prog w K mg base 2 CR "is_number" p1 f1 _ ["value"] (spIsNum K CR) := ⟨⟨a1, ⟨_, r1⟩, k1⟩, (ok_isnum F1 T T_Ratio C_is_int), b1⟩
  have C_parts_of : Cal l.prog w K mg base 1 "parts_of" f2 _ ["number"] (spParts CR) := ⟨(ok_parts F2 T T_Ratio), PySem.W.mg_of X G a2, k2, b2⟩
  have C__lead : Cal l.prog w K mg base 2 "_lead" f3 _ ["one", "other"] (spLead CR) := ⟨(ok_lead F3 C_parts_of), PySem.W.mg_of X G a3, k3, b3⟩
  have M_Ratio : Mak l.prog w K mg base 2 "Ratio" CR f4 _ ["self", "top", "bottom"] (spRInit CR) := ⟨⟨mkCR, a4, i4, kcCR⟩, (ok_rinit F4 T T_Ratio C_is_int), PySem.W.mg_of X G aCR, b4⟩
  have O_lt : Opr l.prog w K mg base 3 CR "__lt__" f5 _ ["self", "other"] (spCmp CR fun z => decide (z < 0)) := ⟨a5, i5, (ok_lt F5 T_Ratio S_Ratio_is_number C__lead), b5⟩
  have O_ge : Opr l.prog w K mg base 3 CR "__ge__" f6 _ ["self", "other"] (spCmp CR fun z => decide (0 ≤ z)) := ⟨a6, i6, (ok_ge F6 T_Ratio S_Ratio_is_number C__lead), b6⟩
  have O_eq : Opr l.prog w K mg base 3 CR "__eq__" f7 _ ["self", "other"] (spEqQ CR) := ⟨a7, i7, (ok_eq F7 T_Ratio S_Ratio_is_number C_parts_of), b7⟩
  have S_Ratio_of : Sta l.prog w K mg base 4 CR "of" p8 f8 _ ["number"] (spOfQ CR) := ⟨⟨a8, ⟨_, r8⟩, k8⟩, (ok_of F8 T T_Ratio C_is_int M_Ratio hdv4 bd4), b8⟩
  have D_Ratio_over : Dot l.prog w K mg base 4 CR "over" f9 _ ["self", "number"] (spBin CR (fun _ q => q ≠ 0) fun p q => p / q) := ⟨⟨a9, i9, k9⟩, (ok_over F9 T_Ratio C_parts_of M_Ratio), b9⟩
  have O_add : Opr l.prog w K mg base 4 CR "__add__" f10 _ ["self", "other"] (spBin CR GT fun p q => p + q) := ⟨a10, i10, (ok_add F10 T_Ratio S_Ratio_is_number C_parts_of M_Ratio), b10⟩
  have O_sub : Opr l.prog w K mg base 4 CR "__sub__" f11 _ ["self", "other"] (spBin CR GT fun p q => p - q) := ⟨a11, i11, (ok_sub F11 T_Ratio S_Ratio_is_number C_parts_of M_Ratio), b11⟩
  have O_mul : Opr l.prog w K mg base 4 CR "__mul__" f12 _ ["self", "other"] (spBin CR GT fun p q => p * q) := ⟨a12, i12, (ok_mul F12 T_Ratio S_Ratio_is_number C_parts_of M_Ratio), b12⟩
  have O_radd : Opr l.prog w K mg base 5 CR "__radd__" f13 _ ["self", "other"] (spBin CR GT fun p q => p + q) := ⟨a13, i13, (ok_radd F13 BA O_add), b13⟩
  have O_rmul : Opr l.prog w K mg base 5 CR "__rmul__" f14 _ ["self", "other"] (spBin CR GT fun p q => p * q) := ⟨a14, i14, (ok_rmul F14 BM O_mul), b14⟩
  have O_neg : Opr l.prog w K mg base 4 CR "__neg__" f15 _ ["self"] (spUn CR fun p => -p) := ⟨a15, i15, (ok_neg F15 T_Ratio M_Ratio), b15⟩
  have O_abs : Opr l.prog w K mg base 4 CR "__abs__" f16 _ ["self"] (spUn CR Rat.abs) := ⟨a16, i16, (ok_abs F16 T T_Ratio M_Ratio), b16⟩
  have O_rsub : Opr l.prog w K mg base 5 CR "__rsub__" f17 _ ["self", "other"] (spBin CR GT fun p q => -p + q) := ⟨a17, i17, (ok_rsub F17 BA O_add O_neg), b17⟩
  have C__quotient : Cal l.prog w K mg base 2 "_quotient" f18 _ ["one", "other"] (spQuo CR) := ⟨(ok_quo F18 C_parts_of), PySem.W.mg_of X G a18, k18, b18⟩
  have O_fdiv : Opr l.prog w K mg base 3 CR "__floordiv__" f19 _ ["self", "other"] (spQuo CR) := ⟨a19, i19, (ok_fdiv F19 T_Ratio S_Ratio_is_number C__quotient), b19⟩
  have O_rfdiv : Opr l.prog w K mg base 3 CR "__rfloordiv__" f20 _ ["self", "other"] (spRQuo CR) := ⟨a20, i20, (ok_rfdiv F20 T_Ratio S_Ratio_is_number C__quotient), b20⟩
  have O_mod : Opr l.prog w K mg base 6 CR "__mod__" f21 _ ["self", "other"] (spMod CR) := ⟨a21, i21, (ok_mod F21 T_Ratio S_Ratio_is_number C__quotient S_Ratio_of BM BS O_mul O_rmul O_sub), b21⟩
  have O_rmod : Opr l.prog w K mg base 7 CR "__rmod__" f22 _ ["self", "other"] (spRMod CR) := ⟨a22, i22, (ok_rmod F22 T_Ratio S_Ratio_is_number S_Ratio_of BMo O_mod), b22⟩
  have FE24 : FnOk l.prog w K mg base CX0 1 f24 _ ["self", "part"] (spErI CB "part") := (ok_bri F24 E_BadRatio)
  have CsL : Cal l.prog w K mg base 8 "_summed" f23 _ _ (spSumL K CR 3) := ⟨ok_sumL (g2 := f10) (gd2 := PySem.W.fnOf "__add__" "Ratio.__add__" (defArgs sAdd) (defBody sAdd) (defScope sAdd) .none kV10 dc10 pm10 an10 cd10 ct10) F23 (PySem.W.mg_of X G a23) b23 T T_Ratio S_Ratio_of M_Ratio hdv4 bd4 BA O_add 3, PySem.W.mg_of X G a23, k23, b23⟩
  have CsT : Cal l.prog w K mg base 8 "_summed" f23 _ _ (spSumT K CR 3) := ⟨ok_sumT (g2 := f10) (gd2 := PySem.W.fnOf "__add__" "Ratio.__add__" (defArgs sAdd) (defBody sAdd) (defScope sAdd) .none kV10 dc10 pm10 an10 cd10 ct10) F23 (PySem.W.mg_of X G a23) b23 T T_Ratio S_Ratio_of M_Ratio hdv4 bd4 BA O_add 3, PySem.W.mg_of X G a23, k23, b23⟩
  have S_Ratio_total : Sta l.prog w K mg base 9 CR "total" p25 f25 _ ["numbers"] (spTotL K CR) := ⟨⟨a25, ⟨_, r25⟩, k25⟩, (ok_totL F25 T (PySem.W.mg_none_of X G z_tuple) T_Ratio S_Ratio_is_number CsL), b25⟩
  have C__law_pen : Cal l.prog w K mg base 1 "_law_pen" f26 _ ["_law_script"] (spPen K) := ⟨(ok_pen F26 T), PySem.W.mg_of X G a26, k26, b26⟩
  have C__law_draw : Cal l.prog w K mg base 1 "_law_draw" f27 _ ["_law_pen_here", "_law_many"] spDraw := ⟨(ok_draw F27 T), PySem.W.mg_of X G a27, k27, b27⟩
  have C__law_pick : Cal l.prog w K mg base 2 "_law_pick" f28 _ ["_law_pen_here", "_law_some"] spPick := ⟨(ok_pick F28 T C__law_draw), PySem.W.mg_of X G a28, k28, b28⟩
  have C__law_integer : Cal l.prog w K mg base 3 "_law_integer" f30 _ ["_law_pen_here"] spInteger := ⟨(ok_integer F30 C__law_draw C__law_pick), PySem.W.mg_of X G a30, k30, b30⟩
  have C__law_pair : Cal l.prog w K mg base 4 "_law_pair" f31 _ ["_law_pen_here"] spPair := ⟨(ok_pair F31 C__law_integer), PySem.W.mg_of X G a31, k31, b31⟩
  have C__law_lowest : Cal l.prog w K mg base 1 "_law_lowest" f32 _ ["_law_top", "_law_bottom"] spLowest := ⟨(ok_lowest F32 T), PySem.W.mg_of X G a32, k32, b32⟩
  have C__law_ends : CalG l.prog w K mg base 1 "_law_ends" f33 _ ["_law_value"] (spEnds CR) := ⟨(ok_ends F33 T (PySem.W.mg_none_of X G z_repr) T_Ratio), PySem.W.mg_of X G a33, k33, b33⟩
  have C__law_number : Cal l.prog w K mg base 4 "_law_number" f34 _ ["_law_pen_here", "_law_pair_here"] (spNumber CR) := ⟨(ok_number F34 C__law_draw M_Ratio), PySem.W.mg_of X G a34, k34, b34⟩
  have C__law_shown : CalG l.prog w K mg base 2 "_law_shown" f35 _ ["_law_heard_here"] (spShown CR) := ⟨(ok_shown F35 T (PySem.W.mg_none_of X G z_repr) (PySem.W.mg_none_of X G z_tuple) T_Ratio C__law_ends), PySem.W.mg_of X G a35, k35, b35⟩
  have C__law_floor : Cal l.prog w K mg base 1 "_law_floor" f36 _ ["_law_top", "_law_bottom"] spFloor := ⟨(ok_floor F36 T), PySem.W.mg_of X G a36, k36, b36⟩
  have C__law_due : CalG l.prog w K mg base 2 "_law_due" f37 _ ["_law_one", "_law_other"] spDue := ⟨(ok_due F37 (PySem.W.mg_none_of X G z_repr) C__law_lowest C__law_floor), PySem.W.mg_of X G a37, k37, b37⟩
  have ds : Dst Pt0 Pt1 Pt2 := ⟨d01, d02, d12⟩
  have RI0 : FnOk l.prog w K mg base (L2.CX l.prog w) 2 f4 _ ["self", "top", "bottom"] (spRInit0 CN) := ok_rinit0 F4 T E_NoDivisor C_is_int
  have I0 : FnOk l.prog w K mg base (L2.CX l.prog w) 4 f9 _ ["self", "number"] (spOver0 CR CN) := ok_over0 F9 T_Ratio C_parts_of M_Ratio.M RI0 M_Ratio.b
  have Q0 := ok_quo0 F18 E_NoDivisor C_parts_of
  have FD0 := ok_fdiv0 F19 T_Ratio S_Ratio_is_number Q0 (PySem.W.mg_of X G a18) k18 b18
  have RFD0 := ok_rfdiv0 F20 T_Ratio S_Ratio_is_number Q0 (PySem.W.mg_of X G a18) k18 b18
  have MD0 := ok_mod0 F21 T_Ratio S_Ratio_is_number Q0 (PySem.W.mg_of X G a18) k18 b18 S_Ratio_of BM BS O_mul O_rmul O_sub
  have RMD0 := ok_rmod0 F22 T_Ratio S_Ratio_is_number S_Ratio_of BMo MD0 O_mod.at_ O_mod.fn O_mod.b
  have KB_over : KBn K _ ["self", "number"] 1 ["number"] (fun us ws => us ++ ws) (fun vs zs => vs ++ zs) := F9.kbn (fun _ _ _ _ _ _ us ws hu hw => match us, hu, ws, hw with | [_], _, [_], _ => rfl) fun r1 r2 => r1.append r2
  have C__law_signs_right : CalG l.prog w K mg base 10 "_law_signs_right" f38 _ ["_law_one", "_law_other", "_law_mine", "_law_yours"] (spSigns CR Pt0 Pt1 Pt2) := ⟨(ok_signs F38 rfl TB0 ds T_Ratio F29 (PySem.W.mg_of X G a29) b29 (PySem.W.mg_of X G aCB) E_NoDivisor.mgC (PySem.W.mg_of X G aCF) e_CN_CB e_CN_CN BA BS BM BF BMo O_add O_radd O_sub O_rsub O_mul O_rmul O_fdiv O_rfdiv O_mod O_rmod FD0 RFD0 MD0 RMD0 C__law_shown C__law_due), PySem.W.mg_of X G a38, k38, b38⟩
  have C__law_over_right : CalG l.prog w K mg base 10 "_law_over_right" f39 _ ["_law_one", "_law_other", "_law_yours"] (spOverR CR Pt0 Pt1 Pt2) := ⟨(ok_overR F39 rfl TB1 ds T_Ratio (PySem.W.mg_none_of X G z_repr) F29 (PySem.W.mg_of X G a29) b29 (PySem.W.mg_of X G aCB) E_NoDivisor.mgC (PySem.W.mg_of X G aCF) e_CN_CB e_CN_CN D_Ratio_over I0 KB_over M_Ratio C__law_shown C__law_lowest), PySem.W.mg_of X G a39, k39, b39⟩
  have C__law_in_place_right : Cal l.prog w K mg base 7 "_law_in_place_right" f40 _ ["_law_made", "_law_yours"] (spInPl CR) := ⟨(ok_inpl F40 T_Ratio neR sO ni1 ni2 ni3 ni4 ni5 BM BF BMo O_mul O_fdiv O_mod O_eq), PySem.W.mg_of X G a40, k40, b40⟩
  have C__law_is_kept : Cal l.prog w K mg base 7 "_law_is_kept" f41 _ ["_law_made"] (spKept CR) := ⟨(ok_kept F41 T_Ratio ni1 ni2 ni3 ni4 ni5 BF BMo E_NoDivisor.mgC e_CN_CN O_fdiv O_mod FD0 MD0 O_eq), PySem.W.mg_of X G a41, k41, b41⟩
  have C__law_kept_right : CalG l.prog w K mg base 8 "_law_kept_right" f42 _ ["_law_one", "_law_yours"] (spKeptR CR) := ⟨(ok_keptr F42 T (PySem.W.mg_none_of X G z_repr) T_Ratio neR sO ni1 ni2 ni3 ni4 ni5 BA BS BM BF BMo O_add O_sub O_mul O_fdiv O_mod O_eq O_lt O_ge O_neg O_abs M_Ratio C__law_ends C__law_in_place_right C__law_is_kept), PySem.W.mg_of X G a42, k42, b42⟩
  have kn : KitNo K CR := ⟨kn1, kn2, kn3, kn4, kn5, kn6⟩
  have FT := ok_totT F25 T (PySem.W.mg_none_of X G z_tuple) T_Ratio S_Ratio_is_number CsT
  have FB := ok_totbad F25 T (PySem.W.mg_none_of X G z_tuple) T_Ratio S_Ratio_is_number E_BadRatio FE24 b24
  have KB_total : KBn K _ ["numbers"] 0 ["numbers"] (fun us ws => us ++ ws) (fun vs zs => vs ++ zs) := F25.kbn (fun _ _ _ _ _ _ us ws hu hw => match us, hu, ws, hw with | [], _, [_], _ => rfl) fun r1 r2 => r1.append r2
  have C__law_total_right : CalG l.prog w K mg base 12 "_law_total_right" f43 _ ["_law_pen_here", "_law_row_so"] (spTotR CR Pt0 Pt1 Pt2) := ⟨(ok_totr F43 rfl TB2 ds T (PySem.W.mg_none_of X G z_tuple) T_Ratio kn neR sO F29 (PySem.W.mg_of X G a29) b29 E_BadRatio E_NoDivisor.mgC (PySem.W.mg_of X G aCF) e_CN_CB e_CN_CN e_CB_CB BA O_add O_eq M_Ratio hdv4 bd4 C__law_pick C__law_ends S_Ratio_total FT FB KB_total), PySem.W.mg_of X G a43, k43, b43⟩
  exact ok_law F44 T T_Ratio C__law_pen C__law_pair C__law_draw C__law_pick C__law_lowest C__law_number C__law_signs_right C__law_over_right C__law_kept_right C__law_total_right C__law_ends M_Ratio S_Ratio_total
theorem walk {l : PySem.W.OpenLaw} {q : Program} {loose : List Str} {XP : (Str → Option Value) → Heap → Prop} {YP : World → Heap → Prop} {d : DefRec} {K : Params → PySem.W.Frag} (hn : l.most = some 63) (hdf : d.params.defaults = [])
    (hY : ∀ (w : World) (h : Heap), YP w h → (K w.params).In h)
    (F : ∀ (w : World) (mg : Str → Option Value) (fa : Addr) (h : Heap), YP w h → (K w.params).In h → h.Ns mainGlobals mg → mg d.name = some (.ref fa) → ∃ tabs, Own.LawG l w (K w.params) 13 63 "_law_script" mg fa h tabs) :
    PySem.W.WalkO q loose XP YP l.row.toRowW d [] (fun f vs => PySem.call f vs) :=
  Own.walk_ofG hn (by decide) hdf ⟨rfl, by decide, by decide⟩ hY F
end Toy
open PySem PySem.W PyProof.Rows
set_option maxRecDepth 100000 in
set_option maxHeartbeats 0 in
theorem PySem.Challenge.cw_anyfifth_k03_ratios_reckoned_holds : PySem.Challenge.rw_anyfifth_k03_ratios_reckoned.Holds := by
  w_on; o_law; k_head; (case hw => w_witness2)
  k_fill
  refine Toy.walk (l := PySem.Challenge.rw_anyfifth_k03_ratios_reckoned) rfl rfl (fun w h Y => PySem.W.km_in_of Y) ?F
  case F =>
    intro w mg fa h Y KX G hmg
    have hT := PySem.W.km_tabs_of Y
    refine' Toy.all_mk KX G hmg ?h_aCR ?h_pgCR ?h_hdCR ?h_poCR ?h_saCR ?h_rdCR ?h_gaCR ?h_caCR ?h_cmCR ?h_sICR ?h_nICR ?h_nCCR ?h_kICR ?h_kBCR ?h_iKCR ?h_kSCR ?h_n_topCR ?h_n_bottomCR ?h_mkCR ?h_kcCR ?h_cn ?h_ct ?h_z_int ?h_z_len ?h_z_abs ?h_z_list ?h_z_range ?h_z_isinstance ?h_z_bool ?h_z_repr ?h_z_tuple ?h_z_gcd ?h_aCB ?h_lkCB ?h_saCB ?h_exCB ?h_tyCB ?h_kpCB ?h_inCB ?h_tiCB ?h_noCB ?h_xfCB ?h_xgCB ?h_xhCB ?h_aCN ?h_xCN ?h_kpCN ?h_bCN ?h_tCN ?h_aCF ?h_e_CN_CB ?h_e_CN_CN ?h_e_CB_CB ?h_neR ?h_sO ?h_sIR ?h_sf ?h_i1Add ?h_i2Add ?h_rAdd ?h_i1Sub ?h_i2Sub ?h_rSub ?h_i1Mult ?h_i2Mult ?h_rMult ?h_i1FloorDiv ?h_i2FloorDiv ?h_rFloorDiv ?h_i1Mod ?h_i2Mod ?h_rMod ?h_tab0 ?h_chd0 ?h_outP0 ?h_eP0 ?h_tab1 ?h_chd1 ?h_outP1 ?h_eP1 ?h_tab2 ?h_chd2 ?h_outP2 ?h_eP2 ?h_kn1 ?h_kn2 ?h_kn3 ?h_kn4 ?h_kn5 ?h_kn6 ?h_ni1 ?h_ni2 ?h_ni3 ?h_ni4 ?h_ni5 ?h_d01 ?h_d02 ?h_d12 ?h_a0 ?h_l0 ?h_c0 ?h_k0 ?h_a1 ?h_r1 ?h_l1 ?h_c1 ?h_k1 ?h_a2 ?h_l2 ?h_c2 ?h_k2 ?h_a3 ?h_l3 ?h_c3 ?h_k3 ?h_a4 ?h_i4 ?h_l4 ?h_c4 ?h_k4 ?h_d4 ?h_a5 ?h_i5 ?h_l5 ?h_c5 ?h_k5 ?h_a6 ?h_i6 ?h_l6 ?h_c6 ?h_k6 ?h_a7 ?h_i7 ?h_l7 ?h_c7 ?h_k7 ?h_a8 ?h_r8 ?h_l8 ?h_c8 ?h_k8 ?h_a9 ?h_i9 ?h_l9 ?h_c9 ?h_k9 ?h_a10 ?h_i10 ?h_l10 ?h_c10 ?h_k10 ?h_a11 ?h_i11 ?h_l11 ?h_c11 ?h_k11 ?h_a12 ?h_i12 ?h_l12 ?h_c12 ?h_k12 ?h_a13 ?h_i13 ?h_l13 ?h_c13 ?h_k13 ?h_a14 ?h_i14 ?h_l14 ?h_c14 ?h_k14 ?h_a15 ?h_i15 ?h_l15 ?h_c15 ?h_k15 ?h_a16 ?h_i16 ?h_l16 ?h_c16 ?h_k16 ?h_a17 ?h_i17 ?h_l17 ?h_c17 ?h_k17 ?h_a18 ?h_l18 ?h_c18 ?h_k18 ?h_a19 ?h_i19 ?h_l19 ?h_c19 ?h_k19 ?h_a20 ?h_i20 ?h_l20 ?h_c20 ?h_k20 ?h_a21 ?h_i21 ?h_l21 ?h_c21 ?h_k21 ?h_a22 ?h_i22 ?h_l22 ?h_c22 ?h_k22 ?h_a23 ?h_l23 ?h_c23 ?h_k23 ?h_l24 ?h_c24 ?h_k24 ?h_a25 ?h_r25 ?h_l25 ?h_c25 ?h_k25 ?h_a26 ?h_l26 ?h_c26 ?h_k26 ?h_a27 ?h_l27 ?h_c27 ?h_k27 ?h_a28 ?h_l28 ?h_c28 ?h_k28 ?h_a29 ?h_l29 ?h_c29 ?h_k29 ?h_a30 ?h_l30 ?h_c30 ?h_k30 ?h_a31 ?h_l31 ?h_c31 ?h_k31 ?h_a32 ?h_l32 ?h_c32 ?h_k32 ?h_a33 ?h_l33 ?h_c33 ?h_k33 ?h_a34 ?h_l34 ?h_c34 ?h_k34 ?h_a35 ?h_l35 ?h_c35 ?h_k35 ?h_a36 ?h_l36 ?h_c36 ?h_k36 ?h_a37 ?h_l37 ?h_c37 ?h_k37 ?h_a38 ?h_l38 ?h_c38 ?h_k38 ?h_a39 ?h_l39 ?h_c39 ?h_k39 ?h_a40 ?h_l40 ?h_c40 ?h_k40 ?h_a41 ?h_l41 ?h_c41 ?h_k41 ?h_a42 ?h_l42 ?h_c42 ?h_k42 ?h_a43 ?h_l43 ?h_c43 ?h_k43 ?h_a44 ?h_l44 ?h_c44 ?h_k44
    (case h_aCR => k_is)
    (case h_pgCR => k_is)
    (case h_hdCR => k_is)
    (case h_poCR => k_is)
    (case h_saCR => k_is)
    (case h_rdCR => k_is)
    (case h_gaCR => k_is)
    (case h_caCR => k_is)
    (case h_cmCR => k_is)
    (case h_sICR => k_is)
    (case h_nICR => k_is)
    (case h_nCCR => k_is)
    (case h_kICR => kit_is)
    (case h_kBCR => kit_is)
    (case h_iKCR => kit_is)
    (case h_kSCR => kit_is)
    (case h_n_topCR => k_is)
    (case h_n_bottomCR => k_is)
    (case h_mkCR => k_is)
    (case h_kcCR => k_is)
    (case h_cn => k_is)
    (case h_ct => k_is)
    (case h_z_int => k_is)
    (case h_z_len => k_is)
    (case h_z_abs => k_is)
    (case h_z_list => k_is)
    (case h_z_range => k_is)
    (case h_z_isinstance => k_is)
    (case h_z_bool => k_is)
    (case h_z_repr => k_is)
    (case h_z_tuple => k_is)
    (case h_z_gcd => k_is)
    (case h_aCB => k_is)
    (case h_lkCB => exact ⟨_, _, _, _, _, _, _, _, _, _, _, _, _, _, _, by k_is, by decide +kernel⟩)
    (case h_saCB => k_is)
    (case h_exCB => k_is)
    (case h_tyCB => k_is)
    (case h_kpCB => k_is)
    (case h_inCB => k_is)
    (case h_tiCB => k_is)
    (case h_noCB => k_is)
    (case h_xfCB => k_is)
    (case h_xgCB => k_is)
    (case h_xhCB => k_is)
    (case h_aCN => k_is)
    (case h_xCN => k_exc)
    (case h_kpCN => k_is)
    (case h_bCN => k_is)
    (case h_tCN => k_is)
    (case h_aCF => k_is)
    (case h_e_CN_CB => rfl)
    (case h_e_CN_CN => rfl)
    (case h_e_CB_CB => rfl)
    (case h_neR => k_is)
    (case h_sO => k_is)
    (case h_sIR => k_is)
    (case h_sf => k_is)
    (case h_i1Add => k_is)
    (case h_i2Add => k_is)
    (case h_rAdd => k_is)
    (case h_i1Sub => k_is)
    (case h_i2Sub => k_is)
    (case h_rSub => k_is)
    (case h_i1Mult => k_is)
    (case h_i2Mult => k_is)
    (case h_rMult => k_is)
    (case h_i1FloorDiv => k_is)
    (case h_i2FloorDiv => k_is)
    (case h_rFloorDiv => k_is)
    (case h_i1Mod => k_is)
    (case h_i2Mod => k_is)
    (case h_rMod => k_is)
    (case h_tab0 => rfl)
    (case h_chd0 => rfl)
    (case h_outP0 => rfl)
    (case h_eP0 => exact hT _ (by decide))
    (case h_tab1 => rfl)
    (case h_chd1 => rfl)
    (case h_outP1 => rfl)
    (case h_eP1 => exact hT _ (by decide))
    (case h_tab2 => rfl)
    (case h_chd2 => rfl)
    (case h_outP2 => rfl)
    (case h_eP2 => exact hT _ (by decide))
    (case h_kn1 => kit_is)
    (case h_kn2 => kit_is)
    (case h_kn3 => kit_is)
    (case h_kn4 => kit_is)
    (case h_kn5 => kit_is)
    (case h_kn6 => kit_is)
    (case h_ni1 => rfl)
    (case h_ni2 => rfl)
    (case h_ni3 => rfl)
    (case h_ni4 => rfl)
    (case h_ni5 => rfl)
    (case h_d01 => decide)
    (case h_d02 => decide)
    (case h_d12 => decide)
    (case h_a0 => k_is)
    (case h_l0 => k_is)
    (case h_c0 => k_is)
    (case h_k0 => k_is)
    (case h_a1 => k_is)
    (case h_r1 => k_is)
    (case h_l1 => k_is)
    (case h_c1 => k_is)
    (case h_k1 => k_is)
    (case h_a2 => k_is)
    (case h_l2 => k_is)
    (case h_c2 => k_is)
    (case h_k2 => k_is)
    (case h_a3 => k_is)
    (case h_l3 => k_is)
    (case h_c3 => k_is)
    (case h_k3 => k_is)
    (case h_a4 => k_is)
    (case h_i4 => k_is)
    (case h_l4 => k_is)
    (case h_c4 => k_is)
    (case h_k4 => k_is)
    (case h_d4 => k_is)
    (case h_a5 => k_is)
    (case h_i5 => k_is)
    (case h_l5 => k_is)
    (case h_c5 => k_is)
    (case h_k5 => k_is)
    (case h_a6 => k_is)
    (case h_i6 => k_is)
    (case h_l6 => k_is)
    (case h_c6 => k_is)
    (case h_k6 => k_is)
    (case h_a7 => k_is)
    (case h_i7 => k_is)
    (case h_l7 => k_is)
    (case h_c7 => k_is)
    (case h_k7 => k_is)
    (case h_a8 => k_is)
    (case h_r8 => k_is)
    (case h_l8 => k_is)
    (case h_c8 => k_is)
    (case h_k8 => k_is)
    (case h_a9 => k_is)
    (case h_i9 => k_is)
    (case h_l9 => k_is)
    (case h_c9 => k_is)
    (case h_k9 => k_is)
    (case h_a10 => k_is)
    (case h_i10 => k_is)
    (case h_l10 => k_is)
    (case h_c10 => k_is)
    (case h_k10 => k_is)
    (case h_a11 => k_is)
    (case h_i11 => k_is)
    (case h_l11 => k_is)
    (case h_c11 => k_is)
    (case h_k11 => k_is)
    (case h_a12 => k_is)
    (case h_i12 => k_is)
    (case h_l12 => k_is)
    (case h_c12 => k_is)
    (case h_k12 => k_is)
    (case h_a13 => k_is)
    (case h_i13 => k_is)
    (case h_l13 => k_is)
    (case h_c13 => k_is)
    (case h_k13 => k_is)
    (case h_a14 => k_is)
    (case h_i14 => k_is)
    (case h_l14 => k_is)
    (case h_c14 => k_is)
    (case h_k14 => k_is)
    (case h_a15 => k_is)
    (case h_i15 => k_is)
    (case h_l15 => k_is)
    (case h_c15 => k_is)
    (case h_k15 => k_is)
    (case h_a16 => k_is)
    (case h_i16 => k_is)
    (case h_l16 => k_is)
    (case h_c16 => k_is)
    (case h_k16 => k_is)
    (case h_a17 => k_is)
    (case h_i17 => k_is)
    (case h_l17 => k_is)
    (case h_c17 => k_is)
    (case h_k17 => k_is)
    (case h_a18 => k_is)
    (case h_l18 => k_is)
    (case h_c18 => k_is)
    (case h_k18 => k_is)
    (case h_a19 => k_is)
    (case h_i19 => k_is)
    (case h_l19 => k_is)
    (case h_c19 => k_is)
    (case h_k19 => k_is)
    (case h_a20 => k_is)
    (case h_i20 => k_is)
    (case h_l20 => k_is)
    (case h_c20 => k_is)
    (case h_k20 => k_is)
    (case h_a21 => k_is)
    (case h_i21 => k_is)
    (case h_l21 => k_is)
    (case h_c21 => k_is)
    (case h_k21 => k_is)
    (case h_a22 => k_is)
    (case h_i22 => k_is)
    (case h_l22 => k_is)
    (case h_c22 => k_is)
    (case h_k22 => k_is)
    (case h_a23 => k_is)
    (case h_l23 => k_is)
    (case h_c23 => k_is)
    (case h_k23 => k_is)
    (case h_l24 => k_is)
    (case h_c24 => k_is)
    (case h_k24 => k_is)
    (case h_a25 => k_is)
    (case h_r25 => k_is)
    (case h_l25 => k_is)
    (case h_c25 => k_is)
    (case h_k25 => k_is)
    (case h_a26 => k_is)
    (case h_l26 => k_is)
    (case h_c26 => k_is)
    (case h_k26 => k_is)
    (case h_a27 => k_is)
    (case h_l27 => k_is)
    (case h_c27 => k_is)
    (case h_k27 => k_is)
    (case h_a28 => k_is)
    (case h_l28 => k_is)
    (case h_c28 => k_is)
    (case h_k28 => k_is)
    (case h_a29 => k_is)
    (case h_l29 => k_is)
    (case h_c29 => k_is)
    (case h_k29 => k_is)
    (case h_a30 => k_is)
    (case h_l30 => k_is)
    (case h_c30 => k_is)
    (case h_k30 => k_is)
    (case h_a31 => k_is)
    (case h_l31 => k_is)
    (case h_c31 => k_is)
    (case h_k31 => k_is)
    (case h_a32 => k_is)
    (case h_l32 => k_is)
    (case h_c32 => k_is)
    (case h_k32 => k_is)
    (case h_a33 => k_is)
    (case h_l33 => k_is)
    (case h_c33 => k_is)
    (case h_k33 => k_is)
    (case h_a34 => k_is)
    (case h_l34 => k_is)
    (case h_c34 => k_is)
    (case h_k34 => k_is)
    (case h_a35 => k_is)
    (case h_l35 => k_is)
    (case h_c35 => k_is)
    (case h_k35 => k_is)
    (case h_a36 => k_is)
    (case h_l36 => k_is)
    (case h_c36 => k_is)
    (case h_k36 => k_is)
    (case h_a37 => k_is)
    (case h_l37 => k_is)
    (case h_c37 => k_is)
    (case h_k37 => k_is)
    (case h_a38 => k_is)
    (case h_l38 => k_is)
    (case h_c38 => k_is)
    (case h_k38 => k_is)
    (case h_a39 => k_is)
    (case h_l39 => k_is)
    (case h_c39 => k_is)
    (case h_k39 => k_is)
    (case h_a40 => k_is)
    (case h_l40 => k_is)
    (case h_c40 => k_is)
    (case h_k40 => k_is)
    (case h_a41 => k_is)
    (case h_l41 => k_is)
    (case h_c41 => k_is)
    (case h_k41 => k_is)
    (case h_a42 => k_is)
    (case h_l42 => k_is)
    (case h_c42 => k_is)
    (case h_k42 => k_is)
    (case h_a43 => k_is)
    (case h_l43 => k_is)
    (case h_c43 => k_is)
    (case h_k43 => k_is)
    (case h_a44 => k_is)
    (case h_l44 => k_is)
    (case h_c44 => k_is)
    (case h_k44 => k_is)
