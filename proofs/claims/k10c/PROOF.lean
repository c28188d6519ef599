import PyProof.Rows.All
import Wide.All
import OpenK.AllK
import Wide.FinOn
import HandS.ForMost
import HandS.Wide
import HandS.Gcd
import HandS.Codes
import HandS.IsInst
import HandS.ClsMeth
import HandS.Property
import HandS.OwnEq
import HandS.Defaults
import KE.KEqSeq
import KE.KOpsOwn
import PyProof.InstEq
import HandS.Star
import HandS.Exc
import HandS.TryMany
import HandS.EndTab
import HandS.List
import PyProof.ReprRoads
import HandS.WordsExc
import HandS.Small
import HandS.Lambda
import HandS.ExcInit
import HandS.ExcField
import KE.RegKIsAll
import KE.KNestM
import PySem.Challenge.RW_anyfifth_k10_whole_simplest_fractions
set_option Elab.async false
set_option maxRecDepth 100000
set_option maxHeartbeats 4000000
/-! Rules of our own: static methods, comparisons by the text's own operators. -/
namespace Own
open PySem PySem.Spec PyProof.Rows L2
open AutoSeq1 (wpAny_loadPart')

section
variable {X : Cx} {pins : List (Addr × Obj)} {σ : L2.St} {H : Hp} {s : Shared} {C p f : Addr} {mc : Value} {m : Str} {A : Around} {E : Value → Shared → Prop}
/-- C.m is a static method: its record at p, its def at f -/
structure SMet (K : PySem.W.Frag) (C : Addr) (mc : Value) (m : Str) (p f : Addr) : Prop where
  at_ : PySem.W.findCls K (.ref C) mc m = some (.get (.builtin "staticmethod.__get__") (.ref p) .none (.ref C))
  rc : ∃ rest, PySem.W.recIn K p "staticmethod" = some (.ref f :: rest)
  kp : PySem.W.keepIn K (.ref f) = true
theorem getsm_ok {b : Bool} {Q : Value → Shared → Prop} (I : Inv X pins σ H s) (r : ClX.CRead X.K C mc) (k : SMet X.K C mc m p f) (h : ∀ s', Inv X pins σ H s' → Q (.ref f) s') : wpAny (model X.prog X.w) A (getAttr (.ref C) m b) Q E s := by
  obtain ⟨rest, hp⟩ := k.rc
  refine PySem.W.cls_bind I.kIn r.rd k.at_ ?_
  refine wpAny_call (PySem.W.sm_get (s := { s with toks := s.toks + 1 }) I.kIn hp (PySem.W.handed_on rfl ?_))
  exact h _ (I.tok _)
def tSMeth (C : Addr) (sp : Sp) (E : XK) (ta : TE) (t : TA) : TE := fun σ H Q => ta σ H fun x H1 => x = .ref C ∧ t σ H1 fun vs H2 => sp (vs ++ []) H2 Q E
end
section
variable {X : Cx} {CX : CXT} {k : Nat} {C p f : Addr} {mc : Value} {sp : Sp} {E : XK} {o e : Expr} {es : List Expr} {m : Str} {pos apos : Pos} {ta : TE} {t : TA} {pl : Sem Bool} {fd : FuncData} {ps : List Str}
theorem pe_smeth (r : ClX.CRead X.K C mc) (c : SMet X.K C mc m p f) (F : FnOk X.prog X.w X.K X.mg X.base CX k f fd ps sp) (hr : Room k X.A) (hb : Binds X.K fd ps []) (hx : Passes CX X E) (he : PE X o ta) (ha : PA X (e :: es) t)
    (hst : starEach (e :: es) X.env = (false, eval e X.env) :: starEach es X.env := by rfl) (hpl : (backTo pos (starEach es X.env)).any (·.1) = false := by rfl)
    (ht : eval (.Call (.Attribute o m apos) (e :: es) [] pos) X.env = (do
      let ov ← eval o X.env
      standAt apos.atName
      let (f, first) ← holding [ov] (getMethod ov m pl)
      callWith pos f first (backTo pos (starEach (e :: es) X.env)) (backToKw pos (keywordEach [] X.env))) := by rfl) :
    PE X (.Call (.Attribute o m apos) (e :: es) [] pos) (tSMeth C sp E ta t) := by
  refine ⟨fun pins s σ H Q I h => ?_⟩
  refine PySem.W.methodCall_KW (pl := pl) (thn (he.run pins s σ H _ I h) fun u s1 ⟨x, H1, I1, rx, ex, q⟩ => ?_) ht
  subst ex
  obtain rfl : u = Value.ref C := rx
  refine PySem.W.method_cls I1.kIn r.ga (getsm_ok I1 r c fun s2 I2 => ?_)
  refine PySem.W.callWith_K (first := []) (h₀ := X.base) I.ok.mod.kin c.kp (thn (ha.run pos pins s2 σ H1 _ I2 q) fun us s3 ⟨vs, H2, I3, rv, q2⟩ => ⟨I3.kIn, ?_⟩) hst hpl
  exact run_fn F hr hb .nil hx I3 rv q2
end

theorem pe_gref {X : Cx} {x : Str} {a : Addr} {pos : Pos} (hg : Gl X x) (hm : X.mg x = some (.ref a)) (hd : (x == ("__debug__" : Str)) = false := by decide) : PE X (.Name x pos) (tC (.ref a)) := pe_glob hg hm rfl hd
/-! ### calls with keywords alone -/
def tMethK0 (C : Addr) (m : Str) (n : Nat) (sp : Sp) (gV : List V → List V → List V) (E : XK) (ta : TE) (tk : TA) : TE := fun σ H Q => ta σ H fun x H1 => ∃ a dx fs, x = .ref a ∧ H1 a = some (.ins C dx fs) ∧ fs.lookup m = none ∧
  tk σ H1 fun zs H2 => zs.length = n ∧ sp (gV [x] zs) H2 Q E
section
variable {X : Cx} {CX : CXT} {k : Nat} {C p f : Addr} {sp : Sp} {E : XK} {o : Expr} {m : Str} {pos apos : Pos} {ta : TE} {tk : TA} {pl : Sem Bool} {fd : FuncData} {ps ks : List Str} {kws : List Keyword}
  {g : List Value → List Value → List Value} {gV : List V → List V → List V}
theorem pe_methK0 (he : PE X o ta) (c : Cls X.K C) (hm : Meth X.K C m f) (F : FnOk X.prog X.w X.K X.mg X.base CX k f fd ps sp) (hr : Room k X.A) (hb : KBn X.K fd ps 1 ks g gV) (hx : Passes CX X E) (hkw : PK X kws tk)
    (hall : (backToKw pos (keywordEach kws X.env)).all (·.1.isSome) = true := by rfl) (hks : (backToKw pos (keywordEach kws X.env)).filterMap (·.1) = ks := by rfl)
    (hpl : ((backTo pos (starEach [] X.env)).any (·.1) || (backToKw pos (keywordEach kws X.env)).any (·.1.isNone)) = false := by rfl)
    (ht : eval (.Call (.Attribute o m apos) [] kws pos) X.env = (do
      let ov ← eval o X.env
      standAt apos.atName
      let (f, first) ← holding [ov] (getMethod ov m pl)
      callWith pos f first (backTo pos (starEach [] X.env)) (backToKw pos (keywordEach kws X.env))) := by rfl) :
    PE X (.Call (.Attribute o m apos) [] kws pos) (tMethK0 C m ks.length sp gV E ta tk) := by
  refine ⟨fun pins s σ H Q I h => ?_⟩
  refine PySem.W.methodCall_KW (pl := pl) (thn (he.run pins s σ H _ I h) fun u s1 ⟨x, H1, I1, rx, a, dx, fs, ex, ea, l, q⟩ => ?_) ht
  subst ex
  obtain rfl : u = Value.ref a := rx
  refine getmeth_ok I1 ea c hm l ?_
  refine PySem.W.callWith_KW0 (first := [.ref a]) (h₀ := X.base) I.ok.mod.kin hm.kp hall (thn (hkw.run pos pins s1 σ H1 _ I1 q) fun ws s2 ⟨zs, H2, I2, rz, hl, q2⟩ => ⟨I2.kIn, ?_⟩) hpl
  rw [hks]
  exact run_fnN (us := [.ref a]) (vs := [.ref a]) F hr hb hx I2 (.cons rfl .nil) rz rfl hl q2
end
/-! ### comparisons by own operators -/
section
variable {X : Cx} {CX : CXT} {k : Nat} {C f : Addr} {fd : FuncData} {ps : List Str} {sp : Sp} {E : XK} {op : CmpOp}
/-- the left one is an instance with the operator -/
def rOwnC (K : PySem.W.Frag) (C : Addr) (sp : Sp) (E : XK) : R2 := fun x y H Q => ∃ a dx fs t, x = .ref a ∧ H a = some (.ins C dx fs) ∧ TyX K H y t ∧ PySem.W.notFirst K C t = true ∧ sp [x, y] H (fun v H' => (∃ b, v = .bl b) ∧ Q v H') E
theorem op_ownC (F : FnOk X.prog X.w X.K X.mg X.base CX k f fd ps sp) (hr : Room k X.A) (hs : PySem.W.findIn X.K (.ref C) (cmpInfo op).2.1 = some (some (.ref f))) (hf : PySem.W.isFn X.K (.ref f) = true) (hb : Binds X.K fd ps []) (hx : Passes CX X E)
    (hop : ∀ a b, compareOp op a b = richCompare op a b := by intros; rfl) : OpR X (compareOp op) (rOwnC X.K C sp E) := by
  intro pins s σ H x y u v Q I rx ry h
  obtain ⟨a, dx, fs, t, rfl, ha, ty, nf, hsp⟩ := h
  cases rx
  obtain ⟨mA, J, _⟩ := ins_get I.hok ha
  obtain ⟨od, J, _⟩ := J.look
  obtain ⟨m, hF⟩ := I.fr
  obtain ⟨Pk, Z, pk, _⟩ := kit_of I ry ty
  rw [hop]
  refine PySem.W.cmp_K (op := op) (tb := t) hr.units0 hF I.ok.mod.kin J (Z.ty _ _ I.kIn pk) nf hs hf ?_
  have r2 : Vals [V.ref a, y] [Value.ref a, v] := .cons rfl (.cons ry .nil)
  refine wpAny_mono (run_fn F hr hb .nil hx I r2 hsp) (fun w s' q => ?_) fun _ _ e => e
  obtain ⟨v', H', I', rv, ⟨b, rfl⟩, q⟩ := q
  cases rv
  exact ⟨.bl b, H', I', rfl, q⟩

/-- an int on the left, an instance with the reflected operator on the right -/
def rReflC (C : Addr) (sp : Sp) (E : XK) : R2 := fun x y H Q => ∃ i a dx fs, x = .int i ∧ y = .ref a ∧ H a = some (.ins C dx fs) ∧ sp [y, x] H (fun v H' => (∃ b, v = .bl b) ∧ Q v H') E
theorem op_reflC {id : String} {B : Builtin} (F : FnOk X.prog X.w X.K X.mg X.base CX k f fd ps sp) (hr : Room k X.A) (hs : PySem.W.findIn X.K (.ref C) (cmpInfo op).2.2 = some (some (.ref f))) (hf : PySem.W.isFn X.K (.ref f) = true)
    (hsub : PySem.W.subIn X.K (.ref C) (.type "int") = some false) (hb : Binds X.K fd ps []) (hx : Passes CX X E)
    (slot : Slot "int" (cmpInfo op).2.1 id) (entry : entryFor table id = some B) (args : ∀ a b, argsOk id ⟨[a, b], []⟩)
    (dec : ∀ (b : Int) (u : Tok) (l : Addr) (C dx : Addr), Meets (B ⟨[.int b u, .ref l], []⟩) (fun _ R s => s.heap.get? l = some (PySem.W.instObj C dx) ∧ R (.ok (.ret .notImplemented)) s))
    (hne : op ≠ .Eq ∧ op ≠ .NotEq) (hop : ∀ a b, compareOp op a b = richCompare op a b := by intros; rfl) : OpR X (compareOp op) (rReflC C sp E) := by
  intro pins s σ H x y u v Q I rx ry h
  obtain ⟨i, a, dx, fs, rfl, rfl, ha, hsp⟩ := h
  obtain ⟨t, rfl⟩ := rx
  cases ry
  obtain ⟨mA, O, _⟩ := ins_get I.hok ha
  obtain ⟨od, J, _⟩ := O.look
  have ho : s.heap.get? a = some (PySem.W.instObj C dx) := by
    obtain ⟨_, _, _, e, _⟩ := I.hok a _ ha
    exact e
  have KX := I.kIn
  rw [hop]
  have one : wpAny (model X.prog X.w) X.A (tryCompare (.ref a) (cmpInfo op).2.2 (.int i t)) (fun r s' => ∃ v, r = some v ∧ EP X pins σ Q v s') X.xe s := by
    unfold tryCompare
    have r2 : Vals [V.ref a, V.int i] [Value.ref a, Value.int i t] := .cons rfl (.cons ⟨t, rfl⟩ .nil)
    refine wpAny_bind (PySem.W.ifBound_K KX J hs hf (wpAny_mono (run_fn F hr hb .nil hx I r2 hsp) (fun v s' hv => ?_) fun _ _ e => e))
    obtain ⟨v', H', I', rv, ⟨b, rfl⟩, q⟩ := hv
    cases rv
    exact wpAny_pure ⟨_, rfl, .bl b, H', I', rfl, q⟩
  have hT := typeIs_int s i t
  unfold richCompare
  simp only [hT.oneThing_none]
  refine wpAny_holding (wpAny_bind (wpAny_cRoomFor hr.units0 ?_))
  refine wpAny_bind (wpAny_typeOf hT (wpAny_bind (J.type.here ?_)))
  have hne1 : (Value.type "int" != Value.ref C) = true := rfl
  simp only [hne1, if_true]
  refine wpAny_bind ((PySem.W.looks_subIn KX hsub).here ?_)
  simp only [Bool.false_eq_true, if_false, Bool.not_false, if_true]
  refine wpAny_bind (m := tryCompare (.int i t) _ (.ref a)) (wpAny_tryCompare_declines hT slot (call_meets slot hT entry (args _ _) (dec i t a C dx) ⟨ho, rfl, ?_⟩))
  refine wpAny_bind (wpAny_mono one (fun r s' z => ?_) fun _ _ e => e)
  obtain ⟨v, rfl, hq⟩ := z
  exact wpAny_pure hq
end
theorem int_le_dec (b : Int) (u : Tok) (l : Addr) (C dx : Addr) :
    Meets (Builtin.«int.__le__» ⟨[.int b u, .ref l], []⟩) (fun _ R s => s.heap.get? l = some (PySem.W.instObj C dx) ∧ R (.ok (.ret .notImplemented)) s) :=
  .of_wp fun prog w A R s h => by obtain ⟨hp, g, d, tk, os⟩ := s; obtain ⟨hl, h⟩ := h; wp_walk using wpAny_loadPart' hl, wpAny_load hl; exact ⟨_, rfl, h⟩
theorem int_lt_dec (b : Int) (u : Tok) (l : Addr) (C dx : Addr) :
    Meets (Builtin.«int.__lt__» ⟨[.int b u, .ref l], []⟩) (fun _ R s => s.heap.get? l = some (PySem.W.instObj C dx) ∧ R (.ok (.ret .notImplemented)) s) :=
  .of_wp fun prog w A R s h => by obtain ⟨hp, g, d, tk, os⟩ := s; obtain ⟨hl, h⟩ := h; wp_walk using wpAny_loadPart' hl, wpAny_load hl; exact ⟨_, rfl, h⟩
end Own
set_option maxRecDepth 100000
set_option maxHeartbeats 4000000
/-! Rules of our own: arithmetic by the text's own operators, != by its own ==, abs and minus. -/
namespace Own
open PySem PySem.Spec PyProof.Rows L2
open AutoSeq1 (wpAny_loadPart')
theorem relV_back {v : V} {u : Value} {s' : Shared} {Q : Value → Shared → Prop} (r : RelV v u) (q : Q u s') : PySem.W.CmpBack Q u s' := by
  cases v <;> first | (obtain ⟨t, rfl⟩ := r; exact q) | (obtain rfl := r; exact q)
section
variable {X : Cx} {CX : CXT} {k : Nat} {C f : Addr} {fd : FuncData} {ps : List Str} {sp : Sp} {E : XK} {op : Operator}
/-- an own method in the place of an operator: an instance at the left, the same class or an int at the right -/
def rOwnB (C : Addr) (sp : Sp) (E : XK) : R2 := fun x y H Q => ∃ a dx fs, x = .ref a ∧ H a = some (.ins C dx fs) ∧ ((∃ j, y = .int j) ∨ ∃ b dy gs, y = .ref b ∧ H b = some (.ins C dy gs)) ∧ sp [x, y] H Q E
theorem op_ownB {fo ro rc : Option Value} (F : FnOk X.prog X.w X.K X.mg X.base CX k f fd ps sp) (hr : Room k X.A) (hs : PySem.W.findIn X.K (.ref C) (PySem.dunder op.info.2) = some (some (.ref f))) (hf : PySem.W.isFn X.K (.ref f) = true)
    (hc : PySem.W.selfFirst X.K C = true) (hR : PySem.W.findIn X.K (.ref C) (dunderR op.info.2) = some rc) (hp : rc = none ∨ ∃ g : Addr, rc = some (.ref g)) (h1 : PySem.W.findIn X.K (.type "int") (PySem.dunder op.info.2) = some fo)
    (h2 : PySem.W.findIn X.K (.type "int") (dunderR op.info.2) = some ro) (hsub : PySem.W.subIn X.K (.type "int") (.ref C) = some false) (hb : Binds X.K fd ps []) (hx : Passes CX X E) : OpR X (binaryOp op) (rOwnB C sp E) := by
  intro pins s σ H x y u v Q I rx ry h
  obtain ⟨a, dx, fs, rfl, ha, hy, hsp⟩ := h
  cases rx
  obtain ⟨mA, J, _⟩ := ins_get I.hok ha
  obtain ⟨od, J, _⟩ := J.look
  obtain ⟨m, hF⟩ := I.fr
  have r2 : Vals [V.ref a, y] [Value.ref a, v] := .cons rfl (.cons ry .nil)
  have fin : wpAny (model X.prog X.w) X.A (call (.ref f) [.ref a, v]) (PySem.W.CmpBack (EP X pins σ Q)) X.xe s := wpAny_mono (run_fn F hr hb .nil hx I r2 hsp) (fun w s' q => by
    obtain ⟨v', H', I', rv, q⟩ := q
    exact relV_back rv ⟨v', H', I', rv, q⟩) fun _ _ e => e
  rcases hy with ⟨j, rfl⟩ | ⟨b, dy, gs, rfl, hb'⟩
  · obtain ⟨t, rfl⟩ := ry
    exact PySem.W.ksp_binT (T := "int") hF I.ok.mod.kin J rfl hc hs hf hR hp h1 h2 hsub fin
  · cases ry
    obtain ⟨mB, J', _⟩ := ins_get I.hok hb'
    obtain ⟨od', J', _⟩ := J'.look
    exact PySem.W.binop_K hF I.ok.mod.kin J J'.type hc hs hf fin

/-- an int at the left, an instance with the reflected operator at the right -/
def rReflB (C : Addr) (sp : Sp) (E : XK) : R2 := fun x y H Q => ∃ i a dx fs, x = .int i ∧ y = .ref a ∧ H a = some (.ins C dx fs) ∧ sp [y, x] H Q E
theorem op_reflB {f0 : Addr} {id : String} {B : Builtin} (F : FnOk X.prog X.w X.K X.mg X.base CX k f fd ps sp) (hr : Room k X.A) (hs : PySem.W.findIn X.K (.ref C) (dunderR op.info.2) = some (some (.ref f))) (hf : PySem.W.isFn X.K (.ref f) = true)
    (hs0 : PySem.W.findIn X.K (.ref C) (PySem.dunder op.info.2) = some (some (.ref f0))) (hc : PySem.W.selfFirst X.K C = true) (hsub : PySem.W.subIn X.K (.ref C) (.type "int") = some false) (hb : Binds X.K fd ps []) (hx : Passes CX X E)
    (fills : fillsNumberSlot (.type "int") op.info.2 = pure true) (slot : Slot "int" (PySem.dunder op.info.2) id) (entry : entryFor table id = some B) (args : ∀ a b, argsOk id ⟨[a, b], []⟩)
    (dec : ∀ (b : Int) (u : Tok) (l : Addr) (C dx : Addr), Meets (B ⟨[.int b u, .ref l], []⟩) (fun _ R s => s.heap.get? l = some (PySem.W.instObj C dx) ∧ R (.ok (.ret .notImplemented)) s)) : OpR X (binaryOp op) (rReflB C sp E) := by
  intro pins s σ H x y u v Q I rx ry h
  obtain ⟨i, a, dx, fs, rfl, rfl, ha, hsp⟩ := h
  obtain ⟨t, rfl⟩ := rx
  cases ry
  obtain ⟨mA, O, _⟩ := ins_get I.hok ha
  obtain ⟨od, J, _⟩ := O.look
  have ho : s.heap.get? a = some (PySem.W.instObj C dx) := by
    obtain ⟨_, _, _, e, _⟩ := I.hok a _ ha
    exact e
  have KX := I.kIn
  obtain ⟨cd, rest, hcd, hm⟩ := PySem.W.ksp_first hc
  rcases hi : op.info with ⟨sym, nm⟩
  rw [hi] at hs hs0 fills slot
  dsimp only at hs hs0 fills slot
  have one : wpAny (model X.prog X.w) X.A (tryMethod (.ref a) (dunderR nm) (.int i t)) (fun r s' => ∃ v, r = some v ∧ EP X pins σ Q v s') X.xe s := by
    have r2 : Vals [V.ref a, V.int i] [Value.ref a, Value.int i t] := .cons rfl (.cons ⟨t, rfl⟩ .nil)
    refine PySem.W.ksp_try KX J hs hf (wpAny_mono (run_fn F hr hb .nil hx I r2 hsp) (fun v s' hv => ?_) fun _ _ e => e)
    obtain ⟨v', H', I', rv, q⟩ := hv
    exact relV_back rv ⟨v', H', I', rv, q⟩
  have hT := typeIs_int s i t
  have L3 : PySem.W.Looks (model X.prog X.w) s.heap (fillsNumberSlot (.ref C) nm) true := PySem.W.fills_K KX hcd hm hs0
  have hne : (Value.type "int" == Value.ref C) = false := Bool.eq_false_iff.mpr fun q => by cases beq_iff_eq.mp q
  have hpy : numberSlotInPython (.type "int") nm = pure false := rfl
  simp only [binaryOp, hi]
  refine wpAny_holding (wpAny_bind ?_)
  unfold binaryOp1
  refine wpAny_bind (wpAny_typeOf hT (wpAny_bind (J.type.here (wpAny_bind (wpAny_of_eq fills ?_)))))
  simp only [hne, Bool.false_eq_true, if_false]
  refine wpAny_bind (L3.here ?_)
  simp only [Bool.and_self, if_true]
  refine wpAny_bind ((PySem.W.looks_subIn KX hsub).here ?_)
  simp only [Bool.false_eq_true, if_false, pure_bind, Bool.not_false, Bool.and_self, if_true, hpy]
  refine wpAny_bind (wpAny_tryMethod_declines hT slot (call_meets slot hT entry (args _ _) (dec i t a C dx) ⟨ho, rfl, ?_⟩))
  dsimp only
  refine wpAny_bind (wpAny_mono one (fun r s' z => ?_) fun _ _ e => e)
  obtain ⟨v, rfl, hq⟩ := z
  exact wpAny_bind (wpAny_rule (wpAny_pure (wpAny_pure hq)))

/-- minus an instance -/
def rNeg (C : Addr) (sp : Sp) (E : XK) : V → Hp → VK → Prop := fun x H Q => ∃ a dx fs, x = .ref a ∧ H a = some (.ins C dx fs) ∧ sp [x] H Q E
theorem un_ownNeg (F : FnOk X.prog X.w X.K X.mg X.base CX k f fd ps sp) (hr : Room k X.A) (hs : PySem.W.findIn X.K (.ref C) "__neg__" = some (some (.ref f))) (hf : PySem.W.isFn X.K (.ref f) = true) (hb : Binds X.K fd ps []) (hx : Passes CX X E) :
    UnR X (unaryOp .USub) (rNeg C sp E) := by
  intro pins s σ H x v Q I rx h
  obtain ⟨a, dx, fs, rfl, ha, hsp⟩ := h
  cases rx
  obtain ⟨mA, J, _⟩ := ins_get I.hok ha
  obtain ⟨od, J, _⟩ := J.look
  obtain ⟨m, hF⟩ := I.fr
  exact PySem.W.ksp_neg hF I.ok.mod.kin J hs hf (run_fn F hr hb .nil hx I (vs := [.ref a]) (.cons rfl .nil) hsp)

/-- at any place below the body -/
theorem run_fnA {pins : List (Addr × Obj)} {σ : L2.St} {H : Hp} {s : Shared} {Q : VK} {us : List Value} {vs : List V} {A : Around} (F : FnOk X.prog X.w X.K X.mg X.base CX k f fd ps sp) (hr : Room k A) (hA : A.frames = X.A.frames) (hb : Binds X.K fd ps []) (hx : Passes CX X E)
    (I : Inv X pins σ H s) (r : Vals vs us) (h : sp vs H Q E) : wpAny (model X.prog X.w) A (call (.ref f) us) (EP X pins σ Q) X.xe s := by
  have hl : us.length = ps.length := by rw [← r.length]; exact F.len _ _ _ _ h
  have e0 : Env0 X.prog X.w X.K X.mg X.base A X.stack s H := by
    have e := I.env0
    exact ⟨by rw [hA]; exact e.frames, e.mod, e.bs, e.bsz, e.funs, e.frf, e.hok, e.bare⟩
  refine wpAny_call (codeAny_mono (F.run A X.stack s H ⟨us, []⟩ us vs Q E hr e0 (by
    have := hb s us I.kIn (by rw [List.append_nil]; exact hl)
    rwa [List.append_nil] at this) r h) fun r s' hq => ?_)
  cases r with
  | error e => exact hx pins σ H s e s' I hq
  | ok fl =>
    cases fl with
    | ret u => exact I.after hq
    | next => exact False.elim hq
    | brk => exact False.elim hq
    | cont => exact False.elim hq

/-! ### == and != by an own == -/
/-- an own ==: gives a bool -/
def rEqL (C : Addr) (sp : Sp) (E : XK) (g : Bool → Bool) : R2 := fun x y H Q => ∃ a dx fs, x = .ref a ∧ H a = some (.ins C dx fs) ∧ ((∃ j, y = .int j) ∨ ∃ b dy gs, y = .ref b ∧ H b = some (.ins C dy gs)) ∧ sp [x, y] H (fun v H' => ∃ b, v = .bl b ∧ Q (.bl (g b)) H') E
def rEqR (C : Addr) (sp : Sp) (E : XK) (g : Bool → Bool) : R2 := fun x y H Q => ∃ i a dx fs, x = .int i ∧ y = .ref a ∧ H a = some (.ins C dx fs) ∧ sp [y, x] H (fun v H' => ∃ b, v = .bl b ∧ Q (.bl (g b)) H') E
theorem op_eqL (F : FnOk X.prog X.w X.K X.mg X.base CX k f fd ps sp) (hr : Room k X.A) (hs : PySem.W.findIn X.K (.ref C) "__eq__" = some (some (.ref f))) (hf : PySem.W.isFn X.K (.ref f) = true) (hn : PySem.W.notFirst X.K C (.type "int") = true) (hb : Binds X.K fd ps []) (hx : Passes CX X E) :
    OpR X (compareOp .Eq) (rEqL C sp E fun b => b) := by
  intro pins s σ H x y u v Q I rx ry h
  obtain ⟨a, dx, fs, rfl, ha, hy, hsp⟩ := h
  cases rx
  obtain ⟨mA, J, _⟩ := ins_get I.hok ha
  obtain ⟨od, J, _⟩ := J.look
  obtain ⟨m, hF⟩ := I.fr
  have r2 : Vals [V.ref a, y] [Value.ref a, v] := .cons rfl (.cons ry .nil)
  have fin : wpAny (model X.prog X.w) X.A (call (.ref f) [.ref a, v]) (PySem.W.CmpBack (EP X pins σ Q)) X.xe s := wpAny_mono (run_fn F hr hb .nil hx I r2 hsp) (fun w s' q => by
    obtain ⟨v', H', I', rv, b, rfl, q⟩ := q
    cases rv
    exact ⟨.bl b, H', I', rfl, q⟩) fun _ _ e => e
  show wpAny (model X.prog X.w) X.A (richCompare .Eq (.ref a) v) (EP X pins σ Q) X.xe s
  rcases hy with ⟨j, rfl⟩ | ⟨b, dy, gs, rfl, hb'⟩
  · obtain ⟨t, rfl⟩ := ry
    exact PySem.W.cmp_K (op := .Eq) (tb := .type "int") hr.units0 hF I.ok.mod.kin J (PySem.W.Looks.of_pure rfl) hn hs hf fin
  · cases ry
    obtain ⟨mB, J', _⟩ := ins_get I.hok hb'
    obtain ⟨od', J', _⟩ := J'.look
    exact PySem.W.cmp_K (op := .Eq) (tb := .ref C) hr.units0 hF I.ok.mod.kin J J'.type (by simp [PySem.W.notFirst]) hs hf fin
theorem bind_ne (self : Value) : bindSpecial (.builtin "object.__ne__") self = pure (.builtin "object.__ne__", [self]) :=
  (Slot.of (T := "object") (name := "__ne__") (owner := "object") (n := "__ne__") (by rw [typeLookup_type, builtinLookup_eq_fast]; kernel_rfl) (by decide +kernel) (by decide +kernel) (by decide +kernel)
    (.inl (by decide +kernel)) (by rw [isSubtype_type]; kernel_rfl)).bind self
theorem plain_ne : plainId "object.__ne__" = true := by decide +kernel
/-- x.__ne__(y) of an instance without its own one -/
theorem try_ne {pins : List (Addr × Obj)} {σ : L2.St} {H : Hp} {s : Shared} {a dx : Addr} {fs : List (Str × V)} {y : V} {v : Value} {Q : VK} (F : FnOk X.prog X.w X.K X.mg X.base CX k f fd ps sp) (hr : Room (k + 1) X.A) (hs : PySem.W.findIn X.K (.ref C) "__eq__" = some (some (.ref f)))
    (hn : PySem.W.findIn X.K (.ref C) "__ne__" = some (some (.builtin "object.__ne__"))) (hO : PySem.W.subIn X.K (.ref C) (.type "object") = some true) (hf : PySem.W.isFn X.K (.ref f) = true) (hb : Binds X.K fd ps []) (hx : Passes CX X E) (I : Inv X pins σ H s)
    (ha : H a = some (.ins C dx fs)) (ry : RelV y v) (hsp : sp [.ref a, y] H (fun v H' => ∃ b, v = .bl b ∧ Q (.bl (!b)) H') E) :
    wpAny (model X.prog X.w) X.A (tryCompare (.ref a) "__ne__" v) (fun r s' => ∃ w, r = some w ∧ EP X pins σ Q w s') X.xe s := by
  obtain ⟨mA, J, _⟩ := ins_get I.hok ha
  obtain ⟨od, J, _⟩ := J.look
  have KX := I.kIn
  have r2 : Vals [V.ref a, y] [Value.ref a, v] := .cons rfl (.cons ry .nil)
  have inner : wpAny (model X.prog X.w) X.A.in1 (Builtin.«object.__ne__» ⟨[.ref a, v], []⟩) (fun fin s' => ∃ b, fin = .done (.ret (.bool b)) ∧ EP X pins σ Q (.bool b) s') X.xe s := by
    unfold Builtin.«object.__ne__»
    repeat (first | with_reducible refine wpAny_cRoomFor hr.in1.units0 ?_ | ((fail_if_success (with_reducible show wpAny _ _ (callSpecialIfBound? _ _ _) _ _ _)); wp_step))
    refine (PySem.W.ifBound_K KX J hs hf (wpAny_mono (run_fnA F hr.in1 rfl hb hx I r2 hsp) (fun w s' q => ?_) fun _ _ e => e))
    obtain ⟨v', H', I', rv, b, rfl, q⟩ := q
    cases rv
    exact wpAny_bind (wpAny_truthy_bool (wpAny_pure ⟨_, rfl, .bl (!b), H', I', rfl, q⟩))
  unfold tryCompare
  simp only [callSpecialIfBound?, bindSpecialIfBound?]
  refine wpAny_bind (wpAny_holding (wpAny_bind (wpAny_bind (wpAny_bind (J.type.here ((PySem.W.looks_findIn KX hn).here ?_))))))
  refine wpAny_bind (wpAny_askSetting (wpAny_ite ?_))
  have t2 : PySem.W.Looks (model X.prog X.w) s.heap (isInstance (.ref a) (.type "object")) true := J.type.andThen (PySem.W.looks_subIn KX hO)
  have fin : wpAny (model X.prog X.w) X.A (call (.builtin "object.__ne__") ([.ref a] ++ [v]) >>= fun v => pure (some v)) (fun r s' => wpAny (model X.prog X.w) X.A (match (motive := Option Value → Sem (Option Value)) r with
      | some .notImplemented | none => pure none
      | some v => pure (some v)) (fun r s' => ∃ w, r = some w ∧ EP X pins σ Q w s') X.xe s') X.xe s := by
    refine wpAny_bind (wpAny_call (codeAny_call_builtin plain_ne PySem.F.cmpEntry_ne (PySem.W.check_slot PySem.F.cmpKind_ne PySem.F.cmpSplit_ne t2 (PySem.F.cmpArgs_ne _ _) (wpAny_mono inner (fun fin s' q => ?_) fun _ _ e => e))))
    obtain ⟨b, rfl, q⟩ := q
    exact wpAny_pure (wpAny_pure ⟨_, rfl, q⟩)
  split
  · exact wpAny_bind (wpAny_of_eq (bind_ne _) (wpAny_pure (by exact fin)))
  · exact wpAny_tryCatch (wpAny_bind (wpAny_of_eq (bind_ne _) (wpAny_pure (by exact fin))))
end
end Own
set_option maxRecDepth 100000
set_option maxHeartbeats 4000000
namespace Own
open PySem PySem.Spec PyProof.Rows L2
open AutoSeq1 (wpAny_loadPart')
section
variable {X : Cx} {CX : CXT} {k : Nat} {C f : Addr} {fd : FuncData} {ps : List Str} {sp : Sp} {E : XK}
theorem op_neL (F : FnOk X.prog X.w X.K X.mg X.base CX k f fd ps sp) (hr : Room (k + 1) X.A) (hs : PySem.W.findIn X.K (.ref C) "__eq__" = some (some (.ref f))) (hn : PySem.W.findIn X.K (.ref C) "__ne__" = some (some (.builtin "object.__ne__")))
    (hO : PySem.W.subIn X.K (.ref C) (.type "object") = some true) (hf : PySem.W.isFn X.K (.ref f) = true) (hN : PySem.W.notFirst X.K C (.type "int") = true) (hb : Binds X.K fd ps []) (hx : Passes CX X E) : OpR X (compareOp .NotEq) (rEqL C sp E fun b => !b) := by
  intro pins s σ H x y u v Q I rx ry h
  obtain ⟨a, dx, fs, rfl, ha, hy, hsp⟩ := h
  cases rx
  have one := try_ne F hr hs hn hO hf hb hx I ha ry hsp
  obtain ⟨mA, J, _⟩ := ins_get I.hok ha
  obtain ⟨od, J, _⟩ := J.look
  have KX := I.kIn
  have go : ∀ t : Value, PySem.W.Looks (model X.prog X.w) s.heap (typeOf v) t → PySem.W.notFirst X.K C t = true → wpAny (model X.prog X.w) X.A (richCompare .NotEq (.ref a) v) (EP X pins σ Q) X.xe s := fun t hT hn => by
    unfold richCompare
    simp only [oneThing_ref, cmpInfo_NotEq]
    refine wpAny_holding (wpAny_bind (wpAny_cRoomFor hr.units0 ?_))
    refine wpAny_bind (J.type.here (wpAny_bind (hT.here ?_)))
    split
    · rename_i q
      have e : PySem.W.subIn X.K t (.ref C) = some false := by
        rcases Bool.or_eq_true_iff.mp hn with e | e
        · rw [beq_iff_eq.mp e] at q; simp at q
        · exact beq_iff_eq.mp e
      refine wpAny_bind ((PySem.W.looks_subIn KX e).here ?_)
      simp only [Bool.false_eq_true, if_false]
      refine wpAny_bind (wpAny_mono one (fun r s' z => ?_) fun _ _ e => e)
      obtain ⟨v, rfl, hq⟩ := z
      exact wpAny_pure hq
    · refine wpAny_bind (wpAny_pure ?_)
      simp only [Bool.false_eq_true, if_false]
      refine wpAny_bind (wpAny_mono one (fun r s' z => ?_) fun _ _ e => e)
      obtain ⟨v, rfl, hq⟩ := z
      exact wpAny_pure hq
  show wpAny (model X.prog X.w) X.A (richCompare .NotEq (.ref a) v) (EP X pins σ Q) X.xe s
  rcases hy with ⟨j, rfl⟩ | ⟨b, dy, gs, rfl, hb'⟩
  · obtain ⟨t, rfl⟩ := ry
    exact go (.type "int") (PySem.W.Looks.of_pure rfl) hN
  · cases ry
    obtain ⟨mB, J', _⟩ := ins_get I.hok hb'
    obtain ⟨od', J', _⟩ := J'.look
    exact go (.ref C) J'.type (by simp [PySem.W.notFirst])
/-- int == instance, int != instance: the int declines -/
theorem refl_cmp {op : CmpOp} {pins : List (Addr × Obj)} {σ : L2.St} {H : Hp} {s : Shared} {i : Int} {t : Tok} {a dx : Addr} {fs : List (Str × V)} {Q : VK} {id : String} {B : Builtin} (hr : Room k X.A) (I : Inv X pins σ H s) (ha : H a = some (.ins C dx fs))
    (hsub : PySem.W.subIn X.K (.ref C) (.type "int") = some false) (slot : Slot "int" (cmpInfo op).2.1 id) (entry : entryFor table id = some B) (args : ∀ a b, argsOk id ⟨[a, b], []⟩)
    (dec : ∀ (b : Int) (u : Tok) (l : Addr) (C dx : Addr), Meets (B ⟨[.int b u, .ref l], []⟩) (fun _ R s => s.heap.get? l = some (PySem.W.instObj C dx) ∧ R (.ok (.ret .notImplemented)) s))
    (one : wpAny (model X.prog X.w) X.A (tryCompare (.ref a) (cmpInfo op).2.2 (.int i t)) (fun r s' => ∃ v, r = some v ∧ EP X pins σ Q v s') X.xe s) :
    wpAny (model X.prog X.w) X.A (richCompare op (.int i t) (.ref a)) (EP X pins σ Q) X.xe s := by
  obtain ⟨mA, O, _⟩ := ins_get I.hok ha
  obtain ⟨od, J, _⟩ := O.look
  have ho : s.heap.get? a = some (PySem.W.instObj C dx) := by
    obtain ⟨_, _, _, e, _⟩ := I.hok a _ ha
    exact e
  have KX := I.kIn
  have hT := typeIs_int s i t
  unfold richCompare
  simp only [hT.oneThing_none]
  refine wpAny_holding (wpAny_bind (wpAny_cRoomFor hr.units0 ?_))
  refine wpAny_bind (wpAny_typeOf hT (wpAny_bind (J.type.here ?_)))
  have hne1 : (Value.type "int" != Value.ref C) = true := rfl
  simp only [hne1, if_true]
  refine wpAny_bind ((PySem.W.looks_subIn KX hsub).here ?_)
  simp only [Bool.false_eq_true, if_false, Bool.not_false, if_true]
  refine wpAny_bind (m := tryCompare (.int i t) _ (.ref a)) (wpAny_tryCompare_declines hT slot (call_meets slot hT entry (args _ _) (dec i t a C dx) ⟨ho, rfl, ?_⟩))
  refine wpAny_bind (wpAny_mono one (fun r s' z => ?_) fun _ _ e => e)
  obtain ⟨v, rfl, hq⟩ := z
  exact wpAny_pure hq
theorem int_eq_dec (b : Int) (u : Tok) (l : Addr) (C dx : Addr) :
    Meets (Builtin.«int.__eq__» ⟨[.int b u, .ref l], []⟩) (fun _ R s => s.heap.get? l = some (PySem.W.instObj C dx) ∧ R (.ok (.ret .notImplemented)) s) :=
  .of_wp fun prog w A R s h => by obtain ⟨hp, g, d, tk, os⟩ := s; obtain ⟨hl, h⟩ := h; wp_walk using wpAny_loadPart' hl, wpAny_load hl; exact ⟨_, rfl, h⟩
theorem int_ne_dec (b : Int) (u : Tok) (l : Addr) (C dx : Addr) :
    Meets (Builtin.«int.__ne__» ⟨[.int b u, .ref l], []⟩) (fun _ R s => s.heap.get? l = some (PySem.W.instObj C dx) ∧ R (.ok (.ret .notImplemented)) s) :=
  .of_wp fun prog w A R s h => by obtain ⟨hp, g, d, tk, os⟩ := s; obtain ⟨hl, h⟩ := h; wp_walk using wpAny_loadPart' hl, wpAny_load hl; exact ⟨_, rfl, h⟩
theorem int_ge_dec (b : Int) (u : Tok) (l : Addr) (C dx : Addr) :
    Meets (Builtin.«int.__ge__» ⟨[.int b u, .ref l], []⟩) (fun _ R s => s.heap.get? l = some (PySem.W.instObj C dx) ∧ R (.ok (.ret .notImplemented)) s) :=
  .of_wp fun prog w A R s h => by obtain ⟨hp, g, d, tk, os⟩ := s; obtain ⟨hl, h⟩ := h; wp_walk using wpAny_loadPart' hl, wpAny_load hl; exact ⟨_, rfl, h⟩
theorem int_gt_dec (b : Int) (u : Tok) (l : Addr) (C dx : Addr) :
    Meets (Builtin.«int.__gt__» ⟨[.int b u, .ref l], []⟩) (fun _ R s => s.heap.get? l = some (PySem.W.instObj C dx) ∧ R (.ok (.ret .notImplemented)) s) :=
  .of_wp fun prog w A R s h => by obtain ⟨hp, g, d, tk, os⟩ := s; obtain ⟨hl, h⟩ := h; wp_walk using wpAny_loadPart' hl, wpAny_load hl; exact ⟨_, rfl, h⟩
theorem int_add_dec (b : Int) (u : Tok) (l : Addr) (C dx : Addr) :
    Meets (Builtin.«int.__add__» ⟨[.int b u, .ref l], []⟩) (fun _ R s => s.heap.get? l = some (PySem.W.instObj C dx) ∧ R (.ok (.ret .notImplemented)) s) :=
  .of_wp fun prog w A R s h => by obtain ⟨hp, g, d, tk, os⟩ := s; obtain ⟨hl, h⟩ := h; wp_walk using wpAny_loadPart' hl, wpAny_load hl; exact ⟨_, rfl, h⟩
theorem int_sub_dec (b : Int) (u : Tok) (l : Addr) (C dx : Addr) :
    Meets (Builtin.«int.__sub__» ⟨[.int b u, .ref l], []⟩) (fun _ R s => s.heap.get? l = some (PySem.W.instObj C dx) ∧ R (.ok (.ret .notImplemented)) s) :=
  .of_wp fun prog w A R s h => by obtain ⟨hp, g, d, tk, os⟩ := s; obtain ⟨hl, h⟩ := h; wp_walk using wpAny_loadPart' hl, wpAny_load hl; exact ⟨_, rfl, h⟩
theorem int_mul_dec (b : Int) (u : Tok) (l : Addr) (C dx : Addr) :
    Meets (Builtin.«int.__mul__» ⟨[.int b u, .ref l], []⟩) (fun _ R s => s.heap.get? l = some (PySem.W.instObj C dx) ∧ R (.ok (.ret .notImplemented)) s) :=
  .of_wp fun prog w A R s h => by obtain ⟨hp, g, d, tk, os⟩ := s; obtain ⟨hl, h⟩ := h; wp_walk using wpAny_loadPart' hl, wpAny_load hl; exact ⟨_, rfl, h⟩
theorem op_eqR (F : FnOk X.prog X.w X.K X.mg X.base CX k f fd ps sp) (hr : Room k X.A) (hs : PySem.W.findIn X.K (.ref C) "__eq__" = some (some (.ref f))) (hf : PySem.W.isFn X.K (.ref f) = true) (hsub : PySem.W.subIn X.K (.ref C) (.type "int") = some false) (hb : Binds X.K fd ps []) (hx : Passes CX X E) :
    OpR X (compareOp .Eq) (rEqR C sp E fun b => b) := by
  intro pins s σ H x y u v Q I rx ry h
  obtain ⟨i, a, dx, fs, rfl, rfl, ha, hsp⟩ := h
  obtain ⟨t, rfl⟩ := rx
  cases ry
  obtain ⟨mA, O, _⟩ := ins_get I.hok ha
  obtain ⟨od, J, _⟩ := O.look
  refine refl_cmp (op := .Eq) hr I ha hsub PySem.F.slot_int_eq PySem.F.entry_int_eq PySem.F.args_int_eq_2 int_eq_dec ?_
  unfold tryCompare
  have r2 : Vals [V.ref a, V.int i] [Value.ref a, Value.int i t] := .cons rfl (.cons ⟨t, rfl⟩ .nil)
  refine wpAny_bind (PySem.W.ifBound_K I.kIn J hs hf (wpAny_mono (run_fn F hr hb .nil hx I r2 hsp) (fun v s' hv => ?_) fun _ _ e => e))
  obtain ⟨v', H', I', rv, b, rfl, q⟩ := hv
  cases rv
  exact wpAny_pure ⟨_, rfl, .bl b, H', I', rfl, q⟩
theorem op_neR (F : FnOk X.prog X.w X.K X.mg X.base CX k f fd ps sp) (hr : Room (k + 1) X.A) (hs : PySem.W.findIn X.K (.ref C) "__eq__" = some (some (.ref f))) (hn : PySem.W.findIn X.K (.ref C) "__ne__" = some (some (.builtin "object.__ne__")))
    (hO : PySem.W.subIn X.K (.ref C) (.type "object") = some true) (hf : PySem.W.isFn X.K (.ref f) = true) (hsub : PySem.W.subIn X.K (.ref C) (.type "int") = some false) (hb : Binds X.K fd ps []) (hx : Passes CX X E) : OpR X (compareOp .NotEq) (rEqR C sp E fun b => !b) := by
  intro pins s σ H x y u v Q I rx ry h
  obtain ⟨i, a, dx, fs, rfl, rfl, ha, hsp⟩ := h
  obtain ⟨t, rfl⟩ := rx
  cases ry
  exact refl_cmp (op := .NotEq) (hr.mono (Nat.le_succ k)) I ha hsub PySem.F.slot_int_ne PySem.F.entry_int_ne PySem.F.args_int_ne_2 int_ne_dec (try_ne F hr hs hn hO hf hb hx I ha (y := .int i) ⟨t, rfl⟩ hsp)
/-- abs of an instance -/
def rAbs (C : Addr) (sp : Sp) (E : XK) : List V → Hp → VK → Prop := fun xs H Q => ∃ a dx fs, xs = [.ref a] ∧ H a = some (.ins C dx fs) ∧ sp [.ref a] H Q E
theorem call_ownAbs (F : FnOk X.prog X.w X.K X.mg X.base CX k f fd ps sp) (hr : Room (k + 1) X.A) (hs : PySem.W.findIn X.K (.ref C) "__abs__" = some (some (.ref f))) (hf : PySem.W.isFn X.K (.ref f) = true) (hb : Binds X.K fd ps []) (hx : Passes CX X E) :
    CallR X (.builtin "abs") (rAbs C sp E) := by
  intro pins s σ H xs us Q I r h
  obtain ⟨a, dx, fs, rfl, ha, hsp⟩ := h
  obtain ⟨u, rfl, ru⟩ := vals1 r
  obtain rfl : u = Value.ref a := ru
  obtain ⟨mA, J, _⟩ := ins_get I.hok ha
  obtain ⟨od, J, _⟩ := J.look
  have inner : wpAny (model X.prog X.w) X.A.in1 (Builtin.«abs» ⟨[.ref a], []⟩) (fun fin s' => ∃ v, fin = .done (.ret v) ∧ EP X pins σ Q v s') X.xe s := by
    unfold Builtin.«abs»
    repeat (first | ((fail_if_success (with_reducible show wpAny _ _ (callSpecial? _ _ _) _ _ _)); wp_step))
    refine PySem.W.special_fn I.kIn J hs (beq_iff_eq.mp hf) (wpAny_mono (run_fnA F hr.in1 rfl hb hx I (vs := [.ref a]) (.cons rfl .nil) hsp) (fun w s' q => ?_) fun _ _ e => e)
    exact wpAny_pure ⟨_, rfl, q⟩
  refine wpAny_call (codeAny_call_builtin (b := Builtin.«abs») (by decide +kernel) (entryFor_of_tree (by kernel_rfl)) ?_)
  have hchk : checkBuiltinCall "abs" ⟨[.ref a], []⟩ = pure () := by kernel_rfl
  refine wpAny_of_eq hchk (wpAny_mono inner (fun fin s' q => ?_) fun _ _ e => e)
  obtain ⟨v, rfl, q⟩ := q
  exact q
end
end Own
set_option maxRecDepth 100000
set_option maxHeartbeats 4000000
/-! x(*y, e, ..): a starred argument first, others behind it. -/
namespace Own
open PySem PySem.Spec PyProof.Rows L2 StX
theorem args_sf {M : Model} {A : Around} {E : Value → Shared → Prop} {s : Shared} {f : Value} {x : Sem Value} {y : Bool × Sem Value} {rest : List (Bool × Sem Value)} {Q : Args → Shared → Prop}
    (h : wpAny M A (spliced ((true, x) :: y :: rest)) (fun vs s' => Q ⟨vs, []⟩ s') E s) : wpAny M A (evalArgs f true ((true, x) :: y :: rest) []) Q E s := by
  unfold evalArgs
  show wpAny M A (spliced ((true, x) :: y :: rest) >>= _) Q E s
  refine wpAny_bind (wpAny_mono h (fun vs s' q => ?_) fun _ _ x => x)
  exact wpAny_holding (wpAny_bind (wpAny_pure (wpAny_bind (wpAny_pure (wpAny_pure q)))))
section
variable {X : Cx} {CX : CXT} {k : Nat} {f : Addr} {sp : Sp} {E : XK} {x : Str} {e e2 : Expr} {es : List Expr} {te : TE} {t : TA} {p sp_ pos : Pos}
theorem pe_callSF (F : FnR X.prog X.w X.K X.mg X.base CX k f sp) (hr : Room k X.A) (hk : PySem.W.keepIn X.K (.ref f) = true) (hg : Gl X x) (hm : X.mg x = some (.ref f)) (hx : Passes CX X E) (he : PE X e te) (ha : PA X (e2 :: es) t) (hd : (x == ("__debug__" : Str)) = false := by decide)
    (hst : starEach (.Starred e sp_ :: e2 :: es) X.env = (true, eval e X.env) :: (false, eval e2 X.env) :: starEach es X.env := by rfl) (hs2 : starEach (.Starred e sp_ :: e2 :: es) X.env = (true, eval e X.env) :: starEach (e2 :: es) X.env := by rfl) :
    PE X (.Call (.Name x p) (.Starred e sp_ :: e2 :: es) [] pos) (fun σ H Q => te σ H fun y H1 => ∃ a xs, y = V.ref a ∧ (SqT X.K H1 a xs ∨ SqL X.K H1 a xs) ∧ t σ H1 fun ys H2 => sp (xs ++ ys) H2 Q E) := by
  refine ⟨fun pins s σ H Q I h => ?_⟩
  refine wpAny_Call_Name_kw (ld_glob I hg hm ?_ hd)
  have go : wpAny (model X.prog X.w) X.A (spliced (backTo pos (starEach (.Starred e sp_ :: e2 :: es) X.env))) (fun vs s1 => X.K.In s1.heap ∧ wpAny (model X.prog X.w) X.A (call (.ref f) ([] ++ vs)) (EP X pins σ Q) X.xe s1) X.xe s := by
    refine PySem.W.items_star (thn (he.run pins s σ H _ I h) fun v s1 z => ?_) hs2
    obtain ⟨y, H1, I1, ry, a, xs, ey, hxs, q⟩ := z
    subst ey
    obtain rfl : v = Value.ref a := ry
    refine star_any I1 hxs fun us s2 I2 rv => ?_
    refine thn (ha.run pos pins s2 σ H1 _ I2 q) fun ws s3 z => ?_
    obtain ⟨vs, H3, I3, r3, q3⟩ := z
    exact ⟨I3.kIn, wpAny_call (run_fnR F hr hx I3 (rv.append r3) q3)⟩
  rw [hst] at go ⊢
  exact PySem.W.ks_call rfl (PySem.W.keeps_K hk) (args_sf go)
end
/-! f(k = v, ..) with keywords alone -/
def tCallK0 (n : Nat) (sp : Sp) (gV : List V → List V → List V) (E : XK) (tk : TA) : TE := fun σ H Q => tk σ H fun zs H1 => zs.length = n ∧ sp (gV [] zs) H1 Q E
section
variable {X : Cx} {CX : CXT} {k : Nat} {f : Addr} {fd : FuncData} {sp : Sp} {E : XK} {x : Str} {p pos : Pos} {ps ks : List Str} {kws : List Keyword} {tk : TA} {g : List Value → List Value → List Value} {gV : List V → List V → List V}
theorem pe_callK0 (F : FnOk X.prog X.w X.K X.mg X.base CX k f fd ps sp) (hr : Room k X.A) (hg : Gl X x) (hm : X.mg x = some (.ref f)) (hk : PySem.W.keepIn X.K (.ref f) = true) (hb : KBn X.K fd ps 0 ks g gV) (hx : Passes CX X E) (hkw : PK X kws tk)
    (hall : (backToKw pos (keywordEach kws X.env)).all (·.1.isSome) = true := by rfl) (hks : (backToKw pos (keywordEach kws X.env)).filterMap (·.1) = ks := by rfl)
    (hdb : (x == ("__debug__" : Str)) = false := by decide) (hpl : ((backTo pos (starEach [] X.env)).any (·.1) || (backToKw pos (keywordEach kws X.env)).any (·.1.isNone)) = false := by rfl) :
    PE X (.Call (.Name x p) [] kws pos) (tCallK0 ks.length sp gV E tk) := by
  refine ⟨fun pins s σ H Q I h => ?_⟩
  refine wpAny_Call_Name_kw (ld_glob I hg hm ?_ hdb)
  refine PySem.W.callWith_KW0 (first := []) (h₀ := X.base) I.ok.mod.kin hk hall (thn (hkw.run pos pins s σ H _ I h) fun ws s2 ⟨zs, H2, I2, rz, hl, q2⟩ => ⟨I2.kIn, ?_⟩) hpl
  rw [hks]
  exact run_fnN (us := []) (vs := []) F hr hb hx I2 .nil rz rfl hl q2
end
end Own
set_option maxRecDepth 100000
set_option maxHeartbeats 4000000
/-! Several except clauses, with and without a name. -/
namespace Own
open PySem PySem.Spec PyProof.Rows L2
/-- an exception of the body, come down, ahead of a clause -/
structure Dn (X : Cx) (pins : List (Addr × Obj)) (a : Addr) (cls : Value) (d : Option Addr) (σ : L2.St) (H : Hp) (B : Heap) (sI s : Shared) : Prop where
  J : Inv X pins σ H sI
  nb : ∀ b o, sI.heap.get? b = some o → b ∉ frs X.stack → B.get? b = some o
  up : sI.heap.UpToSlots s.heap
  fl : HandSPX.FlyingZ B (X.env :: X.outer) a (Zc cls d) s.heap
  na : H a = none
  os : s.os = sI.os
  ag : AllBare s.gens
section
variable {X : Cx} {pins : List (Addr × Obj)} {a : Addr} {cls : Value} {d : Option Addr} {σ : L2.St} {H : Hp} {B : Heap} {sI s : Shared}
theorem Dn.inv (k : Dn X pins a cls d σ H B sI s) : Inv X pins σ H s := k.J.landed k.nb k.fl.1 k.up k.os k.ag
theorem Dn.out (k : Dn X pins a cls d σ H B sI s) : a ∉ frs (X.env :: X.outer) := fun hm => by
  obtain ⟨oe, vs, he, _, hd⟩ := k.fl.there
  obtain ⟨_, o', e', hnf⟩ := k.fl.2.2.1.mem hm
  rw [he] at e'; cases e'
  exact hnf _ hd
theorem Dn.nL (k : Dn X pins a cls d σ H B sI s) (hf : X.env.frame = some X.env.locals) : a ≠ X.env.locals := fun z => k.out (by
  rw [z]
  exact List.mem_filterMap.mpr ⟨X.env, List.mem_cons_self, hf⟩)
theorem Dn.nF (k : Dn X pins a cls d σ H B sI s) : a ∉ X.fs := fun hm => by
  obtain ⟨e, he, q⟩ := List.mem_filterMap.mp hm
  exact k.out (List.mem_filterMap.mpr ⟨e, List.mem_cons_of_mem _ he, q⟩)
/-- what the clauses hds do with an exception for which w holds -/
def Cl (X : Cx) (hds : List ExceptHandler) (w : Ends → WX) : Prop :=
  ∀ (pins : List (Addr × Obj)) (a : Addr) (cls : Value) (d : Option Addr) (σ : L2.St) (H : Hp) (B : Heap) (sI s : Shared) (D : Ends), Dn X pins a cls d σ H B sI s → w D cls d σ H →
    wpAny (model X.prog X.w) X.A (handleBy (.ref a) X.env hds) (SP X pins D) X.xe s
theorem cl_nil {Wout : WX} (hs : X.stack = X.env :: X.outer) (hf : X.env.frame = some X.env.locals) (tk : Takes X Wout) : Cl X [] fun _ => Wout := by
  intro pins a cls d σ H B sI s D k w
  refine wpAny_handleBy_nil ?_
  obtain ⟨k1, k2, k3, oe, vs, T, oT, ts', he, hz, hd, h1, hr⟩ := id k.fl
  unfold PySem.passOn
  refine wpAny_bind (wpAny_field he hd h1 ?_)
  rw [if_neg (show ¬ ((Value.ref T == Value.none) = true) from by simp)]
  have go : wpAny (model X.prog X.w) X.A (setFlight (.ref a) X.env.frame) (fun _ s2 => wpAny (model X.prog X.w) X.A (throw (.ref a) : Sem Flow) (SP X pins D) X.xe s2) X.xe s := by
    rw [hf]
    exact HandSPX.setFlight_upZ k.fl fun h2 hh up => wpAny_throw (tk _ _ ⟨a, B, sI, pins, σ, H, cls, d, rfl, k.J, k.nb, k.up.trans up, .inr (.inr (by rw [hs]; exact hh)), k.na, k.os, k.ag, w⟩)
  first
    | exact wpAny_bind (wpAny_pure (wpAny_bind go))
    | exact wpAny_bind go
/-- the clause's class is looked up and compared -/
theorem Dn.ask {x : Str} {np : Pos} {c : Value} {b : Bool} {Q : Bool → Shared → Prop} {E : Value → Shared → Prop} (k : Dn X pins a cls d σ H B sI s) (hf : X.env.frame = some X.env.locals) (hc : Names X x c) (hb : PySem.W.exmOne X.K cls c = some b) (q : Q b s) :
    wpAny (model X.prog X.w) (X.A.mark (some (.ref a))) (eval (.Name x np) X.env) (fun c s₁ => wpAny (model X.prog X.w) (X.A.mark (some (.ref a))) (excMatches (.ref a) c) Q E s₁) E s := by
  obtain ⟨oe, vs, he, hz, hd⟩ := k.fl.there
  have S := k.inv.suite he hd k.na (k.nL hf) k.nF
  have ty : PySem.W.Looks (model X.prog X.w) s.heap (typeOf (.ref a)) cls := fun A Q E s k q => wpAny_typeOf_ref (k _ _ he) (by rw [hz.1]; exact q)
  have em := PySem.W.exm_one (M := model X.prog X.w) k.inv.kIn ty hb
  obtain ⟨hg, hdb, hm | ⟨hm, hv, hnn⟩⟩ := hc
  · exact ld_glob (X := X.suite a ((a, oe) :: (X.pn ++ pins))) S hg hm (em.here q) hdb
  · exact ld_blt (X := X.suite a ((a, oe) :: (X.pn ++ pins))) S hg hm hv (em.here q) hnn hdb
theorem cl_on {x : Str} {c : Value} {ts : Addr → Value → Option Addr → TS} {b₀ : Stmt} {suite : List Stmt} {np pos : Pos} {hds : List ExceptHandler} {w : Ends → WX} (hf : X.env.frame = some X.env.locals) (hc : Names X x c)
    (hsu : ∀ (a : Addr) (oe : Obj) (cls : Value) (d : Option Addr) (pn : List (Addr × Obj)), Zc cls d oe → (∃ vs, oe.data = .fields vs) → PSs (X.suite a ((a, oe) :: pn)) (b₀ :: suite) (ts a cls d)) (r : Cl X hds w) :
    Cl X (.ExceptHandler (some (.Name x np)) none (b₀ :: suite) pos :: hds) fun D cls d σ H => ∃ b, PySem.W.exmOne X.K cls c = some b ∧ (b = true → ∀ a, H a = none → ts a cls d D σ H) ∧ (b = false → w D cls d σ H) := by
  intro pins a cls d σ H B sI s D k ⟨b, hb, yes, no⟩
  refine wpAny_handleBy_cons (codeAny_handlers_test (k.ask hf hc hb ?_)) (by intro q; cases q)
  cases b with
  | false => exact r pins a cls d σ H B sI s D k (no rfl)
  | true =>
    refine codeAny_handlers_suite (HandSPX.lands_againZ k.fl fun h2 fl2 up2 => ?_)
    have k2 : Dn X pins a cls d σ H B sI { s with heap := h2 } := ⟨k.J, k.nb, k.up.trans up2, fl2, k.na, k.os, k.ag⟩
    obtain ⟨oe, vs, he, hz, hd⟩ := fl2.there
    have S := k2.inv.suite he hd k.na (k.nL hf) k.nF
    refine wpAny_mono ((hsu a oe cls d (X.pn ++ pins) hz ⟨_, hd⟩).run [] _ σ H _ S (yes rfl a k.na)) (fun f s3 hsp => ?_) (fun _ _ z => False.elim z)
    have ok := k.J.ok
    cases f with
    | next => obtain ⟨σ3, H3, S3, q3⟩ := hsp; exact ⟨σ3, H3, S3.unsuite ok, q3⟩
    | brk => obtain ⟨σ3, H3, S3, q3⟩ := hsp; exact ⟨σ3, H3, S3.unsuite ok, q3⟩
    | cont => obtain ⟨σ3, H3, S3, q3⟩ := hsp; exact ⟨σ3, H3, S3.unsuite ok, q3⟩
    | ret u => obtain ⟨v3, σ3, H3, S3, r3, q3⟩ := hsp; exact ⟨v3, σ3, H3, S3.unsuite ok, r3, q3⟩
/-- what is wanted behind a suite whose name goes -/
def Ends.gone (D : Ends) (i : Nat) : Ends := { nx := fun σ H => D.nx (σ.set i none) H, rt := D.rt, bk := fun σ H => D.bk (σ.set i none) H, ct := fun σ H => D.ct (σ.set i none) H }
theorem cl_as {x n : Str} {c : Value} {i : Nat} {ts : Addr → Value → Option Addr → TS} {b₀ : Stmt} {suite : List Stmt} {np pos : Pos} {hds : List ExceptHandler} {w : Ends → WX} (hf : X.env.frame = some X.env.locals) (hN : X.N.Nodup) (hi : X.N[i]? = some n) (hln : X.env.kindOf n = some .local) (hc : Names X x c)
    (hsu : ∀ (a : Addr) (oe : Obj) (cls : Value) (d : Option Addr) (pn : List (Addr × Obj)), Zc cls d oe → (∃ vs, oe.data = .fields vs) → PSs (X.suite a ((a, oe) :: pn)) (b₀ :: suite) (ts a cls d)) (r : Cl X hds w) :
    Cl X (.ExceptHandler (some (.Name x np)) (some n) (b₀ :: suite) pos :: hds) fun D cls d σ H => ∃ b, PySem.W.exmOne X.K cls c = some b ∧ (b = true → σ.length = X.N.length → ∀ a, H a = none → ts a cls d (Ends.gone D i) (σ.set i (some (.ref a))) H) ∧ (b = false → w D cls d σ H) := by
  intro pins a cls d σ H B sI s D k ⟨b, hb, yes, no⟩
  refine wpAny_handleBy_cons (codeAny_handlers_test (k.ask hf hc hb ?_)) (by intro q; cases q)
  cases b with
  | false => exact r pins a cls d σ H B sI s D k (no rfl)
  | true =>
    refine codeAny_handlers_suite_as (HandSPX.lands_againZ k.fl fun h2 fl2 up2 => ?_)
    have k2 : Dn X pins a cls d σ H B sI { s with heap := h2 } := ⟨k.J, k.nb, k.up.trans up2, fl2, k.na, k.os, k.ag⟩
    obtain ⟨oe, vs, he, hz, hd⟩ := fl2.there
    have S := k2.inv.suite he hd k.na (k.nL hf) k.nF
    have ok := k.J.ok
    refine store_ok (X := X.suite a ((a, oe) :: (X.pn ++ pins))) (v := .ref a) S hN hi (.inl hln) rfl (fun s3 S3 => ?_) (.inr hln)
    refine wpAny_mono ((hsu a oe cls d (X.pn ++ pins) hz ⟨_, hd⟩).run [] s3 _ H _ S3 (yes rfl k.J.len a k.na)) (fun f s4 hsp => ?_) (fun _ _ z => False.elim z)
    have bye : ∀ {σ4 : L2.St} {H4 : Hp} {Q : Shared → Prop}, Inv (X.suite a ((a, oe) :: (X.pn ++ pins))) [] σ4 H4 s4 → (∀ s5, Inv X pins (σ4.set i none) H4 s5 → Q s5) →
        wpAny (model X.prog X.w) X.A (do bindName X.env n .none; unbindBehindTheSuite X.env n pos) (fun _ s5 => Q s5) X.xe s4 := fun {σ4 H4 Q} S4 hq => gone_ok (S4.unsuite ok) hN hi hln hq
    cases f with
    | next => obtain ⟨σ4, H4, S4, q4⟩ := hsp; exact bye S4 fun s5 J5 => ⟨_, _, J5, q4⟩
    | brk => obtain ⟨σ4, H4, S4, q4⟩ := hsp; exact bye S4 fun s5 J5 => ⟨_, _, J5, q4⟩
    | cont => obtain ⟨σ4, H4, S4, q4⟩ := hsp; exact bye S4 fun s5 J5 => ⟨_, _, J5, q4⟩
    | ret u => obtain ⟨v4, σ4, H4, S4, r4, q4⟩ := hsp; exact bye S4 fun s5 J5 => ⟨_, _, _, J5, r4, q4⟩
end
section
variable {X : Cx} {body : List Stmt} {h₀ : ExceptHandler} {hds : List ExceptHandler} {pos : Pos} {tb : WX → TS} {w : Ends → WX}
theorem ps_try_cl (hs : X.stack = X.env :: X.outer) (hf : X.env.frame = some X.env.locals)
    (hb : ∀ (W : WX) (pn : List (Addr × Obj)) (xe : Value → Shared → Prop), Takes (X.tr pn xe) W → PassesOwn (model X.prog X.w) X.A X.env xe → PSs (X.tr pn xe) body (tb W)) (hh : Cl X (h₀ :: hds) w) :
    PS X (.Try body (h₀ :: hds) [] [] pos) (fun D σ H => tb (w D) D σ H) := by
  refine ⟨fun pins s σ H D I h => ?_⟩
  have ok := I.ok
  have hfr : X.A.frames = some (X.env :: X.outer) := by rw [ok.frames, hs]
  refine wpAny_Try_except ?_
  have catch_ : Takes (X.tr (X.pn ++ pins) fun e s₁ => wpAny (model X.prog X.w) X.A (noteFrame e X.env) (fun _ s₂ => wpAny (model X.prog X.w) X.A (setFlight e none) (fun _ s₃ =>
      wpAny (model X.prog X.w) X.A (handleBy e X.env (h₀ :: hds)) (SP X pins D) X.xe s₃) X.xe s₂) X.xe s₁) (w D) := fun u s' xx => by
    obtain ⟨a, B, sI, pins', σ', H', cls, d, rfl, J', nb, up, sky, na, os, ag, ww⟩ := xx
    have sky' : Sky B (X.env :: X.outer) a (Zc cls d) X.env.locals s'.heap := by rw [← hs]; exact sky
    exact Sky.land Zc.steady hfr hf sky' fun h3 fl3 up3 => hh pins a cls d σ' H' B sI _ D ⟨J'.ofTry ok, nb, up.trans up3, fl3, na, os, ag⟩ ww
  refine wpAny_mono ((hb (w D) (X.pn ++ pins) _ catch_ PassesOwn.looking).run [] s σ H D (I.toTry _) h) (fun f s1 hsp => ?_) (fun e s1 he => he)
  cases f with
  | next => obtain ⟨σ', H', J', q⟩ := hsp; exact wpAny_execs_nil ⟨σ', H', J'.ofTry ok, q⟩
  | brk => obtain ⟨σ', H', J', q⟩ := hsp; exact ⟨σ', H', J'.ofTry ok, q⟩
  | cont => obtain ⟨σ', H', J', q⟩ := hsp; exact ⟨σ', H', J'.ofTry ok, q⟩
  | ret u => obtain ⟨v, σ', H', J', r, q⟩ := hsp; exact ⟨v, σ', H', J'.ofTry ok, r, q⟩
end
end Own
set_option maxRecDepth 100000
set_option maxHeartbeats 4000000
/-! Promises of defs that are called where no object is being shown (for repr), and the end of such a law, with tables of code objects. -/
namespace Own
open PySem PySem.Spec PyProof.Rows L2
structure FnG (P : Program) (w : World) (K : PySem.W.Frag) (mg : Str → Option Value) (base : Heap) (CX : CXT) (k : Nat) (f : Addr) (fd : FuncData) (ps : List Str) (sp : Sp) : Prop where
  len : ∀ vs H Q E, sp vs H Q E → vs.length = ps.length
  run : ∀ (A : Around) (outer : List Env) (s : Shared) (H : Hp) (args : Args) (us : List Value) (vs : List V) (Q : VK) (E : XK), A.guards = some [] → Room k A → Env0 P w K mg base A outer s H → BindsTo s fd args (ps.zip us) → Vals vs us →
    sp vs H Q E → codeAny (model P w) A (.call (.ref f) args) (CR CX outer P w H s Q E) s
section
variable {P : Program} {w : World} {K : PySem.W.Frag} {mg : Str → Option Value} {base : Heap} {x qual : Str} {st : Stmt} {f c : Addr} {fd : FuncData} {N ps : List Str} {k : Nat} {sp : Sp}
theorem okG (F : Fun K x qual st f fd) (S : FnScope N ps (defScope st)) (len : ∀ vs H Q E, sp vs H Q E → vs.length = ps.length)
    (hbody : ∀ (cdv : Value) (A : Around) (outer : List Env) (s : Shared) (H : Hp) (vs : List V) (Q : VK) (E : XK), A.guards = some [] → Room k (A.deeper (envOfC qual (defScope st) s.heap.objs.size f cdv)) → sp vs H Q E →
      ∃ t, PSs (cxOf CX0 P w K mg base N qual (defScope st) f cdv A outer s H E).nox (defBody st) t ∧ t { nx := fun _ H' => Q .non H', rt := Q } (start N vs) H) : FnG P w K mg base CX0 (k + 1) f fd ps sp := by
  obtain ⟨oc, od, kV, doc, pm, an, cdv, ct, osl, rfl, lk, hcd⟩ := F.ex
  refine ⟨len, fun A outer s H args us vs Q E hg hr e0 hb r hsp => LamX.run_ofS lk hcd S hr e0 hb r (len _ _ _ _ hsp) fun hr2 => ?_⟩
  obtain ⟨t, h, q⟩ := hbody cdv A outer s H vs Q E hg hr2 hsp
  exact ⟨t, h.nox, q⟩
/-- its code object is known -/
theorem okC (F : Fun K x qual st f fd) (hc : fd.code = .ref c) (S : FnScope N ps (defScope st)) (len : ∀ vs H Q E, sp vs H Q E → vs.length = ps.length)
    (hbody : ∀ (A : Around) (outer : List Env) (s : Shared) (H : Hp) (vs : List V) (Q : VK) (E : XK), Room k (A.deeper (envOfC qual (defScope st) s.heap.objs.size f (.ref c))) → sp vs H Q E →
      ∃ t, PSs (cxOf CX0 P w K mg base N qual (defScope st) f (.ref c) A outer s H E).nox (defBody st) t ∧ t { nx := fun _ H' => Q .non H', rt := Q } (start N vs) H) : FnOk P w K mg base CX0 (k + 1) f fd ps sp := by
  obtain ⟨oc, od, kV, doc, pm, an, cdv, ct, osl, rfl, lk, hcd⟩ := F.ex
  obtain rfl : cdv = .ref c := hc
  refine fn_of lk hcd S len fun A outer s H vs Q E hr hsp => ?_
  obtain ⟨t, h, q⟩ := hbody A outer s H vs Q E hr hsp
  exact ⟨t, h.nox, q⟩
end
section
variable {X : Cx} {CX : CXT} {k : Nat} {f : Addr} {fd : FuncData} {ps : List Str} {sp : Sp} {E : XK} {x : Str} {e : Expr} {es : List Expr} {t : TA} {p pos : Pos}
theorem run_fnG {pins : List (Addr × Obj)} {σ : L2.St} {H : Hp} {s : Shared} {Q : VK} {us : List Value} {vs : List V} (F : FnG X.prog X.w X.K X.mg X.base CX k f fd ps sp) (hg : X.A.guards = some []) (hr : Room k X.A) (hb : Binds X.K fd ps []) (hx : Passes CX X E)
    (I : Inv X pins σ H s) (r : Vals vs us) (h : sp vs H Q E) : wpAny (model X.prog X.w) X.A (call (.ref f) us) (EP X pins σ Q) X.xe s := by
  have hl : us.length = ps.length := by rw [← r.length]; exact F.len _ _ _ _ h
  have hb2 : BindsTo s fd ⟨us, []⟩ (ps.zip us) := by
    have := hb s us I.kIn (by rw [List.append_nil]; exact hl)
    rwa [List.append_nil] at this
  refine wpAny_call (codeAny_mono (F.run X.A X.stack s H ⟨us, []⟩ us vs Q E hg hr I.env0 hb2 r h) fun r s' hq => ?_)
  match r, hq with
  | .error e, hq => exact hx pins σ H s e s' I hq
  | .ok (.ret u), hq => exact I.after hq
  | .ok .next, hq => exact False.elim hq
  | .ok .brk, hq => exact False.elim hq
  | .ok .cont, hq => exact False.elim hq
theorem pe_callG (F : FnG X.prog X.w X.K X.mg X.base CX k f fd ps sp) (hg : X.A.guards = some []) (hr : Room k X.A) (hn : Gl X x) (hm : X.mg x = some (.ref f)) (hk : PySem.W.keepIn X.K (.ref f) = true) (hb : Binds X.K fd ps []) (hx : Passes CX X E)
    (ha : PA X (e :: es) t) (hdb : (x == ("__debug__" : Str)) = false := by decide) (he : starEach (e :: es) X.env = (false, eval e X.env) :: starEach es X.env := by rfl) (hpl : (backTo pos (starEach es X.env)).any (·.1) = false := by rfl) :
    PE X (.Call (.Name x p) (e :: es) [] pos) (fun σ H Q => t σ H fun vs H1 => sp vs H1 Q E) := by
  refine ⟨fun pins s σ H Q I h => wpAny_Call_Name_kw (ld_glob I hn hm ?_ hdb)⟩
  refine PySem.W.callWith_K (h₀ := X.base) I.ok.mod.kin hk (thn (ha.run pos pins s σ H _ I h) fun us s1 z => ?_) he hpl
  obtain ⟨vs, H1, I1, r, q⟩ := z
  exact ⟨I1.kIn, run_fnG F hg hr hb hx I1 r q⟩
/-- repr of data -/
def rRepr (K : PySem.W.Frag) : List V → Hp → VK → Prop := fun xs H Q => ∃ a d, xs = [.ref a] ∧ Dp K H (.ref a) d ∧ d.showable = true ∧ d.hasDict = false ∧ d.depth ≤ 60 ∧ d.shown.length ≤ sizeLine ∧ Q (.str d.shown) H
theorem call_repr (hg : X.A.guards = some []) (hu : X.A.units + 64 < cLine) : CallR X (.builtin "repr") (rRepr X.K) := by
  intro pins s σ H xs us Q I r h
  obtain ⟨a, d, rfl, hd, h1, h2, h3, h4, q⟩ := h
  obtain ⟨u, rfl, ru⟩ := vals1 r
  obtain rfl : u = Value.ref a := ru
  obtain ⟨as, rd⟩ := Dp.reads I d _ _ hd rfl
  exact repr_of_reads' rd h1 (fun e => by rw [h2] at e; cases e) hg (by omega) (fun _ _ e => e) (fun h' u tk hk => ⟨.str d.shown, H, I.kept hk, ⟨u, rfl⟩, q⟩) h4
end

/-! ### the end -/
/-- what is tracked at the law's entry: the tables, and the script unless it is the module's own -/
structure Ent (P : Program) (w : World) (K : PySem.W.Frag) (a : Addr) (cs : List (Addr × Addr)) (h : Heap) (ns : List Int) (H : Hp) : Prop where
  tab : ∀ p ∈ cs, H p.2 = some (.tbl #[])
  scr : SqL K H a (ns.map V.int)
  ok : HOk P w H h
  out : ∀ b u, H b = some u → K.lookup b = none
  only : ∀ b u, H b = some u → (u = .tbl #[] ∧ b ∈ cs.map (·.2)) ∨ (∃ xs o, u = .frz o (.lst xs) ∧ b = a)
theorem ent {P : Program} {w : World} {K : PySem.W.Frag} {a : Addr} {cs : List (Addr × Addr)} {h : Heap} {vs : List Value} {ns : List Int} (KX : K.In h) (hT : ∀ p ∈ cs, h.get? p.2 = some { cls := .none, data := .fields #[] }) (nT : ∀ p ∈ cs, K.lookup p.2 = none)
    (ha : h.get? a = some { cls := .type "list", data := .seq vs.toArray }) (hi : IntsAre vs ns) (hl : ns.length ≤ sizeLine) : ∃ H, Ent P w K a cs h ns H := by
  have rv := vals_ints hi
  have inT : ∀ b, b ∈ cs.map (·.2) → h.get? b = some { cls := .none, data := .fields #[] } ∧ K.lookup b = none := fun b m => by
    obtain ⟨p, hp, rfl⟩ := List.mem_map.mp m
    exact ⟨hT p hp, nT p hp⟩
  have aT : a ∉ cs.map (·.2) := fun m => by
    have z := (inT a m).1
    rw [ha] at z
    exact nomatch congrArg Obj.cls (Option.some.inj z)
  have hm : ∀ p ∈ cs, p.2 ∈ cs.map (·.2) := fun p hp => List.mem_map_of_mem hp
  by_cases hk : K.lookup a = none
  · refine ⟨fun b => if b ∈ cs.map (·.2) then some (.tbl #[]) else if b = a then some (.frz { cls := .type "list", data := .seq vs.toArray } (.lst (ns.map V.int))) else none,
      fun p hp => if_pos (hm p hp), .inl (.inr ⟨{ cls := .type "list", data := .seq vs.toArray }, ?_⟩), fun b u e => ?_, fun b u e => ?_, fun b u e => ?_⟩
    · show (if a ∈ cs.map (·.2) then _ else _) = _
      rw [if_neg aT, if_pos rfl]
    · by_cases m : b ∈ cs.map (·.2)
      · rw [if_pos m] at e
        cases e
        exact (inT b m).1
      · rw [if_neg m] at e
        by_cases eb : b = a
        · rw [if_pos eb] at e
          cases e
          subst eb
          exact ⟨ha, by rw [List.length_map]; exact hl, vs, _, rv, ha⟩
        · rw [if_neg eb] at e
          cases e
    · by_cases m : b ∈ cs.map (·.2)
      · exact (inT b m).2
      · rw [if_neg m] at e
        by_cases eb : b = a
        · rw [eb]; exact hk
        · rw [if_neg eb] at e
          cases e
    · by_cases m : b ∈ cs.map (·.2)
      · rw [if_pos m] at e
        cases e
        exact .inl ⟨rfl, m⟩
      · rw [if_neg m] at e
        by_cases eb : b = a
        · rw [if_pos eb] at e
          cases e
          exact .inr ⟨_, _, rfl, eb⟩
        · rw [if_neg eb] at e
          cases e
  · obtain ⟨o, ho⟩ := Option.ne_none_iff_exists'.mp hk
    have e0 := KX a o ho
    rw [ha] at e0
    cases e0
    refine ⟨fun b => if b ∈ cs.map (·.2) then some (.tbl #[]) else none, fun p hp => if_pos (hm p hp), .inr ⟨_, vs.toArray, _, ho, rfl, rfl, rfl, by rw [List.size_toArray, hi.length]; exact hl, by simpa using rv⟩, fun b u e => ?_, fun b u e => ?_, fun b u e => ?_⟩
    · by_cases m : b ∈ cs.map (·.2)
      · rw [if_pos m] at e
        cases e
        exact (inT b m).1
      · rw [if_neg m] at e
        cases e
    · by_cases m : b ∈ cs.map (·.2)
      · exact (inT b m).2
      · rw [if_neg m] at e
        cases e
    · by_cases m : b ∈ cs.map (·.2)
      · rw [if_pos m] at e
        cases e
        exact .inl ⟨rfl, m⟩
      · rw [if_neg m] at e
        cases e
end Own
set_option maxRecDepth 100000
set_option maxHeartbeats 4000000
namespace Own
open PySem PySem.Spec PyProof.Rows L2
open LamX (TabB)
section
variable {P : Program} {w : World} {K : PySem.W.Frag} {a : Addr} {cs : List (Addr × Addr)} {h : Heap} {vs : List Value} {ns : List Int} {H : Hp}
theorem Ent.none (T : Ent P w K a cs h ns H) (ha : h.get? a = some { cls := .type "list", data := .seq vs.toArray }) {b : Addr} {o : Obj} (e : h.get? b = some o) (h1 : ∀ vs n, o.data ≠ .seq vs n) (h2 : o.data ≠ .fields #[]) : H b = none := by
  cases q : H b with
  | none => rfl
  | some u =>
    rcases T.only b u q with ⟨rfl, _⟩ | ⟨_, _, _, rfl⟩
    · have z : h.get? b = some { cls := .none, data := .fields #[] } := T.ok b _ q
      rw [e] at z
      cases z
      exact absurd rfl h2
    · rw [ha] at e
      cases e
      exact absurd rfl (h1 _ _)
theorem Ent.dict (T : Ent P w K a cs h ns H) (ha : h.get? a = some { cls := .type "list", data := .seq vs.toArray }) {b : Addr} {o : Obj} {es : Array DictEntry} {n : Nat} (e : h.get? b = some o) (d : o.data = .dict es n) : H b = .none := T.none ha e (fun vs n z => nomatch d.symm.trans z) fun z => nomatch d.symm.trans z
theorem Ent.nsp (T : Ent P w K a cs h ns H) (ha : h.get? a = some { cls := .type "list", data := .seq vs.toArray }) {b : Addr} {m : Str → Option Value} (x : h.Ns b m) : (hidT h H).Ns b m := by
  obtain ⟨o, es, n, e, d, r⟩ := x
  exact ⟨o, es, n, hidT_get e (T.dict ha e d), d, r⟩
theorem Ent.kin (T : Ent P w K a cs h ns H) (KX : K.In h) : K.In (hidT h H) := fun b o e => hidT_get (KX b o e) (by
  cases q : H b with
  | none => rfl
  | some u => rw [T.out b u q] at e; cases e)
theorem Ent.tabB (T : Ent P w K a cs h ns H) (ha : h.get? a = some { cls := .type "list", data := .seq vs.toArray }) {mg : Str → Option Value} (hg : h.Ns mainGlobals mg) {c p : Addr} (hP : h.get? p = some { cls := .none, data := .fields #[] }) (C : PySem.W.CodeHd h c p)
    (hbm : ∃ (bm : Addr) (ob : Obj), mg "__builtins__" = some (.ref bm) ∧ bm ≠ builtinsNs ∧ h.get? bm = some ob ∧ ob.cls = .type "module" ∧ ob.dict = some builtinsNs ∧ ob.data = .plain) : TabB (hidT h H) mg c p := by
  obtain ⟨og, es, n, eg, dg, _⟩ := hg
  refine ⟨?_, ?_, fun z => ?_⟩
  · obtain ⟨o, us, file, tf, flags, tg, inF, text, tt, e, r1, r2, r3, r⟩ := C
    refine ⟨o, us, file, tf, flags, tg, inF, text, tt, hidT_get e (T.none ha e (fun _ _ z => nomatch r2.symm.trans z) fun z => ?_), r1, r2, r3, r⟩
    have z2 := r2.symm.trans z
    cases z2
    simp at r3
  · obtain ⟨bm, ob, b1, b2, b3, b4, b5, b6⟩ := hbm
    refine ⟨bm, ob, b1, b2, fun z => ?_, fun z => ?_, hidT_get b3 (T.none ha b3 (fun _ _ z => nomatch b6.symm.trans z) fun z => nomatch b6.symm.trans z), b4, b5, b6⟩
    · rw [z, eg] at b3
      cases b3
      exact nomatch dg.symm.trans b6
    · rw [z, hP] at b3
      cases b3
      exact nomatch b6
  · rw [z, hP] at eg
    cases eg
    exact nomatch dg
/-- from the law's promise, at the heap behind the top -/
theorem law_callG {mg mb : Str → Option Value} {k : Nat} {fa : Addr} {fd : FuncData} {x : Str} {sp : Sp} {s : Shared} (KX : K.In s.heap) (hg : s.heap.Ns mainGlobals mg) (hb : s.heap.Ns builtinsNs mb) (hbb : ∀ x : Str, x ≠ "__name__" → mb x = bootBuiltins x) (hlim : s.heap.NoLimit)
    (hgn : s.gens = #[]) (hT : ∀ p ∈ cs, s.heap.get? p.2 = some { cls := .none, data := .fields #[] }) (nT : ∀ p ∈ cs, K.lookup p.2 = none) (C : ∀ p ∈ cs, PySem.W.CodeHd s.heap p.1 p.2)
    (hbm : ∃ (bm : Addr) (ob : Obj), mg "__builtins__" = some (.ref bm) ∧ bm ≠ builtinsNs ∧ s.heap.get? bm = some ob ∧ ob.cls = .type "module" ∧ ob.dict = some builtinsNs ∧ ob.data = .plain)
    (ha : s.heap.get? a = some { cls := .type "list", data := .seq vs.toArray }) (hi : IntsAre vs ns) (hl : ns.length ≤ sizeLine) (hr : Room k callerA)
    (F : ∀ base : Heap, K.In base → base.Ns mainGlobals mg → (∀ p ∈ cs, TabB base mg p.1 p.2) → FnG P w K mg base CX0 k fa fd [x] sp) (hbind : ∀ (s : Shared) (u : Value), BindsTo s fd ⟨[u], []⟩ [(x, u)])
    (hsp : ∀ H : Hp, (∀ p ∈ cs, H p.2 = some (.tbl #[])) → SqL K H a (ns.map V.int) → sp [.ref a] H (fun v _ => v = .bl true) fun _ _ _ => False) :
    codeAny (model P w) callerA (.call (.ref fa) ⟨[.ref a], []⟩) (fun r s' => r = .ok (.ret (.bool true)) ∧ OldK s.heap s'.heap ∧ s'.os = s.os ∧ AllBare s'.gens) s := by
  obtain ⟨H, T⟩ := ent (P := P) (w := w) KX hT nT ha hi hl
  have KB := T.kin KX
  have GB := T.nsp ha hg
  have TB : ∀ p ∈ cs, TabB (hidT s.heap H) mg p.1 p.2 := fun p hp => T.tabB ha hg (hT p hp) (C p hp) hbm
  have M : L2.Mod K mg (hidT s.heap H) := ⟨KB, GB, ⟨mb, T.nsp ha hb, hbb⟩, by obtain ⟨mc, q1, q2⟩ := hlim; exact ⟨mc, T.nsp ha q1, q2⟩⟩
  have e0 : Env0 P w K mg (hidT s.heap H) callerA [] s H := { frames := rfl, mod := M, bs := fun b o e => of_hidT e, bsz := Nat.le_of_eq (hidT_size _ _), funs := trivial, frf := fun b m => absurd (show b ∈ ([] : List Addr) from m) List.not_mem_nil, hok := T.ok, bare := .of_eq hgn }
  refine codeAny_mono ((F _ KB GB TB).run callerA [] s H ⟨[.ref a], []⟩ [.ref a] [.ref a] _ _ rfl hr e0 (hbind s (.ref a)) (.cons rfl .nil) (hsp H T.tab T.scr)) fun r s' q => ?_
  match r, q with
  | .error e, q => exact False.elim q
  | .ok .next, q => exact False.elim q
  | .ok .brk, q => exact False.elim q
  | .ok .cont, q => exact False.elim q
  | .ok (.ret u), q =>
    obtain ⟨v, H', os, bare, un, ok', rv, qv⟩ := q
    obtain rfl : v = .bl true := qv
    obtain rfl : u = Value.bool true := rv
    have old : ∀ b o, s.heap.get? b = some o → (s'.heap.get? b = some o ∧ b ∉ cs.map (·.2)) ∨ (∃ p ∈ cs, p.2 = b ∧ o = { cls := .none, data := .fields #[] } ∧ ∃ more : Array Value, s'.heap.get? b = some { cls := .none, data := .fields more }) := fun b o e => by
      by_cases m : b ∈ cs.map (·.2)
      · obtain ⟨p, hp, rfl⟩ := List.mem_map.mp m
        obtain ⟨more, z⟩ := un.tbls p.2 #[] (T.tab p hp)
        rw [hT p hp] at e
        cases e
        exact .inr ⟨p, hp, rfl, rfl, _, ok' p.2 _ z⟩
      · refine .inl ⟨?_, m⟩
        cases q : H b with
        | none => exact un.keep b o e q (fun z => nomatch (show b ∈ ([] : List Addr) from z)) (fun z => nomatch (show b ∈ ([] : List Addr) from z))
        | some u =>
          rcases T.only b u q with ⟨_, m2⟩ | ⟨xs, ob, rfl, rfl⟩
          · exact absurd m2 m
          · have z1 := (T.ok _ _ q).1
            have z2 := (ok' _ _ (un.frzs _ ob _ q)).1
            rw [e] at z1
            cases z1
            exact z2
    refine ⟨rfl, ⟨fun b o e => ?_, fun b o e => ?_⟩, os, bare⟩
    · rcases old b o e with ⟨z, _⟩ | ⟨p, hp, rfl, rfl, more, z⟩
      · exact .inl z
      · exact .inr (.inl ⟨((C p hp).tab (hT p hp)).isCodeTable, rfl, #[], more, rfl, by rw [Array.empty_append]; exact z⟩)
    · rcases old b o e with ⟨z, _⟩ | ⟨p, hp, rfl, rfl, more, z⟩
      · exact ⟨_, z⟩
      · exact ⟨_, z⟩
end
/-- what is known of the law at the head's heap h; tabs: code objects and tables of the defs that make lambdas -/
structure LawG (l : PySem.W.OpenLaw) (w : World) (K : PySem.W.Frag) (k n : Nat) (x : Str) (mg : Str → Option Value) (fa : Addr) (h : Heap) (tabs : List (Addr × Addr)) : Prop where
  at_ : ∀ p ∈ tabs, PySem.W.CodeHd h p.1 p.2 ∧ h.get? p.2 = some (PySem.W.tabObj #[])
  out : ∀ p ∈ tabs, K.lookup p.2 = none
  pr : ∃ (fd : FuncData) (sp : Sp), (∀ (s : Shared) (u : Value), BindsTo s fd ⟨[u], []⟩ [(x, u)]) ∧
    (∀ (H : Hp) (a : Addr) (ns : List Int), ns.length ≤ n → (∀ p ∈ tabs, H p.2 = some (.tbl #[])) → SqL K H a (ns.map V.int) → sp [.ref a] H (fun v _ => v = .bl true) fun _ _ _ => False) ∧
    ∀ base : Heap, K.In base → base.Ns mainGlobals mg → (∀ p ∈ tabs, TabB base mg p.1 p.2) → FnG l.prog w K mg base CX0 k fa fd [x] sp
theorem walk_ofG {l : PySem.W.OpenLaw} {n k : Nat} {q : Program} {loose : List Str} {XP : (Str → Option Value) → Heap → Prop} {YP : World → Heap → Prop} {d : DefRec} {K : Params → PySem.W.Frag} {x : Str}
    (hn : l.most = some n) (hn2 : n ≤ sizeLine) (hdf : d.params.defaults = []) (hr : Room k callerA) (hY : ∀ (w : World) (h : Heap), YP w h → (K w.params).In h)
    (F : ∀ (w : World) (mg : Str → Option Value) (fa : Addr) (h : Heap), YP w h → (K w.params).In h → h.Ns mainGlobals mg → mg d.name = some (.ref fa) → ∃ tabs, LawG l w (K w.params) k n x mg fa h tabs) :
    PySem.W.WalkO q loose XP YP l.row.toRowW d [] (fun f vs => PySem.call f vs) := by
  refine Att.attach_call hn hdf fun w s₀ s₁ mg mb fa o pm cd doc a vs ns G Y ho hd hcd hmg hobj hints hlen hg => ?_
  have KX := hY w _ Y
  obtain ⟨tabs, L⟩ := F w mg fa _ Y KX G.T.g hmg
  obtain ⟨fd, sp, hb, hsp, hF⟩ := L.pr
  exact law_callG KX G.T.g G.T.b G.T.builtins G.T.nolimit hg (fun p hp => (L.at_ p hp).2) L.out (fun p hp => (L.at_ p hp).1) G.T.bmain hobj hints (Nat.le_trans hlen hn2) hr hF hb fun H h1 h2 => hsp H a ns hlen h1 h2
end Own
set_option maxRecDepth 100000
set_option maxHeartbeats 4000000
namespace Toy
open PySem L2
def top (i : Nat) : Stmt := PySem.Challenge.pw_anyfifth_k10_whole_simplest_fractions.main.body.getD i (.Pass ⟨0, 0, 0, 0⟩)

structure Bl (mg : Str → Option Value) : Prop where
  int : mg "int" = none
  len : mg "len" = none
  abs : mg "abs" = none
  list : mg "list" = none
  range : mg "range" = none
  isinstance : mg "isinstance" = none
  bool : mg "bool" = none
  gcd : mg "gcd" = some (.builtin "math.gcd")

/-- all but what stands at p is as it was -/
def But (p : Addr) (H H' : Hp) : Prop := ∀ b o, H b = some o → b ≠ p → H' b = some o
theorem But.refl {p : Addr} {H : Hp} : But p H H := fun _ _ h _ => h
theorem But.upd {p : Addr} {H H1 : Hp} {o : HO} (h : But p H H1) : But p H (upd H1 p o) := fun b u e n => by rw [upd_ne n]; exact h b u e n
theorem But.new {p q : Addr} {H H1 : Hp} {o : HO} (h : But p H H1) (hq : H1 q = none) : But p H (L2.upd H1 q o) := fun b u e n => by
  rw [upd_ne (ne_of_none (h b u e n) hq)]; exact h b u e n
theorem But.trans {p : Addr} {H H1 H2 : Hp} (a : But p H H1) (b : But p H1 H2) : But p H H2 := fun c u e n => b c u (a c u e n) n
theorem But.same {p : Addr} {H H' : Hp} (h : Same H H') : But p H H' := fun b o e _ => h b o e

/-- the state of the drawing at p, behind at most k draws -/
structure PenW (H : Hp) (p c : Addr) (ns : List Int) (b l : Int) : Prop where
  hp : H p = some (.lst [.ref c, .int b, .int l])
  hc : H c = some (.lst (ns.map V.int))
  ln : ns.length ≤ 63
  b0 : 0 ≤ b
def Pen (H : Hp) (p c : Addr) (k : Nat) : Prop := ∃ ns b l, PenW H p c ns b l ∧ b ≤ k
theorem PenW.ne {H : Hp} {p c : Addr} {ns : List Int} {b l : Int} (h : PenW H p c ns b l) : c ≠ p := by
  intro e
  have h1 := h.hp
  have h2 := h.hc
  rw [e, h1] at h2
  have h3 := Option.some.inj h2
  injection h3 with h4
  cases ns with
  | nil => cases h4
  | cons a r => injection h4 with h5 h6; cases h5
theorem PenW.put {H : Hp} {p c : Addr} {ns : List Int} {b l b' l' : Int} (h : PenW H p c ns b l) (hb : 0 ≤ b') : PenW (upd H p (.lst [.ref c, .int b', .int l'])) p c ns b' l' :=
  ⟨upd_same, by rw [upd_ne h.ne]; exact h.hc, h.ln, hb⟩
theorem PenW.new {H : Hp} {p c q : Addr} {ns : List Int} {b l : Int} {o : HO} (h : PenW H p c ns b l) (hq : H q = none) : PenW (upd H q o) p c ns b l :=
  ⟨by rw [upd_ne (ne_of_none h.hp hq)]; exact h.hp, by rw [upd_ne (ne_of_none h.hc hq)]; exact h.hc, h.ln, h.b0⟩
theorem Pen.same {H H' : Hp} {p c : Addr} {k : Nat} (h : Pen H p c k) (e : Same H H') : Pen H' p c k := by
  obtain ⟨ns, b, l, h, hk⟩ := h
  exact ⟨ns, b, l, ⟨e _ _ h.hp, e _ _ h.hc, h.ln, h.b0⟩, hk⟩
theorem Pen.mono {H : Hp} {p c : Addr} {k j : Nat} (h : Pen H p c k) (e : k ≤ j) : Pen H p c j := by
  obtain ⟨ns, b, l, h, hk⟩ := h
  exact ⟨ns, b, l, h, by omega⟩
theorem dpInts {K : PySem.W.Frag} {H : Hp} : ∀ ns : List Int, DpAll K H (ns.map V.int) (ns.map PyData.int)
  | [] => .nil
  | n :: r => .cons (.int n) (dpInts r)
theorem shInts (ns : List Int) : SeqAt.shaped (.list (ns.map PyData.int)) = true := PySem.W.ke_shaped_ints ns
theorem eqvNil (ns : List Int) : PyData.eqv (.list (ns.map PyData.int)) (.list []) = decide (ns = []) := by
  cases ns <;> rfl
theorem modB (a : Int) {m : Int} (h : 0 < m) : 0 ≤ a % m ∧ a % m < m := ⟨Int.emod_nonneg _ (by omega), Int.emod_lt_of_pos _ h⟩
theorem wide_m {i m : Int} (h : 0 < m) (hb : m.natAbs < 2 ^ 2000) : CDivW i m := wide_div h hb (by decide) (by decide)

theorem atI_in {α : Type} {xs : List α} {i : Int} (h0 : 0 ≤ i) (h1 : i < (xs.length : Int)) : atI xs i = some (xs[i.toNat]'(by omega)) := by
  have e : i = ((i.toNat : Nat) : Int) := by omega
  exact (congrArg (atI xs) e).trans (atI_nat (List.getElem?_eq_getElem (by omega)))

theorem p0 {j : Int} (h : decide (0 < j) = true) : 0 < j := of_decide_eq_true h
theorem mulB {x y M N : Int} (hx : 0 ≤ x) (hxM : x ≤ M) (hy : 0 ≤ y) (hyN : y ≤ N) : 0 ≤ x * y ∧ x * y ≤ M * N := ⟨Int.mul_nonneg hx hy, Int.mul_le_mul hxM hyN hy (by omega)⟩
abbrev sDraw : Stmt := top 34
def spDraw : Sp := fun vs H Q _ => ∃ (p c : Addr) (m : Int) (k : Nat), vs = [.ref p, .int m] ∧ Pen H p c k ∧ k ≤ 1000000 ∧ 0 < m ∧ m.natAbs < 2 ^ 2000 ∧
  ∀ r H', 0 ≤ r → r < m → Pen H' p c (k + 1) → But p H H' → Q (.int r) H'
section
variable {P : Program} {w : World} {K : PySem.W.Frag} {mg : Str → Option Value} {base : Heap}
theorem scD : FnScope ["_law_pen_here", "_law_many", "_law_digit", "_law_begun", "_law_cell", "_law_great", "_law_mixed"] ["_law_pen_here", "_law_many"] (defScope sDraw) :=
  ⟨rfl, rfl, rfl, by decide +kernel, rfl, by decide +kernel, by decide +kernel⟩
theorem ok_draw {f : Addr} {fd : FuncData} (F : Fun K "_law_draw" "_law_draw" sDraw f fd) (T : Bl mg) : FnOk P w K mg base CX0 1 f fd ["_law_pen_here", "_law_many"] spDraw := by
  refine F.ok scD (fun vs H Q E h => ?_) (fun cdv A outer s H vs Q E hr h => ?_)
  · obtain ⟨p, c, m, k, rfl, _⟩ := h
    rfl
  · obtain ⟨p, c, m, k, rfl, ⟨ns, b, l, W, hb⟩, hk, hm, hmb, q⟩ := h
    have nd := scD.nd
    refine ⟨_, pss_cons (ps_if (pt_cmpR op_gt (pe_ix ix_list (pv 0) pe_int (fun _ _ => rfl)) pe_int (nomark _)) (pss_cons (ps_set (i := 2) nd rfl (Or.inl rfl) (pe_op op_mod (pe_callTy call_int1 (by rfl) T.int (by decide +kernel) (pa_cons (pe_ix ix_list (pv 0) pe_int (fun _ _ => rfl)) pa_nil)) (pv 1)))
      (pss_cons (ps_asg (pe_op op_fdivW (pe_callTy call_int1 (by rfl) T.int (by decide +kernel) (pa_cons (pe_ix ix_list (pv 0) pe_int (fun _ _ => rfl)) pa_nil)) (pv 1)) (pg_sub (pv 0) pe_int set_list))
      (pss_one (ps_ret (pv 2))))) pss_nil)
      (pss_cons (ps_set (i := 3) nd rfl (Or.inl rfl) (pe_ix ix_list (pv 0) pe_int (fun _ _ => rfl)))
      (pss_cons (ps_asg (pe_op op_add (pv 3) pe_int) (pg_sub (pv 0) pe_int set_list))
      (pss_cons (ps_set (i := 4) nd rfl (Or.inl rfl) (pe_op op_add (pe_op op_mul pe_int (pv 3)) pe_int))
      (C8.pss_cut (ps_if (pt_cmpR (op_neD hr.units) (pe_ix ix_list (pv 0) pe_int (fun _ _ => rfl)) (pe_lst pa_nil) (nomark _)) (pss_one (ps_set (i := 4) nd rfl (Or.inl rfl) (pe_ix ix_list (pe_ix ix_list (pv 0) pe_int (fun _ _ => rfl)) (pe_op op_mod (pe_callTy call_int1 (by rfl) T.int (by decide +kernel) (pa_cons (pv 3) pa_nil)) (pe_callB call_len (by rfl) T.len (by decide +kernel) (pa_cons (pe_ix ix_list (pv 0) pe_int (fun _ _ => rfl)) pa_nil))) (fun _ _ => rfl)))) pss_nil)
      (pss_cons (ps_if (PW.pt (pw_and (pt_cmpR op_lt (pv 3) (pe_callB call_len (by rfl) T.len (by decide +kernel) (pa_cons (pe_ix ix_list (pv 0) pe_int (fun _ _ => rfl)) pa_nil)) (nomark _)) (pw_and1 (pt_cmpR op_ge (pe_callB call_abs (by rfl) T.abs (by decide +kernel) (pa_cons (pv 4) pa_nil)) (pe_op op_pow pe_int pe_int) (nomark _))))) (pss_cons (ps_set (i := 5) nd rfl (Or.inl rfl) (pe_op op_add (pe_op op_mul pe_int (pe_op op_sub (pe_callB call_abs (by rfl) T.abs (by decide +kernel) (pa_cons (pv 4) pa_nil)) (pe_op op_pow pe_int pe_int))) (pe_callTy call_int1 (by rfl) T.int (by decide +kernel) (pa_cons (pe_cmpR op_lt (pv 4) pe_int (nomark _)) pa_nil))))
      (pss_cons (ps_asg (pe_op op_fdivW (pe_callTy call_int1 (by rfl) T.int (by decide +kernel) (pa_cons (pv 5) pa_nil)) (pv 1)) (pg_sub (pv 0) pe_int set_list))
      (pss_one (ps_ret (pe_op op_mod (pe_callTy call_int1 (by rfl) T.int (by decide +kernel) (pa_cons (pv 5) pa_nil)) (pv 1)))))) pss_nil)
      (pss_cons (ps_set (i := 6) nd rfl (Or.inl rfl) (pe_op op_mod (pe_callTy call_int1 (by rfl) T.int (by decide +kernel) (pa_cons (pe_op op_pow (pe_op op_add (pe_op op_add (pe_op op_mod (pe_callTy call_int1 (by rfl) T.int (by decide +kernel) (pa_cons (pv 4) pa_nil)) pe_int) (pe_op op_mul pe_int (pv 3))) pe_int) pe_int) pa_nil)) pe_int))
      (pss_cons (ps_set (i := 6) nd rfl (Or.inl rfl) (pe_op op_mod (pe_callTy call_int1 (by rfl) T.int (by decide +kernel) (pa_cons (pe_op op_pow (pe_op op_add (pe_op op_add (pe_op op_mul (pv 6) (pe_op op_add (pe_op op_mul pe_int (pv 3)) pe_int)) (pe_op op_mul (pe_op op_mul pe_int (pv 3)) (pv 3))) pe_int) pe_int) pa_nil)) pe_int))
      (pss_one (ps_ret (pe_op op_mod (pe_callTy call_int1 (by rfl) T.int (by decide +kernel) (pa_cons (pe_op op_fdivW (pv 6) pe_int) pa_nil)) (pv 1))))))))))), ?_⟩
    have hp := W.hp
    -- what is left of a great cell
    refine ⟨_, rfl, p, _, _, _, rfl, rfl, SqL.of hp, rfl, _, _, rfl, rfl, _, rfl, ?_⟩
    refine ite2 (fun _ => ?_) (fun _ => ?_)
    · refine ⟨_, rfl, p, _, _, _, rfl, rfl, SqL.of hp, rfl, .inl ⟨_, rfl, _, rfl, _, _, rfl, rfl, hm, ?_⟩⟩
      refine ⟨_, rfl, p, _, _, _, rfl, rfl, SqL.of hp, rfl, .inl ⟨_, rfl, _, rfl, _, _, rfl, rfl, wide_m hm hmb, ?_⟩⟩
      refine ⟨_, rfl, p, _, _, _, rfl, rfl, hp, rfl, ?_⟩
      refine ⟨_, rfl, ?_⟩
      exact q _ _ (modB _ hm).1 (modB _ hm).2 ⟨ns, b, _, W.put W.b0, by omega⟩ (But.refl.upd)
    · -- begun; the count goes up; cell
      refine ⟨_, rfl, p, _, _, _, rfl, rfl, SqL.of hp, rfl, ?_⟩
      refine ⟨_, rfl, _, _, rfl, rfl, ?_⟩
      refine ⟨_, rfl, p, _, _, _, rfl, rfl, hp, rfl, ?_⟩
      refine ⟨_, rfl, _, _, rfl, rfl, .inl ⟨by decide, by decide⟩, _, _, rfl, rfl, ?_⟩
      have W1 : PenW (upd H p (.lst [.ref c, .int (b + 1), .int l])) p c ns (b + 1) l := W.put (by have := W.b0; omega)
      refine ⟨fun σ' H' => ∃ z : Int, σ' = [some (.ref p), some (.int m), none, some (.int b), some (.int z), none, none] ∧ PenW H' p c ns (b + 1) l ∧ But p H H', ?_, ?_⟩
      · -- a cell of the script
        refine ⟨_, rfl, p, _, _, _, rfl, rfl, SqL.of W1.hp, rfl, by decide, fun e he => ?_⟩
        refine ⟨_, _, .lst (SqL.of (W1.new he).hc) (dpInts ns), .lst (SqL.of upd_same) .nil, shInts ns, by decide, _, rfl, ?_⟩
        have W2 := W1.new (o := .lst []) he
        have B2 : But p H (upd (upd H p (.lst [.ref c, .int (b + 1), .int l])) e (.lst [])) := (But.refl.upd).new he
        rw [eqvNil]
        by_cases hn : ns = []
        · rw [decide_eq_true hn]
          refine iteF ?_
          exact ⟨_, rfl, W2, B2⟩
        · rw [decide_eq_false hn]
          refine iteT ?_
          have hl0 : 0 < ns.length := List.length_pos_iff.mpr hn
          have hm0 : (0 : Int) < ((ns.map V.int).length : Int) := by rw [List.length_map]; omega
          refine ⟨_, rfl, p, _, _, _, rfl, rfl, SqL.of W2.hp, rfl, _, rfl, .inl ⟨_, rfl, _, rfl, p, _, _, _, rfl, rfl, SqL.of W2.hp, rfl, _, _, rfl, .inl ⟨_, SqL.of W2.hc, rfl⟩, _, _, rfl, rfl, hm0, ?_⟩⟩
          obtain ⟨z, hz⟩ : ∃ z, (ns.map V.int)[(b % ((ns.map V.int).length : Int)).toNat]'(by have := modB b hm0; omega) = .int z := ⟨_, List.getElem_map ..⟩
          exact ⟨c, _, _, .int z, rfl, rfl, SqL.of W2.hc, by rw [atI_in (modB b hm0).1 (modB b hm0).2, hz], ⟨_, rfl, W2, B2⟩⟩
      · rintro σ' H' ⟨z, rfl, W2, B2⟩
        have hp2 := W2.hp
        have hb1 := W.b0
        have hb2 : b ≤ 1000000 := by omega
        -- a great cell
        refine ⟨_, rfl, _, rfl, p, _, _, _, rfl, rfl, SqL.of hp2, rfl, _, _, rfl, .inl ⟨_, SqL.of W2.hc, rfl⟩, _, _, rfl, rfl, _, rfl, ?_⟩
        refine ite2 (fun _ => ?_) (fun _ => ?_)
        · refine ⟨_, rfl, _, rfl, _, _, rfl, rfl, ⟨by decide, by decide, by decide⟩, _, _, rfl, rfl, _, rfl, ?_⟩
          refine ite2 (fun _ => ?_) (fun _ => ?_)
          · refine ⟨_, rfl, _, rfl, _, _, rfl, rfl, ⟨by decide, by decide, by decide⟩, _, _, rfl, rfl, _, _, rfl, rfl, .inl ⟨by decide, by decide⟩, ?_⟩
            refine ⟨_, rfl, _, _, rfl, rfl, .inr ⟨_, rfl, _, _, rfl, rfl, ?_⟩⟩
            refine ⟨_, rfl, .inl ⟨_, rfl, _, rfl, _, _, rfl, rfl, wide_m hm hmb, ?_⟩⟩
            refine ⟨_, rfl, p, _, _, _, rfl, rfl, hp2, rfl, ?_⟩
            refine ⟨_, rfl, .inl ⟨_, rfl, _, rfl, _, _, rfl, rfl, hm, ?_⟩⟩
            exact q _ _ (modB _ hm).1 (modB _ hm).2 ⟨ns, b + 1, _, W2.put W2.b0, by omega⟩ B2.upd
          · refine ⟨_, rfl, .inl ⟨_, rfl, _, _, rfl, rfl, p0 rfl, _, rfl, _, _, rfl, rfl, .inl ⟨by decide, by decide⟩, _, _, rfl, rfl, _, _, rfl, rfl, _, _, rfl, rfl, ⟨by decide, by decide, ?_⟩, .inl ⟨_, rfl, _, _, rfl, rfl, p0 rfl, ?_⟩⟩⟩
            · have h1 := modB z (m := 2147483563) (by decide)
              omega
            have hx := modB ((z % 2147483563 + 1023 * b + 3327) ^ (5 : Int).toNat) (m := 2147483629) (by decide)
            generalize hxe : (z % 2147483563 + 1023 * b + 3327) ^ (5 : Int).toNat % 2147483629 = x at hx
            have p1 := mulB hx.1 (show x ≤ 2147483629 by omega) (show 0 ≤ 2 * b + 57 by omega) (show 2 * b + 57 ≤ 2100000 by omega)
            have p2 := mulB (show 0 ≤ 9329 * b by omega) (show 9329 * b ≤ 100000000000 by omega) hb1 hb2
            refine ⟨_, rfl, _, rfl, _, _, rfl, rfl, .inl ⟨by decide, by decide⟩, _, _, rfl, rfl, _, _, rfl, rfl, .inl ?_, _, rfl, _, _, rfl, rfl, .inl ⟨by decide, by decide⟩, _, rfl, _, _, rfl, rfl, .inl ?_, _, _, rfl, rfl, _, _, rfl, rfl, _, _, rfl, rfl, ⟨by decide, by decide, ?_⟩, .inl ⟨_, rfl, _, _, rfl, rfl, p0 rfl, ?_⟩⟩
            · rw [hxe]; omega
            · omega
            · rw [hxe]; omega
            refine ⟨_, rfl, _, _, rfl, rfl, ⟨by decide, by decide⟩, .inl ⟨_, rfl, _, rfl, _, _, rfl, rfl, hm, ?_⟩⟩
            exact q _ _ (modB _ hm).1 (modB _ hm).2 ⟨ns, b + 1, _, W2, by omega⟩ B2
        · refine ⟨_, rfl, .inl ⟨_, rfl, _, _, rfl, rfl, p0 rfl, _, rfl, _, _, rfl, rfl, .inl ⟨by decide, by decide⟩, _, _, rfl, rfl, _, _, rfl, rfl, _, _, rfl, rfl, ⟨by decide, by decide, ?_⟩, .inl ⟨_, rfl, _, _, rfl, rfl, p0 rfl, ?_⟩⟩⟩
          · have h1 := modB z (m := 2147483563) (by decide)
            omega
          have hx := modB ((z % 2147483563 + 1023 * b + 3327) ^ (5 : Int).toNat) (m := 2147483629) (by decide)
          generalize hxe : (z % 2147483563 + 1023 * b + 3327) ^ (5 : Int).toNat % 2147483629 = x at hx
          have p1 := mulB hx.1 (show x ≤ 2147483629 by omega) (show 0 ≤ 2 * b + 57 by omega) (show 2 * b + 57 ≤ 2100000 by omega)
          have p2 := mulB (show 0 ≤ 9329 * b by omega) (show 9329 * b ≤ 100000000000 by omega) hb1 hb2
          refine ⟨_, rfl, _, rfl, _, _, rfl, rfl, .inl ⟨by decide, by decide⟩, _, _, rfl, rfl, _, _, rfl, rfl, .inl ?_, _, rfl, _, _, rfl, rfl, .inl ⟨by decide, by decide⟩, _, rfl, _, _, rfl, rfl, .inl ?_, _, _, rfl, rfl, _, _, rfl, rfl, _, _, rfl, rfl, ⟨by decide, by decide, ?_⟩, .inl ⟨_, rfl, _, _, rfl, rfl, p0 rfl, ?_⟩⟩
          · rw [hxe]; omega
          · omega
          · rw [hxe]; omega
          refine ⟨_, rfl, _, _, rfl, rfl, ⟨by decide, by decide⟩, .inl ⟨_, rfl, _, rfl, _, _, rfl, rfl, hm, ?_⟩⟩
          exact q _ _ (modB _ hm).1 (modB _ hm).2 ⟨ns, b + 1, _, W2, by omega⟩ B2
end

/-! ### callees -/
structure Cal (P : Program) (w : World) (K : PySem.W.Frag) (mg : Str → Option Value) (base : Heap) (k : Nat) (x : Str) (f : Addr) (fd : FuncData) (ps : List Str) (sp : Sp) : Prop where
  F : FnOk P w K mg base CX0 k f fd ps sp
  mgf : mg x = some (.ref f)
  kp : PySem.W.keepIn K (.ref f) = true
  b : Binds K fd ps []
structure Mak (P : Program) (w : World) (K : PySem.W.Frag) (mg : Str → Option Value) (base : Heap) (k : Nat) (x : Str) (C f : Addr) (fd : FuncData) (ps : List Str) (sp : Sp) : Prop where
  M : Mk K C f
  F : FnOk P w K mg base CX0 k f fd ps sp
  mgC : mg x = some (.ref C)
  b : Binds K fd ps []
structure Sta (P : Program) (w : World) (K : PySem.W.Frag) (mg : Str → Option Value) (base : Heap) (k : Nat) (C : Addr) (m : Str) (p f : Addr) (fd : FuncData) (ps : List Str) (sp : Sp) : Prop where
  s : Own.SMet K C (.type "type") m p f
  F : FnOk P w K mg base CX0 k f fd ps sp
  b : Binds K fd ps []
structure Dot (P : Program) (w : World) (K : PySem.W.Frag) (mg : Str → Option Value) (base : Heap) (k : Nat) (C : Addr) (m : Str) (f : Addr) (fd : FuncData) (ps : List Str) (sp : Sp) : Prop where
  m : Meth K C m f
  F : FnOk P w K mg base CX0 k f fd ps sp
  b : Binds K fd ps []
/-- facts of an own class -/
structure ClT (K : PySem.W.Frag) (mg : Str → Option Value) (C : Addr) (x : Str) : Prop where
  cl : Cls K C
  mgC : mg x = some (.ref C)
  rd : ClX.CRead K C (.type "type")
  ca : PySem.W.findIn K (.ref C) "__class__" = some (some (.builtin "object.__class__"))
  cn : PySem.W.specialIn K (.builtin "object.__class__") "__get__" = some (some (.builtin "getset_descriptor.__get__"))
  ct : PySem.W.takesIn K (.builtin "object.__class__") = some true
  cm : PySem.W.mroIn K C (.type "object") = some true
  kI : PySem.W.kitOne K (.ref C) (.type "int") = some false
  kB : PySem.W.kitOne K (.ref C) (.type "bool") = some false
  kS : PySem.W.kitOne K (.ref C) (.ref C) = some true
  iK : PySem.W.kitOne K (.type "int") (.ref C) = some false
  sI : PySem.W.subIn K (.ref C) (.type "int") = some false
  nI : PySem.W.notFirst K C (.type "int") = true
  nC : PySem.W.notFirst K C (.ref C) = true
theorem ClT.ty {K : PySem.W.Frag} {mg : Str → Option Value} {C a dx : Addr} {x : Str} {H : Hp} {fs : List (Str × V)} (T : ClT K mg C x) (h : H a = some (.ins C dx fs)) : TyX K H (.ref a) (.ref C) :=
  .base (.ins h T.cl T.ca T.cn T.ct T.cm)
structure RatT (K : PySem.W.Frag) (mg : Str → Option Value) (C : Addr) : Prop extends ClT K mg C "Ratio" where
  nT : NoAttr K C "top"
  nB : NoAttr K C "bottom"
structure PieT (K : PySem.W.Frag) (mg : Str → Option Value) (C : Addr) : Prop extends ClT K mg C "Piece" where
  nL : NoAttr K C "left"
  nR : NoAttr K C "right"

/-! ### ratios -/
theorem tb_ne : ¬ (("bottom" : Str) = "top") := by decide +kernel
theorem bt_ne : ¬ (("top" : Str) = "bottom") := by decide +kernel
def ratF (n d : Int) : List (Str × V) := putF "bottom" (.int d) (putF "top" (.int n) [])
theorem ratF_top (n d : Int) : (ratF n d).lookup ("top" : Str) = some (.int n) := by
  unfold ratF
  rw [lookup_putF, if_neg bt_ne, lookup_putF, if_pos rfl]
theorem ratF_bot (n d : Int) : (ratF n d).lookup ("bottom" : Str) = some (.int d) := by
  unfold ratF
  rw [lookup_putF, if_pos rfl]
/-- a Ratio n / d stands at a -/
def RatAt (C : Addr) (H : Hp) (a : Addr) (n d : Int) : Prop := ∃ dx, H a = some (.ins C dx (ratF n d))
theorem RatAt.same {C : Addr} {H H' : Hp} {a : Addr} {n d : Int} (h : RatAt C H a n d) (e : Same H H') : RatAt C H' a n d := let ⟨dx, h⟩ := h; ⟨dx, e _ _ h⟩
theorem RatAt.but {C p : Addr} {H H' : Hp} {a : Addr} {n d : Int} (h : RatAt C H a n d) (e : But p H H') (hp : a ≠ p) : RatAt C H' a n d := let ⟨dx, h⟩ := h; ⟨dx, e _ _ h hp⟩
/-- a number: an int or a Ratio -/
inductive NumAt (C : Addr) (H : Hp) : V → Int → Int → Prop
  | int (i : Int) : NumAt C H (.int i) i 1
  | rat {a : Addr} {n d : Int} (h : RatAt C H a n d) : NumAt C H (.ref a) n d
theorem NumAt.same {C : Addr} {H H' : Hp} {v : V} {n d : Int} (h : NumAt C H v n d) (e : Same H H') : NumAt C H' v n d := by
  cases h with
  | int => exact .int _
  | rat h => exact .rat (h.same e)
theorem same_new {H : Hp} {p : Addr} {o : HO} (h : H p = none) : Same H (upd H p o) := fun b u e => by rw [upd_ne (ne_of_none e h)]; exact e
theorem same_two {H : Hp} {p q : Addr} {o u : HO} (h : H p = none) (h2 : H q = none) (n : p ≠ q) : Same H (upd (upd H p o) q u) := (same_new h).trans (same_new (by rw [upd_ne n.symm]; exact h2))
/-- small enough to reckon with -/
def Sz (z : Int) : Prop := z.natAbs < 2 ^ 1000
theorem Sz.mul {i j : Int} (a : Sz i) (b : Sz j) : CMulW i j := wide_mul a b (by decide) (by decide) (by decide)
theorem Sz.of {z : Int} (h : z.natAbs < 10 ^ 250) : Sz z := Nat.lt_trans h (by decide +kernel)

section
variable {P : Program} {w : World} {K : PySem.W.Frag} {mg : Str → Option Value} {base : Heap} {C : Addr}
def isIntK (K : PySem.W.Frag) (t : Value) (b : Bool) : Prop := ∃ b1 b2, PySem.W.kitOne K t (.type "int") = some b1 ∧ PySem.W.kitOne K t (.type "bool") = some b2 ∧ b = (b1 && !b2)
theorem isIntK_int : isIntK K (.type "int") true := ⟨true, false, kit_ty (by decide +kernel), kit_ty (by decide +kernel), rfl⟩
theorem isIntK_own {x : Str} (T : ClT K mg C x) : isIntK K (.ref C) false := ⟨false, false, T.kI, T.kB, rfl⟩
def spIsInt (K : PySem.W.Frag) : Sp := fun vs H Q _ => ∃ v t b, vs = [v] ∧ TyX K H v t ∧ isIntK K t b ∧ Q (.bl b) H

abbrev sIsInt : Stmt := top 13
theorem scII : FnScope ["value"] ["value"] (defScope sIsInt) := ⟨rfl, rfl, rfl, by decide +kernel, rfl, by decide +kernel, by decide +kernel⟩
theorem ok_isint {f : Addr} {fd : FuncData} (F : Fun K "is_int" "is_int" sIsInt f fd) (T : Bl mg) : FnOk P w K mg base CX0 1 f fd ["value"] (spIsInt K) := by
  refine F.ok scII (fun vs H Q E h => ?_) (fun cdv A outer s H vs Q E hr h => ?_)
  · obtain ⟨v, t, b, rfl, _⟩ := h
    rfl
  · obtain ⟨v, t, b, rfl, ty, ⟨b1, b2, h1, h2, rfl⟩, q⟩ := h
    have nd := scII.nd
    refine ⟨_, pss_one (ps_ret (pe_and (pe_callB call_isi (by rfl) T.isinstance (by decide +kernel) (pa_cons (pv 0) (pa_cons (pe_bltn (v := .ty "int") (u := .type "int") (by rfl) T.int (by decide +kernel) rfl) pa_nil))) (pe_one (pe_not (pe_callB call_isi (by rfl) T.isinstance (by decide +kernel) (pa_cons (pv 0) (pa_cons (pe_bltn (v := .ty "bool") (u := .type "bool") (by rfl) T.bool (by decide +kernel) rfl) pa_nil))))))), ?_⟩
    refine ⟨_, rfl, _, _, t, _, b1, rfl, .ty _, ty, h1, _, rfl, ?_⟩
    cases b1 with
    | true =>
      refine iteT ?_
      exact ⟨_, rfl, _, _, t, _, b2, rfl, .ty _, ty, h2, _, rfl, q⟩
    | false => exact iteF q

def spIsNum (K : PySem.W.Frag) (C : Addr) : Sp := fun vs H Q _ => ∃ v t b c, vs = [v] ∧ TyX K H v t ∧ isIntK K t b ∧ PySem.W.kitOne K t (.ref C) = some c ∧ Q (.bl (b || c)) H
theorem NumAt.spNum {x : Str} {H : Hp} {v : V} {n d : Int} {Q : VK} {E : XK} (T : ClT K mg C x) (h : NumAt C H v n d) (q : Q (.bl true) H) : spIsNum K C [v] H Q E := by
  cases h with
  | int => exact ⟨_, _, _, _, rfl, .base (.int _), isIntK_int, T.iK, q⟩
  | rat h => obtain ⟨dx, h⟩ := h; exact ⟨_, _, _, _, rfl, T.ty h, isIntK_own T, T.kS, q⟩
abbrev sIsNum : Stmt := inClass (top 17) 1
theorem scIN : FnScope ["value"] ["value"] (defScope sIsNum) := ⟨rfl, rfl, rfl, by decide +kernel, rfl, by decide +kernel, by decide +kernel⟩
theorem ok_isnum {f f1 : Addr} {fd fd1 : FuncData} (F : Fun K "is_number" "Ratio.is_number" sIsNum f fd) (T : Bl mg) (T_Ratio : RatT K mg C) (C_is_int : Cal P w K mg base 1 "is_int" f1 fd1 ["value"] (spIsInt K)) :
    FnOk P w K mg base CX0 2 f fd ["value"] (spIsNum K C) := by
  refine F.ok scIN (fun vs H Q E h => ?_) (fun cdv A outer s H vs Q E hr h => ?_)
  · obtain ⟨v, t, b, c, rfl, _⟩ := h
    rfl
  · obtain ⟨v, t, b, c, rfl, ty, hb, hc, q⟩ := h
    have nd := scIN.nd
    refine ⟨_, pss_one (ps_ret (pe_or (pe_call C_is_int.F (hr.mono (by decide)) (by rfl) C_is_int.mgf C_is_int.kp C_is_int.b .nil pass0 (pa_cons (pv 0) pa_nil)) (pe_one (pe_callB call_isi (by rfl) T.isinstance (by decide +kernel) (pa_cons (pv 0) (pa_cons (Own.pe_gref (by rfl) T_Ratio.mgC) pa_nil)))))), ?_⟩
    refine ⟨_, rfl, _, t, b, rfl, ty, hb, _, rfl, ?_⟩
    cases b with
    | true => exact iteT q
    | false =>
      refine iteF ?_
      exact ⟨_, rfl, _, _, t, _, c, rfl, .own _, ty, hc, q⟩

def spParts (C : Addr) : Sp := fun vs H Q _ => ∃ v n d, vs = [v] ∧ NumAt C H v n d ∧ ∀ p, H p = none → Q (.ref p) (upd H p (.tup [.int n, .int d]))
abbrev sParts : Stmt := top 18
theorem scPa : FnScope ["number"] ["number"] (defScope sParts) := ⟨rfl, rfl, rfl, by decide +kernel, rfl, by decide +kernel, by decide +kernel⟩
theorem ok_parts {f : Addr} {fd : FuncData} (F : Fun K "parts_of" "parts_of" sParts f fd) (T : Bl mg) (T_Ratio : RatT K mg C) : FnOk P w K mg base CX0 1 f fd ["number"] (spParts C) := by
  refine F.ok scPa (fun vs H Q E h => ?_) (fun cdv A outer s H vs Q E hr h => ?_)
  · obtain ⟨v, n, d, rfl, _⟩ := h
    rfl
  · obtain ⟨v, n, d, rfl, hn, q⟩ := h
    have nd := scPa.nd
    refine ⟨_, pss_cons (ps_if (pt_val (pe_callB call_isi (by rfl) T.isinstance (by decide +kernel) (pa_cons (pv 0) (pa_cons (Own.pe_gref (by rfl) T_Ratio.mgC) pa_nil)))) (pss_one (ps_ret (pe_tup (pa_cons (pe_fld (pv 0) rfl) (pa_cons (pe_fld (pv 0) rfl) pa_nil))))) pss_nil)
      (pss_one (ps_ret (pe_tup (pa_cons (pv 0) (pa_cons pe_int pa_nil))))), ?_⟩
    cases hn with
    | int =>
      refine ⟨_, rfl, _, _, _, _, false, rfl, .own _, .base (.int _), T_Ratio.iK, _, rfl, iteF ?_⟩
      exact ⟨_, rfl, (by decide : 2 ≤ sizeLine), fun p hp => q p hp⟩
    | rat h =>
      obtain ⟨dx, h⟩ := h
      refine ⟨_, rfl, _, _, _, _, true, rfl, .own _, T_Ratio.ty h, T_Ratio.kS, _, rfl, iteT ?_⟩
      exact ⟨_, rfl, _, C, dx, _, _, rfl, h, T_Ratio.cl, T_Ratio.nT, ratF_top _ _, _, rfl, _, C, dx, _, _, rfl, h, T_Ratio.cl, T_Ratio.nB, ratF_bot _ _, (by decide : 2 ≤ sizeLine), fun p hp => q p hp⟩

def spLead (C : Addr) : Sp := fun vs H Q _ => ∃ v u n d m e, vs = [v, u] ∧ NumAt C H v n d ∧ NumAt C H u m e ∧ (Sz n ∧ Sz d ∧ Sz m ∧ Sz e) ∧ ∀ H', Same H H' → Q (.int (n * e - m * d)) H'
abbrev sLead : Stmt := top 20
theorem scLe : FnScope ["one", "other", "top", "bottom", "other_top", "other_bottom"] ["one", "other"] (defScope sLead) := ⟨rfl, rfl, rfl, by decide +kernel, rfl, by decide +kernel, by decide +kernel⟩
theorem ok_lead {f f1 : Addr} {fd fd1 : FuncData} (F : Fun K "_lead" "_lead" sLead f fd) (C_parts_of : Cal P w K mg base 1 "parts_of" f1 fd1 ["number"] (spParts C)) : FnOk P w K mg base CX0 2 f fd ["one", "other"] (spLead C) := by
  refine F.ok scLe (fun vs H Q E h => ?_) (fun cdv A outer s H vs Q E hr h => ?_)
  · obtain ⟨v, u, n, d, m, e, rfl, _⟩ := h
    rfl
  · obtain ⟨v, u, n, d, m, e, rfl, hv, hu, ⟨z1, z2, z3, z4⟩, q⟩ := h
    have nd := scLe.nd
    refine ⟨_, pss_cons (ps_asg (pe_call C_parts_of.F (hr.mono (by decide)) (by rfl) C_parts_of.mgf C_parts_of.kp C_parts_of.b .nil pass0 (pa_cons (pv 0) pa_nil)) (pg_tup (by rfl) (pgs_cons (pg_name (i := 2) nd rfl (Or.inl rfl)) (pgs_cons (pg_name (i := 3) nd rfl (Or.inl rfl)) pgs_nil))))
      (pss_cons (ps_asg (pe_call C_parts_of.F (hr.mono (by decide)) (by rfl) C_parts_of.mgf C_parts_of.kp C_parts_of.b .nil pass0 (pa_cons (pv 1) pa_nil)) (pg_tup (by rfl) (pgs_cons (pg_name (i := 4) nd rfl (Or.inl rfl)) (pgs_cons (pg_name (i := 5) nd rfl (Or.inl rfl)) pgs_nil))))
      (pss_one (ps_ret (pe_op op_sub (pe_op op_mulW (pv 2) (pv 5)) (pe_op op_mulW (pv 4) (pv 3)))))), ?_⟩
    refine ⟨_, rfl, _, _, _, rfl, hv, fun p hp => ⟨_, _, rfl, SqT.of upd_same, rfl, _, _, rfl, _, _, rfl, rfl, ?_⟩⟩
    have s1 : Same H (upd H p (.tup [.int n, .int d])) := same_new hp
    refine ⟨_, rfl, _, _, _, rfl, hu.same s1, fun p2 hp2 => ⟨_, _, rfl, SqT.of upd_same, rfl, _, _, rfl, _, _, rfl, rfl, ?_⟩⟩
    exact ⟨_, rfl, _, rfl, _, _, rfl, rfl, z1.mul z4, _, rfl, _, rfl, _, _, rfl, rfl, z3.mul z2, _, _, rfl, rfl, q _ (s1.trans (same_new hp2))⟩
end
end Toy
set_option maxRecDepth 100000
set_option maxHeartbeats 4000000
namespace Toy
open PySem L2
/-! ### a ratio made -/
theorem vint_ne {b c : Int} (h : b ≠ c) : ¬ (decide (V.int b = V.int c) = true) := fun e => h (V.int.inj (of_decide_eq_true e))
def CDivZ (_ j : Int) : Prop := j ≠ 0 ∧ j.natAbs.log2 < 9000
theorem op_fdivZ {X : Cx} : OpR X (binaryOp .FloorDiv) (rI CDivZ fun i j => .int (i.fdiv j)) := opI fun i j _ _ _ _ _ hc q => PyProof.Rows.floordiv_int hc.1 q (.inl (PyProof.noPylong_of_log2 hc.2))
def gcdI (t b : Int) : Int := ((Nat.gcd t.natAbs b.natAbs : Nat) : Int)
def lowD (t b : Int) : Int := if 0 < b then gcdI t b else -gcdI t b
def lowT (t b : Int) : Int := t.fdiv (lowD t b)
def lowB (t b : Int) : Int := b.fdiv (lowD t b)
theorem gcdI_pos {t b : Int} (h : b ≠ 0) : 0 < gcdI t b := by
  have h1 : 0 < b.natAbs := by omega
  have h2 := Nat.gcd_pos_of_pos_right t.natAbs h1
  unfold gcdI
  omega
theorem gcdI_neg {t b : Int} (h : b ≠ 0) : -gcdI t b ≠ 0 := by
  have := gcdI_pos (t := t) h
  omega
theorem gcdI_le {t b : Int} (h : b ≠ 0) : (gcdI t b).natAbs ≤ b.natAbs := by
  have h1 : 0 < b.natAbs := by omega
  have h2 := Nat.gcd_le_right t.natAbs h1
  unfold gcdI
  omega
theorem Sz.div {i j : Int} (h : j ≠ 0) (z : Sz j) : CDivZ i j := ⟨h, Nat.lt_trans (PySem.Flt.log2_lt_of (by decide) z) (by decide)⟩
theorem Sz.gcd {t b : Int} (h : b ≠ 0) (z : Sz b) : Sz (gcdI t b) := Nat.lt_of_le_of_lt (gcdI_le h) z
theorem Sz.neg {b : Int} (z : Sz b) : Sz (-b) := by unfold Sz; rw [Int.natAbs_neg]; exact z
theorem lowT_one {t b : Int} (h : 0 < b) (g : gcdI t b = 1) : lowT t b = t := by
  unfold lowT lowD
  rw [if_pos h, g]
  exact Int.fdiv_one t
theorem lowB_one {t b : Int} (h : 0 < b) (g : gcdI t b = 1) : lowB t b = b := by
  unfold lowB lowD
  rw [if_pos h, g]
  exact Int.fdiv_one b
theorem iteNot {b : Bool} {A B : Prop} (h : b = true) (x : B) : if (!b) = true then A else B := by
  subst h
  exact iteF x
theorem NumAt.info {K : PySem.W.Frag} {mg : Str → Option Value} {C : Addr} {x : Str} {H : Hp} {v : V} {n d : Int} (T : ClT K mg C x) (h : NumAt C H v n d) :
    ∃ t b c, TyX K H v t ∧ isIntK K t b ∧ PySem.W.kitOne K t (.ref C) = some c ∧ (b || c) = true := by
  cases h with
  | int => exact ⟨_, _, _, .base (.int _), isIntK_int, T.iK, rfl⟩
  | rat h => obtain ⟨dx, h⟩ := h; exact ⟨_, _, _, T.ty h, isIntK_own T, T.kS, rfl⟩
section
variable {P : Program} {w : World} {K : PySem.W.Frag} {mg : Str → Option Value} {base : Heap} {C : Addr}
def spRInit (C : Addr) : Sp := fun vs H Q _ => ∃ x dx t b, vs = [.ref x, .int t, .int b] ∧ H x = some (.ins C dx []) ∧ b ≠ 0 ∧ Sz b ∧ ∀ H', RatAt C H' x (lowT t b) (lowB t b) → (∀ c o, H c = some o → c ≠ x → H' c = some o) → Q .non H'
theorem spRInit.make {H1 : Hp} {t b : Int} {Q : VK} {E : XK} (hb : b ≠ 0) (hz : Sz b) (q : ∀ x H', H1 x = none → Same H1 H' → RatAt C H' x (lowT t b) (lowB t b) → Q (.ref x) H') :
    ∀ x dx, H1 x = none → H1 dx = none → dx ≠ x → spRInit C [.ref x, .int t, .int b] (upd (upd H1 dx (.own x)) x (.ins C dx [])) (fun v H2 => v = .non ∧ Q (.ref x) H2) E := fun x dx hx hdx hne =>
  ⟨x, dx, t, b, rfl, upd_same, hb, hz, fun H' hR hk => ⟨rfl, q x H' hx (fun c o e => hk c o (by rw [upd_ne (ne_of_none e hx), upd_ne (ne_of_none e hdx)]; exact e) (ne_of_none e hx)) hR⟩⟩
abbrev sRInit : Stmt := inClass (top 17) 0
theorem scRI : FnScope ["self", "top", "bottom", "divisor"] ["self", "top", "bottom"] (defScope sRInit) := ⟨rfl, rfl, rfl, by decide +kernel, rfl, by decide +kernel, by decide +kernel⟩
theorem ok_rinit {f f1 : Addr} {fd fd1 : FuncData} (F : FunD K "__init__" "Ratio.__init__" (defArgs sRInit) (defBody sRInit) (defScope sRInit) [.int 1] [] f fd) (T : Bl mg) (T_Ratio : RatT K mg C) (C_is_int : Cal P w K mg base 1 "is_int" f1 fd1 ["value"] (spIsInt K)) :
    FnOk P w K mg base CX0 2 f fd ["self", "top", "bottom"] (spRInit C) := by
  refine F.ok scRI (fun vs H Q E h => ?_) (fun cdv A outer s H vs Q E hr h => ?_)
  · obtain ⟨x, dx, t, b, rfl, _⟩ := h
    rfl
  · obtain ⟨x, dx, t, b, rfl, hx, hb, hz, q⟩ := h
    have nd := scRI.nd
    refine ⟨_, pss_cons (ps_if (pt_not (pt_val (pe_call C_is_int.F (hr.mono (by decide)) (by rfl) C_is_int.mgf C_is_int.kp C_is_int.b .nil pass0 (pa_cons (pv 1) pa_nil)))) pss_never pss_nil)
      (pss_cons (ps_if (pt_not (pt_val (pe_call C_is_int.F (hr.mono (by decide)) (by rfl) C_is_int.mgf C_is_int.kp C_is_int.b .nil pass0 (pa_cons (pv 2) pa_nil)))) pss_never pss_nil)
      (pss_cons (ps_if (pt_cmpR op_eq (pv 2) pe_int (nomark _)) pss_never pss_nil)
      (pss_cons (ps_set (i := 3) nd rfl (Or.inl rfl) (pe_ifExp (pt_cmpR op_gt (pv 2) pe_int (nomark _)) (pe_callBfun cr_gcd (by rfl) T.gcd (pa_cons (pv 1) (pa_cons (pv 2) pa_nil))) (pe_un un_neg (pe_callBfun cr_gcd (by rfl) T.gcd (pa_cons (pv 1) (pa_cons (pv 2) pa_nil))))))
      (pss_cons (ps_fld (pv 0) (pe_op op_fdivZ (pv 1) (pv 3)) rfl)
      (pss_one (ps_fld (pv 0) (pe_op op_fdivZ (pv 2) (pv 3)) rfl)))))), ?_⟩
    refine ⟨_, rfl, _, _, true, rfl, .base (.int _), isIntK_int, _, rfl, iteF ?_⟩
    refine ⟨_, rfl, _, _, true, rfl, .base (.int _), isIntK_int, _, rfl, iteF ?_⟩
    refine ⟨_, rfl, rfl, _, rfl, ?_⟩
    refine ite2 (fun e => absurd e (vint_ne hb)) (fun _ => ?_)
    refine ⟨_, rfl, _, _, rfl, rfl, _, rfl, ?_⟩
    have fin : ∀ z : Int, z = lowD t b → Q .non (upd (upd H x (.ins C dx (putF "top" (.int (t.fdiv z)) []))) x (.ins C dx (putF "bottom" (.int (b.fdiv z)) (putF "top" (.int (t.fdiv z)) [])))) := fun z e =>
      q _ ⟨dx, by rw [e]; exact upd_same⟩ fun c o h n => by rw [upd_ne n, upd_ne n]; exact h
    refine ite2 (fun hp => ?_) (fun hp => ?_)
    · have hp1 : 0 < b := of_decide_eq_true hp
      refine ⟨_, rfl, _, rfl, _, _, rfl, ?_⟩
      refine ⟨_, rfl, _, rfl, _, _, rfl, rfl, (Sz.gcd hb hz).div (by have := gcdI_pos (t := t) hb; exact Int.ne_of_gt this), _, rfl, x, C, dx, _, rfl, hx, T_Ratio.cl, T_Ratio.nT, (by decide : 0 < 1000), ?_⟩
      refine ⟨_, rfl, _, rfl, _, _, rfl, rfl, (Sz.gcd hb hz).div (by have := gcdI_pos (t := t) hb; exact Int.ne_of_gt this), _, rfl, x, C, dx, _, rfl, upd_same, T_Ratio.cl, T_Ratio.nB, (by decide : 1 < 1000), ?_⟩
      exact fin _ (by unfold lowD; rw [if_pos hp1]; rfl)
    · have hp1 : ¬ 0 < b := fun e => hp (decide_eq_true e)
      refine ⟨_, rfl, _, rfl, _, _, rfl, _, rfl, ?_⟩
      refine ⟨_, rfl, _, rfl, _, _, rfl, rfl, (Sz.gcd hb hz).neg.div (gcdI_neg hb), _, rfl, x, C, dx, _, rfl, hx, T_Ratio.cl, T_Ratio.nT, (by decide : 0 < 1000), ?_⟩
      refine ⟨_, rfl, _, rfl, _, _, rfl, rfl, (Sz.gcd hb hz).neg.div (gcdI_neg hb), _, rfl, x, C, dx, _, rfl, upd_same, T_Ratio.cl, T_Ratio.nB, (by decide : 1 < 1000), ?_⟩
      exact fin _ (by unfold lowD; rw [if_neg hp1]; rfl)

/-- comparisons -/
def spCmp (C : Addr) (g : Int → Bool) : Sp := fun vs H Q _ => ∃ v u n d m e, vs = [v, u] ∧ NumAt C H v n d ∧ NumAt C H u m e ∧ (Sz n ∧ Sz d ∧ Sz m ∧ Sz e) ∧ ∀ H', Same H H' → Q (.bl (g (n * e - m * d))) H'
structure Opr (P : Program) (w : World) (K : PySem.W.Frag) (mg : Str → Option Value) (base : Heap) (k : Nat) (C : Addr) (m : Str) (f : Addr) (fd : FuncData) (ps : List Str) (sp : Sp) : Prop where
  at_ : PySem.W.findIn K (.ref C) m = some (some (.ref f))
  fn : PySem.W.isFn K (.ref f) = true
  F : FnOk P w K mg base CX0 k f fd ps sp
  b : Binds K fd ps []
abbrev sLt : Stmt := inClass (top 17) 22
theorem scLt : FnScope ["self", "other"] ["self", "other"] (defScope sLt) := ⟨rfl, rfl, rfl, by decide +kernel, rfl, by decide +kernel, by decide +kernel⟩
theorem ok_lt {f p1 f1 f2 : Addr} {fd fd1 fd2 : FuncData} (F : Fun K "__lt__" "Ratio.__lt__" sLt f fd) (T_Ratio : RatT K mg C)
    (S_Ratio_is_number : Sta P w K mg base 2 C "is_number" p1 f1 fd1 ["value"] (spIsNum K C)) (C__lead : Cal P w K mg base 2 "_lead" f2 fd2 ["one", "other"] (spLead C)) : FnOk P w K mg base CX0 3 f fd ["self", "other"] (spCmp C fun z => decide (z < 0)) := by
  refine F.ok scLt (fun vs H Q E h => ?_) (fun cdv A outer s H vs Q E hr h => ?_)
  · obtain ⟨v, u, n, d, m, e, rfl, _⟩ := h
    rfl
  · obtain ⟨v, u, n, d, m, e, rfl, hv, hu, hz, q⟩ := h
    have nd := scLt.nd
    refine ⟨_, pss_cons (ps_if (pt_not (pt_val (Own.pe_smeth T_Ratio.rd S_Ratio_is_number.s S_Ratio_is_number.F (hr.mono (by decide)) S_Ratio_is_number.b pass0 (Own.pe_gref (by rfl) T_Ratio.mgC) (pa_cons (pv 1) pa_nil)))) pss_never pss_nil)
      (pss_one (ps_ret (pe_cmpR op_lt (pe_call C__lead.F (hr.mono (by decide)) (by rfl) C__lead.mgf C__lead.kp C__lead.b .nil pass0 (pa_cons (pv 0) (pa_cons (pv 1) pa_nil))) pe_int (nomark _)))), ?_⟩
    obtain ⟨t, b, c, ty, hb, hc, hbc⟩ := hu.info T_Ratio.toClT
    refine ⟨rfl, _, rfl, _, t, b, c, rfl, ty, hb, hc, _, rfl, iteNot hbc ?_⟩
    exact ⟨_, rfl, _, rfl, v, u, n, d, m, e, rfl, hv, hu, hz, fun H' s1 => ⟨_, _, rfl, rfl, q H' s1⟩⟩
abbrev sLeq : Stmt := inClass (top 17) 23
theorem scLeq : FnScope ["self", "other"] ["self", "other"] (defScope sLeq) := ⟨rfl, rfl, rfl, by decide +kernel, rfl, by decide +kernel, by decide +kernel⟩
theorem ok_le {f p1 f1 f2 : Addr} {fd fd1 fd2 : FuncData} (F : Fun K "__le__" "Ratio.__le__" sLeq f fd) (T_Ratio : RatT K mg C)
    (S_Ratio_is_number : Sta P w K mg base 2 C "is_number" p1 f1 fd1 ["value"] (spIsNum K C)) (C__lead : Cal P w K mg base 2 "_lead" f2 fd2 ["one", "other"] (spLead C)) : FnOk P w K mg base CX0 3 f fd ["self", "other"] (spCmp C fun z => decide (z ≤ 0)) := by
  refine F.ok scLeq (fun vs H Q E h => ?_) (fun cdv A outer s H vs Q E hr h => ?_)
  · obtain ⟨v, u, n, d, m, e, rfl, _⟩ := h
    rfl
  · obtain ⟨v, u, n, d, m, e, rfl, hv, hu, hz, q⟩ := h
    have nd := scLeq.nd
    refine ⟨_, pss_cons (ps_if (pt_not (pt_val (Own.pe_smeth T_Ratio.rd S_Ratio_is_number.s S_Ratio_is_number.F (hr.mono (by decide)) S_Ratio_is_number.b pass0 (Own.pe_gref (by rfl) T_Ratio.mgC) (pa_cons (pv 1) pa_nil)))) pss_never pss_nil)
      (pss_one (ps_ret (pe_cmpR op_le (pe_call C__lead.F (hr.mono (by decide)) (by rfl) C__lead.mgf C__lead.kp C__lead.b .nil pass0 (pa_cons (pv 0) (pa_cons (pv 1) pa_nil))) pe_int (nomark _)))), ?_⟩
    obtain ⟨t, b, c, ty, hb, hc, hbc⟩ := hu.info T_Ratio.toClT
    refine ⟨rfl, _, rfl, _, t, b, c, rfl, ty, hb, hc, _, rfl, iteNot hbc ?_⟩
    exact ⟨_, rfl, _, rfl, v, u, n, d, m, e, rfl, hv, hu, hz, fun H' s1 => ⟨_, _, rfl, rfl, q H' s1⟩⟩
abbrev sGt : Stmt := inClass (top 17) 24
theorem scGt : FnScope ["self", "other"] ["self", "other"] (defScope sGt) := ⟨rfl, rfl, rfl, by decide +kernel, rfl, by decide +kernel, by decide +kernel⟩
theorem ok_gt {f p1 f1 f2 : Addr} {fd fd1 fd2 : FuncData} (F : Fun K "__gt__" "Ratio.__gt__" sGt f fd) (T_Ratio : RatT K mg C)
    (S_Ratio_is_number : Sta P w K mg base 2 C "is_number" p1 f1 fd1 ["value"] (spIsNum K C)) (C__lead : Cal P w K mg base 2 "_lead" f2 fd2 ["one", "other"] (spLead C)) : FnOk P w K mg base CX0 3 f fd ["self", "other"] (spCmp C fun z => decide (0 < z)) := by
  refine F.ok scGt (fun vs H Q E h => ?_) (fun cdv A outer s H vs Q E hr h => ?_)
  · obtain ⟨v, u, n, d, m, e, rfl, _⟩ := h
    rfl
  · obtain ⟨v, u, n, d, m, e, rfl, hv, hu, hz, q⟩ := h
    have nd := scGt.nd
    refine ⟨_, pss_cons (ps_if (pt_not (pt_val (Own.pe_smeth T_Ratio.rd S_Ratio_is_number.s S_Ratio_is_number.F (hr.mono (by decide)) S_Ratio_is_number.b pass0 (Own.pe_gref (by rfl) T_Ratio.mgC) (pa_cons (pv 1) pa_nil)))) pss_never pss_nil)
      (pss_one (ps_ret (pe_cmpR op_gt (pe_call C__lead.F (hr.mono (by decide)) (by rfl) C__lead.mgf C__lead.kp C__lead.b .nil pass0 (pa_cons (pv 0) (pa_cons (pv 1) pa_nil))) pe_int (nomark _)))), ?_⟩
    obtain ⟨t, b, c, ty, hb, hc, hbc⟩ := hu.info T_Ratio.toClT
    refine ⟨rfl, _, rfl, _, t, b, c, rfl, ty, hb, hc, _, rfl, iteNot hbc ?_⟩
    exact ⟨_, rfl, _, rfl, v, u, n, d, m, e, rfl, hv, hu, hz, fun H' s1 => ⟨_, _, rfl, rfl, q H' s1⟩⟩
abbrev sGe : Stmt := inClass (top 17) 25
theorem scGe : FnScope ["self", "other"] ["self", "other"] (defScope sGe) := ⟨rfl, rfl, rfl, by decide +kernel, rfl, by decide +kernel, by decide +kernel⟩
theorem ok_ge {f p1 f1 f2 : Addr} {fd fd1 fd2 : FuncData} (F : Fun K "__ge__" "Ratio.__ge__" sGe f fd) (T_Ratio : RatT K mg C)
    (S_Ratio_is_number : Sta P w K mg base 2 C "is_number" p1 f1 fd1 ["value"] (spIsNum K C)) (C__lead : Cal P w K mg base 2 "_lead" f2 fd2 ["one", "other"] (spLead C)) : FnOk P w K mg base CX0 3 f fd ["self", "other"] (spCmp C fun z => decide (0 ≤ z)) := by
  refine F.ok scGe (fun vs H Q E h => ?_) (fun cdv A outer s H vs Q E hr h => ?_)
  · obtain ⟨v, u, n, d, m, e, rfl, _⟩ := h
    rfl
  · obtain ⟨v, u, n, d, m, e, rfl, hv, hu, hz, q⟩ := h
    have nd := scGe.nd
    refine ⟨_, pss_cons (ps_if (pt_not (pt_val (Own.pe_smeth T_Ratio.rd S_Ratio_is_number.s S_Ratio_is_number.F (hr.mono (by decide)) S_Ratio_is_number.b pass0 (Own.pe_gref (by rfl) T_Ratio.mgC) (pa_cons (pv 1) pa_nil)))) pss_never pss_nil)
      (pss_one (ps_ret (pe_cmpR op_ge (pe_call C__lead.F (hr.mono (by decide)) (by rfl) C__lead.mgf C__lead.kp C__lead.b .nil pass0 (pa_cons (pv 0) (pa_cons (pv 1) pa_nil))) pe_int (nomark _)))), ?_⟩
    obtain ⟨t, b, c, ty, hb, hc, hbc⟩ := hu.info T_Ratio.toClT
    refine ⟨rfl, _, rfl, _, t, b, c, rfl, ty, hb, hc, _, rfl, iteNot hbc ?_⟩
    exact ⟨_, rfl, _, rfl, v, u, n, d, m, e, rfl, hv, hu, hz, fun H' s1 => ⟨_, _, rfl, rfl, q H' s1⟩⟩

end
end Toy
set_option maxRecDepth 100000
set_option maxHeartbeats 4000000
namespace Toy
open PySem L2
open Rat (divInt)
/-! ### numbers of the program as rationals -/
theorem gcdI_eq (t b : Int) : gcdI t b = (Int.gcd b t : Int) := by
  unfold gcdI Int.gcd
  rw [Nat.gcd_comm]
theorem low_num {t b : Int} (h : b ≠ 0) : lowT t b = (divInt t b).num := by
  rw [Rat.num_divInt]
  unfold lowT lowD
  rw [gcdI_eq]
  have hg : (0 : Int) < (Int.gcd b t : Int) := by
    rw [← gcdI_eq]; exact gcdI_pos h
  by_cases hb : 0 < b
  · rw [if_pos hb, Int.sign_eq_one_of_pos hb, Int.one_mul, Int.fdiv_eq_ediv_of_nonneg _ (by omega)]
  · have hb2 : b < 0 := by omega
    rw [if_neg hb, Int.sign_eq_neg_one_of_neg hb2, Int.neg_one_mul, ← Int.fdiv_eq_ediv_of_nonneg _ (by omega), ← Int.neg_fdiv_neg, Int.neg_neg]
theorem low_den {t b : Int} (h : b ≠ 0) : lowB t b = ((divInt t b).den : Int) := by
  rw [Rat.den_divInt, if_neg h]
  unfold lowB lowD
  rw [gcdI_eq]
  have hg : (0 : Int) < (Int.gcd b t : Int) := by
    rw [← gcdI_eq]; exact gcdI_pos h
  rw [Int.natCast_ediv]
  by_cases hb : 0 < b
  · rw [if_pos hb, Int.fdiv_eq_ediv_of_nonneg _ (by omega), Int.natAbs_of_nonneg (by omega)]
  · rw [if_neg hb, show ((b.natAbs : Nat) : Int) = -b by omega, ← Int.fdiv_eq_ediv_of_nonneg _ (by omega), ← Int.neg_fdiv_neg, Int.neg_neg]
/-- a number below 2 ^ k over one below 2 ^ k -/
def Sq (k : Nat) (q : Rat) : Prop := q.num.natAbs < 2 ^ k ∧ q.den < 2 ^ k
theorem Sq.mono {j k : Nat} {q : Rat} (h : Sq j q) (e : j ≤ k) : Sq k q := ⟨Nat.lt_of_lt_of_le h.1 (Nat.pow_le_pow_right (by decide) e), Nat.lt_of_lt_of_le h.2 (Nat.pow_le_pow_right (by decide) e)⟩
theorem Sq.n {k : Nat} {q : Rat} (h : Sq k q) (e : k ≤ 1000) : Sz q.num := (h.mono e).1
theorem Sq.d {k : Nat} {q : Rat} (h : Sq k q) (e : k ≤ 1000) : Sz (q.den : Int) := (h.mono e).2
theorem num_le (t b : Int) : (divInt t b).num.natAbs ≤ t.natAbs := by
  rw [Rat.num_divInt]
  refine Nat.le_trans (Int.natAbs_ediv_le_natAbs _ _) ?_
  rw [Int.natAbs_mul]
  rcases Int.lt_trichotomy b 0 with h | h | h
  · rw [Int.sign_eq_neg_one_of_neg h]; simp
  · subst h; simp
  · rw [Int.sign_eq_one_of_pos h]; simp
theorem den_le {t b : Int} (h : b ≠ 0) : (divInt t b).den ≤ b.natAbs := by
  rw [Rat.den_divInt, if_neg h]
  exact Nat.div_le_self _ _
theorem Sq.of {k : Nat} {t b : Int} (h : b ≠ 0) (ht : t.natAbs < 2 ^ k) (hb : b.natAbs < 2 ^ k) : Sq k (divInt t b) := ⟨Nat.lt_of_le_of_lt (num_le t b) ht, Nat.lt_of_le_of_lt (den_le h) hb⟩
theorem den_ne (q : Rat) : (q.den : Int) ≠ 0 := by have := q.den_pos; omega
theorem den_pos (q : Rat) : (0 : Int) < (q.den : Int) := by have := q.den_pos; omega
theorem q_add (p q : Rat) : divInt (p.num * q.den + q.num * p.den) (p.den * q.den) = p + q := by
  conv => rhs; rw [← Rat.num_divInt_den p, ← Rat.num_divInt_den q]
  rw [Rat.divInt_add_divInt _ _ (den_ne p) (den_ne q)]
theorem q_sub (p q : Rat) : divInt (p.num * q.den - q.num * p.den) (p.den * q.den) = p - q := by
  conv => rhs; rw [← Rat.num_divInt_den p, ← Rat.num_divInt_den q]
  rw [Rat.divInt_sub_divInt _ _ (den_ne p) (den_ne q)]
theorem q_mul (p q : Rat) : divInt (p.num * q.num) (p.den * q.den) = p * q := by
  conv => rhs; rw [← Rat.num_divInt_den p, ← Rat.num_divInt_den q]
  rw [Rat.divInt_mul_divInt]
theorem q_div {p q : Rat} : divInt (p.num * q.den) (p.den * q.num) = p / q := by
  rw [Rat.divInt_eq_div]
  conv => rhs; rw [← Rat.num_divInt_den p, ← Rat.num_divInt_den q]
  rw [Rat.divInt_eq_div, Rat.divInt_eq_div, Rat.intCast_mul, Rat.intCast_mul]
  have h1 : ((p.den : Int) : Rat) ≠ 0 := by simpa using den_ne p
  have h2 : ((q.den : Int) : Rat) ≠ 0 := by simpa using den_ne q
  grind
theorem q_neg (p : Rat) : divInt (-p.num) p.den = -p := by
  conv => rhs; rw [← Rat.num_divInt_den p]
  rw [Rat.neg_divInt]
theorem fdiv_pos (n d k : Int) (hd : 0 < d) (hk : 0 < k) : (n * k).fdiv (d * k) = n / d := by
  rw [Int.fdiv_eq_ediv_of_nonneg _ (by exact Int.le_of_lt (Int.mul_pos hd hk)), Int.mul_ediv_mul_of_pos_left _ _ hk]
theorem q_fdiv {t b : Int} (h : b ≠ 0) : t.fdiv b = (divInt t b).floor := by
  obtain ⟨m, hm, e1, e2⟩ := Rat.divInt_num_den (n := t) (n' := (divInt t b).num) (d' := (divInt t b).den) (z' := (divInt t b).den_nz) (c := (divInt t b).reduced) h rfl
  rw [Rat.floor_def]
  have hd := den_pos (divInt t b)
  generalize (divInt t b).num = n at *
  generalize ((divInt t b).den : Int) = d at *
  rw [e1, e2]
  by_cases hp : 0 < m
  · exact fdiv_pos n d m hd hp
  · rw [← Int.neg_fdiv_neg, ← Int.mul_neg, ← Int.mul_neg]
    exact fdiv_pos n d (-m) hd (by omega)
theorem q_lt (p q : Rat) : decide (p.num * q.den - q.num * p.den < 0) = decide (p < q) := decide_eq_decide.mpr ⟨fun h => (Rat.lt_iff p q).mpr (by omega), fun h => by have := (Rat.lt_iff p q).mp h; omega⟩
theorem q_le (p q : Rat) : decide (p.num * q.den - q.num * p.den ≤ 0) = decide (p ≤ q) := decide_eq_decide.mpr ⟨fun h => (Rat.le_iff p q).mpr (by omega), fun h => by have := (Rat.le_iff p q).mp h; omega⟩
theorem q_gt (p q : Rat) : decide (0 < p.num * q.den - q.num * p.den) = decide (q < p) := decide_eq_decide.mpr ⟨fun h => (Rat.lt_iff q p).mpr (by omega), fun h => by have := (Rat.lt_iff q p).mp h; omega⟩
theorem q_ge (p q : Rat) : decide (0 ≤ p.num * q.den - q.num * p.den) = decide (q ≤ p) := decide_eq_decide.mpr ⟨fun h => (Rat.le_iff q p).mpr (by omega), fun h => by have := (Rat.le_iff q p).mp h; omega⟩
theorem q_eq (p q : Rat) : (decide (p.num = q.num) && decide ((p.den : Int) = q.den)) = decide (p = q) := by
  by_cases h : p = q
  · subst h; simp
  · rw [decide_eq_false h]
    by_cases h1 : p.num = q.num
    · have h2 : (p.den : Int) ≠ q.den := fun e => h (Rat.ext h1 (by exact_mod_cast e))
      simp [h2]
    · simp [h1]
/-! ### sizes -/
theorem mul_lt {i j : Int} {a b : Nat} (ha : i.natAbs < 2 ^ a) (hb : j.natAbs < 2 ^ b) : (i * j).natAbs < 2 ^ (a + b) := wide_lt ha hb
theorem den_abs (q : Rat) : ((q.den : Int)).natAbs = q.den := Int.natAbs_natCast _
theorem add_lt {i j : Int} {a : Nat} (ha : i.natAbs < 2 ^ a) (hb : j.natAbs < 2 ^ a) : (i + j).natAbs < 2 ^ (a + 1) := by
  have := Int.natAbs_add_le i j
  rw [Nat.pow_succ]
  omega
theorem sub_lt {i j : Int} {a : Nat} (ha : i.natAbs < 2 ^ a) (hb : j.natAbs < 2 ^ a) : (i - j).natAbs < 2 ^ (a + 1) := by
  have := Int.natAbs_sub_le i j
  rw [Nat.pow_succ]
  omega
theorem Sq.dd {k : Nat} {q : Rat} (h : Sq k q) : ((q.den : Int)).natAbs < 2 ^ k := by rw [den_abs]; exact h.2
section
variable {j k : Nat} {p q : Rat}
theorem Sq.dm (a : Sq j p) (b : Sq k q) : ((p.den : Int) * q.den).natAbs < 2 ^ (j + k) := mul_lt a.dd b.dd
theorem Sq.tadd (a : Sq j p) (b : Sq k q) : (p.num * q.den + q.num * p.den).natAbs < 2 ^ (j + k + 1) := add_lt (mul_lt a.1 b.dd) (by rw [Nat.add_comm]; exact mul_lt b.1 a.dd)
theorem Sq.tsub (a : Sq j p) (b : Sq k q) : (p.num * q.den - q.num * p.den).natAbs < 2 ^ (j + k + 1) := sub_lt (mul_lt a.1 b.dd) (by rw [Nat.add_comm]; exact mul_lt b.1 a.dd)
theorem dm_ne (p q : Rat) : (p.den : Int) * q.den ≠ 0 := Int.mul_ne_zero (den_ne p) (den_ne q)
theorem Sq.add (a : Sq j p) (b : Sq k q) : Sq (j + k + 1) (p + q) := by rw [← q_add]; exact Sq.of (dm_ne p q) (a.tadd b) (Nat.lt_of_lt_of_le (a.dm b) (Nat.pow_le_pow_right (by decide) (by omega)))
theorem Sq.sub (a : Sq j p) (b : Sq k q) : Sq (j + k + 1) (p - q) := by rw [← q_sub]; exact Sq.of (dm_ne p q) (a.tsub b) (Nat.lt_of_lt_of_le (a.dm b) (Nat.pow_le_pow_right (by decide) (by omega)))
theorem Sq.mul (a : Sq j p) (b : Sq k q) : Sq (j + k) (p * q) := by rw [← q_mul]; exact Sq.of (dm_ne p q) (mul_lt a.1 b.1) (a.dm b)
theorem num_ne {q : Rat} (h : q ≠ 0) : q.num ≠ 0 := fun e => h (Rat.num_eq_zero.mp e)
theorem dn_ne (p : Rat) {q : Rat} (h : q ≠ 0) : (p.den : Int) * q.num ≠ 0 := Int.mul_ne_zero (den_ne p) (num_ne h)
theorem Sq.div (a : Sq j p) (b : Sq k q) (h : q ≠ 0) : Sq (j + k) (p / q) := by rw [← q_div]; exact Sq.of (dn_ne p h) (mul_lt a.1 b.dd) (mul_lt a.dd b.1)
theorem Sq.neg (a : Sq j p) : Sq j (-p) := by
  refine ⟨?_, a.2⟩
  show (-p.num).natAbs < _
  rw [Int.natAbs_neg]
  exact a.1
theorem Sq.abs (a : Sq j p) : Sq j p.abs := by
  unfold Rat.abs
  split
  · exact a
  · exact a.neg
theorem Sq.int {i : Int} (h : i.natAbs < 2 ^ k) (h0 : 0 < k) : Sq k (i : Rat) := ⟨by rw [Rat.num_intCast]; exact h, by rw [Rat.den_intCast]; exact Nat.one_lt_two_pow (by omega)⟩
end
end Toy
set_option maxRecDepth 100000
set_option maxHeartbeats 4000000
namespace Toy
open PySem L2
open Rat (divInt)
/-! ### what the operators of Ratio promise, in rationals -/
def RatQ (C : Addr) (H : Hp) (a : Addr) (q : Rat) : Prop := RatAt C H a q.num q.den
inductive NumQ (C : Addr) (H : Hp) : V → Rat → Prop
  | int (i : Int) : NumQ C H (.int i) (i : Rat)
  | rat {a : Addr} {q : Rat} (h : RatQ C H a q) : NumQ C H (.ref a) q
theorem RatQ.same {C : Addr} {H H' : Hp} {a : Addr} {q : Rat} (h : RatQ C H a q) (e : Same H H') : RatQ C H' a q := RatAt.same h e
theorem RatQ.but {C p : Addr} {H H' : Hp} {a : Addr} {q : Rat} (h : RatQ C H a q) (e : But p H H') (hp : a ≠ p) : RatQ C H' a q := RatAt.but h e hp
theorem NumQ.same {C : Addr} {H H' : Hp} {v : V} {q : Rat} (h : NumQ C H v q) (e : Same H H') : NumQ C H' v q := by
  cases h with
  | int => exact .int _
  | rat h => exact .rat (h.same e)
theorem NumQ.at_ {C : Addr} {H : Hp} {v : V} {q : Rat} (h : NumQ C H v q) : NumAt C H v q.num q.den := by
  cases h with
  | int i => exact .int i
  | rat h => exact .rat h
theorem RatQ.ins {C : Addr} {H : Hp} {a : Addr} {q : Rat} (h : RatQ C H a q) : ∃ dx fs, H a = some (.ins C dx fs) := let ⟨dx, h⟩ := h; ⟨dx, _, h⟩
/-- an int or an instance, as the operators' rules ask -/
theorem NumQ.ri {C : Addr} {H : Hp} {v : V} {q : Rat} (h : NumQ C H v q) : (∃ j, v = .int j) ∨ ∃ b dy gs, v = .ref b ∧ H b = some (.ins C dy gs) := by
  cases h with
  | int i => exact .inl ⟨i, rfl⟩
  | rat h => obtain ⟨dx, h⟩ := h; exact .inr ⟨_, dx, _, rfl, h⟩
theorem NumQ.cases {C : Addr} {H : Hp} {v : V} {q : Rat} (h : NumQ C H v q) : (∃ i : Int, v = .int i ∧ q = i) ∨ ∃ a, v = .ref a ∧ RatQ C H a q := by
  cases h with
  | int i => exact .inl ⟨i, rfl, rfl⟩
  | rat h => exact .inr ⟨_, rfl, h⟩
section
variable {P : Program} {w : World} {K : PySem.W.Frag} {mg : Str → Option Value} {base : Heap} {C : Addr}
theorem mkQ {H1 : Hp} {t b : Int} {Q : VK} {E : XK} {q : Rat} (hb : b ≠ 0) (hz : Sz b) (e : divInt t b = q) (k : ∀ x H', Same H1 H' → RatQ C H' x q → Q (.ref x) H') :
    ∀ x dx, H1 x = none → H1 dx = none → dx ≠ x → spRInit C [.ref x, .int t, .int b] (upd (upd H1 dx (.own x)) x (.ins C dx [])) (fun v H2 => v = .non ∧ Q (.ref x) H2) E :=
  spRInit.make hb hz fun x H' _ s r => k x H' s (by rw [low_num hb, low_den hb, e] at r; exact r)
/-- a Ratio and a number, a Ratio out -/
def spBin (C : Addr) (G : Rat → Rat → Prop) (f : Rat → Rat → Rat) : Sp := fun vs H Q _ => ∃ a u p q, vs = [.ref a, u] ∧ RatQ C H a p ∧ NumQ C H u q ∧ (Sq 490 p ∧ Sq 490 q) ∧ G p q ∧ ∀ x H', Same H H' → RatQ C H' x (f p q) → Q (.ref x) H'
def spUn (C : Addr) (f : Rat → Rat) : Sp := fun vs H Q _ => ∃ a p, vs = [.ref a] ∧ RatQ C H a p ∧ Sq 490 p ∧ ∀ x H', Same H H' → RatQ C H' x (f p) → Q (.ref x) H'
abbrev GT : Rat → Rat → Prop := fun _ _ => True
theorem z4 {p : Rat} (h : Sq 490 p) : Sz p.num ∧ Sz (p.den : Int) := ⟨h.n (by decide), h.d (by decide)⟩
theorem szd {p q : Rat} (a : Sq 490 p) (b : Sq 490 q) : Sz ((p.den : Int) * q.den) := Nat.lt_of_lt_of_le (a.dm b) (Nat.pow_le_pow_right (by decide) (by decide))
abbrev sOver : Stmt := inClass (top 17) 7
theorem scOver : FnScope ["self", "number", "top", "bottom"] ["self", "number"] (defScope sOver) := ⟨rfl, rfl, rfl, by decide +kernel, rfl, by decide +kernel, by decide +kernel⟩
theorem ok_over {f f2 f3 : Addr} {fd fd2 fd3 : FuncData} (F : Fun K "over" "Ratio.over" sOver f fd) (T_Ratio : RatT K mg C) (C_parts_of : Cal P w K mg base 1 "parts_of" f2 fd2 ["number"] (spParts C)) (M_Ratio : Mak P w K mg base 2 "Ratio" C f3 fd3 ["self", "top", "bottom"] (spRInit C)) :
    FnOk P w K mg base CX0 4 f fd ["self", "number"] (spBin C (fun _ q => q ≠ 0) fun p q => p / q) := by
  refine F.ok scOver (fun vs H Q E h => ?_) (fun cdv A outer s H vs Q E hr h => ?_)
  · obtain ⟨a, u, p, q, rfl, _⟩ := h
    rfl
  · obtain ⟨a, u, p, q, rfl, hp, hq, ⟨zp, zq⟩, hG, k⟩ := h
    have nd := scOver.nd
    refine ⟨_, pss_cons (ps_asg (pe_call C_parts_of.F (hr.mono (by decide)) (by rfl) C_parts_of.mgf C_parts_of.kp C_parts_of.b .nil pass0 (pa_cons (pv 1) pa_nil)) (pg_tup (by rfl) (pgs_cons (pg_name (i := 2) nd rfl (Or.inl rfl)) (pgs_cons (pg_name (i := 3) nd rfl (Or.inl rfl)) pgs_nil))))
      (pss_one (ps_ret (pe_make M_Ratio.M M_Ratio.F (hr.mono (by decide)) (by rfl) M_Ratio.mgC M_Ratio.b .nil pass0 (pa_cons (pe_op op_mulW (pe_fld (pv 0) rfl) (pv 3)) (pa_cons (pe_op op_mulW (pe_fld (pv 0) rfl) (pv 2)) pa_nil))))), ?_⟩
    have hv := hq.at_
    obtain ⟨dx, h0⟩ := id hp
    refine ⟨_, rfl, _, _, _, rfl, hv, fun p1 hp1 => ⟨_, _, rfl, SqT.of upd_same, rfl, _, _, rfl, _, _, rfl, rfl, ?_⟩⟩
    have s1 : Same H (upd H p1 (.tup [.int q.num, .int (q.den : Int)])) := same_new hp1
    have h1 := s1 _ _ h0
    refine ⟨_, rfl, _, C, dx, _, _, rfl, h1, T_Ratio.cl, T_Ratio.nT, ratF_top _ _, _, rfl, _, _, rfl, rfl, ((z4 zp).1.mul (z4 zq).2), _, rfl, _, C, dx, _, _, rfl, h1, T_Ratio.cl, T_Ratio.nB, ratF_bot _ _, _, rfl, _, _, rfl, rfl, (z4 zp).2.mul (z4 zq).1, ?_⟩
    exact mkQ (dn_ne p hG) (Nat.lt_of_lt_of_le (mul_lt zp.dd zq.1) (Nat.pow_le_pow_right (by decide) (by decide))) (q_div) fun x H' s2 r => k x H' (s1.trans s2) r
abbrev sAdd : Stmt := inClass (top 17) 8
theorem scAdd : FnScope ["self", "other", "top", "bottom"] ["self", "other"] (defScope sAdd) := ⟨rfl, rfl, rfl, by decide +kernel, rfl, by decide +kernel, by decide +kernel⟩
theorem ok_add {f p1 f1 f2 f3 : Addr} {fd fd1 fd2 fd3 : FuncData} (F : Fun K "__add__" "Ratio.__add__" sAdd f fd) (T_Ratio : RatT K mg C) (S_Ratio_is_number : Sta P w K mg base 2 C "is_number" p1 f1 fd1 ["value"] (spIsNum K C)) (C_parts_of : Cal P w K mg base 1 "parts_of" f2 fd2 ["number"] (spParts C)) (M_Ratio : Mak P w K mg base 2 "Ratio" C f3 fd3 ["self", "top", "bottom"] (spRInit C)) :
    FnOk P w K mg base CX0 4 f fd ["self", "other"] (spBin C GT fun p q => p + q) := by
  refine F.ok scAdd (fun vs H Q E h => ?_) (fun cdv A outer s H vs Q E hr h => ?_)
  · obtain ⟨a, u, p, q, rfl, _⟩ := h
    rfl
  · obtain ⟨a, u, p, q, rfl, hp, hq, ⟨zp, zq⟩, hG, k⟩ := h
    have nd := scAdd.nd
    refine ⟨_, pss_cons (ps_if (pt_not (pt_val (Own.pe_smeth T_Ratio.rd S_Ratio_is_number.s S_Ratio_is_number.F (hr.mono (by decide)) S_Ratio_is_number.b pass0 (Own.pe_gref (by rfl) T_Ratio.mgC) (pa_cons (pv 1) pa_nil)))) pss_never pss_nil)
      (pss_cons (ps_asg (pe_call C_parts_of.F (hr.mono (by decide)) (by rfl) C_parts_of.mgf C_parts_of.kp C_parts_of.b .nil pass0 (pa_cons (pv 1) pa_nil)) (pg_tup (by rfl) (pgs_cons (pg_name (i := 2) nd rfl (Or.inl rfl)) (pgs_cons (pg_name (i := 3) nd rfl (Or.inl rfl)) pgs_nil))))
      (pss_one (ps_ret (pe_make M_Ratio.M M_Ratio.F (hr.mono (by decide)) (by rfl) M_Ratio.mgC M_Ratio.b .nil pass0 (pa_cons (pe_op op_add (pe_op op_mulW (pe_fld (pv 0) rfl) (pv 3)) (pe_op op_mulW (pv 2) (pe_fld (pv 0) rfl))) (pa_cons (pe_op op_mulW (pe_fld (pv 0) rfl) (pv 3)) pa_nil)))))), ?_⟩
    have hv := hq.at_
    obtain ⟨dx, h0⟩ := id hp
    obtain ⟨t, b, c, ty, hb, hc, hbc⟩ := hv.info T_Ratio.toClT
    refine ⟨rfl, _, rfl, _, t, b, c, rfl, ty, hb, hc, _, rfl, iteNot hbc ?_⟩
    refine ⟨_, rfl, _, _, _, rfl, hv, fun p1 hp1 => ⟨_, _, rfl, SqT.of upd_same, rfl, _, _, rfl, _, _, rfl, rfl, ?_⟩⟩
    have s1 : Same H (upd H p1 (.tup [.int q.num, .int (q.den : Int)])) := same_new hp1
    have h1 := s1 _ _ h0
    refine ⟨_, rfl, _, C, dx, _, _, rfl, h1, T_Ratio.cl, T_Ratio.nT, ratF_top _ _, _, rfl, _, _, rfl, rfl, ((z4 zp).1.mul (z4 zq).2), _, rfl, _, rfl, _, C, dx, _, _, rfl, h1, T_Ratio.cl, T_Ratio.nB, ratF_bot _ _, _, _, rfl, rfl, ((z4 zq).1.mul (z4 zp).2), _, _, rfl, rfl, _, rfl, _, C, dx, _, _, rfl, h1, T_Ratio.cl, T_Ratio.nB, ratF_bot _ _, _, rfl, _, _, rfl, rfl, ((z4 zp).2.mul (z4 zq).2), ?_⟩
    exact mkQ (dm_ne p q) (szd zp zq) (q_add p q) fun x H' s2 r => k x H' (s1.trans s2) r
abbrev sSub : Stmt := inClass (top 17) 10
theorem scSub : FnScope ["self", "other", "top", "bottom"] ["self", "other"] (defScope sSub) := ⟨rfl, rfl, rfl, by decide +kernel, rfl, by decide +kernel, by decide +kernel⟩
theorem ok_sub {f p1 f1 f2 f3 : Addr} {fd fd1 fd2 fd3 : FuncData} (F : Fun K "__sub__" "Ratio.__sub__" sSub f fd) (T_Ratio : RatT K mg C) (S_Ratio_is_number : Sta P w K mg base 2 C "is_number" p1 f1 fd1 ["value"] (spIsNum K C)) (C_parts_of : Cal P w K mg base 1 "parts_of" f2 fd2 ["number"] (spParts C)) (M_Ratio : Mak P w K mg base 2 "Ratio" C f3 fd3 ["self", "top", "bottom"] (spRInit C)) :
    FnOk P w K mg base CX0 4 f fd ["self", "other"] (spBin C GT fun p q => p - q) := by
  refine F.ok scSub (fun vs H Q E h => ?_) (fun cdv A outer s H vs Q E hr h => ?_)
  · obtain ⟨a, u, p, q, rfl, _⟩ := h
    rfl
  · obtain ⟨a, u, p, q, rfl, hp, hq, ⟨zp, zq⟩, hG, k⟩ := h
    have nd := scSub.nd
    refine ⟨_, pss_cons (ps_if (pt_not (pt_val (Own.pe_smeth T_Ratio.rd S_Ratio_is_number.s S_Ratio_is_number.F (hr.mono (by decide)) S_Ratio_is_number.b pass0 (Own.pe_gref (by rfl) T_Ratio.mgC) (pa_cons (pv 1) pa_nil)))) pss_never pss_nil)
      (pss_cons (ps_asg (pe_call C_parts_of.F (hr.mono (by decide)) (by rfl) C_parts_of.mgf C_parts_of.kp C_parts_of.b .nil pass0 (pa_cons (pv 1) pa_nil)) (pg_tup (by rfl) (pgs_cons (pg_name (i := 2) nd rfl (Or.inl rfl)) (pgs_cons (pg_name (i := 3) nd rfl (Or.inl rfl)) pgs_nil))))
      (pss_one (ps_ret (pe_make M_Ratio.M M_Ratio.F (hr.mono (by decide)) (by rfl) M_Ratio.mgC M_Ratio.b .nil pass0 (pa_cons (pe_op op_sub (pe_op op_mulW (pe_fld (pv 0) rfl) (pv 3)) (pe_op op_mulW (pv 2) (pe_fld (pv 0) rfl))) (pa_cons (pe_op op_mulW (pe_fld (pv 0) rfl) (pv 3)) pa_nil)))))), ?_⟩
    have hv := hq.at_
    obtain ⟨dx, h0⟩ := id hp
    obtain ⟨t, b, c, ty, hb, hc, hbc⟩ := hv.info T_Ratio.toClT
    refine ⟨rfl, _, rfl, _, t, b, c, rfl, ty, hb, hc, _, rfl, iteNot hbc ?_⟩
    refine ⟨_, rfl, _, _, _, rfl, hv, fun p1 hp1 => ⟨_, _, rfl, SqT.of upd_same, rfl, _, _, rfl, _, _, rfl, rfl, ?_⟩⟩
    have s1 : Same H (upd H p1 (.tup [.int q.num, .int (q.den : Int)])) := same_new hp1
    have h1 := s1 _ _ h0
    refine ⟨_, rfl, _, C, dx, _, _, rfl, h1, T_Ratio.cl, T_Ratio.nT, ratF_top _ _, _, rfl, _, _, rfl, rfl, ((z4 zp).1.mul (z4 zq).2), _, rfl, _, rfl, _, C, dx, _, _, rfl, h1, T_Ratio.cl, T_Ratio.nB, ratF_bot _ _, _, _, rfl, rfl, ((z4 zq).1.mul (z4 zp).2), _, _, rfl, rfl, _, rfl, _, C, dx, _, _, rfl, h1, T_Ratio.cl, T_Ratio.nB, ratF_bot _ _, _, rfl, _, _, rfl, rfl, ((z4 zp).2.mul (z4 zq).2), ?_⟩
    exact mkQ (dm_ne p q) (szd zp zq) (q_sub p q) fun x H' s2 r => k x H' (s1.trans s2) r
abbrev sMul : Stmt := inClass (top 17) 12
theorem scMul : FnScope ["self", "other", "top", "bottom"] ["self", "other"] (defScope sMul) := ⟨rfl, rfl, rfl, by decide +kernel, rfl, by decide +kernel, by decide +kernel⟩
theorem ok_mul {f p1 f1 f2 f3 : Addr} {fd fd1 fd2 fd3 : FuncData} (F : Fun K "__mul__" "Ratio.__mul__" sMul f fd) (T_Ratio : RatT K mg C) (S_Ratio_is_number : Sta P w K mg base 2 C "is_number" p1 f1 fd1 ["value"] (spIsNum K C)) (C_parts_of : Cal P w K mg base 1 "parts_of" f2 fd2 ["number"] (spParts C)) (M_Ratio : Mak P w K mg base 2 "Ratio" C f3 fd3 ["self", "top", "bottom"] (spRInit C)) :
    FnOk P w K mg base CX0 4 f fd ["self", "other"] (spBin C GT fun p q => p * q) := by
  refine F.ok scMul (fun vs H Q E h => ?_) (fun cdv A outer s H vs Q E hr h => ?_)
  · obtain ⟨a, u, p, q, rfl, _⟩ := h
    rfl
  · obtain ⟨a, u, p, q, rfl, hp, hq, ⟨zp, zq⟩, hG, k⟩ := h
    have nd := scMul.nd
    refine ⟨_, pss_cons (ps_if (pt_not (pt_val (Own.pe_smeth T_Ratio.rd S_Ratio_is_number.s S_Ratio_is_number.F (hr.mono (by decide)) S_Ratio_is_number.b pass0 (Own.pe_gref (by rfl) T_Ratio.mgC) (pa_cons (pv 1) pa_nil)))) pss_never pss_nil)
      (pss_cons (ps_asg (pe_call C_parts_of.F (hr.mono (by decide)) (by rfl) C_parts_of.mgf C_parts_of.kp C_parts_of.b .nil pass0 (pa_cons (pv 1) pa_nil)) (pg_tup (by rfl) (pgs_cons (pg_name (i := 2) nd rfl (Or.inl rfl)) (pgs_cons (pg_name (i := 3) nd rfl (Or.inl rfl)) pgs_nil))))
      (pss_one (ps_ret (pe_make M_Ratio.M M_Ratio.F (hr.mono (by decide)) (by rfl) M_Ratio.mgC M_Ratio.b .nil pass0 (pa_cons (pe_op op_mulW (pe_fld (pv 0) rfl) (pv 2)) (pa_cons (pe_op op_mulW (pe_fld (pv 0) rfl) (pv 3)) pa_nil)))))), ?_⟩
    have hv := hq.at_
    obtain ⟨dx, h0⟩ := id hp
    obtain ⟨t, b, c, ty, hb, hc, hbc⟩ := hv.info T_Ratio.toClT
    refine ⟨rfl, _, rfl, _, t, b, c, rfl, ty, hb, hc, _, rfl, iteNot hbc ?_⟩
    refine ⟨_, rfl, _, _, _, rfl, hv, fun p1 hp1 => ⟨_, _, rfl, SqT.of upd_same, rfl, _, _, rfl, _, _, rfl, rfl, ?_⟩⟩
    have s1 : Same H (upd H p1 (.tup [.int q.num, .int (q.den : Int)])) := same_new hp1
    have h1 := s1 _ _ h0
    refine ⟨_, rfl, _, C, dx, _, _, rfl, h1, T_Ratio.cl, T_Ratio.nT, ratF_top _ _, _, rfl, _, _, rfl, rfl, ((z4 zp).1.mul (z4 zq).1), _, rfl, _, C, dx, _, _, rfl, h1, T_Ratio.cl, T_Ratio.nB, ratF_bot _ _, _, rfl, _, _, rfl, rfl, ((z4 zp).2.mul (z4 zq).2), ?_⟩
    exact mkQ (dm_ne p q) (szd zp zq) (q_mul p q) fun x H' s2 r => k x H' (s1.trans s2) r
end
end Toy
set_option maxRecDepth 100000
set_option maxHeartbeats 4000000
set_option exponentiation.threshold 3000
namespace Toy
open PySem L2
open Rat (divInt)
theorem q_abs (p : Rat) : divInt (if p.num < 0 then -p.num else p.num) p.den = p.abs := by
  by_cases h : p.num < 0
  · rw [if_pos h, q_neg, Rat.abs, if_neg]
    intro z
    have := Rat.num_nonneg.mpr z
    omega
  · rw [if_neg h, Rat.num_divInt_den, Rat.abs, if_pos (Rat.num_nonneg.mp (by omega))]
theorem eqvT (n m x y : Int) : PyData.eqv (.tuple [.int n, .int m]) (.tuple [.int x, .int y]) = (decide (n = x) && decide (m = y)) := by
  show (n == x && (m == y && true)) = _
  rw [Bool.and_true]
  rfl
section
variable {P : Program} {w : World} {K : PySem.W.Frag} {mg : Str → Option Value} {base : Heap} {C : Addr}
/-- facts for an operator of Ratio with a Ratio at the left -/
structure BinF (K : PySem.W.Frag) (C : Addr) (op : Operator) : Prop where
  hc : PySem.W.selfFirst K C = true
  hR : ∃ rc, PySem.W.findIn K (.ref C) (dunderR op.info.2) = some rc ∧ (rc = none ∨ ∃ g : Addr, rc = some (.ref g))
  h1 : ∃ fo, PySem.W.findIn K (.type "int") (PySem.dunder op.info.2) = some fo
  h2 : ∃ ro, PySem.W.findIn K (.type "int") (dunderR op.info.2) = some ro
  hs : PySem.W.subIn K (.type "int") (.ref C) = some false
theorem op_B {X : Cx} {CX : CXT} {k : Nat} {f : Addr} {fd : FuncData} {ps : List Str} {sp : Sp} {E : XK} {op : Operator} (B : BinF X.K C op) (F : FnOk X.prog X.w X.K X.mg X.base CX k f fd ps sp) (hr : Room k X.A)
    (hs : PySem.W.findIn X.K (.ref C) (PySem.dunder op.info.2) = some (some (.ref f))) (hf : PySem.W.isFn X.K (.ref f) = true) (hb : Binds X.K fd ps []) (hx : Passes CX X E) : OpR X (binaryOp op) (Own.rOwnB C sp E) := by
  obtain ⟨rc, hR, hp⟩ := B.hR
  obtain ⟨fo, h1⟩ := B.h1
  obtain ⟨ro, h2⟩ := B.h2
  exact Own.op_ownB F hr hs hf B.hc hR hp h1 h2 B.hs hb hx
abbrev sNeg : Stmt := inClass (top 17) 18
theorem scNeg : FnScope ["self"] ["self"] (defScope sNeg) := ⟨rfl, rfl, rfl, by decide +kernel, rfl, by decide +kernel, by decide +kernel⟩
theorem ok_neg {f f3 : Addr} {fd fd3 : FuncData} (F : Fun K "__neg__" "Ratio.__neg__" sNeg f fd) (T_Ratio : RatT K mg C) (M_Ratio : Mak P w K mg base 2 "Ratio" C f3 fd3 ["self", "top", "bottom"] (spRInit C)) :
    FnOk P w K mg base CX0 4 f fd ["self"] (spUn C fun p => -p) := by
  refine F.ok scNeg (fun vs H Q E h => ?_) (fun cdv A outer s H vs Q E hr h => ?_)
  · obtain ⟨a, p, rfl, _⟩ := h
    rfl
  · obtain ⟨a, p, rfl, hp, zp, k⟩ := h
    have nd := scNeg.nd
    refine ⟨_, pss_one (ps_ret (pe_make M_Ratio.M M_Ratio.F (hr.mono (by decide)) (by rfl) M_Ratio.mgC M_Ratio.b .nil pass0 (pa_cons (pe_un un_neg (pe_fld (pv 0) rfl)) (pa_cons (pe_fld (pv 0) rfl) pa_nil)))), ?_⟩
    obtain ⟨dx, h1⟩ := id hp
    refine ⟨_, rfl, _, C, dx, _, _, rfl, h1, T_Ratio.cl, T_Ratio.nT, ratF_top _ _, _, rfl, _, rfl, _, C, dx, _, _, rfl, h1, T_Ratio.cl, T_Ratio.nB, ratF_bot _ _, ?_⟩
    exact mkQ (den_ne p) (z4 zp).2 (q_neg p) k
abbrev sAbs : Stmt := inClass (top 17) 19
theorem scAbs : FnScope ["self"] ["self"] (defScope sAbs) := ⟨rfl, rfl, rfl, by decide +kernel, rfl, by decide +kernel, by decide +kernel⟩
theorem ok_abs {f f3 : Addr} {fd fd3 : FuncData} (F : Fun K "__abs__" "Ratio.__abs__" sAbs f fd) (T : Bl mg) (T_Ratio : RatT K mg C) (M_Ratio : Mak P w K mg base 2 "Ratio" C f3 fd3 ["self", "top", "bottom"] (spRInit C)) :
    FnOk P w K mg base CX0 4 f fd ["self"] (spUn C Rat.abs) := by
  refine F.ok scAbs (fun vs H Q E h => ?_) (fun cdv A outer s H vs Q E hr h => ?_)
  · obtain ⟨a, p, rfl, _⟩ := h
    rfl
  · obtain ⟨a, p, rfl, hp, zp, k⟩ := h
    have nd := scAbs.nd
    refine ⟨_, pss_one (ps_ret (pe_make M_Ratio.M M_Ratio.F (hr.mono (by decide)) (by rfl) M_Ratio.mgC M_Ratio.b .nil pass0 (pa_cons (pe_callB call_abs (by rfl) T.abs (by decide +kernel) (pa_cons (pe_fld (pv 0) rfl) pa_nil)) (pa_cons (pe_fld (pv 0) rfl) pa_nil)))), ?_⟩
    obtain ⟨dx, h1⟩ := id hp
    refine ⟨_, rfl, _, C, dx, _, _, rfl, h1, T_Ratio.cl, T_Ratio.nT, ratF_top _ _, _, rfl, _, rfl, _, C, dx, _, _, rfl, h1, T_Ratio.cl, T_Ratio.nB, ratF_bot _ _, ?_⟩
    exact mkQ (den_ne p) (z4 zp).2 (q_abs p) k
/-- == with a number -/
def spEqQ (C : Addr) : Sp := fun vs H Q _ => ∃ a u p q, vs = [.ref a, u] ∧ RatQ C H a p ∧ NumQ C H u q ∧ ∀ H', Same H H' → Q (.bl (decide (p = q))) H'
abbrev sEq : Stmt := inClass (top 17) 21
theorem scEq : FnScope ["self", "other"] ["self", "other"] (defScope sEq) := ⟨rfl, rfl, rfl, by decide +kernel, rfl, by decide +kernel, by decide +kernel⟩
theorem ok_eq {f p1 f1 f2 : Addr} {fd fd1 fd2 : FuncData} (F : Fun K "__eq__" "Ratio.__eq__" sEq f fd) (T_Ratio : RatT K mg C) (S_Ratio_is_number : Sta P w K mg base 2 C "is_number" p1 f1 fd1 ["value"] (spIsNum K C)) (C_parts_of : Cal P w K mg base 1 "parts_of" f2 fd2 ["number"] (spParts C)) :
    FnOk P w K mg base CX0 3 f fd ["self", "other"] (spEqQ C) := by
  refine F.ok scEq (fun vs H Q E h => ?_) (fun cdv A outer s H vs Q E hr h => ?_)
  · obtain ⟨a, u, p, q, rfl, _⟩ := h
    rfl
  · obtain ⟨a, u, p, q, rfl, hp, hq, k⟩ := h
    have nd := scEq.nd
    refine ⟨_, pss_cons (ps_if (pt_not (pt_val (Own.pe_smeth T_Ratio.rd S_Ratio_is_number.s S_Ratio_is_number.F (hr.mono (by decide)) S_Ratio_is_number.b pass0 (Own.pe_gref (by rfl) T_Ratio.mgC) (pa_cons (pv 1) pa_nil)))) (pss_one (ps_ret pe_bl)) pss_nil)
      (pss_one (ps_ret (pe_cmpR (op_eqD hr.units) (pe_call C_parts_of.F (hr.mono (by decide)) (by rfl) C_parts_of.mgf C_parts_of.kp C_parts_of.b .nil pass0 (pa_cons (pv 0) pa_nil)) (pe_call C_parts_of.F (hr.mono (by decide)) (by rfl) C_parts_of.mgf C_parts_of.kp C_parts_of.b .nil pass0 (pa_cons (pv 1) pa_nil)) (nomark _)))), ?_⟩
    obtain ⟨t, b, c, ty, hb, hc, hbc⟩ := hq.at_.info T_Ratio.toClT
    refine ⟨rfl, _, rfl, _, t, b, c, rfl, ty, hb, hc, _, rfl, iteNot hbc ?_⟩
    refine ⟨_, rfl, _, _, _, rfl, (NumQ.rat hp).at_, fun x1 hx1 => ?_⟩
    have s1 : Same H (upd H x1 (.tup [.int p.num, .int (p.den : Int)])) := same_new hx1
    refine ⟨_, rfl, _, _, _, rfl, (hq.same s1).at_, fun x2 hx2 => ?_⟩
    have s2 := same_new (o := .tup [.int q.num, .int (q.den : Int)]) hx2
    refine ⟨_, _, .tup (SqT.of (s2 _ _ upd_same)) (.cons (.int _) (.cons (.int _) .nil)), .tup (SqT.of upd_same) (.cons (.int _) (.cons (.int _) .nil)), rfl, rfl, ?_⟩
    rw [eqvT, q_eq]
    exact k _ (s1.trans s2)
/-- the whole quotient -/
def spQuo (C : Addr) : Sp := fun vs H Q _ => ∃ v u p q, vs = [v, u] ∧ NumQ C H v p ∧ NumQ C H u q ∧ (Sq 490 p ∧ Sq 490 q) ∧ q ≠ 0 ∧ ∀ H', Same H H' → Q (.int (p / q).floor) H'
abbrev sQuo : Stmt := top 21
theorem scQuo : FnScope ["one", "other", "top", "bottom", "other_top", "other_bottom"] ["one", "other"] (defScope sQuo) := ⟨rfl, rfl, rfl, by decide +kernel, rfl, by decide +kernel, by decide +kernel⟩
theorem ok_quo {f f2 : Addr} {fd fd2 : FuncData} (F : Fun K "_quotient" "_quotient" sQuo f fd) (C_parts_of : Cal P w K mg base 1 "parts_of" f2 fd2 ["number"] (spParts C)) :
    FnOk P w K mg base CX0 2 f fd ["one", "other"] (spQuo C) := by
  refine F.ok scQuo (fun vs H Q E h => ?_) (fun cdv A outer s H vs Q E hr h => ?_)
  · obtain ⟨v, u, p, q, rfl, _⟩ := h
    rfl
  · obtain ⟨v, u, p, q, rfl, hp, hq, ⟨zp, zq⟩, h0, k⟩ := h
    have nd := scQuo.nd
    refine ⟨_, pss_cons (ps_asg (pe_call C_parts_of.F (hr.mono (by decide)) (by rfl) C_parts_of.mgf C_parts_of.kp C_parts_of.b .nil pass0 (pa_cons (pv 0) pa_nil)) (pg_tup (by rfl) (pgs_cons (pg_name (i := 2) nd rfl (Or.inl rfl)) (pgs_cons (pg_name (i := 3) nd rfl (Or.inl rfl)) pgs_nil))))
      (pss_cons (ps_asg (pe_call C_parts_of.F (hr.mono (by decide)) (by rfl) C_parts_of.mgf C_parts_of.kp C_parts_of.b .nil pass0 (pa_cons (pv 1) pa_nil)) (pg_tup (by rfl) (pgs_cons (pg_name (i := 4) nd rfl (Or.inl rfl)) (pgs_cons (pg_name (i := 5) nd rfl (Or.inl rfl)) pgs_nil))))
      (pss_cons (ps_if (pt_cmpR op_eq (pv 4) pe_int (nomark _)) pss_never pss_nil)
      (pss_one (ps_ret (pe_op op_fdivZ (pe_op op_mulW (pv 2) (pv 5)) (pe_op op_mulW (pv 3) (pv 4))))))), ?_⟩
    refine ⟨_, rfl, _, _, _, rfl, hp.at_, fun x1 hx1 => ⟨_, _, rfl, SqT.of upd_same, rfl, _, _, rfl, _, _, rfl, rfl, ?_⟩⟩
    have s1 : Same H (upd H x1 (.tup [.int p.num, .int (p.den : Int)])) := same_new hx1
    refine ⟨_, rfl, _, _, _, rfl, (hq.same s1).at_, fun x2 hx2 => ⟨_, _, rfl, SqT.of upd_same, rfl, _, _, rfl, _, _, rfl, rfl, ?_⟩⟩
    have s2 := same_new (o := .tup [.int q.num, .int (q.den : Int)]) hx2
    refine ⟨_, rfl, rfl, _, rfl, ?_⟩
    refine ite2 (fun e => absurd e (vint_ne (num_ne h0))) (fun _ => ?_)
    have hd : (p.den : Int) * q.num ≠ 0 := dn_ne p h0
    have zd : Sz ((p.den : Int) * q.num) := Nat.lt_of_lt_of_le (mul_lt zp.dd zq.1) (Nat.pow_le_pow_right (by decide) (by decide))
    refine ⟨_, rfl, _, rfl, _, _, rfl, rfl, (z4 zp).1.mul (z4 zq).2, _, rfl, _, rfl, _, _, rfl, rfl, (z4 zp).2.mul (z4 zq).1, _, _, rfl, rfl, zd.div hd, ?_⟩
    show Q (.int ((p.num * (q.den : Int)).fdiv ((p.den : Int) * q.num))) _
    rw [q_fdiv hd, q_div]
    exact k _ (s1.trans s2)
abbrev sRAdd : Stmt := inClass (top 17) 9
theorem scRAdd : FnScope ["self", "other"] ["self", "other"] (defScope sRAdd) := ⟨rfl, rfl, rfl, by decide +kernel, rfl, by decide +kernel, by decide +kernel⟩
theorem ok_radd {f g : Addr} {fd gd : FuncData} (F : Fun K "__radd__" "Ratio.__radd__" sRAdd f fd) (B : BinF K C .Add) (O : Opr P w K mg base 4 C "__add__" g gd ["self", "other"] (spBin C GT fun p q => p + q)) :
    FnOk P w K mg base CX0 5 f fd ["self", "other"] (spBin C GT fun p q => p + q) := by
  refine F.ok scRAdd (fun vs H Q E h => ?_) (fun cdv A outer s H vs Q E hr h => ?_)
  · obtain ⟨a, u, p, q, rfl, _⟩ := h
    rfl
  · obtain ⟨a, u, p, q, rfl, hp, hq, z, g, k⟩ := h
    have nd := scRAdd.nd
    refine ⟨_, pss_one (ps_ret (pe_op (op_B B O.F (hr.mono (by decide)) O.at_ O.fn O.b pass0) (pv 0) (pv 1))), ?_⟩
    obtain ⟨dx, fs, h1⟩ := hp.ins
    exact ⟨_, rfl, _, rfl, a, dx, fs, rfl, h1, hq.ri, a, u, p, q, rfl, hp, hq, z, g, k⟩
abbrev sRMul : Stmt := inClass (top 17) 13
theorem scRMul : FnScope ["self", "other"] ["self", "other"] (defScope sRMul) := ⟨rfl, rfl, rfl, by decide +kernel, rfl, by decide +kernel, by decide +kernel⟩
theorem ok_rmul {f g : Addr} {fd gd : FuncData} (F : Fun K "__rmul__" "Ratio.__rmul__" sRMul f fd) (B : BinF K C .Mult) (O : Opr P w K mg base 4 C "__mul__" g gd ["self", "other"] (spBin C GT fun p q => p * q)) :
    FnOk P w K mg base CX0 5 f fd ["self", "other"] (spBin C GT fun p q => p * q) := by
  refine F.ok scRMul (fun vs H Q E h => ?_) (fun cdv A outer s H vs Q E hr h => ?_)
  · obtain ⟨a, u, p, q, rfl, _⟩ := h
    rfl
  · obtain ⟨a, u, p, q, rfl, hp, hq, z, g, k⟩ := h
    have nd := scRMul.nd
    refine ⟨_, pss_one (ps_ret (pe_op (op_B B O.F (hr.mono (by decide)) O.at_ O.fn O.b pass0) (pv 0) (pv 1))), ?_⟩
    obtain ⟨dx, fs, h1⟩ := hp.ins
    exact ⟨_, rfl, _, rfl, a, dx, fs, rfl, h1, hq.ri, a, u, p, q, rfl, hp, hq, z, g, k⟩
abbrev sFDiv : Stmt := inClass (top 17) 14
theorem scFDiv : FnScope ["self", "other"] ["self", "other"] (defScope sFDiv) := ⟨rfl, rfl, rfl, by decide +kernel, rfl, by decide +kernel, by decide +kernel⟩
theorem ok_fdiv {f p1 f1 f2 : Addr} {fd fd1 fd2 : FuncData} (F : Fun K "__floordiv__" "Ratio.__floordiv__" sFDiv f fd) (T_Ratio : RatT K mg C) (S_Ratio_is_number : Sta P w K mg base 2 C "is_number" p1 f1 fd1 ["value"] (spIsNum K C)) (C__quotient : Cal P w K mg base 2 "_quotient" f2 fd2 ["one", "other"] (spQuo C)) :
    FnOk P w K mg base CX0 3 f fd ["self", "other"] (spQuo C) := by
  refine F.ok scFDiv (fun vs H Q E h => ?_) (fun cdv A outer s H vs Q E hr h => ?_)
  · obtain ⟨v, u, p, q, rfl, _⟩ := h
    rfl
  · obtain ⟨v, u, p, q, rfl, hp, hq, z, h0, k⟩ := h
    have nd := scFDiv.nd
    refine ⟨_, pss_cons (ps_if (pt_not (pt_val (Own.pe_smeth T_Ratio.rd S_Ratio_is_number.s S_Ratio_is_number.F (hr.mono (by decide)) S_Ratio_is_number.b pass0 (Own.pe_gref (by rfl) T_Ratio.mgC) (pa_cons (pv 1) pa_nil)))) pss_never pss_nil)
      (pss_one (ps_ret (pe_call C__quotient.F (hr.mono (by decide)) (by rfl) C__quotient.mgf C__quotient.kp C__quotient.b .nil pass0 (pa_cons (pv 0) (pa_cons (pv 1) pa_nil))))), ?_⟩
    obtain ⟨t, b, c, ty, hb, hc, hbc⟩ := hq.at_.info T_Ratio.toClT
    refine ⟨rfl, _, rfl, _, t, b, c, rfl, ty, hb, hc, _, rfl, iteNot hbc ?_⟩
    exact ⟨_, rfl, _, rfl, v, u, p, q, rfl, hp, hq, z, h0, k⟩
/-- a number as a Ratio -/
def spOfQ (C : Addr) : Sp := fun vs H Q _ => ∃ v q, vs = [v] ∧ NumQ C H v q ∧ ∀ r H', RatQ C H' r q → Same H H' → Q (.ref r) H'
theorem gcdI_one (i : Int) : gcdI i 1 = 1 := by
  unfold gcdI
  show ((Nat.gcd i.natAbs 1 : Nat) : Int) = 1
  rw [Nat.gcd_one_right]
  rfl
theorem Sz1 : Sz 1 := by unfold Sz; decide +kernel
theorem q_int (i : Int) : divInt i 1 = (i : Rat) := by
  rw [Rat.divInt_eq_div]
  have h : ((1 : Int) : Rat) = 1 := rfl
  grind
abbrev sOf : Stmt := inClass (top 17) 3
theorem scOf : FnScope ["number"] ["number"] (defScope sOf) := ⟨rfl, rfl, rfl, by decide +kernel, rfl, by decide +kernel, by decide +kernel⟩
theorem ok_of {f f1 f2 : Addr} {fd fd1 fd2 : FuncData} {dvs : List Value} (F : Fun K "of" "Ratio.of" sOf f fd) (T : Bl mg) (T_Ratio : RatT K mg C) (C_is_int : Cal P w K mg base 1 "is_int" f1 fd1 ["value"] (spIsInt K))
    (M_Ratio : Mak P w K mg base 2 "Ratio" C f2 fd2 ["self", "top", "bottom"] (spRInit C)) (hd : Vals [V.int 1] dvs) (hb1 : Binds K fd2 ["self", "top", "bottom"] dvs) : FnOk P w K mg base CX0 4 f fd ["number"] (spOfQ C) := by
  refine F.ok scOf (fun vs H Q E h => ?_) (fun cdv A outer s H vs Q E hr h => ?_)
  · obtain ⟨v, q, rfl, _⟩ := h
    rfl
  · obtain ⟨v, q, rfl, hv, k⟩ := h
    have nd := scOf.nd
    refine ⟨_, pss_cons (ps_if (pt_val (pe_callB call_isi (by rfl) T.isinstance (by decide +kernel) (pa_cons (pv 0) (pa_cons (Own.pe_gref (by rfl) T_Ratio.mgC) pa_nil)))) (pss_one (ps_ret (pv 0))) pss_nil)
      (pss_cons (ps_if (pt_not (pt_val (pe_call C_is_int.F (hr.mono (by decide)) (by rfl) C_is_int.mgf C_is_int.kp C_is_int.b .nil pass0 (pa_cons (pv 0) pa_nil)))) pss_never pss_nil)
      (pss_one (ps_ret (pe_make M_Ratio.M M_Ratio.F (hr.mono (by decide)) (by rfl) M_Ratio.mgC hb1 hd pass0 (pa_cons (pv 0) pa_nil))))), ?_⟩
    rcases hv.cases with ⟨i, rfl, rfl⟩ | ⟨a, rfl, hR⟩
    · refine ⟨_, rfl, _, _, _, _, false, rfl, .own _, .base (.int _), T_Ratio.iK, _, rfl, iteF ?_⟩
      refine ⟨_, rfl, _, _, true, rfl, .base (.int _), isIntK_int, _, rfl, iteF ?_⟩
      exact ⟨_, rfl, mkQ (by decide) Sz1 (q_int i) fun x H' s1 hR => k x H' hR s1⟩
    · obtain ⟨dx, h⟩ := id hR
      refine ⟨_, rfl, _, _, _, _, true, rfl, .own _, T_Ratio.ty h, T_Ratio.kS, _, rfl, iteT ?_⟩
      exact ⟨_, rfl, k a H hR (Same.refl H)⟩
/-- the rest -/
def qmod (p q : Rat) : Rat := p - ((p / q).floor : Rat) * q
def spMod (C : Addr) : Sp := spBin C (fun p q => q ≠ 0 ∧ Sq 120 p ∧ Sq 120 q) qmod
/-- int at the left, the reflected operator -/
theorem op_R {X : Cx} {CX : CXT} {k : Nat} {f f0 : Addr} {fd : FuncData} {ps : List Str} {sp : Sp} {E : XK} {op : Operator} {id : String} {Bi : Builtin} (B : BinF X.K C op) (F : FnOk X.prog X.w X.K X.mg X.base CX k f fd ps sp) (hr : Room k X.A)
    (hs : PySem.W.findIn X.K (.ref C) (dunderR op.info.2) = some (some (.ref f))) (hf : PySem.W.isFn X.K (.ref f) = true) (hs0 : PySem.W.findIn X.K (.ref C) (PySem.dunder op.info.2) = some (some (.ref f0))) (hsub : PySem.W.subIn X.K (.ref C) (.type "int") = some false)
    (hb : Binds X.K fd ps []) (hx : Passes CX X E) (fills : fillsNumberSlot (.type "int") op.info.2 = pure true) (slot : Slot "int" (PySem.dunder op.info.2) id) (entry : entryFor table id = some Bi) (args : ∀ a b, argsOk id ⟨[a, b], []⟩)
    (dec : ∀ (b : Int) (u : Tok) (l : Addr) (C dx : Addr), Meets (Bi ⟨[.int b u, .ref l], []⟩) (fun _ R s => s.heap.get? l = some (PySem.W.instObj C dx) ∧ R (.ok (.ret .notImplemented)) s)) : OpR X (binaryOp op) (Own.rReflB C sp E) :=
  Own.op_reflB F hr hs hf hs0 B.hc hsub hb hx fills slot entry args dec
theorem floor_sz {p q : Rat} (zp : Sq 120 p) (zq : Sq 120 q) (h : q ≠ 0) : (p / q).floor.natAbs < 2 ^ 241 := by
  have h1 := (zp.div zq h).1
  rw [Rat.floor_def]
  have h2 := Int.natAbs_ediv_le_natAbs (p / q).num ((p / q).den : Int)
  exact Nat.lt_of_le_of_lt h2 (Nat.lt_of_lt_of_le h1 (Nat.pow_le_pow_right (by decide) (by decide)))
abbrev sMod : Stmt := inClass (top 17) 16
theorem scMod : FnScope ["self", "other"] ["self", "other"] (defScope sMod) := ⟨rfl, rfl, rfl, by decide +kernel, rfl, by decide +kernel, by decide +kernel⟩
theorem ok_mod {f p1 f1 f2 f3 p3 f4 f5 f6 : Addr} {fd fd1 fd2 fd3 fd4 fd5 fd6 : FuncData} (F : Fun K "__mod__" "Ratio.__mod__" sMod f fd) (T_Ratio : RatT K mg C) (S_Ratio_is_number : Sta P w K mg base 2 C "is_number" p1 f1 fd1 ["value"] (spIsNum K C)) (C__quotient : Cal P w K mg base 2 "_quotient" f2 fd2 ["one", "other"] (spQuo C))
    (S_Ratio_of : Sta P w K mg base 4 C "of" p3 f3 fd3 ["number"] (spOfQ C)) (BM : BinF K C .Mult) (BS : BinF K C .Sub) (O_mul : Opr P w K mg base 4 C "__mul__" f4 fd4 ["self", "other"] (spBin C GT fun p q => p * q)) (O_rmul : Opr P w K mg base 5 C "__rmul__" f5 fd5 ["self", "other"] (spBin C GT fun p q => p * q))
    (O_sub : Opr P w K mg base 4 C "__sub__" f6 fd6 ["self", "other"] (spBin C GT fun p q => p - q)) :
    FnOk P w K mg base CX0 6 f fd ["self", "other"] (spMod C) := by
  refine F.ok scMod (fun vs H Q E h => ?_) (fun cdv A outer s H vs Q E hr h => ?_)
  · obtain ⟨v, u, p, q, rfl, _⟩ := h
    rfl
  · obtain ⟨v, u, p, q, rfl, hp, hq, z, ⟨h0, yp, yq⟩, k⟩ := h
    have nd := scMod.nd
    refine ⟨_, pss_cons (ps_if (pt_not (pt_val (Own.pe_smeth T_Ratio.rd S_Ratio_is_number.s S_Ratio_is_number.F (hr.mono (by decide)) S_Ratio_is_number.b pass0 (Own.pe_gref (by rfl) T_Ratio.mgC) (pa_cons (pv 1) pa_nil)))) pss_never pss_nil)
      (pss_one (ps_ret (pe_op (op_B BS O_sub.F (hr.mono (by decide)) O_sub.at_ O_sub.fn O_sub.b pass0) (pv 0) (pe_op (op_R BM O_rmul.F (hr.mono (by decide)) O_rmul.at_ O_rmul.fn O_mul.at_ T_Ratio.sI O_rmul.b pass0 PySem.F.fills_int_mul PySem.F.slot_int_mul PySem.F.entry_int_mul PySem.F.args_int_mul_2 Own.int_mul_dec) (pe_call C__quotient.F (hr.mono (by decide)) (by rfl) C__quotient.mgf C__quotient.kp C__quotient.b .nil pass0 (pa_cons (pv 0) (pa_cons (pv 1) pa_nil))) (Own.pe_smeth T_Ratio.rd S_Ratio_of.s S_Ratio_of.F (hr.mono (by decide)) S_Ratio_of.b pass0 (Own.pe_gref (by rfl) T_Ratio.mgC) (pa_cons (pv 1) pa_nil)))))), ?_⟩
    obtain ⟨t, b, c, ty, hb, hc, hbc⟩ := hq.at_.info T_Ratio.toClT
    refine ⟨rfl, _, rfl, _, t, b, c, rfl, ty, hb, hc, _, rfl, iteNot hbc ?_⟩
    refine ⟨_, rfl, _, rfl, _, rfl, _, _, p, q, rfl, .rat hp, hq, z, h0, fun H1 s1 => ?_⟩
    refine ⟨rfl, _, rfl, _, q, rfl, hq.same s1, fun r H2 hr2 s2 => ?_⟩
    obtain ⟨dx, fs, h1⟩ := hr2.ins
    have zf : Sq 241 ((p / q).floor : Rat) := Sq.int (floor_sz yp yq h0) (by decide)
    refine ⟨_, r, dx, fs, rfl, rfl, h1, r, _, q, _, rfl, hr2, .int _, ⟨z.2, zf.mono (by decide)⟩, True.intro, fun x H3 s3 hx => ?_⟩
    have hp3 := hp.same (s1.trans (s2.trans s3))
    obtain ⟨dv, gs, hv1⟩ := hp3.ins
    obtain ⟨dx2, fs2, hx2⟩ := hx.ins
    refine ⟨v, dv, gs, rfl, hv1, .inr ⟨x, dx2, fs2, rfl, hx2⟩, v, _, p, _, rfl, hp3, .rat hx, ⟨z.1, (yq.mul zf).mono (by decide)⟩, True.intro, fun y H4 s4 hy => ?_⟩
    refine k y H4 (s1.trans (s2.trans (s3.trans s4))) ?_
    unfold qmod
    rw [Rat.mul_comm _ q]
    exact hy
end
end Toy
set_option maxRecDepth 100000
set_option maxHeartbeats 4000000
namespace Toy
open PySem L2
/-! ### Ratio.of, ends -/
theorem vdec (a b : Int) : decide (V.int a = V.int b) = decide (a = b) := by
  by_cases h : a = b
  · rw [decide_eq_true h, decide_eq_true (congrArg V.int h)]
  · rw [decide_eq_false h, decide_eq_false fun e => h (V.int.inj e)]
theorem Sz0 : Sz 0 := by unfold Sz; decide +kernel
theorem NumAt.ref {C : Addr} {H : Hp} {v : V} {n d : Int} (h : NumAt C H v n d) : (∃ i, v = .int i ∧ n = i ∧ d = 1) ∨ ∃ a, v = .ref a ∧ RatAt C H a n d := by
  cases h with
  | int => exact .inl ⟨_, rfl, rfl, rfl⟩
  | rat h => exact .inr ⟨_, rfl, h⟩
theorem and2 {a b : Bool} (h : a = true) (h' : b = true) : (a && b) = true := by rw [h, h']; rfl
theorem iteTb {b : Bool} {A B : Prop} (h : b = true) (x : A) : if b = true then A else B := by
  subst h
  exact iteT x
theorem iteFb {b : Bool} {A B : Prop} (h : b = false) (x : B) : if b = true then A else B := by
  subst h
  exact iteF x
section
variable {P : Program} {w : World} {K : PySem.W.Frag} {mg : Str → Option Value} {base : Heap} {C CP : Addr}
def spOf (C : Addr) : Sp := fun vs H Q _ => ∃ v n d, vs = [v] ∧ NumAt C H v n d ∧ ∀ r H', RatAt C H' r n d → Same H H' → Q (.ref r) H'
theorem ok_ofN {f f1 f2 : Addr} {fd fd1 fd2 : FuncData} {dvs : List Value} (F : Fun K "of" "Ratio.of" sOf f fd) (T : Bl mg) (T_Ratio : RatT K mg C) (C_is_int : Cal P w K mg base 1 "is_int" f1 fd1 ["value"] (spIsInt K))
    (M_Ratio : Mak P w K mg base 2 "Ratio" C f2 fd2 ["self", "top", "bottom"] (spRInit C)) (hd : Vals [V.int 1] dvs) (hb1 : Binds K fd2 ["self", "top", "bottom"] dvs) : FnOk P w K mg base CX0 4 f fd ["number"] (spOf C) := by
  refine F.ok scOf (fun vs H Q E h => ?_) (fun cdv A outer s H vs Q E hr h => ?_)
  · obtain ⟨v, n, d, rfl, _⟩ := h
    rfl
  · obtain ⟨v, n, d, rfl, hv, q⟩ := h
    have nd := scOf.nd
    refine ⟨_, pss_cons (ps_if (pt_val (pe_callB call_isi (by rfl) T.isinstance (by decide +kernel) (pa_cons (pv 0) (pa_cons (Own.pe_gref (by rfl) T_Ratio.mgC) pa_nil)))) (pss_one (ps_ret (pv 0))) pss_nil)
      (pss_cons (ps_if (pt_not (pt_val (pe_call C_is_int.F (hr.mono (by decide)) (by rfl) C_is_int.mgf C_is_int.kp C_is_int.b .nil pass0 (pa_cons (pv 0) pa_nil)))) pss_never pss_nil)
      (pss_one (ps_ret (pe_make M_Ratio.M M_Ratio.F (hr.mono (by decide)) (by rfl) M_Ratio.mgC hb1 hd pass0 (pa_cons (pv 0) pa_nil))))), ?_⟩
    rcases hv.ref with ⟨i, rfl, rfl, rfl⟩ | ⟨a, rfl, hR⟩
    · refine ⟨_, rfl, _, _, _, _, false, rfl, .own _, .base (.int _), T_Ratio.iK, _, rfl, iteF ?_⟩
      refine ⟨_, rfl, _, _, true, rfl, .base (.int _), isIntK_int, _, rfl, iteF ?_⟩
      refine ⟨_, rfl, ?_⟩
      refine spRInit.make (t := n) (b := 1) (by decide) Sz1 fun x H' _ s1 hR => ?_
      rw [lowT_one (by decide) (gcdI_one n), lowB_one (by decide) (gcdI_one n)] at hR
      exact q x H' hR s1
    · obtain ⟨dx, h⟩ := id hR
      refine ⟨_, rfl, _, _, _, _, true, rfl, .own _, T_Ratio.ty h, T_Ratio.kS, _, rfl, iteT ?_⟩
      exact ⟨_, rfl, q a H hR (Same.refl H)⟩

/-- whether a number lies from its left bound on and below the right one -/
def spEnd (C : Addr) (g : Int → Int → Bool) : Sp := fun vs H Q _ => ∃ v n d, vs = [v] ∧ NumAt C H v n d ∧ 0 < d ∧ (Sz n ∧ Sz d) ∧ ∀ H', Same H H' → Q (.bl (g n d)) H'
abbrev sLE : Stmt := top 26
theorem scLE : FnScope ["value"] ["value"] (defScope sLE) := ⟨rfl, rfl, rfl, by decide +kernel, rfl, by decide +kernel, by decide +kernel⟩
theorem ok_lend {f p1 f1 f2 f3 : Addr} {fd fd1 fd2 fd3 : FuncData} (F : Fun K "_is_left_end" "_is_left_end" sLE f fd) (T_Ratio : RatT K mg C) (S_Ratio_is_number : Sta P w K mg base 2 C "is_number" p1 f1 fd1 ["value"] (spIsNum K C))
    (O_ge : Opr P w K mg base 3 C "__ge__" f2 fd2 ["self", "other"] (spCmp C fun z => decide (0 ≤ z))) (O_lt : Opr P w K mg base 3 C "__lt__" f3 fd3 ["self", "other"] (spCmp C fun z => decide (z < 0))) :
    FnOk P w K mg base CX0 4 f fd ["value"] (spEnd C fun n d => decide (0 ≤ n) && decide (n < d)) := by
  refine F.ok scLE (fun vs H Q E h => ?_) (fun cdv A outer s H vs Q E hr h => ?_)
  · obtain ⟨v, n, d, rfl, _⟩ := h
    rfl
  · obtain ⟨v, n, d, rfl, hv, hd, ⟨z1, z2⟩, q⟩ := h
    have nd := scLE.nd
    have q' : ∀ H', Same H H' → Q (.bl (decide (0 ≤ n) && decide (n < d))) H' := q
    refine ⟨_, pss_one (ps_ret (pe_and (Own.pe_smeth T_Ratio.rd S_Ratio_is_number.s S_Ratio_is_number.F (hr.mono (by decide)) S_Ratio_is_number.b pass0 (Own.pe_gref (by rfl) T_Ratio.mgC) (pa_cons (pv 0) pa_nil)) (pe_and (pe_cmpR (OpR.or op_le (Own.op_reflC O_ge.F (hr.mono (by decide)) O_ge.at_ O_ge.fn T_Ratio.sI O_ge.b pass0 PySem.F.slot_int_le PySem.F.entry_int_le PySem.F.args_int_le_2 Own.int_le_dec ⟨by decide, by decide⟩)) pe_int (pv 0) (nomark _)) (pe_one (pe_cmpR (OpR.or op_lt (Own.op_ownC O_lt.F (hr.mono (by decide)) O_lt.at_ O_lt.fn O_lt.b pass0)) (pv 0) pe_int (nomark _)))))), ?_⟩
    obtain ⟨t, b, c, ty, hb, hc, hbc⟩ := hv.info T_Ratio.toClT
    refine ⟨rfl, _, rfl, _, t, b, c, rfl, ty, hb, hc, _, rfl, ?_⟩
    rw [hbc]
    refine iteT ?_
    rcases hv.ref with ⟨i, rfl, rfl, rfl⟩ | ⟨a, rfl, hR⟩
    · refine ⟨_, rfl, .inl ⟨_, _, rfl, rfl, _, rfl, ?_⟩⟩
      by_cases h0 : 0 ≤ n
      · refine iteTb (decide_eq_true h0) ⟨_, rfl, .inl ⟨_, _, rfl, rfl, ?_⟩⟩
        have := q' H (Same.refl H)
        rw [decide_eq_true h0, Bool.true_and] at this
        exact this
      · refine iteFb (decide_eq_false h0) ?_
        have := q' H (Same.refl H)
        rw [decide_eq_false h0, Bool.false_and] at this
        exact this
    · obtain ⟨dx, h⟩ := id hR
      refine ⟨_, rfl, .inr ⟨_, a, dx, _, rfl, rfl, h, .ref a, .int 0, n, d, 0, 1, rfl, .rat hR, .int 0, ⟨z1, z2, Sz0, Sz1⟩, fun H' s1 => ⟨⟨_, rfl⟩, _, rfl, ?_⟩⟩⟩
      have e0 : n * 1 - 0 * d = n := by omega
      by_cases h0 : 0 ≤ n
      · refine iteTb (by rw [e0]; exact decide_eq_true h0) ⟨_, rfl, .inr ⟨a, dx, _, _, rfl, s1 _ _ h, .base (.int 1), T_Ratio.nI, .ref a, .int 1, n, d, 1, 1, rfl, .rat (hR.same s1), .int 1, ⟨z1, z2, Sz1, Sz1⟩, fun H2 s2 => ⟨⟨_, rfl⟩, ?_⟩⟩⟩
        show Q (.bl (decide (n * 1 - 1 * d < 0))) H2
        rw [show n * 1 - 1 * d = n - d by omega]
        have := q' H2 (s1.trans s2)
        rw [decide_eq_true h0, Bool.true_and] at this
        rw [show decide (n - d < 0) = decide (n < d) from decide_eq_decide.mpr (by omega)]
        exact this
      · refine iteFb (by rw [e0]; exact decide_eq_false h0) ?_
        have := q' H' s1
        rw [decide_eq_false h0, Bool.false_and] at this
        exact this
abbrev sRE : Stmt := top 27
theorem scRE : FnScope ["value"] ["value"] (defScope sRE) := ⟨rfl, rfl, rfl, by decide +kernel, rfl, by decide +kernel, by decide +kernel⟩
theorem ok_rend {f p1 f1 f2 f3 : Addr} {fd fd1 fd2 fd3 : FuncData} (F : Fun K "_is_right_end" "_is_right_end" sRE f fd) (T_Ratio : RatT K mg C) (S_Ratio_is_number : Sta P w K mg base 2 C "is_number" p1 f1 fd1 ["value"] (spIsNum K C))
    (O_gt : Opr P w K mg base 3 C "__gt__" f2 fd2 ["self", "other"] (spCmp C fun z => decide (0 < z))) (O_le : Opr P w K mg base 3 C "__le__" f3 fd3 ["self", "other"] (spCmp C fun z => decide (z ≤ 0))) :
    FnOk P w K mg base CX0 4 f fd ["value"] (spEnd C fun n d => decide (0 < n) && decide (n ≤ d)) := by
  refine F.ok scRE (fun vs H Q E h => ?_) (fun cdv A outer s H vs Q E hr h => ?_)
  · obtain ⟨v, n, d, rfl, _⟩ := h
    rfl
  · obtain ⟨v, n, d, rfl, hv, hd, ⟨z1, z2⟩, q⟩ := h
    have nd := scRE.nd
    have q' : ∀ H', Same H H' → Q (.bl (decide (0 < n) && decide (n ≤ d))) H' := q
    refine ⟨_, pss_one (ps_ret (pe_and (Own.pe_smeth T_Ratio.rd S_Ratio_is_number.s S_Ratio_is_number.F (hr.mono (by decide)) S_Ratio_is_number.b pass0 (Own.pe_gref (by rfl) T_Ratio.mgC) (pa_cons (pv 0) pa_nil)) (pe_and (pe_cmpR (OpR.or op_lt (Own.op_reflC O_gt.F (hr.mono (by decide)) O_gt.at_ O_gt.fn T_Ratio.sI O_gt.b pass0 PySem.F.slot_int_lt PySem.F.entry_int_lt PySem.F.args_int_lt_2 Own.int_lt_dec ⟨by decide, by decide⟩)) pe_int (pv 0) (nomark _)) (pe_one (pe_cmpR (OpR.or op_le (Own.op_ownC O_le.F (hr.mono (by decide)) O_le.at_ O_le.fn O_le.b pass0)) (pv 0) pe_int (nomark _)))))), ?_⟩
    obtain ⟨t, b, c, ty, hb, hc, hbc⟩ := hv.info T_Ratio.toClT
    refine ⟨rfl, _, rfl, _, t, b, c, rfl, ty, hb, hc, _, rfl, ?_⟩
    rw [hbc]
    refine iteT ?_
    rcases hv.ref with ⟨i, rfl, rfl, rfl⟩ | ⟨a, rfl, hR⟩
    · refine ⟨_, rfl, .inl ⟨_, _, rfl, rfl, _, rfl, ?_⟩⟩
      by_cases h0 : 0 < n
      · refine iteTb (decide_eq_true h0) ⟨_, rfl, .inl ⟨_, _, rfl, rfl, ?_⟩⟩
        have := q' H (Same.refl H)
        rw [decide_eq_true h0, Bool.true_and] at this
        exact this
      · refine iteFb (decide_eq_false h0) ?_
        have := q' H (Same.refl H)
        rw [decide_eq_false h0, Bool.false_and] at this
        exact this
    · obtain ⟨dx, h⟩ := id hR
      refine ⟨_, rfl, .inr ⟨_, a, dx, _, rfl, rfl, h, .ref a, .int 0, n, d, 0, 1, rfl, .rat hR, .int 0, ⟨z1, z2, Sz0, Sz1⟩, fun H' s1 => ⟨⟨_, rfl⟩, _, rfl, ?_⟩⟩⟩
      have e0 : n * 1 - 0 * d = n := by omega
      by_cases h0 : 0 < n
      · refine iteTb (by rw [e0]; exact decide_eq_true h0) ⟨_, rfl, .inr ⟨a, dx, _, _, rfl, s1 _ _ h, .base (.int 1), T_Ratio.nI, .ref a, .int 1, n, d, 1, 1, rfl, .rat (hR.same s1), .int 1, ⟨z1, z2, Sz1, Sz1⟩, fun H2 s2 => ⟨⟨_, rfl⟩, ?_⟩⟩⟩
        show Q (.bl (decide (n * 1 - 1 * d ≤ 0))) H2
        rw [show n * 1 - 1 * d = n - d by omega]
        have := q' H2 (s1.trans s2)
        rw [decide_eq_true h0, Bool.true_and] at this
        rw [show decide (n - d ≤ 0) = decide (n ≤ d) from decide_eq_decide.mpr (by omega)]
        exact this
      · refine iteFb (by rw [e0]; exact decide_eq_false h0) ?_
        have := q' H' s1
        rw [decide_eq_false h0, Bool.false_and] at this
        exact this

def spNeigh (C : Addr) : Sp := fun vs H Q _ => ∃ v u a b c d, vs = [v, u] ∧ NumAt C H v a b ∧ NumAt C H u c d ∧ (Sz a ∧ Sz b ∧ Sz c ∧ Sz d) ∧ ∀ H', Same H H' → Q (.bl (decide (b * c - a * d = 1))) H'
abbrev sNeigh : Stmt := top 30
theorem scNe : FnScope ["left", "right", "a", "b", "c", "d"] ["left", "right"] (defScope sNeigh) := ⟨rfl, rfl, rfl, by decide +kernel, rfl, by decide +kernel, by decide +kernel⟩
theorem ok_neigh {f f1 : Addr} {fd fd1 : FuncData} (F : Fun K "_are_neighbours" "_are_neighbours" sNeigh f fd) (C_parts_of : Cal P w K mg base 1 "parts_of" f1 fd1 ["number"] (spParts C)) : FnOk P w K mg base CX0 2 f fd ["left", "right"] (spNeigh C) := by
  refine F.ok scNe (fun vs H Q E h => ?_) (fun cdv A outer s H vs Q E hr h => ?_)
  · obtain ⟨v, u, a, b, c, d, rfl, _⟩ := h
    rfl
  · obtain ⟨v, u, a, b, c, d, rfl, hv, hu, ⟨z1, z2, z3, z4⟩, q⟩ := h
    have nd := scNe.nd
    refine ⟨_, pss_cons (ps_asg (pe_call C_parts_of.F (hr.mono (by decide)) (by rfl) C_parts_of.mgf C_parts_of.kp C_parts_of.b .nil pass0 (pa_cons (pv 0) pa_nil)) (pg_tup (by rfl) (pgs_cons (pg_name (i := 2) nd rfl (Or.inl rfl)) (pgs_cons (pg_name (i := 3) nd rfl (Or.inl rfl)) pgs_nil))))
      (pss_cons (ps_asg (pe_call C_parts_of.F (hr.mono (by decide)) (by rfl) C_parts_of.mgf C_parts_of.kp C_parts_of.b .nil pass0 (pa_cons (pv 1) pa_nil)) (pg_tup (by rfl) (pgs_cons (pg_name (i := 4) nd rfl (Or.inl rfl)) (pgs_cons (pg_name (i := 5) nd rfl (Or.inl rfl)) pgs_nil))))
      (pss_one (ps_ret (pe_cmpR op_eq (pe_op op_sub (pe_op op_mulW (pv 3) (pv 4)) (pe_op op_mulW (pv 2) (pv 5))) pe_int (nomark _))))), ?_⟩
    refine ⟨_, rfl, _, _, _, rfl, hv, fun p hp => ⟨_, _, rfl, SqT.of upd_same, rfl, _, _, rfl, _, _, rfl, rfl, ?_⟩⟩
    have s1 : Same H (upd H p (.tup [.int a, .int b])) := same_new hp
    refine ⟨_, rfl, _, _, _, rfl, hu.same s1, fun p2 hp2 => ⟨_, _, rfl, SqT.of upd_same, rfl, _, _, rfl, _, _, rfl, rfl, ?_⟩⟩
    refine ⟨_, rfl, _, rfl, _, _, rfl, rfl, z2.mul z3, _, rfl, _, rfl, _, _, rfl, rfl, z1.mul z4, _, _, rfl, rfl, rfl, ?_⟩
    rw [vdec]
    exact q _ (s1.trans (same_new hp2))

/-! ### a piece made -/
def pieF (l r : Addr) : List (Str × V) := putF "right" (.ref r) (putF "left" (.ref l) [])
theorem lr_ne : ¬ (("left" : Str) = "right") := by decide +kernel
theorem pieF_left (l r : Addr) : (pieF l r).lookup ("left" : Str) = some (.ref l) := by
  unfold pieF
  rw [lookup_putF, if_neg lr_ne, lookup_putF, if_pos rfl]
theorem pieF_right (l r : Addr) : (pieF l r).lookup ("right" : Str) = some (.ref r) := by
  unfold pieF
  rw [lookup_putF, if_pos rfl]
theorem pieF_no (l r : Addr) {m : Str} (h1 : ¬ m = "right") (h2 : ¬ m = "left") : (pieF l r).lookup m = none := by
  unfold pieF
  rw [lookup_putF, if_neg h1, lookup_putF, if_neg h2]
  all_goals rfl
/-- the Piece (a/b, c/d) stands at x -/
def PieAt (CP C : Addr) (H : Hp) (x : Addr) (a b c d : Int) : Prop := ∃ dx l r, H x = some (.ins CP dx (pieF l r)) ∧ RatAt C H l a b ∧ RatAt C H r c d
theorem PieAt.same {H H' : Hp} {x : Addr} {a b c d : Int} (h : PieAt CP C H x a b c d) (e : Same H H') : PieAt CP C H' x a b c d := let ⟨dx, l, r, h, h1, h2⟩ := h; ⟨dx, l, r, e _ _ h, h1.same e, h2.same e⟩
structure Nbr (a b c d : Int) : Prop where
  a0 : 0 ≤ a
  ab : a < b
  c0 : 0 < c
  cd : c ≤ d
  nb : b * c - a * d = 1
  za : Sz a
  zb : Sz b
  zc : Sz c
  zd : Sz d
def spPInit (CP C : Addr) : Sp := fun vs H Q _ => ∃ x dx v u a b c d, vs = [.ref x, v, u] ∧ H x = some (.ins CP dx []) ∧ NumAt C H v a b ∧ NumAt C H u c d ∧ Nbr a b c d ∧
  ∀ H', PieAt CP C H' x a b c d → (∀ y o, H y = some o → y ≠ x → H' y = some o) → Q .non H'
theorem spPInit.make {H1 : Hp} {v u : V} {a b c d : Int} {Q : VK} {E : XK} (hv : NumAt C H1 v a b) (hu : NumAt C H1 u c d) (hn : Nbr a b c d) (q : ∀ x H', H1 x = none → Same H1 H' → PieAt CP C H' x a b c d → Q (.ref x) H') :
    ∀ x dx, H1 x = none → H1 dx = none → dx ≠ x → spPInit CP C [.ref x, v, u] (upd (upd H1 dx (.own x)) x (.ins CP dx [])) (fun v H2 => v = .non ∧ Q (.ref x) H2) E := fun x dx hx hdx hne => by
  have s1 : Same H1 (upd (upd H1 dx (.own x)) x (.ins CP dx [])) := same_two hdx hx hne
  exact ⟨x, dx, v, u, a, b, c, d, rfl, upd_same, hv.same s1, hu.same s1, hn, fun H' hR hk => ⟨rfl, q x H' hx (fun y o e => hk y o (s1 _ _ e) (ne_of_none e hx)) hR⟩⟩
abbrev sPInit : Stmt := inClass (top 23) 0
theorem scPI : FnScope ["self", "left", "right"] ["self", "left", "right"] (defScope sPInit) := ⟨rfl, rfl, rfl, by decide +kernel, rfl, by decide +kernel, by decide +kernel⟩
theorem ok_pinit {f p1 f1 f2 f3 f4 : Addr} {fd fd1 fd2 fd3 fd4 : FuncData} (F : Fun K "__init__" "Piece.__init__" sPInit f fd) (T_Ratio : RatT K mg C) (T_Piece : PieT K mg CP) (S_Ratio_of : Sta P w K mg base 4 C "of" p1 f1 fd1 ["number"] (spOf C))
    (C__is_left_end : Cal P w K mg base 4 "_is_left_end" f2 fd2 ["value"] (spEnd C fun n d => decide (0 ≤ n) && decide (n < d))) (C__is_right_end : Cal P w K mg base 4 "_is_right_end" f3 fd3 ["value"] (spEnd C fun n d => decide (0 < n) && decide (n ≤ d)))
    (C__are_neighbours : Cal P w K mg base 2 "_are_neighbours" f4 fd4 ["left", "right"] (spNeigh C)) : FnOk P w K mg base CX0 5 f fd ["self", "left", "right"] (spPInit CP C) := by
  refine F.ok scPI (fun vs H Q E h => ?_) (fun cdv A outer s H vs Q E hr h => ?_)
  · obtain ⟨x, dx, v, u, a, b, c, d, rfl, _⟩ := h
    rfl
  · obtain ⟨x, dx, v, u, a, b, c, d, rfl, hx, hv, hu, hn, q⟩ := h
    have nd := scPI.nd
    refine ⟨_, pss_cons (ps_if (pt_not (pt_val (pe_call C__is_left_end.F (hr.mono (by decide)) (by rfl) C__is_left_end.mgf C__is_left_end.kp C__is_left_end.b .nil pass0 (pa_cons (pv 1) pa_nil)))) pss_never pss_nil)
      (pss_cons (ps_if (pt_not (pt_val (pe_call C__is_right_end.F (hr.mono (by decide)) (by rfl) C__is_right_end.mgf C__is_right_end.kp C__is_right_end.b .nil pass0 (pa_cons (pv 2) pa_nil)))) pss_never pss_nil)
      (pss_cons (ps_if (pt_not (pt_val (pe_call C__are_neighbours.F (hr.mono (by decide)) (by rfl) C__are_neighbours.mgf C__are_neighbours.kp C__are_neighbours.b .nil pass0 (pa_cons (pv 1) (pa_cons (pv 2) pa_nil))))) pss_never pss_nil)
      (pss_cons (ps_fld (pv 0) (Own.pe_smeth T_Ratio.rd S_Ratio_of.s S_Ratio_of.F (hr.mono (by decide)) S_Ratio_of.b pass0 (Own.pe_gref (by rfl) T_Ratio.mgC) (pa_cons (pv 1) pa_nil)) rfl)
      (pss_one (ps_fld (pv 0) (Own.pe_smeth T_Ratio.rd S_Ratio_of.s S_Ratio_of.F (hr.mono (by decide)) S_Ratio_of.b pass0 (Own.pe_gref (by rfl) T_Ratio.mgC) (pa_cons (pv 2) pa_nil)) rfl))))), ?_⟩
    refine ⟨_, rfl, v, a, b, rfl, hv, by have := hn.a0; have := hn.ab; omega, ⟨hn.za, hn.zb⟩, fun H1 s1 => ⟨_, rfl, iteNot (and2 (decide_eq_true hn.a0) (decide_eq_true hn.ab)) ?_⟩⟩
    refine ⟨_, rfl, u, c, d, rfl, hu.same s1, by have := hn.c0; have := hn.cd; omega, ⟨hn.zc, hn.zd⟩, fun H2 s2 => ⟨_, rfl, iteNot (and2 (decide_eq_true hn.c0) (decide_eq_true hn.cd)) ?_⟩⟩
    refine ⟨_, rfl, _, rfl, v, u, a, b, c, d, rfl, (hv.same s1).same s2, (hu.same s1).same s2, ⟨hn.za, hn.zb, hn.zc, hn.zd⟩, fun H3 s3 => ⟨_, rfl, iteNot (decide_eq_true hn.nb) ?_⟩⟩
    have t3 : Same H H3 := (s1.trans s2).trans s3
    refine ⟨rfl, _, rfl, v, a, b, rfl, hv.same t3, fun l H4 hl s4 => ⟨_, rfl, x, CP, dx, _, rfl, s4 _ _ (t3 _ _ hx), T_Piece.cl, T_Piece.nL, (by decide : 0 < 1000), ?_⟩⟩
    have t4 : ∀ y o, H y = some o → y ≠ x → (upd H4 x (.ins CP dx (putF "left" (.ref l) []))) y = some o := fun y o e n => by rw [upd_ne n]; exact s4 _ _ (t3 _ _ e)
    have hu4 : NumAt C (upd H4 x (.ins CP dx (putF "left" (.ref l) []))) u c d := by
      rcases hu.ref with ⟨i, rfl, rfl, rfl⟩ | ⟨r, rfl, dr, hr⟩
      · exact .int _
      · exact .rat ⟨dr, t4 _ _ hr (ne_of hr hx (by intro z; injection z with z1 z2 z3; cases z3))⟩
    refine ⟨rfl, _, rfl, u, c, d, rfl, hu4, fun r H5 hr s5 => ⟨_, rfl, x, CP, dx, _, rfl, s5 _ _ upd_same, T_Piece.cl, T_Piece.nR, (by decide : 1 < 1000), ?_⟩⟩
    have e5 : ∀ {y : Addr} {n m : Int}, RatAt C H5 y n m → RatAt C (upd H5 x (.ins CP dx (putF "right" (.ref r) (putF "left" (.ref l) [])))) y n m := fun {y n m} h => by
      obtain ⟨dy, h⟩ := h
      refine ⟨dy, ?_⟩
      rw [upd_ne (ne_of h (s5 _ _ upd_same) (by intro z; injection z with z1 z2 z3; cases z3))]
      exact h
    have hl4 : RatAt C (upd H4 x (.ins CP dx (putF "left" (.ref l) []))) l a b := by
      obtain ⟨dl, h⟩ := hl
      refine ⟨dl, ?_⟩
      rw [upd_ne (ne_of h (s4 _ _ (t3 _ _ hx)) (by intro z; injection z with z1 z2 z3; cases z3))]
      exact h
    refine q _ ⟨dx, l, r, upd_same, e5 (hl4.same s5), e5 hr⟩ fun y o e n => ?_
    rw [upd_ne n]
    exact s5 _ _ (t4 y o e n)
/-! ### middle, and - with an int at the left -/
theorem pq_mid (n d m e : Int) (h : d + e ≠ 0) : lowT (n + m) (d + e) = (Rat.divInt (n + m) (d + e)).num := low_num h
def spMid (CP C : Addr) : Sp := fun vs H Q _ => ∃ x a b c d, vs = [.ref x] ∧ PieAt CP C H x a b c d ∧ 0 < b + d ∧ Sz (b + d) ∧ ∀ r H', Same H H' → RatQ C H' r (Rat.divInt (a + c) (b + d)) → Q (.ref r) H'
abbrev sMid : Stmt := inClass (top 23) 3
theorem scMid : FnScope ["self"] ["self"] (defScope sMid) := ⟨rfl, rfl, rfl, by decide +kernel, rfl, by decide +kernel, by decide +kernel⟩
theorem ok_mid {f f3 : Addr} {fd fd3 : FuncData} (F : Fun K "middle" "Piece.middle" sMid f fd) (T_Ratio : RatT K mg C) (T_Piece : PieT K mg CP) (M_Ratio : Mak P w K mg base 2 "Ratio" C f3 fd3 ["self", "top", "bottom"] (spRInit C)) : FnOk P w K mg base CX0 4 f fd ["self"] (spMid CP C) := by
  refine F.ok scMid (fun vs H Q E h => ?_) (fun cdv A outer s H vs Q E hr h => ?_)
  · obtain ⟨x, a, b, c, d, rfl, _⟩ := h
    rfl
  · obtain ⟨x, a, b, c, d, rfl, ⟨dx, l, r, hx, ⟨dl, hl⟩, ⟨dr, hr2⟩⟩, h0, hz, k⟩ := h
    have nd := scMid.nd
    refine ⟨_, pss_one (ps_ret (pe_make M_Ratio.M M_Ratio.F (hr.mono (by decide)) (by rfl) M_Ratio.mgC M_Ratio.b .nil pass0 (pa_cons (pe_op op_add (pe_fld (pe_fld (pv 0) rfl) rfl) (pe_fld (pe_fld (pv 0) rfl) rfl)) (pa_cons (pe_op op_add (pe_fld (pe_fld (pv 0) rfl) rfl) (pe_fld (pe_fld (pv 0) rfl) rfl)) pa_nil)))), ?_⟩
    have L := fun (f : Str) => f
    refine ⟨_, rfl, _, CP, dx, _, _, rfl, hx, T_Piece.cl, T_Piece.nL, pieF_left _ _, _, C, dl, _, _, rfl, hl, T_Ratio.cl, T_Ratio.nT, ratF_top _ _, _, rfl, _, CP, dx, _, _, rfl, hx, T_Piece.cl, T_Piece.nR, pieF_right _ _, _, C, dr, _, _, rfl, hr2, T_Ratio.cl, T_Ratio.nT, ratF_top _ _, _, _, rfl, rfl,
      _, rfl, _, CP, dx, _, _, rfl, hx, T_Piece.cl, T_Piece.nL, pieF_left _ _, _, C, dl, _, _, rfl, hl, T_Ratio.cl, T_Ratio.nB, ratF_bot _ _, _, rfl, _, CP, dx, _, _, rfl, hx, T_Piece.cl, T_Piece.nR, pieF_right _ _, _, C, dr, _, _, rfl, hr2, T_Ratio.cl, T_Ratio.nB, ratF_bot _ _, _, _, rfl, rfl, ?_⟩
    exact mkQ (by omega) hz rfl k
abbrev sRSub : Stmt := inClass (top 17) 11
theorem scRSub : FnScope ["self", "other"] ["self", "other"] (defScope sRSub) := ⟨rfl, rfl, rfl, by decide +kernel, rfl, by decide +kernel, by decide +kernel⟩
theorem ok_rsub {f g g2 : Addr} {fd gd gd2 : FuncData} (F : Fun K "__rsub__" "Ratio.__rsub__" sRSub f fd) (B : BinF K C .Add) (O_add : Opr P w K mg base 4 C "__add__" g gd ["self", "other"] (spBin C GT fun p q => p + q)) (O_neg : Opr P w K mg base 4 C "__neg__" g2 gd2 ["self"] (spUn C fun p => -p)) :
    FnOk P w K mg base CX0 5 f fd ["self", "other"] (spBin C GT fun p q => -p + q) := by
  refine F.ok scRSub (fun vs H Q E h => ?_) (fun cdv A outer s H vs Q E hr h => ?_)
  · obtain ⟨a, u, p, q, rfl, _⟩ := h
    rfl
  · obtain ⟨a, u, p, q, rfl, hp, hq, z, g, k⟩ := h
    have nd := scRSub.nd
    refine ⟨_, pss_one (ps_ret (pe_op (op_B B O_add.F (hr.mono (by decide)) O_add.at_ O_add.fn O_add.b pass0) (pe_un (Own.un_ownNeg O_neg.F (hr.mono (by decide)) O_neg.at_ O_neg.fn O_neg.b pass0) (pv 0)) (pv 1))), ?_⟩
    obtain ⟨dx, fs, h1⟩ := hp.ins
    refine ⟨_, rfl, a, dx, fs, rfl, h1, a, p, rfl, hp, z.1, fun x H1 s1 hx => ?_⟩
    obtain ⟨dy, gs, h2⟩ := hx.ins
    exact ⟨_, rfl, x, dy, gs, rfl, h2, (hq.same s1).ri, x, _, -p, q, rfl, hx, hq.same s1, ⟨z.1.neg, z.2⟩, True.intro, fun y H2 s2 hy => k y H2 (s1.trans s2) hy⟩
end
end Toy
/-! The simplest fraction of an interval by quotients (pure arithmetic). -/
namespace Simp
/-- p / q lies strictly between t / b and f / g (g may be 0) -/
structure In (t b f g p q : Int) : Prop where
  q0 : 0 < q
  lo : t * q < p * b
  hi : p * g < f * q
/-- .. and no other one has a lesser numerator or denominator -/
structure Mn (t b f g p q : Int) : Prop where
  isIn : In t b f g p q
  least : ∀ x y, In t b f g x y → p ≤ x ∧ q ≤ y
theorem lt_of_mul {a b c : Int} (hc : 0 < c) (h : a * c < b * c) : a < b := Int.lt_of_mul_lt_mul_right h (by omega)
theorem over {t b f g p q w : Int} (hb : 0 < b) (hw : w * b ≤ t) (h : In t b f g p q) : w * q < p := by
  have h1 := Int.mul_le_mul_of_nonneg_right hw (show 0 ≤ q by have := h.q0; omega)
  have h2 := h.lo
  refine lt_of_mul hb ?_
  have e : w * q * b = w * b * q := by grind
  omega
theorem stop {t b f g w : Int} (hb : 0 < b) (hw : w * b ≤ t) (hw2 : t < (w + 1) * b) (h0 : 0 ≤ w) (h : (w + 1) * g < f) : Mn t b f g (w + 1) 1 := by
  refine ⟨⟨by decide, by omega, by omega⟩, fun x y hi => ?_⟩
  have h1 := over hb hw hi
  have h2 := hi.q0
  have h3 := Int.mul_le_mul_of_nonneg_left (show (1 : Int) ≤ y by omega) h0
  omega
/-- the interval of what is left -/
theorem turn {t b f g p q w : Int} : In t b f g p q → 0 < b → w * b ≤ t → In g (f - w * g) b (t - w * b) q (p - w * q) := fun h hb hw => by
  have h1 := over hb hw h
  refine ⟨by omega, ?_, ?_⟩
  · have h2 := h.hi
    have e : q * (f - w * g) - g * (p - w * q) = f * q - p * g := by grind
    omega
  · have h2 := h.lo
    have e : b * (p - w * q) - q * (t - w * b) = p * b - t * q := by grind
    omega
theorem back {t b f g p q w : Int} (h : In g (f - w * g) b (t - w * b) p q) (hp : 0 < p) : In t b f g (w * p + q) p := by
  refine ⟨hp, ?_, ?_⟩
  · have h2 := h.hi
    have e : (w * p + q) * b - t * p = b * q - p * (t - w * b) := by grind
    omega
  · have h2 := h.lo
    have e : f * p - (w * p + q) * g = p * (f - w * g) - g * q := by grind
    omega
theorem step {t b f g p q w : Int} (hb : 0 < b) (hw : w * b ≤ t) (h0 : 0 ≤ w) (hp : 0 < p) (m : Mn g (f - w * g) b (t - w * b) p q) : Mn t b f g (w * p + q) p := by
  refine ⟨back m.isIn hp, fun x y hi => ?_⟩
  obtain ⟨h1, h2⟩ := m.least _ _ (turn hi hb hw)
  have h3 := Int.mul_le_mul_of_nonneg_left h1 h0
  omega
/-- what is left is an interval again, and its numbers are less -/
theorem left {t b f g w : Int} (hb : 0 < b) (hg : 0 ≤ g) (hw : w * b ≤ t) (hw2 : t < (w + 1) * b) (h : t * g < f * b) (hn : f ≤ (w + 1) * g) :
    0 < f - w * g ∧ f - w * g ≤ g ∧ 0 ≤ t - w * b ∧ t - w * b < b ∧ g * (t - w * b) < b * (f - w * g) := by
  have e1 : (w + 1) * b = w * b + b := by grind
  have e2 : (w + 1) * g = w * g + g := by grind
  have h1 := Int.mul_le_mul_of_nonneg_right hw hg
  have e3 : w * b * g = w * g * b := by grind
  have h2 : w * g < f := lt_of_mul hb (by omega)
  have e4 : b * (f - w * g) - g * (t - w * b) = f * b - t * g := by grind
  refine ⟨by omega, by omega, by omega, by omega, by omega⟩
/-- the quotients, read as a fraction above 1 -/
def cf : List Int → Int × Int
  | [] => (1, 0)
  | v :: vs => (v * (cf vs).1 + (cf vs).2, (cf vs).1)
/-- the loop that reads them -/
def fold : List Int → Int → Int → Int → Int → Int × Int
  | [], _, _, t, b => (t, b)
  | v :: vs, lt, lb, t, b => fold vs t b (v * t + lt) (v * b + lb)
theorem fold_cf : ∀ (vs : List Int) (lt lb t b : Int), fold vs lt lb t b = (t * (cf vs).1 + lt * (cf vs).2, b * (cf vs).1 + lb * (cf vs).2)
  | [], lt, lb, t, b => by
    simp only [fold, cf]
    refine Prod.ext ?_ ?_ <;> simp
  | v :: vs, lt, lb, t, b => by
    simp only [fold, cf]
    rw [fold_cf vs]
    refine Prod.ext ?_ ?_ <;> dsimp only <;> grind
theorem cf_last (w : Int) : cf [w] = (w, 1) := by simp [cf]
/-- two numbers, minimal together, have no common factor -/
theorem coprime {t b f g p q : Int} (m : Mn t b f g p q) (hp : 0 < p) : Int.gcd p q = 1 := by
  obtain ⟨x, hx⟩ := Int.gcd_dvd_left (a := p) (b := q)
  obtain ⟨y, hy⟩ := Int.gcd_dvd_right (a := p) (b := q)
  have q0 := m.isIn.q0
  have hg : (0 : Int) < (Int.gcd p q : Int) := by
    have := Int.gcd_pos_of_ne_zero_left q (show p ≠ 0 by omega)
    omega
  suffices h : ((Int.gcd p q : Nat) : Int) = 1 by omega
  generalize ((Int.gcd p q : Nat) : Int) = d at *
  have y0 : 0 < y := lt_of_mul hg (by rw [Int.zero_mul, Int.mul_comm]; omega)
  have x0 : 0 < x := lt_of_mul hg (by rw [Int.zero_mul, Int.mul_comm]; omega)
  have lo := m.isIn.lo
  have hi := m.isIn.hi
  have hin : In t b f g x y := by
    refine ⟨y0, lt_of_mul hg ?_, lt_of_mul hg ?_⟩
    · have e1 : t * y * d = t * (d * y) := by grind
      have e2 : x * b * d = d * x * b := by grind
      rw [e1, e2, ← hx, ← hy]
      exact lo
    · have e1 : x * g * d = d * x * g := by grind
      have e2 : f * y * d = f * (d * y) := by grind
      rw [e1, e2, ← hx, ← hy]
      exact hi
  obtain ⟨h1, _⟩ := m.least _ _ hin
  by_cases h2 : d = 1
  · exact h2
  · have h3 := Int.mul_le_mul_of_nonneg_right (show 2 ≤ d by omega) (show 0 ≤ x by omega)
    omega
/-- quotients ahead of what is left -/
def cfa : List Int → Int × Int → Int × Int
  | [], r => r
  | v :: vs, r => (v * (cfa vs r).1 + (cfa vs r).2, (cfa vs r).1)
theorem cfa_snoc : ∀ (vs : List Int) (w p q : Int), cfa (vs ++ [w]) (p, q) = cfa vs (w * p + q, p)
  | [], _, _, _ => rfl
  | v :: vs, w, p, q => by
    show (v * (cfa (vs ++ [w]) (p, q)).1 + (cfa (vs ++ [w]) (p, q)).2, (cfa (vs ++ [w]) (p, q)).1) = _
    rw [cfa_snoc vs w p q]
    rfl
theorem cf_cfa : ∀ vs : List Int, cf vs = cfa vs (1, 0)
  | [] => rfl
  | v :: vs => by
    show (v * (cf vs).1 + (cf vs).2, (cf vs).1) = (v * (cfa vs (1, 0)).1 + (cfa vs (1, 0)).2, (cfa vs (1, 0)).1)
    rw [cf_cfa vs]
theorem cf_snoc (vs : List Int) (w : Int) : cf (vs ++ [w]) = cfa vs (w, 1) := by
  rw [cf_cfa, cfa_snoc, Int.mul_one, Int.add_zero]
theorem fold_le : ∀ (vs : List Int) (lt lb t b : Int), (∀ v ∈ vs, 1 ≤ v) → 0 ≤ lt → 0 ≤ lb → 0 ≤ t → 0 ≤ b → t ≤ (fold vs lt lb t b).1 ∧ b ≤ (fold vs lt lb t b).2
  | [], _, _, _, _, _, _, _, _, _ => ⟨Int.le_refl _, Int.le_refl _⟩
  | v :: vs, lt, lb, t, b, h, h1, h2, h3, h4 => by
    have hv := h v (List.mem_cons_self ..)
    have m1 := Int.mul_le_mul_of_nonneg_right hv h3
    have m2 := Int.mul_le_mul_of_nonneg_right hv h4
    obtain ⟨e1, e2⟩ := fold_le vs t b (v * t + lt) (v * b + lb) (fun u hu => h u (List.mem_cons_of_mem _ hu)) h3 h4 (by omega) (by omega)
    simp only [fold]
    exact ⟨by omega, by omega⟩
/-- what the loop keeps: tb and its kin below a bound, few turns -/
structure Lp (T B F G t b f g : Int) (qs : List Int) : Prop where
  b0 : 0 < b
  t0 : 0 ≤ t
  g0 : 0 ≤ g
  lt : t * g < f * b
  bt : b ≤ t
  pos : ∀ v ∈ qs, 1 ≤ v
  way : ∀ p q, 0 < p → Mn t b f g p q → Mn T B F G (cfa qs (p, q)).1 (cfa qs (p, q)).2
  few : qs = [] ∨ (2 : Int) ^ qs.length * (t * g) ≤ 2 * (2 : Int) ^ 900
theorem div_fl {t b : Int} (hb : 0 < b) : t / b * b ≤ t ∧ t < (t / b + 1) * b := by
  have h1 := Int.emod_add_mul_ediv t b
  have h2 := Int.emod_nonneg t (show b ≠ 0 by omega)
  have h3 := Int.emod_lt_of_pos t hb
  have e1 : t / b * b = b * (t / b) := Int.mul_comm _ _
  have e2 : (t / b + 1) * b = b * (t / b) + b := by grind
  omega
theorem Lp.one {T B F G t b f g : Int} {qs : List Int} (L : Lp T B F G t b f g qs) : 1 ≤ t / b := by
  have h := div_fl (t := t) L.b0
  have b0 := L.b0
  have bt := L.bt
  have e : (t / b + 1) * b = t / b * b + b := by grind
  by_cases h1 : 1 ≤ t / b
  · exact h1
  · have h2 : t / b ≤ 0 := by omega
    have h3 := Int.mul_le_mul_of_nonneg_right h2 (show 0 ≤ b by omega)
    rw [Int.zero_mul] at h3
    omega
/-- the end of the loop -/
theorem Lp.done {T B F G t b f g : Int} {qs : List Int} (L : Lp T B F G t b f g qs) (h : (t / b + 1) * g < f) : Mn T B F G (cf (qs ++ [t / b + 1])).1 (cf (qs ++ [t / b + 1])).2 := by
  have d := div_fl (t := t) L.b0
  have o := L.one
  rw [cf_snoc]
  exact L.way _ _ (by omega) (stop L.b0 d.1 d.2 (by omega) h)
/-- a turn -/
theorem Lp.next {T B F G t b f g : Int} {qs : List Int} (L : Lp T B F G t b f g qs) (h : f ≤ (t / b + 1) * g) (hs : qs = [] → g * b ≤ (2 : Int) ^ 900) : Lp T B F G g (f - t / b * g) b (t - t / b * b) (qs ++ [t / b]) := by
  have d := div_fl (t := t) L.b0
  have o := L.one
  obtain ⟨l1, l2, l3, l4, l5⟩ := left L.b0 L.g0 d.1 d.2 L.lt h
  refine ⟨l1, L.g0, l3, l5, l2, fun v hv => ?_, fun p q hp m => ?_, .inr ?_⟩
  · rcases List.mem_append.mp hv with hv | hv
    · exact L.pos v hv
    · rw [List.mem_singleton.mp hv]
      exact o
  · rw [cfa_snoc]
    refine L.way _ _ ?_ (step L.b0 d.1 (by omega) hp m)
    have q0 := m.isIn.q0
    have := Int.mul_le_mul_of_nonneg_right o (show 0 ≤ p by omega)
    omega
  · have g0 := L.g0
    have r2 : 2 * (t - t / b * b) ≤ t := by
      have e : (t / b + 1) * b = t / b * b + b := by grind
      have m := Int.mul_le_mul_of_nonneg_right o (show 0 ≤ b by have := L.b0; omega)
      omega
    rw [List.length_append]
    show (2 : Int) ^ (qs.length + 1) * (g * (t - t / b * b)) ≤ 2 * 2 ^ 900
    rw [Int.pow_succ]
    have m1 := Int.mul_le_mul_of_nonneg_left r2 g0
    rcases L.few with e | e
    · subst e
      have h9 := hs rfl
      have m2 := Int.mul_le_mul_of_nonneg_left (show t - t / b * b ≤ b by omega) g0
      show (2 : Int) ^ 0 * 2 * (g * (t - t / b * b)) ≤ _
      rw [Int.pow_zero]
      omega
    · have p0 : (0 : Int) ≤ 2 ^ qs.length := Int.le_of_lt (Int.pow_pos (by decide))
      have m2 := Int.mul_le_mul_of_nonneg_left m1 p0
      have e1 : (2 : Int) ^ qs.length * 2 * (g * (t - t / b * b)) = 2 ^ qs.length * (g * (2 * (t - t / b * b))) := by grind
      have e2 : (2 : Int) ^ qs.length * (g * t) = 2 ^ qs.length * (t * g) := by grind
      rw [e1]
      omega
theorem Lp.len {T B F G t b f g : Int} {qs : List Int} (L : Lp T B F G t b f g qs) (hg : 0 < g) : qs.length ≤ 901 := by
  have t1 : 1 ≤ t := by have := L.b0; have := L.bt; omega
  have m : 1 ≤ t * g := by
    have := Int.mul_le_mul_of_nonneg_right t1 (show 0 ≤ g by omega)
    omega
  rcases L.few with e | e
  · subst e; decide
  · have p0 : (0 : Int) ≤ 2 ^ qs.length := Int.le_of_lt (Int.pow_pos (by decide))
    have m2 := Int.mul_le_mul_of_nonneg_left m p0
    have h : (2 : Int) ^ qs.length ≤ 2 ^ 901 := by
      have e9 : (2 : Int) * 2 ^ 900 = 2 ^ 901 := by rw [Int.mul_comm, ← Int.pow_succ]
      omega
    have h2 : (2 : Nat) ^ qs.length ≤ 2 ^ 901 := by exact_mod_cast h
    exact (Nat.pow_le_pow_iff_right (by decide)).mp h2
end Simp
set_option maxRecDepth 100000
set_option maxHeartbeats 4000000
set_option exponentiation.threshold 3000
namespace Toy
open PySem L2
open Rat (divInt)
/-! ### comparisons, read in rationals -/
theorem q_self {q : Rat} (h : (q.den : Int) = 1) : q = (q.num : Rat) := by
  apply Rat.ext
  · rw [Rat.num_intCast]
  · rw [Rat.den_intCast]
    omega
section
variable {P : Program} {w : World} {K : PySem.W.Frag} {mg : Str → Option Value} {base : Heap} {C : Addr} {H : Hp} {a : Addr} {u : V} {p q : Rat} {Q : VK} {E : XK} {g g1 g2 : Int → Bool} {r : Bool}
theorem cmpL (T : RatT K mg C) (hp : RatQ C H a p) (hq : NumQ C H u q) (zp : Sq 490 p) (zq : Sq 490 q) (e : g (p.num * q.den - q.num * p.den) = r) (k : ∀ H', Same H H' → Q (.bl r) H') : Own.rOwnC K C (spCmp C g) E (.ref a) u H Q := by
  obtain ⟨dx, h⟩ := id hp
  have ty : ∃ t, TyX K H u t ∧ PySem.W.notFirst K C t = true := by
    rcases hq.cases with ⟨i, rfl, _⟩ | ⟨b, rfl, hb⟩
    · exact ⟨_, .base (.int _), T.nI⟩
    · obtain ⟨dy, h2⟩ := hb
      exact ⟨_, T.ty h2, T.nC⟩
  obtain ⟨t, t1, t2⟩ := ty
  exact ⟨a, dx, _, t, rfl, h, t1, t2, _, _, _, _, _, _, rfl, (NumQ.rat hp).at_, hq.at_, ⟨(z4 zp).1, (z4 zp).2, (z4 zq).1, (z4 zq).2⟩, fun H' s => ⟨⟨_, rfl⟩, by rw [e]; exact k H' s⟩⟩
theorem cmpB (T : RatT K mg C) (hp : RatQ C H a p) (hq : NumQ C H u q) (zp : Sq 490 p) (zq : Sq 490 q) (e1 : g1 (q.num * p.den - p.num * q.den) = r) (e2 : g2 (p.num * q.den - q.num * p.den) = r) (k : ∀ H', Same H H' → Q (.bl r) H') :
    Own.rOwnC K C (spCmp C g1) E u (.ref a) H Q ∨ Own.rReflC C (spCmp C g2) E u (.ref a) H Q := by
  rcases hq.cases with ⟨i, rfl, rfl⟩ | ⟨b, rfl, hb⟩
  · obtain ⟨dx, h⟩ := id hp
    exact .inr ⟨i, a, dx, _, rfl, rfl, h, _, _, _, _, _, _, rfl, (NumQ.rat hp).at_, hq.at_, ⟨(z4 zp).1, (z4 zp).2, (z4 zq).1, (z4 zq).2⟩, fun H' s => ⟨⟨_, rfl⟩, by rw [e2]; exact k H' s⟩⟩
  · exact .inl (cmpL T hb (.rat hp) zq zp e1 k)
theorem eqLq {g : Bool → Bool} (hp : RatQ C H a p) (hq : NumQ C H u q) (k : ∀ H', Same H H' → Q (.bl (g (decide (p = q)))) H') : Own.rEqL C (spEqQ C) E g (.ref a) u H Q := by
  obtain ⟨dx, h⟩ := id hp
  exact ⟨a, dx, _, rfl, h, hq.ri, a, u, p, q, rfl, hp, hq, fun H' s => ⟨_, rfl, k H' s⟩⟩
theorem eqBq {g : Bool → Bool} (hp : RatQ C H a p) (hq : NumQ C H u q) (k : ∀ H', Same H H' → Q (.bl (g (decide (p = q)))) H') : Own.rEqL C (spEqQ C) E g u (.ref a) H Q ∨ Own.rEqR C (spEqQ C) E g u (.ref a) H Q := by
  rcases hq.cases with ⟨i, rfl, rfl⟩ | ⟨b, rfl, hb⟩
  · obtain ⟨dx, h⟩ := id hp
    exact .inr ⟨i, a, dx, _, rfl, rfl, h, a, _, p, _, rfl, hp, hq, fun H' s => ⟨_, rfl, k H' s⟩⟩
  · refine .inl (eqLq hb (.rat hp) fun H' s => ?_)
    rw [show decide (q = p) = decide (p = q) from decide_eq_decide.mpr eq_comm]
    exact k H' s
theorem mk_same {H1 H' : Hp} {x dx C : Addr} (hx : H1 x = none) (hdx : H1 dx = none) (hk : ∀ c o, (upd (upd H1 dx (.own x)) x (.ins C dx [])) c = some o → c ≠ x → H' c = some o) : Same H1 H' := fun c o e =>
  hk c o (by rw [upd_ne (ne_of_none e hx), upd_ne (ne_of_none e hdx)]; exact e) (ne_of_none e hx)
theorem asQ {x : Addr} {t b : Int} (hb : b ≠ 0) (e : divInt t b = q) (h : RatAt C H x (lowT t b) (lowB t b)) : RatQ C H x q := by
  rw [low_num hb, low_den hb, e] at h
  exact h
theorem dec_sub1 (x y : Int) : decide (x - y < 0) = decide (x < y) := decide_eq_decide.mpr (by omega)
theorem dec_sub2 (x y : Int) : decide (x - y ≤ 0) = decide (x ≤ y) := decide_eq_decide.mpr (by omega)
theorem dec_sub3 (x y : Int) : decide (0 < x - y) = decide (y < x) := decide_eq_decide.mpr (by omega)
theorem dec_sub4 (x y : Int) : decide (0 ≤ x - y) = decide (y ≤ x) := decide_eq_decide.mpr (by omega)
end
end Toy
set_option maxRecDepth 100000
set_option maxHeartbeats 4000000
set_option exponentiation.threshold 3000
namespace Toy
open PySem L2
open Rat (divInt)
section
variable {P : Program} {w : World} {K : PySem.W.Frag} {mg : Str → Option Value} {base : Heap} {C CP : Addr}
abbrev sOct : Stmt := top 28
theorem scOct : FnScope ["value"] ["value"] (defScope sOct) := ⟨rfl, rfl, rfl, by decide +kernel, rfl, by decide +kernel, by decide +kernel⟩
theorem ok_oct {f p1 f1 f2 f3 : Addr} {fd fd1 fd2 fd3 : FuncData} (F : Fun K "_is_in_octave" "_is_in_octave" sOct f fd) (T_Ratio : RatT K mg C) (S_Ratio_is_number : Sta P w K mg base 2 C "is_number" p1 f1 fd1 ["value"] (spIsNum K C))
    (O_ge : Opr P w K mg base 3 C "__ge__" f2 fd2 ["self", "other"] (spCmp C fun z => decide (0 ≤ z))) (O_le : Opr P w K mg base 3 C "__le__" f3 fd3 ["self", "other"] (spCmp C fun z => decide (z ≤ 0))) :
    FnOk P w K mg base CX0 4 f fd ["value"] (spEnd C fun n d => decide (0 ≤ n) && decide (n ≤ d)) := by
  refine F.ok scOct (fun vs H Q E h => ?_) (fun cdv A outer s H vs Q E hr h => ?_)
  · obtain ⟨v, n, d, rfl, _⟩ := h
    rfl
  · obtain ⟨v, n, d, rfl, hv, hd, ⟨z1, z2⟩, q⟩ := h
    have nd := scOct.nd
    have q' : ∀ H', Same H H' → Q (.bl (decide (0 ≤ n) && decide (n ≤ d))) H' := q
    refine ⟨_, pss_one (ps_ret (pe_and (Own.pe_smeth T_Ratio.rd S_Ratio_is_number.s S_Ratio_is_number.F (hr.mono (by decide)) S_Ratio_is_number.b pass0 (Own.pe_gref (by rfl) T_Ratio.mgC) (pa_cons (pv 0) pa_nil)) (pe_and (pe_cmpR (OpR.or op_le (Own.op_reflC O_ge.F (hr.mono (by decide)) O_ge.at_ O_ge.fn T_Ratio.sI O_ge.b pass0 PySem.F.slot_int_le PySem.F.entry_int_le PySem.F.args_int_le_2 Own.int_le_dec ⟨by decide, by decide⟩)) pe_int (pv 0) (nomark _)) (pe_one (pe_cmpR (OpR.or op_le (Own.op_ownC O_le.F (hr.mono (by decide)) O_le.at_ O_le.fn O_le.b pass0)) (pv 0) pe_int (nomark _)))))), ?_⟩
    obtain ⟨t, b, c, ty, hb, hc, hbc⟩ := hv.info T_Ratio.toClT
    refine ⟨rfl, _, rfl, _, t, b, c, rfl, ty, hb, hc, _, rfl, ?_⟩
    rw [hbc]
    refine iteT ?_
    rcases hv.ref with ⟨i, rfl, rfl, rfl⟩ | ⟨a, rfl, hR⟩
    · refine ⟨_, rfl, .inl ⟨_, _, rfl, rfl, _, rfl, ?_⟩⟩
      by_cases h0 : 0 ≤ n
      · refine iteTb (decide_eq_true h0) ⟨_, rfl, .inl ⟨_, _, rfl, rfl, ?_⟩⟩
        have := q' H (Same.refl H)
        rw [decide_eq_true h0, Bool.true_and] at this
        exact this
      · refine iteFb (decide_eq_false h0) ?_
        have := q' H (Same.refl H)
        rw [decide_eq_false h0, Bool.false_and] at this
        exact this
    · obtain ⟨dx, h⟩ := id hR
      refine ⟨_, rfl, .inr ⟨_, a, dx, _, rfl, rfl, h, .ref a, .int 0, n, d, 0, 1, rfl, .rat hR, .int 0, ⟨z1, z2, Sz0, Sz1⟩, fun H' s1 => ⟨⟨_, rfl⟩, _, rfl, ?_⟩⟩⟩
      have e0 : n * 1 - 0 * d = n := by omega
      by_cases h0 : 0 ≤ n
      · refine iteTb (by rw [e0]; exact decide_eq_true h0) ⟨_, rfl, .inr ⟨a, dx, _, _, rfl, s1 _ _ h, .base (.int 1), T_Ratio.nI, .ref a, .int 1, n, d, 1, 1, rfl, .rat (hR.same s1), .int 1, ⟨z1, z2, Sz1, Sz1⟩, fun H2 s2 => ⟨⟨_, rfl⟩, ?_⟩⟩⟩
        show Q (.bl (decide (n * 1 - 1 * d ≤ 0))) H2
        rw [show n * 1 - 1 * d = n - d by omega]
        have := q' H2 (s1.trans s2)
        rw [decide_eq_true h0, Bool.true_and] at this
        rw [show decide (n - d ≤ 0) = decide (n ≤ d) from decide_eq_decide.mpr (by omega)]
        exact this
      · refine iteFb (by rw [e0]; exact decide_eq_false h0) ?_
        have := q' H' s1
        rw [decide_eq_false h0, Bool.false_and] at this
        exact this
/-- .. of what is no number -/
def spOctNo (K : PySem.W.Frag) (C : Addr) : Sp := fun vs H Q _ => ∃ v t, vs = [v] ∧ TyX K H v t ∧ isIntK K t false ∧ PySem.W.kitOne K t (.ref C) = some false ∧ Q (.bl false) H
theorem ok_octNo {f p1 f1 f2 f3 : Addr} {fd fd1 fd2 fd3 : FuncData} (F : Fun K "_is_in_octave" "_is_in_octave" sOct f fd) (T_Ratio : RatT K mg C) (S_Ratio_is_number : Sta P w K mg base 2 C "is_number" p1 f1 fd1 ["value"] (spIsNum K C))
    (O_ge : Opr P w K mg base 3 C "__ge__" f2 fd2 ["self", "other"] (spCmp C fun z => decide (0 ≤ z))) (O_le : Opr P w K mg base 3 C "__le__" f3 fd3 ["self", "other"] (spCmp C fun z => decide (z ≤ 0))) :
    FnOk P w K mg base CX0 4 f fd ["value"] (spOctNo K C) := by
  refine F.ok scOct (fun vs H Q E h => ?_) (fun cdv A outer s H vs Q E hr h => ?_)
  · obtain ⟨v, t, rfl, _⟩ := h
    rfl
  · obtain ⟨v, t, rfl, ty, hb, hc, q⟩ := h
    have nd := scOct.nd
    refine ⟨_, pss_one (ps_ret (pe_and (Own.pe_smeth T_Ratio.rd S_Ratio_is_number.s S_Ratio_is_number.F (hr.mono (by decide)) S_Ratio_is_number.b pass0 (Own.pe_gref (by rfl) T_Ratio.mgC) (pa_cons (pv 0) pa_nil)) (pe_and (pe_cmpR (OpR.or op_le (Own.op_reflC O_ge.F (hr.mono (by decide)) O_ge.at_ O_ge.fn T_Ratio.sI O_ge.b pass0 PySem.F.slot_int_le PySem.F.entry_int_le PySem.F.args_int_le_2 Own.int_le_dec ⟨by decide, by decide⟩)) pe_int (pv 0) (nomark _)) (pe_one (pe_cmpR (OpR.or op_le (Own.op_ownC O_le.F (hr.mono (by decide)) O_le.at_ O_le.fn O_le.b pass0)) (pv 0) pe_int (nomark _)))))), ?_⟩
    exact ⟨rfl, _, rfl, v, t, false, false, rfl, ty, hb, hc, _, rfl, iteF q⟩
def spFrom1 : Sp := fun vs H Q _ => ∃ i : Int, vs = [.int i] ∧ Q (.bl (decide (1 ≤ i))) H
abbrev sF1 : Stmt := top 29
theorem scF1 : FnScope ["value"] ["value"] (defScope sF1) := ⟨rfl, rfl, rfl, by decide +kernel, rfl, by decide +kernel, by decide +kernel⟩
theorem ok_from1 {f f1 : Addr} {fd fd1 : FuncData} (F : Fun K "_is_from_one_on" "_is_from_one_on" sF1 f fd) (C_is_int : Cal P w K mg base 1 "is_int" f1 fd1 ["value"] (spIsInt K)) : FnOk P w K mg base CX0 2 f fd ["value"] spFrom1 := by
  refine F.ok scF1 (fun vs H Q E h => ?_) (fun cdv A outer s H vs Q E hr h => ?_)
  · obtain ⟨i, rfl, _⟩ := h
    rfl
  · obtain ⟨i, rfl, q⟩ := h
    have nd := scF1.nd
    refine ⟨_, pss_one (ps_ret (pe_and (pe_call C_is_int.F (hr.mono (by decide)) (by rfl) C_is_int.mgf C_is_int.kp C_is_int.b .nil pass0 (pa_cons (pv 0) pa_nil)) (pe_one (pe_cmpR op_ge (pv 0) pe_int (nomark _))))), ?_⟩
    exact ⟨_, rfl, _, _, true, rfl, .base (.int _), isIntK_int, _, rfl, iteT ⟨_, rfl, _, _, rfl, rfl, q⟩⟩
/-- the fifth with these quotients -/
def spBy (C : Addr) : Sp := fun vs H Q _ => ∃ (p : Addr) (qs : List Int), vs = [.ref p] ∧ H p = some (.tup (qs.map V.int)) ∧ (∀ v ∈ qs, 1 ≤ v) ∧ (∃ i l, qs = i ++ [l] ∧ l ≠ 1) ∧ (Sz (Simp.fold qs 1 0 0 1).1 ∧ Sz (Simp.fold qs 1 0 0 1).2) ∧
  ∀ r H', Same H H' → RatQ C H' r (divInt (Simp.fold qs 1 0 0 1).1 (Simp.fold qs 1 0 0 1).2) → Q (.ref r) H'
abbrev sBy : Stmt := top 25
theorem scBy : FnScope ["quotients", "value", "last_top", "last_bottom", "top", "bottom"] ["quotients"] (defScope sBy) := ⟨rfl, rfl, rfl, by decide +kernel, rfl, by decide +kernel, by decide +kernel⟩
theorem ok_by {f f1 f2 : Addr} {fd fd1 fd2 : FuncData} (F : Fun K "ratio_by" "ratio_by" sBy f fd) (M_Ratio : Mak P w K mg base 2 "Ratio" C f2 fd2 ["self", "top", "bottom"] (spRInit C)) (C__is_from_one_on : Cal P w K mg base 2 "_is_from_one_on" f1 fd1 ["value"] spFrom1) :
    FnR P w K mg base CX0 4 f (fun vs H Q E => ∃ ws rest, vs = ws ++ rest ∧ ws.length = ([] : List Str).length ∧ rest.length ≤ sizeLine ∧ ∀ p, H p = none → spBy C (ws ++ [V.ref p]) (upd H p (.tup rest)) Q E) := by
  obtain ⟨oc, od, kV, doc, pm, an, cdv, ct, osl, rfl, lk, hcd⟩ := F.ex
  refine StX.fn_star (ps := ([] : List Str)) (pv := "quotients") (sp := spBy C) lk hcd scBy StX.cxUp_none (fun us rest hl => match us, rest, hl with | [], [], _ => rfl | [], _ :: _, _ => rfl) fun A outer s H vs Q E hr h => ?_
  obtain ⟨p, qs, rfl, hp, h1, ⟨i, l, hl, hl1⟩, ⟨z1, z2⟩, q⟩ := h
  have nd := scBy.nd
  have go : ∃ t, PSs (cxOf CX0 P w K mg base ["quotients", "value", "last_top", "last_bottom", "top", "bottom"] "ratio_by" (defScope sBy) f cdv A outer s H E).nox (defBody sBy) t ∧ t { nx := fun _ H' => Q .non H', rt := Q } (start ["quotients", "value", "last_top", "last_bottom", "top", "bottom"] [.ref p]) H := by
    refine ⟨_, pss_cons (ps_for PassesOwn.never rfl (pi_tup (pv 0)) (pg_name (i := 1) nd rfl (Or.inl rfl)) (pss_one (ps_if (pt_not (pt_val (pe_call C__is_from_one_on.F (hr.mono (by decide)) (by rfl) C__is_from_one_on.mgf C__is_from_one_on.kp C__is_from_one_on.b .nil pass0 (pa_cons (pv 1) pa_nil)))) pss_never pss_nil)))
      (pss_cons (ps_if (pt_not (pt_truth (pv 0) (fun _ => rfl))) pss_never pss_nil)
      (pss_cons (ps_if (pt_cmpR op_eq (pe_ix ix_tup (pv 0) (pe_un un_neg pe_int) (fun _ _ => rfl)) pe_int (nomark _)) pss_never pss_nil)
      (pss_cons (ps_asg (pe_tup (pa_cons pe_int (pa_cons pe_int (pa_cons pe_int (pa_cons pe_int pa_nil))))) (pg_tup (by rfl) (pgs_cons (pg_name (i := 2) nd rfl (Or.inl rfl)) (pgs_cons (pg_name (i := 3) nd rfl (Or.inl rfl)) (pgs_cons (pg_name (i := 4) nd rfl (Or.inl rfl)) (pgs_cons (pg_name (i := 5) nd rfl (Or.inl rfl)) pgs_nil))))))
      (pss_cons (ps_for PassesOwn.never rfl (pi_tup (pv 0)) (pg_name (i := 1) nd rfl (Or.inl rfl)) (pss_cons (ps_par (i := 2) (j := 4) (by rfl) nd rfl rfl (by decide) rfl rfl (pa_cons (pv 4) (pa_cons (pe_op op_add (pe_op op_mulW (pv 1) (pv 4)) (pv 2)) pa_nil)) (by rfl))
      (pss_one (ps_par (i := 3) (j := 5) (by rfl) nd rfl rfl (by decide) rfl rfl (pa_cons (pv 5) (pa_cons (pe_op op_add (pe_op op_mulW (pv 1) (pv 5)) (pv 3)) pa_nil)) (by rfl)))))
      (pss_one (ps_ret (pe_make M_Ratio.M M_Ratio.F (hr.mono (by decide)) (by rfl) M_Ratio.mgC M_Ratio.b .nil pass0 (pa_cons (pv 4) (pa_cons (pv 5) pa_nil))))))))), ?_⟩
    refine ⟨_, rfl, p, rfl, ⟨_, SqT.of hp⟩, ?_⟩
    have hm : qs.map V.int = i.map V.int ++ [V.int l] := by rw [hl, List.map_append]; rfl
    have val : ∀ (i : Nat) (x : V), (qs.map V.int)[i]? = some x → ∃ v, qs[i]? = some v ∧ x = .int v := fun i x hx => by
      rw [List.getElem?_map] at hx
      cases hv : qs[i]? with
      | none => rw [hv] at hx; cases hx
      | some v => rw [hv] at hx; exact ⟨v, rfl, (Option.some.inj hx).symm⟩
    refine for_tup (xs := qs.map V.int) (fun i σ H' => H' = H ∧ ∃ x, σ = [some (.ref p), x, none, none, none, none]) ⟨rfl, _, rfl⟩ ?_ ?_ ?_
    · rintro i σ H' _ ⟨rfl, _⟩
      exact SqT.of hp
    · rintro i x σ H' hx ⟨rfl, y, rfl⟩
      obtain ⟨v, hv, rfl⟩ := val i x hx
      exact ⟨_, rfl, v, rfl, _, rfl, iteNot (decide_eq_true (h1 v (List.mem_of_getElem? hv))) ⟨rfl, _, rfl⟩⟩
    · rintro σ H' ⟨rfl, y, rfl⟩
      refine ⟨_, rfl, true, .inr (.inl ⟨_, SqT.of hp, by rw [hm]; cases i <;> rfl⟩), iteNot rfl ?_⟩
      refine ⟨_, rfl, _, rfl, p, _, _, _, rfl, rfl, SqT.of hp, by rw [hm]; exact atI_last _ _, rfl, _, rfl, iteFb (by rw [vdec]; exact decide_eq_false hl1) ?_⟩
      refine ⟨(by decide : 4 ≤ sizeLine), fun e he => ⟨_, _, rfl, SqT.of upd_same, rfl, _, _, rfl, _, _, rfl, _, _, rfl, _, _, rfl, rfl, ?_⟩⟩
      have s1 : Same H' _ := same_new (o := .tup [.int 1, .int 0, .int 0, .int 1]) he
      have hp1 := s1 _ _ hp
      refine ⟨_, rfl, p, rfl, ⟨_, SqT.of hp1⟩, ?_⟩
      refine for_tup (xs := qs.map V.int) (fun i σ H2 => H2 = upd H' e (.tup [.int 1, .int 0, .int 0, .int 1]) ∧ ∃ x lt lb t b, σ = [some (.ref p), x, some (.int lt), some (.int lb), some (.int t), some (.int b)] ∧ Simp.fold (qs.drop i) lt lb t b = Simp.fold qs 1 0 0 1 ∧ 0 ≤ lt ∧ 0 ≤ lb ∧ 0 ≤ t ∧ 1 ≤ b) ⟨rfl, _, _, _, _, _, rfl, rfl, by decide, by decide, by decide, by decide⟩ ?_ ?_ ?_
      · rintro i σ H2 _ ⟨rfl, _⟩
        exact SqT.of hp1
      · rintro i x σ H2 hx ⟨rfl, y, lt, lb, t, b, rfl, hf, g1, g2, g3, g4⟩
        obtain ⟨v, hv, rfl⟩ := val i x hx
        obtain ⟨hi, ev⟩ := List.getElem?_eq_some_iff.mp hv
        have v1 := h1 v (List.mem_of_getElem? hv)
        rw [List.drop_eq_getElem_cons hi, ev] at hf
        have hle := Simp.fold_le (v :: qs.drop (i + 1)) lt lb t b (fun u hu => by
          rcases List.mem_cons.mp hu with rfl | hu
          · exact v1
          · exact h1 u (List.mem_of_mem_drop hu)) g1 g2 g3 (by omega)
        have m1 := Int.mul_le_mul_of_nonneg_left g4 (show 0 ≤ v by omega)
        have m2 := Int.mul_nonneg (show 0 ≤ v by omega) g3
        have hle2 := Simp.fold_le (qs.drop (i + 1)) t b (v * t + lt) (v * b + lb) (fun u hu => h1 u (List.mem_of_mem_drop hu)) g3 (by omega) (by omega) (by omega)
        have hf' : Simp.fold (qs.drop (i + 1)) t b (v * t + lt) (v * b + lb) = Simp.fold qs 1 0 0 1 := hf
        rw [hf'] at hle2
        have zz : ∀ {x y : Int}, 0 ≤ x → x ≤ y → Sz y → Sz x := fun {x y} a b c => by unfold Sz at *; omega
        have zt : Sz t := by rw [hf] at hle; exact zz g3 hle.1 z1
        have zb : Sz b := by rw [hf] at hle; exact zz (by omega) hle.2 z2
        have zv : Sz v := zz (by omega) (show v ≤ _ by omega) z2
        refine ⟨_, rfl, _, rfl, _, rfl, _, _, rfl, rfl, zv.mul zt, _, rfl, _, _, rfl, rfl, _, _, rfl, ?_⟩
        refine ⟨_, rfl, _, rfl, _, rfl, _, _, rfl, rfl, zv.mul zb, _, rfl, _, _, rfl, rfl, _, _, rfl, ?_⟩
        exact ⟨rfl, _, _, _, _, _, rfl, hf', g3, by omega, by omega, by omega⟩
      · rintro σ H2 ⟨rfl, y, lt, lb, t, b, rfl, hf, g1, g2, g3, g4⟩
        rw [List.length_map, List.drop_length] at hf
        have e1 : t = (Simp.fold qs 1 0 0 1).1 := by rw [← hf]; rfl
        have e2 : b = (Simp.fold qs 1 0 0 1).2 := by rw [← hf]; rfl
        refine ⟨_, rfl, _, rfl, ?_⟩
        exact mkQ (by omega) (by rw [e2]; exact z2) (by rw [e1, e2]) fun x H3 s3 r => q x H3 (s1.trans s3) r
  obtain ⟨t, h, hq⟩ := go
  exact ⟨t, h.nox, hq⟩
end
end Toy
set_option maxRecDepth 100000
set_option maxHeartbeats 4000000
set_option exponentiation.threshold 3000
namespace Simp
theorem fold_one (vs : List Int) : fold vs 1 0 0 1 = ((cf vs).2, (cf vs).1) := by
  rw [fold_cf]
  refine Prod.ext ?_ ?_ <;> dsimp only <;> omega
/-- the one between them that is easiest to find -/
theorem between {T B F G : Int} (hB : 0 < B) (hG : 0 ≤ G) (h : T * G < F * B) : In T B F G (T + F) (B + G) := by
  refine ⟨by omega, ?_, ?_⟩
  · have e : (T + F) * B - T * (B + G) = F * B - T * G := by grind
    omega
  · have e : F * (B + G) - (T + F) * G = F * B - T * G := by grind
    omega
theorem div_cop {n d : Int} (hd : 0 < d) (hg : Int.gcd d n = 1) : (Rat.divInt n d).num = n ∧ ((Rat.divInt n d).den : Int) = d := by
  rw [Rat.num_divInt, Rat.den_divInt, if_neg (by omega), hg, Int.sign_eq_one_of_pos hd]
  refine ⟨by omega, ?_⟩
  rw [Nat.div_one]
  omega
theorem uniq {t b f g p q x y : Int} (m : Mn t b f g p q) (m2 : Mn t b f g x y) : p = x ∧ q = y := by
  have h1 := m.least _ _ m2.isIn
  have h2 := m2.least _ _ m.isIn
  omega
end Simp
namespace Toy
open PySem L2
open Rat (divInt)
structure CalR (P : Program) (w : World) (K : PySem.W.Frag) (mg : Str → Option Value) (base : Heap) (k : Nat) (x : Str) (f : Addr) (sp : Sp) : Prop where
  F : FnR P w K mg base CX0 k f sp
  mgf : mg x = some (.ref f)
  kp : PySem.W.keepIn K (.ref f) = true
def spByS (C : Addr) : Sp := fun vs H Q E => ∃ ws rest, vs = ws ++ rest ∧ ws.length = ([] : List Str).length ∧ rest.length ≤ sizeLine ∧ ∀ p, H p = none → spBy C (ws ++ [V.ref p]) (upd H p (.tup rest)) Q E
theorem num0 {p : Rat} (h : 0 ≤ p) : 0 ≤ p.num := Rat.num_nonneg.mpr h
theorem num1 {p : Rat} (h : p ≤ 1) : p.num ≤ p.den := by
  have h1 := (Rat.le_iff p 1).mp h
  have e1 : (1 : Rat).num = 1 := rfl
  have e2 : (1 : Rat).den = 1 := rfl
  rw [e1, e2] at h1
  omega
theorem szM {z : Int} (h0 : 0 ≤ z) (h : z ≤ 2 ^ 450) : Sz z := by
  unfold Sz
  have e : (2 : Int) ^ 450 < 2 ^ 1000 := by decide +kernel
  have h2 : z < (2 : Int) ^ 1000 := by omega
  have h3 : ((z.natAbs : Nat) : Int) < ((2 ^ 1000 : Nat) : Int) := by rw [Int.natAbs_of_nonneg h0]; exact_mod_cast h2
  exact_mod_cast h3
theorem szM2 {z : Int} (h0 : 0 ≤ z) (h : z ≤ 2 * 2 ^ 450) : Sz z := by
  unfold Sz
  have e : 2 * (2 : Int) ^ 450 < 2 ^ 1000 := by decide +kernel
  have h2 : z < (2 : Int) ^ 1000 := by omega
  have h3 : ((z.natAbs : Nat) : Int) < ((2 ^ 1000 : Nat) : Int) := by rw [Int.natAbs_of_nonneg h0]; exact_mod_cast h2
  exact_mod_cast h3
theorem leM {z : Int} {k : Nat} (h : z.natAbs < 2 ^ k) : z ≤ 2 ^ k := by
  have h2 : ((z.natAbs : Nat) : Int) < ((2 ^ k : Nat) : Int) := by exact_mod_cast h
  have h3 : ((2 ^ k : Nat) : Int) = 2 ^ k := by exact_mod_cast rfl
  omega
theorem none_of {H H' : Hp} {l : Addr} (s : Same H H') (h : H' l = none) : H l = none := by
  cases e : H l with
  | none => rfl
  | some o => rw [s _ _ e] at h; cases h
theorem mulM {a b : Int} (a0 : 0 ≤ a) (b0 : 0 ≤ b) (ha : a ≤ 2 ^ 450) (hb : b ≤ 2 ^ 450) : a * b ≤ 2 ^ 900 := by
  have h1 := Int.mul_le_mul_of_nonneg_right ha b0
  have h2 := Int.mul_le_mul_of_nonneg_left hb (show (0 : Int) ≤ 2 ^ 450 by decide +kernel)
  have e : (2 : Int) ^ 450 * 2 ^ 450 = 2 ^ 900 := by rw [← Int.pow_add]
  omega
section
variable {P : Program} {w : World} {K : PySem.W.Frag} {mg : Str → Option Value} {base : Heap} {C CP : Addr}
theorem leN {H : Hp} {u v : V} {p q : Rat} {Q : VK} {E : XK} (T : RatT K mg C) (hq : NumQ C H u q) (hp : NumQ C H v p) (zq : Sq 490 q) (zp : Sq 490 p) (k : ∀ H', Same H H' → Q (.bl (decide (q ≤ p))) H') :
    rI0 (fun i j => .bl (decide (i ≤ j))) u v H Q ∨ Own.rOwnC K C (spCmp C fun z => decide (z ≤ 0)) E u v H Q ∨ Own.rReflC C (spCmp C fun z => decide (0 ≤ z)) E u v H Q := by
  rcases hp.cases with ⟨j, rfl, rfl⟩ | ⟨b, rfl, hb⟩
  · rcases hq.cases with ⟨i, rfl, rfl⟩ | ⟨a, rfl, ha⟩
    · refine .inl ⟨i, j, rfl, rfl, ?_⟩
      have e : decide (i ≤ j) = decide ((i : Rat) ≤ (j : Rat)) := decide_eq_decide.mpr Rat.intCast_le_intCast.symm
      have z := k H (Same.refl H)
      rw [← e] at z
      exact z
    · exact .inr (.inl (cmpL T ha hp zq zp (q_le _ _) k))
  · exact .inr (cmpB T hb hq zp zq (q_le _ _) (q_ge _ _) k)
/-- the simplest fraction between two -/
def spSimp (C : Addr) : Sp := fun vs H Q _ => ∃ lo hi p q, vs = [lo, hi] ∧ NumQ C H lo p ∧ NumQ C H hi q ∧ (0 ≤ p ∧ p < q ∧ q ≤ 1) ∧ (Sq 450 p ∧ Sq 450 q) ∧
  ∀ r H' x y, Same H H' → 0 < x → Simp.Mn q.den q.num p.den p.num x y → RatAt C H' r y x → Q (.ref r) H'
abbrev sSimp : Stmt := top 24
theorem scSi : FnScope ["low", "high", "bottom", "top", "far_bottom", "far_top", "quotients", "whole", "last"] ["low", "high"] (defScope sSimp) := ⟨rfl, rfl, rfl, by decide +kernel, rfl, by decide +kernel, by decide +kernel⟩
theorem ok_simp {f f1 f2 f3 g1 g2 : Addr} {fd fd1 fd2 gd1 gd2 : FuncData} (F : Fun K "simplest" "simplest" sSimp f fd) (T_Ratio : RatT K mg C) (C__is_in_octave : Cal P w K mg base 4 "_is_in_octave" f1 fd1 ["value"] (spEnd C fun n d => decide (0 ≤ n) && decide (n ≤ d)))
    (C_parts_of : Cal P w K mg base 1 "parts_of" f2 fd2 ["number"] (spParts C)) (C_ratio_by : CalR P w K mg base 4 "ratio_by" f3 (spByS C))
    (O_le : Opr P w K mg base 3 C "__le__" g1 gd1 ["self", "other"] (spCmp C fun z => decide (z ≤ 0))) (O_ge : Opr P w K mg base 3 C "__ge__" g2 gd2 ["self", "other"] (spCmp C fun z => decide (0 ≤ z))) : FnOk P w K mg base CX0 5 f fd ["low", "high"] (spSimp C) := by
  refine F.ok scSi (fun vs H Q E h => ?_) (fun cdv A outer s H vs Q E hr h => ?_)
  · obtain ⟨lo, hi, p, q, rfl, _⟩ := h
    rfl
  · obtain ⟨lo, hi, p, q, rfl, hp, hq, ⟨p0, pq, q1⟩, ⟨yp, yq⟩, k⟩ := h
    have nd := scSi.nd
    have zp : Sq 490 p := yp.mono (by decide)
    have zq : Sq 490 q := yq.mono (by decide)
    refine ⟨_, pss_cons (ps_if (pt_not (pt_val (pe_call C__is_in_octave.F (hr.mono (by decide)) (by rfl) C__is_in_octave.mgf C__is_in_octave.kp C__is_in_octave.b .nil pass0 (pa_cons (pv 0) pa_nil)))) pss_never pss_nil)
      (pss_cons (ps_if (PW.pt (pw_or (pt_not (pt_val (pe_call C__is_in_octave.F (hr.mono (by decide)) (by rfl) C__is_in_octave.mgf C__is_in_octave.kp C__is_in_octave.b .nil pass0 (pa_cons (pv 1) pa_nil)))) (pw_or1 (pt_cmpR (OpR.or op_le (OpR.or (Own.op_ownC O_le.F (hr.mono (by decide)) O_le.at_ O_le.fn O_le.b pass0) (Own.op_reflC O_ge.F (hr.mono (by decide)) O_ge.at_ O_ge.fn T_Ratio.sI O_ge.b pass0 PySem.F.slot_int_le PySem.F.entry_int_le PySem.F.args_int_le_2 Own.int_le_dec ⟨by decide, by decide⟩))) (pv 1) (pv 0) (nomark _))))) pss_never pss_nil)
      (pss_cons (ps_asg (pe_call C_parts_of.F (hr.mono (by decide)) (by rfl) C_parts_of.mgf C_parts_of.kp C_parts_of.b .nil pass0 (pa_cons (pv 1) pa_nil)) (pg_tup (by rfl) (pgs_cons (pg_name (i := 2) nd rfl (Or.inl rfl)) (pgs_cons (pg_name (i := 3) nd rfl (Or.inl rfl)) pgs_nil))))
      (pss_cons (ps_asg (pe_call C_parts_of.F (hr.mono (by decide)) (by rfl) C_parts_of.mgf C_parts_of.kp C_parts_of.b .nil pass0 (pa_cons (pv 0) pa_nil)) (pg_tup (by rfl) (pgs_cons (pg_name (i := 4) nd rfl (Or.inl rfl)) (pgs_cons (pg_name (i := 5) nd rfl (Or.inl rfl)) pgs_nil))))
      (pss_cons (ps_set (i := 6) nd rfl (Or.inl rfl) (pe_lst pa_nil))
      (pss_cons (ps_while PassesOwn.never (pt_cmpR op_ge (pe_op op_mulW (pe_op op_add (pe_op op_fdivW (pv 3) (pv 2)) pe_int) (pv 4)) (pv 5) (nomark _)) (pss_cons (ps_set (i := 7) nd rfl (Or.inl rfl) (pe_op op_fdivW (pv 3) (pv 2)))
      (pss_cons (ps_expr (pe_bm PySem.F.plainAttrs_list PySem.F.slot_list_append PySem.F.type_list_append mt_append (pv 6) (pa_cons (pv 7) pa_nil)))
      (pss_one (ps_asg (pe_tup (pa_cons (pv 4) (pa_cons (pe_op op_sub (pv 5) (pe_op op_mulW (pv 7) (pv 4))) (pa_cons (pv 2) (pa_cons (pe_op op_sub (pv 3) (pe_op op_mulW (pv 7) (pv 2))) pa_nil))))) (pg_tup (by rfl) (pgs_cons (pg_name (i := 3) nd rfl (Or.inl rfl)) (pgs_cons (pg_name (i := 2) nd rfl (Or.inl rfl)) (pgs_cons (pg_name (i := 5) nd rfl (Or.inl rfl)) (pgs_cons (pg_name (i := 4) nd rfl (Or.inl rfl)) pgs_nil))))))))))
      (pss_cons (ps_set (i := 8) nd rfl (Or.inl rfl) (pe_op op_add (pe_op op_fdivW (pv 3) (pv 2)) pe_int))
      (pss_one (ps_ret (Own.pe_callSF C_ratio_by.F (hr.mono (by decide)) C_ratio_by.kp (by rfl) C_ratio_by.mgf pass0 (pv 6) (pa_cons (pv 8) pa_nil)))))))))), ?_⟩
    have a0 := num0 p0
    have a1 := num1 (Rat.le_trans (Rat.le_of_lt pq) q1)
    have c0 := num0 (Rat.le_trans p0 (Rat.le_of_lt pq))
    have c1 := num1 q1
    have lt := (Rat.lt_iff p q).mp pq
    have dp := den_pos p
    have dq := den_pos q
    refine ⟨_, rfl, lo, p.num, p.den, rfl, hp.at_, dp, z4 zp, fun H1 s1 => ⟨_, rfl, iteNot (and2 (decide_eq_true a0) (decide_eq_true a1)) ?_⟩⟩
    refine ⟨_, rfl, hi, q.num, q.den, rfl, (hq.same s1).at_, dq, z4 zq, fun H2 s2 => ⟨_, rfl, iteNot (and2 (decide_eq_true c0) (decide_eq_true c1)) ?_⟩⟩
    have hp2 := (hp.same s1).same s2
    have hq2 := (hq.same s1).same s2
    refine ⟨_, rfl, _, rfl, leN T_Ratio hq2 hp2 zq zp fun H3 s3 => ⟨_, rfl, iteFb (decide_eq_false (Rat.not_le.mpr pq)) ?_⟩⟩
    refine ⟨_, rfl, _, _, _, rfl, (hq2.same s3).at_, fun e he => ⟨_, _, rfl, SqT.of upd_same, rfl, _, _, rfl, _, _, rfl, rfl, ?_⟩⟩
    have s4 := ((s1.trans s2).trans s3).trans (same_new (o := .tup [.int q.num, .int (q.den : Int)]) he)
    refine ⟨_, rfl, _, _, _, rfl, (hp.same s4).at_, fun e2 he2 => ⟨_, _, rfl, SqT.of upd_same, rfl, _, _, rfl, _, _, rfl, rfl, ?_⟩⟩
    have s5 := s4.trans (same_new (o := .tup [.int p.num, .int (p.den : Int)]) he2)
    refine ⟨(by decide : 0 ≤ sizeLine), fun l hl => ?_⟩
    have hl0 := none_of s5 hl
    have s6 := s5.trans (same_new (o := .lst []) hl)
    have b0 : 0 < q.num := by
      have h := (Rat.lt_iff 0 q).mp (by grind)
      have e1 : (0 : Rat).num = 0 := rfl
      have e2 : (0 : Rat).den = 1 := rfl
      rw [e1, e2] at h
      omega
    have L0 : Simp.Lp q.den q.num p.den p.num q.den q.num p.den p.num [] := ⟨b0, Int.le_of_lt dq, a0, by rw [Int.mul_comm, Int.mul_comm (p.den : Int)]; exact lt, c1, (fun v hv => nomatch hv), fun x y _ m => m, .inl rfl⟩
    have M1 : ((q.den : Int) ≤ 2 ^ 450 ∧ q.num ≤ 2 ^ 450) ∧ (p.den : Int) ≤ 2 ^ 450 ∧ p.num ≤ 2 ^ 450 := ⟨⟨leM yq.dd, leM yq.1⟩, leM yp.dd, leM yp.1⟩
    refine while_by (fun σ H' => ∃ t b f g qs y, σ = [some lo, some hi, some (.int b), some (.int t), some (.int g), some (.int f), some (.ref l), y, none] ∧ Simp.Lp q.den q.num p.den p.num t b f g qs ∧ ((t ≤ 2 ^ 450 ∧ b ≤ 2 ^ 450) ∧ f ≤ 2 ^ 450 ∧ g ≤ 2 ^ 450) ∧ H' l = some (.lst (qs.map V.int)) ∧ Same H H' ∧ qs.length ≤ 902)
      (fun σ _ => match σ with | [_, _, some (.int b), _, some (.int g), _, _, _, _] => (b + g).toNat | _ => 0) ⟨_, _, _, _, [], _, rfl, L0, M1, upd_same, s6, by decide⟩ ?_ ?_
    · rintro σ H' ⟨t, b, f, g, qs, y, rfl, L, ⟨⟨mt, mb⟩, mf, mg⟩, hL, sL, hlq⟩
      have b0 := L.b0
      have g0 := L.g0
      have d := Simp.div_fl (t := t) L.b0
      have o := L.one
      have zb : Sz b := szM (by omega) mb
      have cd : CDivW t b := wide_m b0 (Nat.lt_of_lt_of_le zb (Nat.pow_le_pow_right (by decide) (by decide)))
      have wt : t / b ≤ t := by
        have := Int.mul_le_mul_of_nonneg_left (show (1 : Int) ≤ b by omega) (show 0 ≤ t / b by omega)
        omega
      have zw : Sz (t / b) := szM (by omega) (by omega)
      have zw1 : Sz (t / b + 1) := by
        have h := mt
        unfold Sz
        have e : (2 : Int) ^ 450 + 1 < 2 ^ 1000 := by decide +kernel
        have h3 : (((t / b + 1).natAbs : Nat) : Int) < ((2 ^ 1000 : Nat) : Int) := by
          have e2 : ((2 ^ 1000 : Nat) : Int) = 2 ^ 1000 := by exact_mod_cast rfl
          omega
        exact_mod_cast h3
      have zg : Sz g := szM g0 mg
      refine ⟨_, rfl, _, rfl, _, _, rfl, rfl, cd, _, _, rfl, rfl, _, rfl, _, _, rfl, rfl, zw1.mul zg, _, rfl, _, _, rfl, rfl, _, rfl, ?_⟩
      by_cases hn : f ≤ (t / b + 1) * g
      · refine iteTb (decide_eq_true hn) ?_
        have f0 : 0 < f := by
          have h1 := L.lt
          have h2 := Int.mul_nonneg L.t0 g0
          exact Simp.lt_of_mul b0 (by omega)
        have g1 : 0 < g := by
          by_cases h : g = 0
          · rw [h] at hn
            omega
          · omega
        obtain ⟨l1, l2, l3, l4, l5⟩ := Simp.left b0 g0 d.1 d.2 L.lt hn
        have hlen := L.len g1
        refine ⟨_, rfl, _, rfl, _, _, rfl, rfl, cd, ?_⟩
        refine ⟨_, rfl, .inl ⟨rfl, _, SqL.of hL⟩, _, rfl, l, _, _, rfl, rfl, hL, by rw [List.length_map]; exact Nat.lt_of_le_of_lt hlen (by decide), ?_⟩
        refine ⟨_, rfl, _, rfl, _, rfl, _, rfl, _, _, rfl, rfl, zw.mul zg, _, _, rfl, rfl, _, rfl, _, rfl, _, rfl, _, rfl, _, _, rfl, rfl, zw.mul zb, _, _, rfl, rfl, ?_⟩
        refine ⟨(by decide : 4 ≤ sizeLine), fun e3 he3 => ⟨_, _, rfl, SqT.of upd_same, rfl, _, _, rfl, _, _, rfl, _, _, rfl, _, _, rfl, rfl, ?_⟩⟩
        refine ⟨⟨g, f - t / b * g, b, t - t / b * b, qs ++ [t / b], _, rfl, L.next hn (fun _ => mulM g0 (by omega) mg mb), ⟨⟨mg, by omega⟩, mb, by omega⟩, ?_, fun c o e => same_new he3 _ _ (by rw [upd_ne (ne_of_none e hl0)]; exact sL _ _ e), by rw [List.length_append]; show qs.length + 1 ≤ 902; omega⟩, ?_⟩
        · rw [List.map_append]
          exact same_new he3 _ _ upd_same
        · show (f - t / b * g + (t - t / b * b)).toNat < (b + g).toNat
          omega
      · refine iteFb (decide_eq_false hn) ?_
        have hd := L.done (by omega)
        have f1 : ∀ v ∈ qs ++ [t / b + 1], 1 ≤ v := fun v hv => by
          rcases List.mem_append.mp hv with hv | hv
          · exact L.pos v hv
          · rw [List.mem_singleton.mp hv]
            omega
        have fl := Simp.fold_le (qs ++ [t / b + 1]) 1 0 0 1 f1 (by decide) (by decide) (by decide) (by decide)
        have ml := hd.least _ _ (Simp.between L0.b0 L0.g0 L0.lt)
        have cop := Simp.coprime hd
        rw [Simp.fold_one] at fl
        refine ⟨_, rfl, _, rfl, _, _, rfl, rfl, cd, _, _, rfl, rfl, ?_⟩
        refine ⟨_, rfl, l, qs.map V.int, rfl, .inr (SqL.of hL), _, rfl, [], _, rfl, rfl, ?_, fun p2 hp2 => ?_⟩
        · show (qs.map V.int ++ [V.int (t / b + 1)]).length ≤ sizeLine
          rw [List.length_append, List.length_map]
          exact Nat.le_trans (Nat.add_le_add_right hlq 1) (by decide)
        · refine ⟨p2, qs ++ [t / b + 1], rfl, ?_, f1, ⟨qs, _, rfl, by omega⟩, ?_, fun r H3 s3 hr3 => ?_⟩
          · rw [List.map_append]
            exact upd_same
          · rw [Simp.fold_one]
            exact ⟨szM2 (by omega) (by omega), szM2 (by omega) (by omega)⟩
          · rw [Simp.fold_one] at hr3
            have c2 := Simp.div_cop (n := (Simp.cf (qs ++ [t / b + 1])).2) (show 0 < (Simp.cf (qs ++ [t / b + 1])).1 by omega) (cop (by omega))
            refine k r H3 _ _ (sL.trans ((same_new hp2).trans s3)) (by omega) hd ?_
            unfold RatQ at hr3
            rw [c2.1, c2.2] at hr3
            exact hr3
    · rintro σ H' R R' hR z
      obtain ⟨x3, e3, x2, e2, i, j, a1, a2, cd, i2, j2, a3, a4, x4, e4, i3, j3, a5, a6, cm, x5, e5, i4, j4, a7, a8, k, ek, r⟩ := z
      exact ⟨x3, e3, x2, e2, i, j, a1, a2, cd, i2, j2, a3, a4, x4, e4, i3, j3, a5, a6, cm, x5, e5, i4, j4, a7, a8, k, ek, hR _ _ r⟩
end
end Toy
set_option maxRecDepth 100000
set_option maxHeartbeats 4000000
set_option exponentiation.threshold 3000
namespace Simp
theorem mul_lt_iff {a b c : Int} (hc : 0 < c) : a * c < b * c ↔ a < b := ⟨lt_of_mul hc, fun h => Int.mul_lt_mul_of_pos_right h hc⟩
theorem In_iff {T B F G a b c d X Y : Int} (hT : 0 < T) (hF : 0 < F) (hb : 0 < b) (hd : 0 < d) (h1 : B * d = c * T) (h2 : G * b = a * F) : In T B F G X Y ↔ 0 < Y ∧ Y * d < c * X ∧ a * X < Y * b := by
  have e1 : T * Y < X * B ↔ Y * d < c * X := by
    rw [← mul_lt_iff (a := T * Y) hd, ← mul_lt_iff (a := Y * d) hT]
    have e3 : X * B * d = c * X * T := by
      rw [Int.mul_assoc, h1]
      grind
    have e4 : T * Y * d = Y * d * T := by grind
    rw [e3, e4]
  have e2 : X * G < F * Y ↔ a * X < Y * b := by
    rw [← mul_lt_iff (a := X * G) hb, ← mul_lt_iff (a := a * X) hF]
    have e3 : X * G * b = a * X * F := by
      rw [Int.mul_assoc, h2]
      grind
    have e4 : F * Y * b = Y * b * F := by grind
    rw [e3, e4]
  exact ⟨fun h => ⟨h.q0, e1.mp h.lo, e2.mp h.hi⟩, fun h => ⟨h.1, e1.mpr h.2.1, e2.mpr h.2.2⟩⟩
end Simp
namespace Toy
open PySem L2
open Rat (divInt)
section
variable {P : Program} {w : World} {K : PySem.W.Frag} {mg : Str → Option Value} {base : Heap} {C CP : Addr}
/-- the least bottom, found one by one -/
def spLeast : Sp := fun vs H Q _ => ∃ a b c d T B F G x y : Int, vs = [.int a, .int b, .int c, .int d] ∧ (0 ≤ a ∧ a ≤ 2 ^ 450) ∧ (0 < b ∧ b ≤ 2 ^ 450) ∧ (0 ≤ c ∧ c ≤ 2 ^ 450) ∧ (0 < d ∧ d ≤ 2 ^ 450) ∧ (0 < T ∧ 0 < F) ∧ B * d = c * T ∧ G * b = a * F ∧ Simp.Mn T B F G x y ∧ (0 < x ∧ x ≤ 2 ^ 450) ∧ y ≤ 2 ^ 450 ∧
  ∀ e, H e = none → Q (.ref e) (upd H e (.tup [.int y, .int x]))
abbrev sLeast : Stmt := top 39
theorem scLst : FnScope ["_law_a", "_law_b", "_law_c", "_law_d", "_law_bottom", "_law_top"] ["_law_a", "_law_b", "_law_c", "_law_d"] (defScope sLeast) := ⟨rfl, rfl, rfl, by decide +kernel, rfl, by decide +kernel, by decide +kernel⟩
theorem ok_least {f : Addr} {fd : FuncData} (F : Fun K "_law_least" "_law_least" sLeast f fd) : FnOk P w K mg base CX0 1 f fd ["_law_a", "_law_b", "_law_c", "_law_d"] spLeast := by
  refine F.ok scLst (fun vs H Q E h => ?_) (fun cdv A outer s H vs Q E hr h => ?_)
  · obtain ⟨a, b, c, d, T, B, F, G, x, y, rfl, _⟩ := h
    rfl
  · obtain ⟨a, b, c, d, T, B, F, G, x, y, rfl, ⟨a0, a1⟩, ⟨b0, b1⟩, ⟨c0, c1⟩, ⟨d0, d1⟩, ⟨T0, F0⟩, h1, h2, m, ⟨x0, x1⟩, y1, q⟩ := h
    have nd := scLst.nd
    refine ⟨_, pss_cons (ps_set (i := 4) nd rfl (Or.inl rfl) pe_int)
      (pss_one (ps_while PassesOwn.never (pt_val pe_bl) (pss_cons (ps_set (i := 5) nd rfl (Or.inl rfl) (pe_op op_add (pe_op op_fdivW (pe_op op_mulW (pv 0) (pv 4)) (pv 1)) pe_int))
      (pss_cons (ps_if (pt_cmpR op_lt (pe_op op_mulW (pv 5) (pv 3)) (pe_op op_mulW (pv 2) (pv 4)) (nomark _)) (pss_one (ps_ret (pe_tup (pa_cons (pv 5) (pa_cons (pv 4) pa_nil))))) pss_nil)
      (pss_one (ps_set (i := 4) nd rfl (Or.inl rfl) (pe_op op_add (pv 4) pe_int))))))), ?_⟩
    have iff := fun X Y => Simp.In_iff (X := X) (Y := Y) T0 F0 b0 d0 h1 h2
    have mi := (iff x y).mp m.isIn
    refine while_by (fun σ H' => ∃ (β : Int) (z : Option V), σ = [some (.int a), some (.int b), some (.int c), some (.int d), some (.int β), z] ∧ 1 ≤ β ∧ β ≤ x ∧ H' = H) (fun σ _ => match σ with | [_, _, _, _, some (.int β), _] => (x - β).toNat | _ => 0) ⟨1, _, rfl, by decide, by omega, rfl⟩ ?_ ?_
    · rintro σ H' ⟨β, z, rfl, g1, g2, rfl⟩
      have zβ : Sz β := szM (by omega) (by omega)
      have za : Sz a := szM a0 a1
      have cd : CDivW (a * β) b := wide_m b0 (Nat.lt_of_lt_of_le (szM (by omega) b1) (Nat.pow_le_pow_right (by decide) (by decide)))
      have fl := Simp.div_fl (t := a * β) b0
      have t0 : 0 ≤ a * β / b := Int.ediv_nonneg (Int.mul_nonneg a0 (by omega)) (by omega)
      have tt : a * β < (a * β / b + 1) * b := fl.2
      -- the numerator tried is never above y
      have ty : β = x → a * β / b + 1 ≤ y := fun e => by
        subst e
        have h3 : a * β / b * b < y * b := Int.lt_of_le_of_lt fl.1 mi.2.2
        have := Simp.lt_of_mul b0 h3
        omega
      have tz : a * β / b + 1 ≤ 2 ^ 450 := by
        have h3 : a * β ≤ a * x := Int.mul_le_mul_of_nonneg_left g2 a0
        have h4 : a * β / b * b < y * b := by have := mi.2.2; omega
        have := Simp.lt_of_mul b0 h4
        omega
      have zt : Sz (a * β / b + 1) := szM (by omega) tz
      refine ⟨_, rfl, iteT ?_⟩
      refine ⟨_, rfl, _, rfl, _, _, rfl, rfl, za.mul zβ, _, rfl, _, _, rfl, rfl, cd, _, _, rfl, rfl, _, rfl, _, rfl, _, _, rfl, rfl, zt.mul (szM (by omega) d1), _, rfl, _, rfl, _, _, rfl, rfl, (szM c0 c1).mul zβ, _, _, rfl, rfl, _, rfl, ?_⟩
      by_cases hn : (a * β / b + 1) * d < c * β
      · refine iteTb (decide_eq_true hn) ⟨_, rfl, _, rfl, (by decide : 2 ≤ sizeLine), fun e he => ?_⟩
        have l := m.least _ _ ((iff β (a * β / b + 1)).mpr ⟨by omega, hn, tt⟩)
        have e1 : β = x := by omega
        have e2 : a * β / b + 1 = y := by have := ty e1; omega
        have z := q e he
        rw [← e2, ← e1] at z
        exact z
      · refine iteFb (decide_eq_false hn) ⟨_, rfl, _, _, rfl, rfl, ⟨β + 1, _, rfl, by omega, ?_, rfl⟩, ?_⟩
        · by_cases e : β = x
          · have h3 := Int.mul_le_mul_of_nonneg_right (ty e) (show 0 ≤ d by omega)
            have h4 := mi.2.1
            rw [← e] at h4
            omega
          · omega
        · show (x - (β + 1)).toNat < (x - β).toNat
          have : β ≠ x := fun e => by
            have h3 := Int.mul_le_mul_of_nonneg_right (ty e) (show 0 ≤ d by omega)
            have h4 := mi.2.1
            rw [← e] at h4
            omega
          omega
    · rintro σ H' R R' hR ⟨v, e, r⟩
      exact ⟨v, e, hR _ _ r⟩
def spNum2 (C : Addr) : Sp := fun vs H Q _ => ∃ t b : Int, vs = [.int t, .int b] ∧ (0 < b ∧ Sz b) ∧ ∀ v H', Same H H' → NumQ C H' v (divInt t b) → Q v H'
abbrev sNum2 : Stmt := top 37
theorem scNu : FnScope ["_law_top", "_law_bottom"] ["_law_top", "_law_bottom"] (defScope sNum2) := ⟨rfl, rfl, rfl, by decide +kernel, rfl, by decide +kernel, by decide +kernel⟩
theorem q_whole {t b : Int} (hb : 0 < b) (h : t % b = 0) : divInt t b = ((t / b : Int) : Rat) := by
  have e : t = t / b * b := by
    have h1 := Int.emod_add_mul_ediv t b
    rw [h, Int.zero_add, Int.mul_comm] at h1
    exact h1.symm
  conv => lhs; rw [e]
  rw [Rat.divInt_eq_div, Rat.intCast_mul]
  have hb2 : ((b : Int) : Rat) ≠ 0 := by
    intro z
    have := Rat.intCast_eq_zero_iff.mp z
    omega
  exact Rat.mul_div_cancel hb2
theorem ok_num2 {f f1 : Addr} {fd fd1 : FuncData} (F : Fun K "_law_number" "_law_number" sNum2 f fd) (T : Bl mg) (M_Ratio : Mak P w K mg base 2 "Ratio" C f1 fd1 ["self", "top", "bottom"] (spRInit C)) : FnOk P w K mg base CX0 4 f fd ["_law_top", "_law_bottom"] (spNum2 C) := by
  refine F.ok scNu (fun vs H Q E h => ?_) (fun cdv A outer s H vs Q E hr h => ?_)
  · obtain ⟨t, b, rfl, _⟩ := h
    rfl
  · obtain ⟨t, b, rfl, ⟨b0, zb⟩, q⟩ := h
    have nd := scNu.nd
    refine ⟨_, pss_one (ps_ret (pe_ifExp (pt_cmpR op_eq (pe_op op_mod (pe_callTy call_int1 (by rfl) T.int (by decide +kernel) (pa_cons (pv 0) pa_nil)) (pv 1)) pe_int (nomark _)) (pe_op op_fdivW (pv 0) (pv 1)) (pe_make M_Ratio.M M_Ratio.F (hr.mono (by decide)) (by rfl) M_Ratio.mgC M_Ratio.b .nil pass0 (pa_cons (pv 0) (pa_cons (pv 1) pa_nil))))), ?_⟩
    refine ⟨_, rfl, .inl ⟨_, rfl, _, rfl, _, _, rfl, rfl, b0, rfl, _, rfl, ?_⟩⟩
    by_cases h1 : t % b = 0
    · refine iteTb (by rw [vdec]; exact decide_eq_true h1) ⟨_, rfl, _, rfl, _, _, rfl, rfl, wide_m b0 (Nat.lt_of_lt_of_le zb (Nat.pow_le_pow_right (by decide) (by decide))), ?_⟩
      have e := NumQ.int (C := C) (H := H) (t / b)
      rw [← q_whole b0 h1] at e
      exact q _ H (Same.refl H) e
    · refine iteFb (by rw [vdec]; exact decide_eq_false h1) ⟨_, rfl, _, rfl, ?_⟩
      exact mkQ (by omega) zb rfl fun x H' s r => q _ H' s (.rat r)
end
end Toy
set_option maxRecDepth 100000
set_option maxHeartbeats 4000000
set_option exponentiation.threshold 3000
namespace Toy
open PySem L2
open Rat (divInt)
theorem sz3 {z : Int} (h0 : 0 ≤ z) (h : z ≤ 3000) : Sz z := szM h0 (Int.le_trans h (by decide +kernel))
section
variable {P : Program} {w : World} {K : PySem.W.Frag} {mg : Str → Option Value} {base : Heap} {C CP : Addr}
/-- two numbers from 0 to 1, the lesser one first -/
structure Ends (a b c d : Int) : Prop where
  a0 : 0 ≤ a
  b0 : 0 < b
  c0 : 0 ≤ c
  d0 : 0 < d
  lt : a * d < c * b
  cd : c ≤ d
  a3 : a ≤ 3000
  b3 : b ≤ 3000
  c3 : c ≤ 3000
  d3 : d ≤ 3000
def spEnds : Sp := fun vs H Q _ => ∃ p cc k, vs = [.ref p] ∧ Pen H p cc k ∧ k ≤ 900000 ∧ ∀ e H' a b c d, Ends a b c d → H' e = some (.tup [.int a, .int b, .int c, .int d]) → Pen H' p cc (k + 5) → But p H H' → Q (.ref e) H'
abbrev sEnds : Stmt := top 38
theorem scEn : FnScope ["_law_pen_here", "_law_b", "_law_d", "_law_a", "_law_c"] ["_law_pen_here"] (defScope sEnds) := ⟨rfl, rfl, rfl, by decide +kernel, rfl, by decide +kernel, by decide +kernel⟩
theorem ok_ends {f f1 : Addr} {fd fd1 : FuncData} (F : Fun K "_law_ends" "_law_ends" sEnds f fd) (C__law_draw : Cal P w K mg base 1 "_law_draw" f1 fd1 ["_law_pen_here", "_law_many"] spDraw) : FnOk P w K mg base CX0 2 f fd ["_law_pen_here"] spEnds := by
  refine F.ok scEn (fun vs H Q E h => ?_) (fun cdv A outer s H vs Q E hr h => ?_)
  · obtain ⟨p, cc, k, rfl, _⟩ := h
    rfl
  · obtain ⟨p, cc, k, rfl, hP, hk, q⟩ := h
    have nd := scEn.nd
    refine ⟨_, pss_cons (ps_par (i := 1) (j := 2) (by rfl) nd rfl rfl (by decide) rfl rfl (pa_cons (pe_op op_add pe_int (pe_call C__law_draw.F (hr.mono (by decide)) (by rfl) C__law_draw.mgf C__law_draw.kp C__law_draw.b .nil pass0 (pa_cons (pv 0) (pa_cons pe_int pa_nil)))) (pa_cons (pe_op op_add pe_int (pe_call C__law_draw.F (hr.mono (by decide)) (by rfl) C__law_draw.mgf C__law_draw.kp C__law_draw.b .nil pass0 (pa_cons (pv 0) (pa_cons pe_int pa_nil)))) pa_nil)) (by rfl))
      (pss_cons (ps_par (i := 3) (j := 4) (by rfl) nd rfl rfl (by decide) rfl rfl (pa_cons (pe_call C__law_draw.F (hr.mono (by decide)) (by rfl) C__law_draw.mgf C__law_draw.kp C__law_draw.b .nil pass0 (pa_cons (pv 0) (pa_cons (pe_op op_add (pv 1) pe_int) pa_nil))) (pa_cons (pe_call C__law_draw.F (hr.mono (by decide)) (by rfl) C__law_draw.mgf C__law_draw.kp C__law_draw.b .nil pass0 (pa_cons (pv 0) (pa_cons (pe_op op_add (pv 2) pe_int) pa_nil))) pa_nil)) (by rfl))
      (C8.pss_cut (ps_if (pt_cmpR op_eq (pe_call C__law_draw.F (hr.mono (by decide)) (by rfl) C__law_draw.mgf C__law_draw.kp C__law_draw.b .nil pass0 (pa_cons (pv 0) (pa_cons pe_int pa_nil))) pe_int (nomark _)) (pss_cons (ps_par (i := 4) (j := 2) (by rfl) nd rfl rfl (by decide) rfl rfl (pa_cons (pe_op op_add (pe_op op_mulW (pv 3) pe_int) pe_int) (pa_cons (pe_op op_mulW (pv 1) pe_int) pa_nil)) (by rfl))
      (pss_one (ps_if (pt_cmpR op_gt (pv 4) (pv 2) (nomark _)) (pss_one (ps_par (i := 4) (j := 2) (by rfl) nd rfl rfl (by decide) rfl rfl (pa_cons (pe_op op_sub (pe_op op_mulW (pv 3) pe_int) pe_int) (pa_cons (pe_op op_mulW (pv 1) pe_int) pa_nil)) (by rfl))) pss_nil))) pss_nil)
      (pss_cons (ps_if (pt_cmpR op_eq (pe_op op_mulW (pv 3) (pv 2)) (pe_op op_mulW (pv 4) (pv 1)) (nomark _)) (pss_one (ps_ret (pe_ifExp (pt_cmpR op_gt (pv 4) pe_int (nomark _)) (pe_tup (pa_cons pe_int (pa_cons pe_int (pa_cons (pv 4) (pa_cons (pv 2) pa_nil))))) (pe_tup (pa_cons pe_int (pa_cons pe_int (pa_cons pe_int (pa_cons (pe_op op_add (pv 1) pe_int) pa_nil)))))))) pss_nil)
      (pss_one (ps_ret (pe_ifExp (pt_cmpR op_lt (pe_op op_mulW (pv 3) (pv 2)) (pe_op op_mulW (pv 4) (pv 1)) (nomark _)) (pe_tup (pa_cons (pv 3) (pa_cons (pv 1) (pa_cons (pv 4) (pa_cons (pv 2) pa_nil))))) (pe_tup (pa_cons (pv 4) (pa_cons (pv 2) (pa_cons (pv 3) (pa_cons (pv 1) pa_nil))))))))))), ?_⟩
    refine ⟨_, rfl, p, cc, 40, k, rfl, hP, by omega, by decide, by decide +kernel, fun r1 H1 u0 u1 P1 B1 => ⟨_, _, rfl, rfl, _, rfl, p, cc, 40, _, rfl, P1, by omega, by decide, by decide +kernel, fun r2 H2 v0 v1 P2 B2 => ⟨_, _, rfl, rfl, _, _, rfl, ?_⟩⟩⟩
    have hm : ∀ z : Int, 0 ≤ z → z ≤ 3000 → z.natAbs < 2 ^ 2000 := fun z h0 h => Nat.lt_of_lt_of_le (sz3 h0 h) (Nat.pow_le_pow_right (by decide) (by decide))
    refine ⟨_, rfl, _, rfl, _, _, rfl, rfl, p, cc, 1 + r1 + 1, _, rfl, P2, by omega, by omega, hm _ (by omega) (by omega), fun a H3 a0 a1 P3 B3 => ⟨_, rfl, _, rfl, _, _, rfl, rfl, p, cc, 1 + r2 + 1, _, rfl, P3, by omega, by omega, hm _ (by omega) (by omega), fun c H4 c0 c1 P4 B4 => ⟨_, _, rfl, ?_⟩⟩⟩
    have B4 := ((B1.trans B2).trans B3).trans B4
    refine ⟨fun σ' H' => ∃ c d, σ' = [some (.ref p), some (.int (1 + r1)), some (.int d), some (.int a), some (.int c)] ∧ (0 ≤ c ∧ c ≤ d ∧ 0 < d ∧ d ≤ 2000) ∧ Pen H' p cc (k + 5) ∧ But p H H', ?_, ?_⟩
    · refine ⟨_, rfl, p, cc, 3, _, rfl, P4, by omega, by decide, by decide +kernel, fun r3 H5 w0 w1 P5 B5 => ⟨rfl, _, rfl, ?_⟩⟩
      have B5 := B4.trans B5
      refine ite2 (fun _ => ?_) (fun _ => ⟨c, 1 + r2, rfl, ⟨c0, by omega, by omega, by omega⟩, P5, B5⟩)
      refine ⟨_, rfl, _, _, rfl, rfl, (sz3 a0 (by omega)).mul (sz3 (by decide) (by decide)), _, _, rfl, rfl, _, rfl, _, _, rfl, rfl, (sz3 (by omega) (by omega)).mul (sz3 (by decide) (by decide)), _, _, rfl, ?_⟩
      refine ⟨_, rfl, _, rfl, _, _, rfl, rfl, _, rfl, ?_⟩
      by_cases h : (1 + r1) * 50 < a * 50 + 1
      · refine iteTb (decide_eq_true h) ?_
        refine ⟨_, rfl, _, _, rfl, rfl, (sz3 a0 (by omega)).mul (sz3 (by decide) (by decide)), _, _, rfl, rfl, _, rfl, _, _, rfl, rfl, (sz3 (by omega) (by omega)).mul (sz3 (by decide) (by decide)), _, _, rfl, ?_⟩
        exact ⟨a * 50 - 1, (1 + r1) * 50, rfl, ⟨by omega, by omega, by omega, by omega⟩, P5, B5⟩
      · refine iteFb (decide_eq_false h) ?_
        exact ⟨a * 50 + 1, (1 + r1) * 50, rfl, ⟨by omega, by omega, by omega, by omega⟩, P5, B5⟩
    · rintro σ' H' ⟨c, d, rfl, ⟨c0, cd, d0, d1⟩, P5, B5⟩
      have out : ∀ (e : Addr) (a b c d : Int), Ends a b c d → H' e = none → Q (.ref e) (upd H' e (.tup [.int a, .int b, .int c, .int d])) := fun e a b c d h he => q e _ a b c d h upd_same (P5.same (same_new he)) (B5.new he)
      have z1 := (sz3 a0 (show a ≤ 3000 by omega)).mul (sz3 (show 0 ≤ d by omega) (show d ≤ 3000 by omega))
      have z2 := (sz3 c0 (show c ≤ 3000 by omega)).mul (sz3 (show 0 ≤ 1 + r1 by omega) (show 1 + r1 ≤ 3000 by omega))
      refine ⟨_, rfl, _, rfl, _, _, rfl, rfl, z1, _, rfl, _, rfl, _, _, rfl, rfl, z2, rfl, _, rfl, ?_⟩
      by_cases h : a * d = c * (1 + r1)
      · refine iteTb (by rw [vdec]; exact decide_eq_true h) ?_
        refine ⟨_, rfl, _, _, rfl, rfl, _, rfl, ?_⟩
        by_cases h0 : 0 < c
        · exact iteTb (decide_eq_true h0) ⟨_, rfl, _, rfl, (by decide : 4 ≤ sizeLine), fun e he => out e 0 1 c d ⟨by decide, by decide, c0, d0, by omega, cd, by decide, by decide, by omega, by omega⟩ he⟩
        · exact iteFb (decide_eq_false h0) ⟨_, rfl, _, _, rfl, rfl, (by decide : 4 ≤ sizeLine), fun e he => out e 0 1 1 (1 + r1 + 1) ⟨by decide, by decide, by decide, by omega, by omega, by omega, by decide, by decide, by decide, by omega⟩ he⟩
      · refine iteFb (by rw [vdec]; exact decide_eq_false h) ?_
        refine ⟨_, rfl, _, rfl, _, _, rfl, rfl, z1, _, rfl, _, rfl, _, _, rfl, rfl, z2, _, _, rfl, rfl, _, rfl, ?_⟩
        by_cases h0 : a * d < c * (1 + r1)
        · exact iteTb (decide_eq_true h0) ⟨_, rfl, _, rfl, _, rfl, _, rfl, (by decide : 4 ≤ sizeLine), fun e he => out e a (1 + r1) c d ⟨a0, by omega, c0, d0, h0, cd, by omega, by omega, by omega, by omega⟩ he⟩
        · exact iteFb (decide_eq_false h0) ⟨_, rfl, _, rfl, _, rfl, _, rfl, (by decide : 4 ≤ sizeLine), fun e he => out e c d a (1 + r1) ⟨c0, d0, a0, by omega, by omega, by omega, by omega, by omega, by omega, by omega⟩ he⟩
end
end Toy
set_option maxRecDepth 100000
set_option maxHeartbeats 4000000
set_option exponentiation.threshold 3000
namespace Simp
theorem In.top {T B F G x y : Int} (h : In T B F G x y) (hT : 0 < T) (hB : 0 < B) : 0 < x := by
  have h1 := h.lo
  have h2 := Int.mul_pos hT h.q0
  exact lt_of_mul hB (by omega)
/-- the mirrored interval -/
theorem In.mirror {T B F G x y : Int} (h : In T B F G x y) (hT : 0 < T) (hB : 0 < B) (hF : 0 < F) (hG : 0 ≤ G) (hBT : B ≤ T) : In F (F - G) T (T - B) x (x - y) := by
  have x0 := h.top hT hB
  have h1 := h.lo
  have h2 := h.hi
  have m := Int.mul_le_mul_of_nonneg_left hBT (show 0 ≤ x by omega)
  refine ⟨?_, ?_, ?_⟩
  · have e : T * y < T * x := by rw [Int.mul_comm T x]; omega
    have := Int.lt_of_mul_lt_mul_left e (by omega)
    omega
  · have e : x * (F - G) - F * (x - y) = F * y - x * G := by grind
    omega
  · have e : T * (x - y) - x * (T - B) = x * B - T * y := by grind
    omega
theorem mirror {T B F G x y x' y' : Int} (m : Mn T B F G x y) (m' : Mn F (F - G) T (T - B) x' y') (hT : 0 < T) (hB : 0 < B) (hF : 0 < F) (hG : 0 ≤ G) (hBT : B ≤ T) (hGF : G < F) : x' = x ∧ y' = x - y := by
  have i1 := m.isIn.mirror hT hB hF hG hBT
  have i2 := m'.isIn.mirror hF (by omega) hT (by omega) (by omega)
  rw [show F - (F - G) = G by omega, show T - (T - B) = B by omega] at i2
  obtain ⟨a1, a2⟩ := m.least _ _ i2
  obtain ⟨b1, b2⟩ := m'.least _ _ i1
  have ex : x' = x := by omega
  subst ex
  refine ⟨rfl, ?_⟩
  by_cases h : y' = x' - y
  · exact h
  · have q0 := m.isIn.q0
    have q1 := m'.isIn.q0
    have j : In T B F G (x' - 1) y := by
      refine ⟨q0, ?_, ?_⟩
      · have h1 := i2.lo
        have h2 := Int.mul_le_mul_of_nonneg_left (show y + 1 ≤ x' - y' by omega) (show 0 ≤ T by omega)
        have e : (x' - 1) * B = x' * B - B := by grind
        have e2 : T * (y + 1) = T * y + T := by grind
        omega
      · have h1 := m.isIn.hi
        have e : (x' - 1) * G = x' * G - G := by grind
        omega
    have := (m.least _ _ j).1
    omega
end Simp
namespace Toy
open PySem L2
open Rat (divInt)
theorem sq_of {k : Nat} {t b : Int} (h : 0 < b) (ht0 : 0 ≤ t) (ht : t ≤ 9000) (hb : b ≤ 9000) (hk : 14 ≤ k) : Sq k (divInt t b) := by
  have e : (2 : Nat) ^ 14 ≤ 2 ^ k := Nat.pow_le_pow_right (by decide) hk
  have e2 : (2 : Nat) ^ 14 = 16384 := by decide
  exact Sq.of (by omega) (by omega) (by omega)
theorem ratQ_of {C : Addr} {H : Hp} {r : Addr} {y x : Int} (h : RatAt C H r y x) (x0 : 0 < x) (g : Int.gcd x y = 1) : RatQ C H r (divInt y x) := by
  unfold RatQ
  obtain ⟨e1, e2⟩ := Simp.div_cop (n := y) x0 g
  rw [e1, e2]
  exact h
theorem cross {t b : Int} (h : b ≠ 0) : (divInt t b).num * b = t * ((divInt t b).den : Int) := by
  have e := Rat.divInt_eq_divInt_iff (n₁ := (divInt t b).num) (n₂ := t) (den_ne (divInt t b)) h
  rw [Rat.num_divInt_den] at e
  exact e.mp rfl
theorem one_sub {p : Rat} : (-p + 1).den = p.den ∧ (-p + 1).num = (p.den : Int) - p.num := by
  have e : -p + 1 = divInt ((p.den : Int) - p.num) p.den := by
    have h := q_sub 1 p
    have e1 : (1 : Rat).num = 1 := rfl
    have e2 : (1 : Rat).den = 1 := rfl
    rw [e1, e2] at h
    rw [show -p + 1 = 1 - p by grind, ← h]
    congr 1 <;> simp
  have g : Int.gcd (p.den : Int) ((p.den : Int) - p.num) = 1 := by
    rw [Int.gcd_self_sub_right, Int.gcd_comm]
    have := p.reduced
    unfold Nat.Coprime at this
    unfold Int.gcd
    rw [Int.natAbs_natCast]
    exact this
  obtain ⟨h1, h2⟩ := Simp.div_cop (den_pos p) g
  rw [e]
  exact ⟨by omega, h1⟩
theorem lt_div {a b c d : Int} (hb : 0 < b) (hd : 0 < d) (h : a * d < c * b) : divInt a b < divInt c d := by
  rw [Rat.lt_iff]
  have c1 := cross (t := a) (b := b) (by omega)
  have c2 := cross (t := c) (b := d) (by omega)
  have p1 := den_pos (divInt a b)
  have p2 := den_pos (divInt c d)
  generalize (divInt a b).num = n at *
  generalize (divInt c d).num = m at *
  generalize ((divInt a b).den : Int) = P at *
  generalize ((divInt c d).den : Int) = Q at *
  refine (Simp.mul_lt_iff (Int.mul_pos hb hd)).mp ?_
  have h2 := (Simp.mul_lt_iff (Int.mul_pos p1 p2)).mpr h
  have e1 : n * Q * (b * d) = a * d * (P * Q) := by
    have : n * Q * (b * d) = (n * b) * (Q * d) := by grind
    rw [this, c1]
    grind
  have e2 : m * P * (b * d) = c * b * (P * Q) := by
    have : m * P * (b * d) = (m * d) * (P * b) := by grind
    rw [this, c2]
    grind
  omega
theorem sub_div {x y : Int} (h : 0 < x) : divInt (x - y) x = -divInt y x + 1 := by
  have hx : ((x : Int) : Rat) ≠ 0 := fun z => by
    have := Rat.intCast_eq_zero_iff.mp z
    omega
  have h2 := Rat.mul_inv_cancel _ hx
  rw [Rat.divInt_eq_div, Rat.divInt_eq_div, Rat.intCast_sub, Rat.div_def, Rat.div_def]
  generalize ((x : Int) : Rat) = X at *
  generalize ((y : Int) : Rat) = Y at *
  grind
theorem le_one {c d : Int} (hd : 0 < d) (h : c ≤ d) : divInt c d ≤ 1 := by
  rw [Rat.le_iff]
  have c2 := cross (t := c) (b := d) (by omega)
  have p2 := den_pos (divInt c d)
  have e1 : (1 : Rat).num = 1 := rfl
  have e2 : (1 : Rat).den = 1 := rfl
  rw [e1, e2]
  have h1 := Int.mul_le_mul_of_nonneg_right h (show 0 ≤ ((divInt c d).den : Int) by omega)
  have h3 : (divInt c d).num * d ≤ ((divInt c d).den : Int) * d := by
    rw [c2, Int.mul_comm _ d]
    exact h1
  have := Int.le_of_mul_le_mul_right h3 hd
  omega
section
variable {P : Program} {w : World} {K : PySem.W.Frag} {mg : Str → Option Value} {base : Heap} {C CP : Addr}
def spRight (C : Addr) : Sp := fun vs H Q _ => ∃ (e : Addr) (a b c d : Int), vs = [.ref e] ∧ H e = some (.tup [.int a, .int b, .int c, .int d]) ∧ Ends a b c d ∧ ∀ H', Same H H' → Q (.bl true) H'
abbrev sRi : Stmt := top 40
theorem scRi : FnScope ["_law_ends_here", "_law_a", "_law_b", "_law_c", "_law_d", "_law_lower", "_law_upper", "_law_found", "_law_mirror"] ["_law_ends_here"] (defScope sRi) := ⟨rfl, rfl, rfl, by decide +kernel, rfl, by decide +kernel, by decide +kernel⟩
theorem ok_right {f f1 f2 f3 f4 g1 g2 g3 : Addr} {fd fd1 fd2 fd3 fd4 gd1 gd2 gd3 : FuncData} (F : Fun K "_law_right" "_law_right" sRi f fd) (T : Bl mg) (T_Ratio : RatT K mg C) (BS : BinF K C .Sub) (C__law_number : Cal P w K mg base 4 "_law_number" f1 fd1 ["_law_top", "_law_bottom"] (spNum2 C)) (C_simplest : Cal P w K mg base 5 "simplest" f2 fd2 ["low", "high"] (spSimp C))
    (KB_low_high : KBn K fd2 ["low", "high"] 0 ["low", "high"] (fun _ ws => ws) fun _ zs => zs) (KB_high_low : KBn K fd2 ["low", "high"] 0 ["high", "low"] (fun _ ws => ws.reverse) fun _ zs => zs.reverse)
    (C__law_least : Cal P w K mg base 1 "_law_least" f3 fd3 ["_law_a", "_law_b", "_law_c", "_law_d"] spLeast) (M_Ratio : Mak P w K mg base 2 "Ratio" C f4 fd4 ["self", "top", "bottom"] (spRInit C)) (O_eq : Opr P w K mg base 3 C "__eq__" g1 gd1 ["self", "other"] (spEqQ C))
    (O_sub : Opr P w K mg base 4 C "__sub__" g2 gd2 ["self", "other"] (spBin C GT fun p q => p - q)) (O_rsub : Opr P w K mg base 5 C "__rsub__" g3 gd3 ["self", "other"] (spBin C GT fun p q => -p + q)) : FnOk P w K mg base CX0 6 f fd ["_law_ends_here"] (spRight C) := by
  refine F.ok scRi (fun vs H Q E h => ?_) (fun cdv A outer s H vs Q E hr h => ?_)
  · obtain ⟨e, a, b, c, d, rfl, _⟩ := h
    rfl
  · obtain ⟨e, a, b, c, d, rfl, he, N, q'⟩ := h
    have nd := scRi.nd
    refine ⟨_, pss_cons (ps_asg (pv 0) (pg_tup (by rfl) (pgs_cons (pg_name (i := 1) nd rfl (Or.inl rfl)) (pgs_cons (pg_name (i := 2) nd rfl (Or.inl rfl)) (pgs_cons (pg_name (i := 3) nd rfl (Or.inl rfl)) (pgs_cons (pg_name (i := 4) nd rfl (Or.inl rfl)) pgs_nil))))))
      (pss_cons (ps_par (i := 5) (j := 6) (by rfl) nd rfl rfl (by decide) rfl rfl (pa_cons (pe_call C__law_number.F (hr.mono (by decide)) (by rfl) C__law_number.mgf C__law_number.kp C__law_number.b .nil pass0 (pa_cons (pv 1) (pa_cons (pv 2) pa_nil))) (pa_cons (pe_call C__law_number.F (hr.mono (by decide)) (by rfl) C__law_number.mgf C__law_number.kp C__law_number.b .nil pass0 (pa_cons (pv 3) (pa_cons (pv 4) pa_nil))) pa_nil)) (by rfl))
      (pss_cons (ps_set (i := 7) nd rfl (Or.inl rfl) (pe_call C_simplest.F (hr.mono (by decide)) (by rfl) C_simplest.mgf C_simplest.kp C_simplest.b .nil pass0 (pa_cons (pv 5) (pa_cons (pv 6) pa_nil))))
      (pss_cons (ps_if (PW.pt (pw_or (pt_not (pt_val (pe_callB call_isi (by rfl) T.isinstance (by decide +kernel) (pa_cons (pv 7) (pa_cons (Own.pe_gref (by rfl) T_Ratio.mgC) pa_nil))))) (pw_or1 (pt_cmpR (op_neD hr.units) (pe_tup (pa_cons (pe_fld (pv 7) rfl) (pa_cons (pe_fld (pv 7) rfl) pa_nil))) (pe_call C__law_least.F (hr.mono (by decide)) (by rfl) C__law_least.mgf C__law_least.kp C__law_least.b .nil pass0 (pa_cons (pv 1) (pa_cons (pv 2) (pa_cons (pv 3) (pa_cons (pv 4) pa_nil))))) (nomark _))))) (pss_one (ps_ret pe_bl)) pss_nil)
      (pss_cons (ps_set (i := 8) nd rfl (Or.inl rfl) (Own.pe_callK0 C_simplest.F (hr.mono (by decide)) (by rfl) C_simplest.mgf C_simplest.kp KB_high_low pass0 (pk_cons (pe_op (op_R BS O_rsub.F (hr.mono (by decide)) O_rsub.at_ O_rsub.fn O_sub.at_ T_Ratio.sI O_rsub.b pass0 PySem.F.fills_int_sub PySem.F.slot_int_sub PySem.F.entry_int_sub PySem.F.args_int_sub_2 Own.int_sub_dec) pe_int (pe_make M_Ratio.M M_Ratio.F (hr.mono (by decide)) (by rfl) M_Ratio.mgC M_Ratio.b .nil pass0 (pa_cons (pv 1) (pa_cons (pv 2) pa_nil)))) (pk_cons (pe_op (op_R BS O_rsub.F (hr.mono (by decide)) O_rsub.at_ O_rsub.fn O_sub.at_ T_Ratio.sI O_rsub.b pass0 PySem.F.fills_int_sub PySem.F.slot_int_sub PySem.F.entry_int_sub PySem.F.args_int_sub_2 Own.int_sub_dec) pe_int (pe_make M_Ratio.M M_Ratio.F (hr.mono (by decide)) (by rfl) M_Ratio.mgC M_Ratio.b .nil pass0 (pa_cons (pv 3) (pa_cons (pv 4) pa_nil)))) pk_nil))))
      (pss_one (ps_ret (pe_and (pe_cmpR (Own.op_eqL O_eq.F (hr.mono (by decide)) O_eq.at_ O_eq.fn T_Ratio.nI O_eq.b pass0) (Own.pe_callK0 C_simplest.F (hr.mono (by decide)) (by rfl) C_simplest.mgf C_simplest.kp KB_low_high pass0 (pk_cons (pv 5) (pk_cons (pv 6) pk_nil))) (pv 7) (nomark _)) (pe_one (pe_cmpR (Own.op_eqL O_eq.F (hr.mono (by decide)) O_eq.at_ O_eq.fn T_Ratio.nI O_eq.b pass0) (pv 8) (pe_op (op_R BS O_rsub.F (hr.mono (by decide)) O_rsub.at_ O_rsub.fn O_sub.at_ T_Ratio.sI O_rsub.b pass0 PySem.F.fills_int_sub PySem.F.slot_int_sub PySem.F.entry_int_sub PySem.F.args_int_sub_2 Own.int_sub_dec) pe_int (pv 7)) (nomark _)))))))))), ?_⟩
    have b0 := N.b0
    have d0 := N.d0
    have zp : ∀ k, 14 ≤ k → Sq k (divInt a b) := fun k hk => sq_of N.b0 N.a0 (by have := N.a3; omega) (by have := N.b3; omega) hk
    have zq : ∀ k, 14 ≤ k → Sq k (divInt c d) := fun k hk => sq_of N.d0 N.c0 (by have := N.c3; omega) (by have := N.d3; omega) hk
    refine ⟨_, rfl, _, _, rfl, SqT.of he, rfl, _, _, rfl, _, _, rfl, _, _, rfl, _, _, rfl, rfl, ?_⟩
    refine ⟨_, rfl, _, rfl, a, b, rfl, ⟨b0, sz3 (by omega) N.b3⟩, fun v H1 s1 hv => ⟨_, rfl, _, rfl, c, d, rfl, ⟨d0, sz3 (by omega) N.d3⟩, fun u H2 s2 hu => ⟨_, _, rfl, ?_⟩⟩⟩
    have p0 : 0 ≤ divInt a b := Rat.divInt_nonneg N.a0 (by omega)
    have pq := lt_div b0 d0 N.lt
    have q1 := le_one d0 N.cd
    generalize hp : divInt a b = p at *
    generalize hq : divInt c d = q at *
    have cp : p.num * b = a * (p.den : Int) := by rw [← hp]; exact cross (by omega)
    have cq : q.num * d = c * (q.den : Int) := by rw [← hq]; exact cross (by omega)
    have d1 : (q.den : Int) ≤ 3000 := by rw [← hq]; have := den_le (t := c) (b := d) (by omega); have := N.d3; omega
    have d2 : (p.den : Int) ≤ 3000 := by rw [← hp]; have := den_le (t := a) (b := b) (by omega); have := N.b3; omega
    have T0 := den_pos q
    have F0 := den_pos p
    have G0 := num0 p0
    have B1 := num1 q1
    have G1 := num1 (Rat.le_trans (Rat.le_of_lt pq) q1)
    have lt := (Rat.lt_iff p q).mp pq
    have G2 : p.num < p.den := by
      have h1 := (Rat.lt_iff p 1).mp (Std.lt_of_lt_of_le pq q1)
      have e1 : (1 : Rat).num = 1 := rfl
      have e2 : (1 : Rat).den = 1 := rfl
      rw [e1, e2] at h1
      omega
    have B0 : 0 < q.num := Simp.lt_of_mul F0 (by have := Int.mul_nonneg G0 (Int.le_of_lt T0); omega)
    refine ⟨_, rfl, _, rfl, v, u, p, q, rfl, hv.same s2, hu, ⟨p0, pq, q1⟩, ⟨zp 450 (by decide), zq 450 (by decide)⟩, fun r H3 x y s3 x0 m hr3 => ?_⟩
    have g := Simp.coprime m x0
    have ml := m.least _ _ (Simp.between B0 G0 (by rw [Int.mul_comm, Int.mul_comm (p.den : Int)]; exact lt))
    have hf := ratQ_of hr3 x0 g
    obtain ⟨dr, hr'⟩ := id hr3
    refine ⟨_, rfl, _, _, _, _, true, rfl, .own _, T_Ratio.ty hr', T_Ratio.kS, _, rfl, iteFb rfl ?_⟩
    refine ⟨_, rfl, r, C, dr, _, _, rfl, hr', T_Ratio.cl, T_Ratio.nT, ratF_top _ _, _, rfl, r, C, dr, _, _, rfl, hr', T_Ratio.cl, T_Ratio.nB, ratF_bot _ _, (by decide : 2 ≤ sizeLine), fun e1 he1 => ?_⟩
    refine ⟨_, rfl, _, rfl, _, rfl, _, rfl, a, b, c, d, q.den, q.num, p.den, p.num, x, y, rfl, ⟨N.a0, ?_⟩, ⟨b0, ?_⟩, ⟨N.c0, ?_⟩, ⟨d0, ?_⟩, ⟨T0, F0⟩, cq, cp, m, ⟨x0, ?_⟩, ?_, fun e2 he2 => ?_⟩
    all_goals try first | exact Int.le_trans N.a3 (by decide +kernel) | exact Int.le_trans N.b3 (by decide +kernel) | exact Int.le_trans N.c3 (by decide +kernel) | exact Int.le_trans N.d3 (by decide +kernel) | exact Int.le_trans (show _ ≤ (6000 : Int) by omega) (by decide +kernel)
    have sh : SeqAt.shaped (.tuple [.int y, .int x]) = true := by simp [SeqAt.shaped, PyData.canLay0, PyData.canLayAll0, PyData.depth, PyData.depthAll]
    have k1 := (same_new (o := .tup [.int y, .int x]) he1).trans (same_new (o := .tup [.int y, .int x]) he2)
    refine ⟨_, _, .tup (SqT.of (same_new he2 _ _ upd_same)) (.cons (.int _) (.cons (.int _) .nil)), .tup (SqT.of upd_same) (.cons (.int _) (.cons (.int _) .nil)), sh, sh, _, rfl, iteFb (by rw [SeqAt.eqv_refl _ (by simp [PyData.canLay0, PyData.canLayAll0])]; rfl) ?_⟩
    have hf4 := hf.same k1
    refine ⟨_, rfl, _, rfl, ?_⟩
    intro r1 dy1 hx1 hdx1 hn1
    refine ⟨r1, dy1, a, b, rfl, upd_same, by omega, sz3 (by omega) N.b3, fun H4 hR1 hk1 => ⟨rfl, ?_⟩⟩
    have s4 := mk_same hx1 hdx1 hk1
    have h1 := asQ (by omega) hp hR1
    obtain ⟨dx1, fs1, i1⟩ := h1.ins
    refine ⟨1, r1, dx1, fs1, rfl, rfl, i1, r1, _, p, _, rfl, h1, .int 1, ⟨zp 490 (by decide), Sq.int (by decide) (by decide)⟩, True.intro, fun r2 H5 s5 h2 => ?_⟩
    refine ⟨_, rfl, _, rfl, ?_⟩
    intro r3 dy3 hx3 hdx3 hn3
    refine ⟨r3, dy3, c, d, rfl, upd_same, by omega, sz3 (by omega) N.d3, fun H6 hR3 hk3 => ⟨rfl, ?_⟩⟩
    have s6 := mk_same hx3 hdx3 hk3
    have h3 := asQ (by omega) hq hR3
    obtain ⟨dx3, fs3, i3⟩ := h3.ins
    refine ⟨1, r3, dx3, fs3, rfl, rfl, i3, r3, _, q, _, rfl, h3, .int 1, ⟨zq 490 (by decide), Sq.int (by decide) (by decide)⟩, True.intro, fun r4 H7 s7 h4 => ?_⟩
    have o1 : ((1 : Int) : Rat) = 1 := rfl
    have o2 : Sq 2 ((1 : Int) : Rat) := Sq.int (by decide) (by decide)
    refine ⟨rfl, _, _, _, _, rfl, .rat h4, .rat ((h2.same s6).same s7), ⟨by rw [o1]; grind, by grind, by rw [o1]; grind⟩, ⟨(((zq 14 (by decide)).neg).add o2).mono (by decide), (((zp 14 (by decide)).neg).add o2).mono (by decide)⟩, fun r5 H8 x' y' s8 x0' m' hr5 => ?_⟩
    rw [o1, (one_sub (p := p)).1, (one_sub (p := p)).2, (one_sub (p := q)).1, (one_sub (p := q)).2] at m'
    obtain ⟨ex, ey⟩ := Simp.mirror m m' T0 B0 F0 G0 B1 G2
    have g' := Simp.coprime m' x0'
    have hm := ratQ_of hr5 x0' g'
    have k2 := (((s4.trans s5).trans s6).trans s7).trans s8
    have k3 := k1.trans k2
    have k4 := s3.trans k3
    refine ⟨_, rfl, _, rfl, rfl, v, u, p, q, rfl, (hv.same s2).same k4, hu.same k4, ⟨p0, pq, q1⟩, ⟨zp 450 (by decide), zq 450 (by decide)⟩, fun r6 H9 x6 y6 s9 x06 m6 hr6 => ?_⟩
    obtain ⟨ex6, ey6⟩ := Simp.uniq m6 m
    subst ex6 ey6
    have h6 := ratQ_of hr6 x0 g
    refine ⟨_, rfl, eqLq h6 (.rat ((hf.same k3).same s9)) fun H10 s10 => ⟨_, rfl, iteTb (decide_eq_true rfl) ?_⟩⟩
    have h9 := ((hf.same k3).same s9).same s10
    obtain ⟨dx9, fs9, i9⟩ := h9.ins
    have yq0 := m6.isIn.q0
    refine ⟨_, rfl, _, rfl, 1, r, dx9, fs9, rfl, rfl, i9, r, _, divInt y6 x6, _, rfl, h9, .int 1, ⟨sq_of (k := 490) x0 (by omega) (by omega) (by omega) (by decide), Sq.int (by decide) (by decide)⟩, True.intro, fun r7 H11 s11 h7 => ?_⟩
    refine eqLq (((hm.same s9).same s10).same s11) (.rat h7) fun H12 s12 => ?_
    have ev : divInt y' x' = -divInt y6 x6 + ((1 : Int) : Rat) := by
      rw [ex, ey, o1]
      exact sub_div x0
    have z := q' H12 (((((s1.trans s2).trans k4).trans s9).trans s10).trans (s11.trans s12))
    rw [← decide_eq_true ev] at z
    exact z
end
end Toy
set_option maxRecDepth 100000
set_option maxHeartbeats 4000000
set_option exponentiation.threshold 3000
namespace Simp
/-- between two neighbours the mediant is simplest -/
theorem mediant {T B F G : Int} (hT : 0 < T) (hB : 0 < B) (hF : 0 < F) (hG : 0 ≤ G) (h : F * B - T * G = 1) : Mn T B F G (T + F) (B + G) := by
  refine ⟨between hB hG (by omega), fun x y i => ?_⟩
  have h1 := i.lo
  have h2 := i.hi
  have e1 : x = F * (x * B - T * y) + T * (F * y - x * G) := by
    have : F * (x * B - T * y) + T * (F * y - x * G) = x * (F * B - T * G) := by grind
    rw [this, h]
    omega
  have e2 : y = B * (F * y - x * G) + G * (x * B - T * y) := by
    have : B * (F * y - x * G) + G * (x * B - T * y) = y * (F * B - T * G) := by grind
    rw [this, h]
    omega
  have m1 := Int.mul_le_mul_of_nonneg_left (show (1 : Int) ≤ x * B - T * y by omega) (show 0 ≤ F by omega)
  have m2 := Int.mul_le_mul_of_nonneg_left (show (1 : Int) ≤ F * y - x * G by omega) (show 0 ≤ T by omega)
  have m3 := Int.mul_le_mul_of_nonneg_left (show (1 : Int) ≤ F * y - x * G by omega) (show 0 ≤ B by omega)
  have m4 := Int.mul_le_mul_of_nonneg_left (show (1 : Int) ≤ x * B - T * y by omega) hG
  omega
/-- a narrower interval that keeps the simplest one -/
theorem narrow {T B F G T' B' F' G' x y x' y' : Int} (m : Mn T B F G x y) (m' : Mn T' B' F' G' x' y') (hs : ∀ X Y, In T' B' F' G' X Y → In T B F G X Y) (hi : In T' B' F' G' x y) : x' = x ∧ y' = y := by
  have h1 := m.least _ _ (hs _ _ m'.isIn)
  have h2 := m'.least _ _ hi
  omega
end Simp
namespace Toy
open PySem L2
open Rat (divInt)
/-- between, read in rationals -/
theorem inQ {p q : Rat} {x y : Int} (x0 : 0 < x) : Simp.In q.den q.num p.den p.num x y ↔ 0 < y ∧ divInt y x < q ∧ p < divInt y x := by
  have c := cross (t := y) (b := x) (by omega)
  have d0 := den_pos (divInt y x)
  have e1 : divInt y x < q ↔ (q.den : Int) * y < x * q.num := by
    rw [Rat.lt_iff, ← Simp.mul_lt_iff (a := (q.den : Int) * y) d0, ← Simp.mul_lt_iff (a := (divInt y x).num * q.den) x0]
    have e : (divInt y x).num * (q.den : Int) * x = (q.den : Int) * y * ((divInt y x).den : Int) := by
      have : (divInt y x).num * (q.den : Int) * x = (divInt y x).num * x * q.den := by grind
      rw [this, c]
      grind
    have e2 : q.num * ((divInt y x).den : Int) * x = x * q.num * ((divInt y x).den : Int) := by grind
    rw [e, e2]
  have e2 : p < divInt y x ↔ x * p.num < (p.den : Int) * y := by
    rw [Rat.lt_iff, ← Simp.mul_lt_iff (a := x * p.num) d0, ← Simp.mul_lt_iff (a := p.num * ((divInt y x).den : Int)) x0]
    have e : (divInt y x).num * (p.den : Int) * x = (p.den : Int) * y * ((divInt y x).den : Int) := by
      have : (divInt y x).num * (p.den : Int) * x = (divInt y x).num * x * p.den := by grind
      rw [this, c]
      grind
    have e3 : p.num * ((divInt y x).den : Int) * x = x * p.num * ((divInt y x).den : Int) := by grind
    rw [e, e3]
  exact ⟨fun h => ⟨h.q0, e1.mpr h.lo, e2.mpr h.hi⟩, fun h => ⟨h.1, e1.mp h.2.1, e2.mp h.2.2⟩⟩
theorem rat_over (n d : Int) : (ratF n d).lookup ("over" : Str) = none := by
  unfold ratF
  rw [lookup_putF, if_neg (by decide +kernel), lookup_putF, if_neg (by decide +kernel)]
  rfl
theorem gcd_nb {a b c d : Int} (h : b * c - a * d = 1) : Int.gcd b a = 1 ∧ Int.gcd d c = 1 := by
  have hx : ∀ g : Int, g ∣ 1 → 0 ≤ g → g = 1 := fun g hg h0 => by
    have := Int.le_of_dvd (by decide) hg
    obtain ⟨k, hk⟩ := hg
    by_cases z : g = 0
    · rw [z, Int.zero_mul] at hk
      omega
    · omega
  constructor
  · have h1 : ((Int.gcd b a : Nat) : Int) ∣ 1 := by
      rw [← h]
      exact Int.dvd_sub (Int.dvd_mul_of_dvd_left (Int.gcd_dvd_left ..)) (Int.dvd_mul_of_dvd_left (Int.gcd_dvd_right ..))
    have := hx _ h1 (by omega)
    omega
  · have h1 : ((Int.gcd d c : Nat) : Int) ∣ 1 := by
      rw [← h]
      exact Int.dvd_sub (Int.dvd_mul_of_dvd_right (Int.gcd_dvd_right ..)) (Int.dvd_mul_of_dvd_right (Int.gcd_dvd_left ..))
    have := hx _ h1 (by omega)
    omega
theorem below4 {p m : Rat} (h : p < m) : p < (p + m * 3) / 4 ∧ (p + m * 3) / 4 < m := by
  constructor
  · rw [Rat.lt_div_iff (by decide)]
    grind
  · rw [Rat.div_lt_iff (by decide)]
    grind
theorem above7 {q m : Rat} (h : m < q) : m < (q + m * 6) / 7 ∧ (q + m * 6) / 7 < q := by
  constructor
  · rw [Rat.lt_div_iff (by decide)]
    grind
  · rw [Rat.div_lt_iff (by decide)]
    grind
theorem num_pos0 {q : Rat} (h : 0 < q) : 0 < q.num := by
  have h := (Rat.lt_iff 0 q).mp h
  have e1 : (0 : Rat).num = 0 := rfl
  have e2 : (0 : Rat).den = 1 := rfl
  rw [e1, e2] at h
  omega
/-- the simplest one in the middle of neighbours -/
theorem mid_mn {a b c d : Int} (b0 : 0 < b) (d0 : 0 < d) (a0 : 0 ≤ a) (c0 : 0 < c) (h : b * c - a * d = 1) {x y : Int}
    (m : Simp.Mn (divInt c d).den (divInt c d).num (divInt a b).den (divInt a b).num x y) : x = b + d ∧ y = a + c := by
  obtain ⟨g1, g2⟩ := gcd_nb h
  obtain ⟨e1, e2⟩ := Simp.div_cop (n := a) b0 g1
  obtain ⟨e3, e4⟩ := Simp.div_cop (n := c) d0 g2
  rw [e1, e2, e3, e4] at m
  obtain ⟨h1, h2⟩ := Simp.uniq m (Simp.mediant d0 c0 b0 a0 (by have : d * a = a * d := Int.mul_comm _ _; omega))
  omega
/-- .. and in a narrower interval about it -/
theorem mid_mn2 {a b c d : Int} (b0 : 0 < b) (d0 : 0 < d) (a0 : 0 ≤ a) (c0 : 0 < c) (h : b * c - a * d = 1) {p q : Rat} {x y : Int} (hp : divInt a b ≤ p) (hp2 : p < divInt (a + c) (b + d)) (hq : q ≤ divInt c d) (hq2 : divInt (a + c) (b + d) < q)
    (x0 : 0 < x) (m : Simp.Mn q.den q.num p.den p.num x y) : x = b + d ∧ y = a + c := by
  obtain ⟨g1, g2⟩ := gcd_nb h
  obtain ⟨e1, e2⟩ := Simp.div_cop (n := a) b0 g1
  obtain ⟨e3, e4⟩ := Simp.div_cop (n := c) d0 g2
  have M : Simp.Mn (divInt c d).den (divInt c d).num (divInt a b).den (divInt a b).num (d + b) (c + a) := by
    rw [e1, e2, e3, e4]
    exact Simp.mediant d0 c0 b0 a0 (by have : d * a = a * d := Int.mul_comm _ _; omega)
  have q0 : 0 < q := Std.lt_of_le_of_lt (Rat.divInt_nonneg (by omega) (by omega)) hq2
  have B0 : 0 < q.num := num_pos0 q0
  have r := Simp.narrow M m (fun X Y i => by
    have X0 := i.top (den_pos q) B0
    obtain ⟨i1, i2, i3⟩ := (inQ X0).mp i
    exact (inQ X0).mpr ⟨i1, Std.lt_of_lt_of_le i2 hq, Std.lt_of_le_of_lt hp i3⟩) (by
    have := (inQ (p := p) (q := q) (x := d + b) (y := c + a) (by omega)).mpr ⟨by omega, by rw [Int.add_comm c, Int.add_comm d]; exact hq2, by rw [Int.add_comm c, Int.add_comm d]; exact hp2⟩
    exact this)
  omega
end Toy
set_option maxRecDepth 100000
set_option maxHeartbeats 4000000
set_option exponentiation.threshold 3000
namespace Toy
open PySem L2
open Rat (divInt)
section
variable {P : Program} {w : World} {K : PySem.W.Frag} {mg : Str → Option Value} {base : Heap} {C CP : Addr}
theorem p37 : ((10 : Int) ^ (37 : Int).toNat) = 10000000000000000000000000000000000000 := by decide +kernel
/-- a pair of neighbours, both Ratios -/
def RowN (C : Addr) (H : Hp) (v : V) : Prop := ∃ t l r a b c d, v = .ref t ∧ H t = some (.tup [.ref l, .ref r]) ∧ RatAt C H l a b ∧ RatAt C H r c d ∧ Nbr a b c d ∧ b ≤ 2 ^ 126 ∧ d ≤ 2 ^ 126
theorem RowN.same {H H' : Hp} {v : V} (h : RowN C H v) (s : Same H H') : RowN C H' v := let ⟨t, l, r, a, b, c, d, e, ht, h1, h2, z⟩ := h; ⟨t, l, r, a, b, c, d, e, s _ _ ht, h1.same s, h2.same s, z⟩
theorem sqN {t b : Int} {k : Nat} (ht0 : 0 ≤ t) (ht : t ≤ 2 ^ k) (hb0 : 0 < b) (hb : b ≤ 2 ^ k) : Sq (k + 1) (divInt t b) := by
  have e : (2 : Nat) ^ (k + 1) = 2 * 2 ^ k := by rw [Nat.pow_succ, Nat.mul_comm]
  have e2 : ((2 ^ k : Nat) : Int) = 2 ^ k := by exact_mod_cast rfl
  have e3 : 0 < 2 ^ k := Nat.pow_pos (by decide)
  refine Sq.of (by omega) ?_ ?_ <;> rw [e] <;> omega
theorem asAt {H : Hp} {x : Addr} {t b : Int} (b0 : 0 < b) (g : Int.gcd b t = 1) (h : RatAt C H x (lowT t b) (lowB t b)) : RatAt C H x t b := by
  rw [low_num (by omega), low_den (by omega)] at h
  obtain ⟨e1, e2⟩ := Simp.div_cop (n := t) b0 g
  rw [e1, e2] at h
  exact h
theorem szF {z : Int} (h0 : 0 ≤ z) (h : z ≤ 2 ^ 126) : Sz z := szM h0 (Int.le_trans h (by decide +kernel))
def spFar : Sp := fun vs H Q _ => ∃ p cc k, vs = [.ref p] ∧ Pen H p cc k ∧ k ≤ 900000 ∧ ∀ H', Pen H' p cc (k + 1) → But p H H' → Q (.bl true) H'
abbrev sFar : Stmt := top 41
theorem scFa : FnScope ["_law_pen_here", "_law_far", "_law_rows", "_law_one", "_law_other", "_law_middle", "_law_lower", "_law_upper"] ["_law_pen_here"] (defScope sFar) := ⟨rfl, rfl, rfl, by decide +kernel, rfl, by decide +kernel, by decide +kernel⟩
theorem ok_far {f f1 f2 f3 f4 f5 pm g1 g2 g3 g4 g5 : Addr} {fd fd1 fd2 fd3 fd4 fd5 gd1 gd2 gd3 gd4 gd5 : FuncData} {dvs : List Value} (F : Fun K "_law_far_right" "_law_far_right" sFar f fd) (T : Bl mg) (T_Ratio : RatT K mg C) (T_Piece : PieT K mg CP) (hne : PySem.W.findIn K (.ref C) "__ne__" = some (some (.builtin "object.__ne__"))) (hO : PySem.W.subIn K (.ref C) (.type "object") = some true)
    (BA : BinF K C .Add) (BM : BinF K C .Mult) (C__law_draw : Cal P w K mg base 1 "_law_draw" f1 fd1 ["_law_pen_here", "_law_many"] spDraw) (C_simplest : Cal P w K mg base 5 "simplest" f2 fd2 ["low", "high"] (spSimp C))
    (M_Ratio : Mak P w K mg base 2 "Ratio" C f3 fd3 ["self", "top", "bottom"] (spRInit C)) (hd : Vals [V.int 1] dvs) (hb1 : Binds K fd3 ["self", "top", "bottom"] dvs) (M_Piece : Mak P w K mg base 5 "Piece" CP f4 fd4 ["self", "left", "right"] (spPInit CP C))
    (PM : PropOf K CP "middle" pm f5) (FM : FnOk P w K mg base CX0 4 f5 fd5 ["self"] (spMid CP C)) (bM : Binds K fd5 ["self"] []) (O_eq : Opr P w K mg base 3 C "__eq__" g1 gd1 ["self", "other"] (spEqQ C))
    (O_add : Opr P w K mg base 4 C "__add__" g2 gd2 ["self", "other"] (spBin C GT fun p q => p + q)) (O_mul : Opr P w K mg base 4 C "__mul__" g3 gd3 ["self", "other"] (spBin C GT fun p q => p * q)) (O_rmul : Opr P w K mg base 5 C "__rmul__" g4 gd4 ["self", "other"] (spBin C GT fun p q => p * q))
    (D_Ratio_over : Dot P w K mg base 4 C "over" g5 gd5 ["self", "number"] (spBin C (fun _ q => q ≠ 0) fun p q => p / q)) : FnOk P w K mg base CX0 7 f fd ["_law_pen_here"] spFar := by
  refine F.ok scFa (fun vs H Q E h => ?_) (fun cdv A outer s H vs Q E hr h => ?_)
  · obtain ⟨p, cc, k, rfl, _⟩ := h
    rfl
  · obtain ⟨p, cc, k, rfl, hP, hk, q⟩ := h
    have nd := scFa.nd
    refine ⟨_, pss_cons (ps_set (i := 1) nd rfl (Or.inl rfl) (pe_op op_add (pe_op op_pow pe_int pe_int) (pe_call C__law_draw.F (hr.mono (by decide)) (by rfl) C__law_draw.mgf C__law_draw.kp C__law_draw.b .nil pass0 (pa_cons (pv 0) (pa_cons (pe_op op_pow pe_int pe_int) pa_nil)))))
      (pss_cons (ps_set (i := 2) nd rfl (Or.inl rfl) (pe_lst (pa_cons (pe_tup (pa_cons (pe_make M_Ratio.M M_Ratio.F (hr.mono (by decide)) (by rfl) M_Ratio.mgC hb1 hd pass0 (pa_cons pe_int pa_nil)) (pa_cons (pe_make M_Ratio.M M_Ratio.F (hr.mono (by decide)) (by rfl) M_Ratio.mgC M_Ratio.b .nil pass0 (pa_cons pe_int (pa_cons (pv 1) pa_nil))) pa_nil))) (pa_cons (pe_tup (pa_cons (pe_make M_Ratio.M M_Ratio.F (hr.mono (by decide)) (by rfl) M_Ratio.mgC M_Ratio.b .nil pass0 (pa_cons (pe_op op_sub (pv 1) pe_int) (pa_cons (pv 1) pa_nil))) (pa_cons (pe_make M_Ratio.M M_Ratio.F (hr.mono (by decide)) (by rfl) M_Ratio.mgC hb1 hd pass0 (pa_cons pe_int pa_nil)) pa_nil))) (pa_cons (pe_tup (pa_cons (pe_make M_Ratio.M M_Ratio.F (hr.mono (by decide)) (by rfl) M_Ratio.mgC M_Ratio.b .nil pass0 (pa_cons pe_int (pa_cons (pe_op op_add (pv 1) pe_int) pa_nil))) (pa_cons (pe_make M_Ratio.M M_Ratio.F (hr.mono (by decide)) (by rfl) M_Ratio.mgC M_Ratio.b .nil pass0 (pa_cons pe_int (pa_cons (pv 1) pa_nil))) pa_nil))) pa_nil)))))
      (pss_cons (ps_for PassesOwn.never rfl (pi_list (pv 2)) (pg_tup (by rfl) (pgs_cons (pg_name (i := 3) nd rfl (Or.inl rfl)) (pgs_cons (pg_name (i := 4) nd rfl (Or.inl rfl)) pgs_nil))) (pss_cons (ps_set (i := 5) nd rfl (Or.inl rfl) (pe_prop (pe_make M_Piece.M M_Piece.F (hr.mono (by decide)) (by rfl) M_Piece.mgC M_Piece.b .nil pass0 (pa_cons (pv 3) (pa_cons (pv 4) pa_nil))) T_Piece.cl PM FM (hr.mono (by decide)) bM .nil pass0 (by rfl)))
      (pss_cons (ps_if (pt_cmpR (Own.op_neL O_eq.F (hr.mono (by decide)) O_eq.at_ hne hO O_eq.fn T_Ratio.nI O_eq.b pass0) (pe_call C_simplest.F (hr.mono (by decide)) (by rfl) C_simplest.mgf C_simplest.kp C_simplest.b .nil pass0 (pa_cons (pv 3) (pa_cons (pv 4) pa_nil))) (pv 5) (nomark _)) (pss_one (ps_ret pe_bl)) pss_nil)
      (pss_cons (ps_par (i := 6) (j := 7) (by rfl) nd rfl rfl (by decide) rfl rfl (pa_cons (pe_meth (pe_op (op_B BA O_add.F (hr.mono (by decide)) O_add.at_ O_add.fn O_add.b pass0) (pv 3) (pe_op (op_R BM O_rmul.F (hr.mono (by decide)) O_rmul.at_ O_rmul.fn O_mul.at_ T_Ratio.sI O_rmul.b pass0 PySem.F.fills_int_mul PySem.F.slot_int_mul PySem.F.entry_int_mul PySem.F.args_int_mul_2 Own.int_mul_dec) pe_int (pv 5))) T_Ratio.cl D_Ratio_over.m D_Ratio_over.F (hr.mono (by decide)) D_Ratio_over.b .nil pass0 (pa_cons pe_int pa_nil)) (pa_cons (pe_meth (pe_op (op_B BA O_add.F (hr.mono (by decide)) O_add.at_ O_add.fn O_add.b pass0) (pv 4) (pe_op (op_R BM O_rmul.F (hr.mono (by decide)) O_rmul.at_ O_rmul.fn O_mul.at_ T_Ratio.sI O_rmul.b pass0 PySem.F.fills_int_mul PySem.F.slot_int_mul PySem.F.entry_int_mul PySem.F.args_int_mul_2 Own.int_mul_dec) pe_int (pv 5))) T_Ratio.cl D_Ratio_over.m D_Ratio_over.F (hr.mono (by decide)) D_Ratio_over.b .nil pass0 (pa_cons pe_int pa_nil)) pa_nil)) (by rfl))
      (pss_one (ps_if (pt_cmpR (Own.op_neL O_eq.F (hr.mono (by decide)) O_eq.at_ hne hO O_eq.fn T_Ratio.nI O_eq.b pass0) (pe_call C_simplest.F (hr.mono (by decide)) (by rfl) C_simplest.mgf C_simplest.kp C_simplest.b .nil pass0 (pa_cons (pv 6) (pa_cons (pv 7) pa_nil))) (pv 5) (nomark _)) (pss_one (ps_ret pe_bl)) pss_nil))))))
      (pss_one (ps_ret pe_bl)))), ?_⟩
    refine ⟨_, _, rfl, rfl, ⟨by decide, by decide, by decide⟩, _, rfl, _, _, rfl, rfl, ⟨by decide, by decide, by decide⟩, p, cc, _, k, rfl, hP, by omega, by decide +kernel, by decide +kernel, fun n H1 n0 n1 P1 B1 => ⟨_, _, rfl, rfl, ?_⟩⟩
    obtain ⟨N, hN⟩ : ∃ N : Int, (10 : Int) ^ (37 : Int).toNat + n = N := ⟨_, rfl⟩
    show gName 1 (.int ((10 : Int) ^ (37 : Int).toNat + n)) _ H1 _
    rw [hN]
    have m0 : 1000 ≤ N := by rw [← hN, p37]; omega
    have m1 : N < 2 ^ 126 := by
      rw [p37] at n1 hN
      have : (20000000000000000000000000000000000000 : Int) < 2 ^ 126 := by decide +kernel
      omega
    have zN := szF (show 0 ≤ N by omega) (by omega)
    have zN1 := szF (show 0 ≤ N + 1 by omega) (by omega)
    have q1 := gcd_nb (a := 0) (b := 1) (c := 1) (d := N) (by omega)
    have q2 := gcd_nb (a := N - 1) (b := N) (c := 1) (d := 1) (by omega)
    have q3 := gcd_nb (a := 1) (b := N + 1) (c := 1) (d := N) (by omega)
    intro x1 dy1 hx1 hdx1 hn1
    refine ⟨x1, dy1, 0, 1, rfl, upd_same, by decide, Sz1, fun J1 hR1 hk1 => ⟨rfl, ?_⟩⟩
    have t1 := mk_same hx1 hdx1 hk1
    refine ⟨_, rfl, ?_⟩
    intro x2 dy2 hx2 hdx2 hn2
    refine ⟨x2, dy2, 1, N, rfl, upd_same, by omega, zN, fun J2 hR2 hk2 => ⟨rfl, ?_⟩⟩
    have t2 := mk_same hx2 hdx2 hk2
    refine ⟨(by decide : 2 ≤ sizeLine), fun e1 he1 => ?_⟩
    refine ⟨_, rfl, _, _, rfl, rfl, _, rfl, ?_⟩
    intro x3 dy3 hx3 hdx3 hn3
    refine ⟨x3, dy3, N - 1, N, rfl, upd_same, by omega, zN, fun J3 hR3 hk3 => ⟨rfl, ?_⟩⟩
    have t3 := mk_same hx3 hdx3 hk3
    intro x4 dy4 hx4 hdx4 hn4
    refine ⟨x4, dy4, 1, 1, rfl, upd_same, by decide, Sz1, fun J4 hR4 hk4 => ⟨rfl, ?_⟩⟩
    have t4 := mk_same hx4 hdx4 hk4
    refine ⟨(by decide : 2 ≤ sizeLine), fun e2 he2 => ?_⟩
    refine ⟨_, rfl, _, _, rfl, rfl, ?_⟩
    intro x5 dy5 hx5 hdx5 hn5
    refine ⟨x5, dy5, 1, N + 1, rfl, upd_same, by omega, zN1, fun J5 hR5 hk5 => ⟨rfl, ?_⟩⟩
    have t5 := mk_same hx5 hdx5 hk5
    refine ⟨_, rfl, ?_⟩
    intro x6 dy6 hx6 hdx6 hn6
    refine ⟨x6, dy6, 1, N, rfl, upd_same, by omega, zN, fun J6 hR6 hk6 => ⟨rfl, ?_⟩⟩
    have t6 := mk_same hx6 hdx6 hk6
    refine ⟨(by decide : 2 ≤ sizeLine), fun e3 he3 => ⟨(by decide : 3 ≤ sizeLine), fun l hl => ?_⟩⟩
    obtain ⟨HL, hHL⟩ : ∃ HL, upd (upd J6 e3 (.tup [.ref x5, .ref x6])) l (.lst [.ref e1, .ref e2, .ref e3]) = HL := ⟨_, rfl⟩
    show gName 2 (.ref l) _ (upd (upd J6 e3 (.tup [.ref x5, .ref x6])) l (.lst [.ref e1, .ref e2, .ref e3])) _
    rw [hHL]
    have hlL : HL l = some (.lst [.ref e1, .ref e2, .ref e3]) := by rw [← hHL]; exact upd_same
    have w3 : Same (upd J6 e3 (.tup [.ref x5, .ref x6])) HL := by rw [← hHL]; exact same_new hl
    have u6 : Same J6 HL := (same_new he3).trans w3
    have u5 : Same J5 HL := t6.trans u6
    have w2 := t5.trans u5
    have u4 : Same J4 HL := (same_new he2).trans w2
    have u3 : Same J3 HL := t4.trans u4
    have w1 := t3.trans u3
    have u2 : Same J2 HL := (same_new he1).trans w1
    have u1 : Same J1 HL := t2.trans u2
    have u0 : Same H1 HL := t1.trans u1
    have rows : ∀ v ∈ [V.ref e1, V.ref e2, V.ref e3], RowN C HL v := fun v hv => by
      rcases List.mem_cons.mp hv with rfl | hv
      · exact ⟨e1, x1, x2, 0, 1, 1, N, rfl, w1 _ _ upd_same, (asAt (by decide) q1.1 hR1).same u1, (asAt (by omega) q1.2 hR2).same u2, ⟨by decide, by decide, by decide, by omega, by omega, Sz0, Sz1, Sz1, zN⟩, by decide +kernel, by omega⟩
      · rcases List.mem_cons.mp hv with rfl | hv
        · exact ⟨e2, x3, x4, N - 1, N, 1, 1, rfl, w2 _ _ upd_same, (asAt (by omega) q2.1 hR3).same u3, (asAt (by omega) q2.2 hR4).same u4, ⟨by omega, by omega, by decide, by decide, by omega, szF (by omega) (by omega), zN, Sz1, Sz1⟩, by omega, by decide +kernel⟩
        · rcases List.mem_cons.mp hv with rfl | hv
          · exact ⟨e3, x5, x6, 1, N + 1, 1, N, rfl, w3 _ _ upd_same, (asAt (by omega) q3.1 hR5).same u5, (asAt (by omega) q3.2 hR6).same u6, ⟨by decide, by omega, by decide, by omega, by omega, Sz1, zN1, Sz1, zN⟩, by omega, by omega⟩
          · cases hv
    refine ⟨_, rfl, l, rfl, ⟨_, SqL.of hlL⟩, ?_⟩
    refine for_list (xs := [.ref e1, .ref e2, .ref e3]) (K := K) (a := l) (fun j σ H' => ∃ y3 y4 y5 y6 y7, σ = [some (.ref p), some (.int N), some (.ref l), y3, y4, y5, y6, y7] ∧ Same HL H') ⟨_, _, _, _, _, rfl, Same.refl HL⟩ ?_ ?_ ?_
    · rintro j σ H' _ ⟨_, _, _, _, _, rfl, s⟩
      exact SqL.of (s _ _ hlL)
    · rintro j x σ H2 hx ⟨_, _, _, _, _, rfl, s⟩
      obtain ⟨t, lo, ro, a, b, c, d, rfl, ht, h1, h2, hn, z1, z2⟩ := (rows x (List.mem_of_getElem? hx)).same s
      have a0 := hn.a0
      have ab := hn.ab
      have c0 := hn.c0
      have cd := hn.cd
      obtain ⟨gg1, gg2⟩ := gcd_nb hn.nb
      have r1 := ratQ_of h1 (by omega) gg1
      have r2 := ratQ_of h2 (by omega) gg2
      have lt : a * d < c * b := by have := hn.nb; have e := Int.mul_comm c b; omega
      have pq := lt_div (show 0 < b by omega) (show 0 < d by omega) lt
      have pm := lt_div (a := a) (b := b) (c := a + c) (d := b + d) (by omega) (by omega) (by
        have e : (a + c) * b = a * b + c * b := by grind
        have e2 : a * (b + d) = a * b + a * d := by grind
        omega)
      have mq := lt_div (a := a + c) (b := b + d) (c := c) (d := d) (by omega) (by omega) (by
        have e : (a + c) * d = a * d + c * d := by grind
        have e2 : c * (b + d) = c * b + c * d := by grind
        omega)
      have p0 : 0 ≤ divInt a b := Rat.divInt_nonneg a0 (by omega)
      have o1 := le_one (show 0 < d by omega) cd
      have yp : Sq 127 (divInt a b) := sqN a0 (by omega) (by omega) z1
      have yq : Sq 127 (divInt c d) := sqN (by omega) (by omega) (by omega) z2
      have e126 : (2 : Int) ^ 126 + 2 ^ 126 = 2 ^ 127 := by decide +kernel
      have ym : Sq 128 (divInt (a + c) (b + d)) := sqN (by omega) (by omega) (by omega) (by omega)
      refine ⟨_, _, rfl, SqT.of ht, rfl, _, _, rfl, _, _, rfl, rfl, ?_⟩
      refine ⟨_, rfl, _, rfl, ?_⟩
      intro x dx hx1 hdx1 hn1
      have s2 := same_two (o := .own x) (u := .ins CP dx []) hdx1 hx1 hn1
      refine ⟨x, dx, .ref lo, .ref ro, a, b, c, d, rfl, upd_same, .rat (h1.same s2), .rat (h2.same s2), hn, fun H3 hPie hk => ⟨rfl, ?_⟩⟩
      have s3 : Same H2 H3 := fun y o e => hk y o (s2 _ _ e) (ne_of_none e hx1)
      obtain ⟨dp, pl, pr, hx3, _⟩ := id hPie
      have zbd : Sz (b + d) := szM (by omega) (by
        have : (2 : Int) ^ 127 ≤ 2 ^ 450 := by decide +kernel
        omega)
      refine ⟨x, dp, _, rfl, hx3, x, a, b, c, d, rfl, hPie, by omega, zbd, fun m H4 s4 hm => ?_⟩
      have s34 := s3.trans s4
      refine ⟨_, rfl, _, rfl, .ref lo, .ref ro, divInt a b, divInt c d, rfl, .rat (r1.same s34), .rat (r2.same s34), ⟨p0, pq, o1⟩, ⟨yp.mono (by decide), yq.mono (by decide)⟩, fun r H5 x5 y5 s5 x0 m5 hr5 => ?_⟩
      have g5 := Simp.coprime m5 x0
      obtain ⟨ex, ey⟩ := mid_mn (by omega) (by omega) a0 c0 hn.nb m5
      have hr := ratQ_of hr5 x0 g5
      rw [ex, ey] at hr
      refine ⟨_, rfl, eqLq hr (.rat (hm.same s5)) fun H6 s6 => ⟨_, rfl, iteFb (by rw [decide_eq_true rfl]; rfl) ?_⟩⟩
      have hm6 := (hm.same s5).same s6
      have s36 := (s34.trans s5).trans s6
      obtain ⟨dm, im⟩ := id hm6
      obtain ⟨dl, il⟩ := id ((r1.same s36))
      refine ⟨_, rfl, _, rfl, 3, m, dm, _, rfl, rfl, im, m, _, divInt (a + c) (b + d), _, rfl, hm6, .int 3, ⟨ym.mono (by decide), Sq.int (by decide) (by decide)⟩, True.intro, fun k1 H7 s7 hk1 => ?_⟩
      have k3 : Sq 2 ((3 : Int) : Rat) := Sq.int (by decide) (by decide)
      have k6 : Sq 3 ((6 : Int) : Rat) := Sq.int (by decide) (by decide)
      have k4 : Sq 3 ((4 : Int) : Rat) := Sq.int (by decide) (by decide)
      have k7 : Sq 3 ((7 : Int) : Rat) := Sq.int (by decide) (by decide)
      obtain ⟨d1, i1⟩ := id hk1
      refine ⟨lo, dl, _, rfl, s7 _ _ il, .inr ⟨k1, d1, _, rfl, i1⟩, lo, _, divInt a b, _, rfl, (r1.same s36).same s7, .rat hk1, ⟨yp.mono (by decide), (ym.mul k3).mono (by decide)⟩, True.intro, fun k2 H8 s8 hk2 => ?_⟩
      obtain ⟨d2, i2⟩ := id hk2
      have n4 : ((4 : Int) : Rat) ≠ 0 := by decide +kernel
      have n7 : ((7 : Int) : Rat) ≠ 0 := by decide +kernel
      refine ⟨k2, d2, _, rfl, i2, rat_over _ _, k2, .int 4, _, _, rfl, hk2, .int 4, ⟨(yp.add (ym.mul k3)).mono (by decide), k4.mono (by decide)⟩, n4, fun lw H9 s9 hlw => ?_⟩
      have s39 := ((s36.trans s7).trans s8).trans s9
      have hm9 := ((hm6.same s7).same s8).same s9
      obtain ⟨dm9, im9⟩ := id hm9
      obtain ⟨dr9, ir9⟩ := id (r2.same s39)
      refine ⟨_, rfl, _, rfl, 6, m, dm9, _, rfl, rfl, im9, m, _, divInt (a + c) (b + d), _, rfl, hm9, .int 6, ⟨ym.mono (by decide), k6.mono (by decide)⟩, True.intro, fun j1 H10 s10 hj1 => ?_⟩
      obtain ⟨dj1, ij1⟩ := id hj1
      refine ⟨ro, dr9, _, rfl, s10 _ _ ir9, .inr ⟨j1, dj1, _, rfl, ij1⟩, ro, _, divInt c d, _, rfl, (r2.same s39).same s10, .rat hj1, ⟨yq.mono (by decide), (ym.mul k6).mono (by decide)⟩, True.intro, fun j2 H11 s11 hj2 => ?_⟩
      obtain ⟨dj2, ij2⟩ := id hj2
      refine ⟨j2, dj2, _, rfl, ij2, rat_over _ _, j2, .int 7, _, _, rfl, hj2, .int 7, ⟨(yq.add (ym.mul k6)).mono (by decide), k7.mono (by decide)⟩, n7, fun up H12 s12 hup => ⟨_, _, rfl, ?_⟩⟩
      have hlw2 := ((hlw.same s10).same s11).same s12
      have B4 := below4 pm
      have A7 := above7 mq
      have c3 : ((3 : Int) : Rat) = 3 := rfl
      have c4 : ((4 : Int) : Rat) = 4 := rfl
      have c6 : ((6 : Int) : Rat) = 6 := rfl
      have c7 : ((7 : Int) : Rat) = 7 := rfl
      have zl := ((yp.add (ym.mul k3)).div k4 n4).mono (show 127 + (128 + 2) + 1 + 3 ≤ 450 by decide)
      have zu := ((yq.add (ym.mul k6)).div k7 n7).mono (show 127 + (128 + 3) + 1 + 3 ≤ 450 by decide)
      rw [c3, c4] at hlw2 zl
      rw [c6, c7] at hup zu
      refine ⟨_, rfl, _, rfl, .ref lw, .ref up, _, _, rfl, .rat hlw2, .rat hup, ⟨Rat.le_trans p0 (Rat.le_of_lt B4.1), Std.lt_trans B4.2 A7.1, Rat.le_trans (Rat.le_of_lt A7.2) o1⟩, ⟨zl, zu⟩, fun r3 H13 x6 y6 s13 x60 m6 hr6 => ?_⟩
      have g6 := Simp.coprime m6 x60
      obtain ⟨ex6, ey6⟩ := mid_mn2 (by omega) (by omega) a0 c0 hn.nb (Rat.le_of_lt B4.1) B4.2 (Rat.le_of_lt A7.2) A7.1 x60 m6
      have hr7 := ratQ_of hr6 x60 g6
      rw [ex6, ey6] at hr7
      have hm13 := ((((hm9.same s10).same s11).same s12).same s13)
      refine ⟨_, rfl, eqLq hr7 (.rat hm13) fun H14 s14 => ⟨_, rfl, iteFb (by rw [decide_eq_true rfl]; rfl) ?_⟩⟩
      exact ⟨_, _, _, _, _, rfl, s.trans ((((((s39.trans s10).trans s11).trans s12).trans s13)).trans s14)⟩
    · rintro σ H' ⟨_, _, _, _, _, rfl, s⟩
      refine q H' (P1.same (u0.trans s)) fun b o h n => s _ _ (u0 _ _ (B1 _ _ h n))
end
end Toy
set_option maxRecDepth 100000
set_option maxHeartbeats 4000000
namespace Toy
open PySem PySem.Spec PyProof.Rows L2
/-! ### an error with one field: raised, and heard with it -/
structure ErT (K : PySem.W.Frag) (mg : Str → Option Value) (x fld : Str) (C fI : Addr) : Prop where
  o : OexC K C
  mgC : mg x = some (.ref C)
  ini : PySem.W.findIn K (.ref C) "__init__" = some (some (.ref fI))
  tyI : PySem.W.typeIn K (.ref fI) = some (.type "function")
  no : PySem.W.findIn K (.ref C) fld = some none
  xf : XfC K C
def spErI (C : Addr) (fld : Str) : Sp := fun vs H Q _ => ∃ a v, vs = [.ref a, v] ∧ H a = some (exo a C none) ∧ ∀ d, H d = none → d ≠ a → Q .non (upd (upd H d (exd d [(fld, v)])) a (exo a C (some d)))
theorem erI_go {H1 : Hp} {a C : Addr} {fld : Str} {v : V} {Q : XK} {E : XK} (ha : H1 a = none) (k : ∀ d H2, H1 d = none → Same H1 H2 → H2 d = some (.xd [(fld, v)]) → Q (.ref C) (some d) H2) :
    spErI C fld [.ref a, v] (upd H1 a (exo a C none)) (fun v H2 => v = .non ∧ ∃ (d : Addr) (fs : List (Str × V)), H2 a = some (exo a C (some d)) ∧ H2 d = some (exd d fs) ∧ H1 d = none ∧ Q (.ref C) (some d) (upd (del H2 a) d (.xd fs))) E := by
  refine ⟨a, v, rfl, upd_same, fun d hd hne => ?_⟩
  rw [upd_ne hne] at hd
  refine ⟨rfl, d, [(fld, v)], upd_same, by rw [upd_ne hne, upd_same], hd, k d _ hd (fun b o h => ?_) upd_same⟩
  have nd := ne_of_none h hd
  have na := ne_of_none h ha
  rw [upd_ne nd, del_ne na, upd_ne na, upd_ne nd, upd_ne na]
  exact h
section
variable {P : Program} {w : World} {K : PySem.W.Frag} {mg : Str → Option Value} {base : Heap} {C CN CB : Addr}
abbrev sBRI : Stmt := inClass (top 6) 0
theorem scBR : FnScope ["self", "part"] ["self", "part"] (defScope sBRI) := ⟨rfl, rfl, rfl, by decide +kernel, rfl, by decide +kernel, by decide +kernel⟩
theorem ok_bri {f : Addr} {fd : FuncData} (F : Fun K "__init__" "BadRatio.__init__" sBRI f fd) (TB : ErT K mg "BadRatio" "part" CB f) : FnOk P w K mg base CX0 1 f fd ["self", "part"] (spErI CB "part") := by
  refine F.ok scBR (fun vs H Q E h => ?_) (fun cdv A outer s H vs Q E hr h => ?_)
  · obtain ⟨a, v, rfl, _⟩ := h
    rfl
  · obtain ⟨a, v, rfl, ha, k⟩ := h
    refine ⟨_, (pss_one (ps_ost (pv 0) (pv 1))), ?_⟩
    exact ⟨_, rfl, _, rfl, a, CB, rfl, TB.o, TB.no, .inl ⟨ha, fun dx h n => k dx h n⟩⟩
theorem never_suite {X : Cx} {b : List Stmt} : PSs X b (fun _ _ _ => False) := ⟨fun _ _ _ _ _ _ h => h.elim⟩
abbrev sHeard : Stmt := top 36
theorem scHd : FnScope ["_law_ask", "error"] ["_law_ask"] (defScope sHeard) := ⟨rfl, rfl, rfl, by decide +kernel, rfl, by decide +kernel, by decide +kernel⟩
/-- heard: the value in a list; BadRatio told with its field -/
def TTbad (CB : Addr) : (XK → Hp → VK → Prop) → Hp → VK → Prop := fun tl H Q =>
  tl (fun cls d H' => ∃ dd v, cls = .ref CB ∧ d = some dd ∧ H' dd = some (.xd [("part", v)]) ∧ ∀ p, H' p = none → Q (.ref p) (upd H' p (.tup [.str "ratio", v])))
    H (fun v H' => ([v] : List V).length ≤ sizeLine ∧ ∀ p, H' p = none → Q (.ref p) (upd H' p (.lst [v])))
theorem heard_bad {X : Cx} {g CF fB : Addr} {cdg : Value} {q : Str} (TB : ErT X.K X.mg "BadRatio" "part" CB fB) (hF : X.mg "FifthError" = some (.ref CF)) (eBB : PySem.W.exmOne X.K (.ref CB) (.ref CB) = some true) :
    LamX.GivesTo X ["_law_ask", "error"] "_law_heard" (defScope sHeard) g cdg (defBody sHeard) "_law_ask" q (TTbad CB) := by
  intro f c' s H Q tl act hc h
  have nd := scHd.nd
  refine ⟨_, pss_one (Own.ps_try_cl (X := (cxOf C8.CX0 X.prog X.w X.K X.mg X.base ["_law_ask", "error"] "_law_heard" (defScope sHeard) g cdg X.A X.stack s H C8.E0).nox)
      (tb := fun W D σ H => ∃ Ech : XK, (∀ cls d σ' H', Ech cls d H' → W cls d σ' H') ∧ σ[0]? = some (some (.ref f)) ∧ H c' = some (LamX.CodeO c' q) ∧ tl Ech H fun v H' => ([v] : List V).length ≤ sizeLine ∧ ∀ p, H' p = none → D.rt (.ref p) (upd H' p (.lst [v])))
      rfl rfl (fun W pn xe tk _ => ?_) (Own.cl_as (i := 1) rfl nd rfl rfl ⟨rfl, by decide, .inl TB.mgC⟩ (fun a oe cls d pn hz hf => pss_one (ps_ret (pe_tup (pa_cons pe_str (pa_cons (pe_xf (C := CB) TB.xf TB.no hz hf (pv 1)) pa_nil)))))
        (Own.cl_on rfl ⟨rfl, by decide, .inl hF⟩ (fun _ _ _ _ _ _ _ => never_suite) (Own.cl_nil rfl rfl takes0)))), ?_⟩
  · refine ⟨fun pins s' σ H' D I h' => ?_⟩
    obtain ⟨Ech, hW, h1, h2, h3⟩ := h'
    exact (pss_one (ps_ret (pe_lst (pa_cons (act W pn xe Ech _ _ tk hW) pa_nil)))).run pins s' σ H' D I ⟨h1, h2, h3⟩
  · refine ⟨fun cls d H' => ∃ dd v, cls = .ref CB ∧ d = some dd ∧ H' dd = some (.xd [("part", v)]) ∧ ∀ p, H' p = none → Q (.ref p) (upd H' p (.tup [.str "ratio", v])), fun cls d σ' H' z => ?_, rfl, hc, h⟩
    obtain ⟨dd, v, e, ed, hd, k⟩ := z
    subst e
    refine ⟨true, eBB, fun _ hl a na => ?_, (fun z => nomatch z)⟩
    match σ', hl with
    | [s0, s1], _ => exact ⟨_, rfl, rfl, rfl, dd, _, v, ed, hd, rfl, (by decide : 2 ≤ sizeLine), k⟩
end
end Toy
set_option maxRecDepth 100000
set_option maxHeartbeats 4000000
set_option exponentiation.threshold 3000
namespace Toy
open PySem L2
open Rat (divInt)
section
variable {P : Program} {w : World} {K : PySem.W.Frag} {mg : Str → Option Value} {base : Heap} {C CP CB : Addr}
/-- no number from 0 to 1 -/
def NotOct (K : PySem.W.Frag) (C : Addr) (H : Hp) (v : V) : Prop := (∃ t, TyX K H v t ∧ isIntK K t false ∧ PySem.W.kitOne K t (.ref C) = some false) ∨ ∃ n d, NumAt C H v n d ∧ 0 < d ∧ (Sz n ∧ Sz d) ∧ (decide (0 ≤ n) && decide (n ≤ d)) = false
def spSLow (K : PySem.W.Frag) (C CB : Addr) : Sp := fun vs H _ E => ∃ v u, vs = [v, u] ∧ NotOct K C H v ∧ ∀ d H', Same H H' → H' d = some (.xd [("part", .str "low")]) → E (.ref CB) (some d) H'
theorem iteNotF {b : Bool} {A B : Prop} (h : b = false) (x : A) : if (!b) = true then A else B := by
  subst h
  exact iteT x
theorem ok_slow {f f1 fB : Addr} {fd fd1 fdB : FuncData} (F : Fun K "simplest" "simplest" sSimp f fd) (C1 : Cal P w K mg base 4 "_is_in_octave" f1 fd1 ["value"] (spEnd C fun n d => decide (0 ≤ n) && decide (n ≤ d)))
    (C2 : Cal P w K mg base 4 "_is_in_octave" f1 fd1 ["value"] (spOctNo K C)) (TB : ErT K mg "BadRatio" "part" CB fB) (FB : FnOk P w K mg base CX0 1 fB fdB ["self", "part"] (spErI CB "part")) (bB : Binds K fdB ["self", "part"] []) : FnOk P w K mg base (L2.CX P w) 5 f fd ["low", "high"] (spSLow K C CB) := by
  refine F.okX scSi (fun vs H Q E h => ?_) (fun cdv A outer s H vs Q E hr h => ?_)
  · obtain ⟨v, u, rfl, _⟩ := h
    rfl
  · obtain ⟨v, u, rfl, hv, k⟩ := h
    have nd := scSi.nd
    rcases hv with ⟨t, ty, hi, hk⟩ | ⟨n, d, hv, d0, z, hb⟩
    · refine ⟨_, pss_cons (ps_if (pt_not (pt_val (pe_call C2.F (hr.mono (by decide)) (by rfl) C2.mgf C2.kp C2.b .nil pass0 (pa_cons (pv 0) pa_nil)))) (pss_one (ps_raise (by rfl) (takes_of rfl rfl rfl rfl) (pmk_oex TB.o TB.ini TB.tyI FB (hr.mono (by decide)) bB .nil pass0 (by rfl) TB.mgC (pa_cons pe_str pa_nil)))) pss_nil) pss_never, ?_⟩
      refine ⟨_, rfl, v, t, rfl, ty, hi, hk, _, rfl, iteT ?_⟩
      exact ⟨by decide, fun a ha => erI_go ha fun d H2 _ s hd => k d H2 s hd⟩
    · refine ⟨_, pss_cons (ps_if (pt_not (pt_val (pe_call C1.F (hr.mono (by decide)) (by rfl) C1.mgf C1.kp C1.b .nil pass0 (pa_cons (pv 0) pa_nil)))) (pss_one (ps_raise (by rfl) (takes_of rfl rfl rfl rfl) (pmk_oex TB.o TB.ini TB.tyI FB (hr.mono (by decide)) bB .nil pass0 (by rfl) TB.mgC (pa_cons pe_str pa_nil)))) pss_nil) pss_never, ?_⟩
      refine ⟨_, rfl, v, n, d, rfl, hv, d0, z, fun H1 s1 => ⟨_, rfl, iteNotF hb ?_⟩⟩
      exact ⟨by decide, fun a ha => erI_go ha fun d H2 _ s hd => k d H2 (s1.trans s) hd⟩
/-- the other one is none, or not above the first -/
def spSHigh (K : PySem.W.Frag) (C CB : Addr) : Sp := fun vs H _ E => ∃ v u p, vs = [v, u] ∧ NumQ C H v p ∧ (0 ≤ p ∧ p ≤ 1) ∧ Sq 450 p ∧ (NotOct K C H u ∨ ∃ q, NumQ C H u q ∧ (0 ≤ q ∧ q ≤ 1) ∧ Sq 450 q ∧ q ≤ p) ∧ ∀ d H', Same H H' → H' d = some (.xd [("part", .str "high")]) → E (.ref CB) (some d) H'
theorem TyX.same {K : PySem.W.Frag} {H H' : Hp} {v : V} {t : Value} (h : TyX K H v t) (s : Same H H') : TyX K H' v t := by
  have k : ∀ {a : Addr} {o : HO}, H a = some o → H' a = some o := fun e => s _ _ e
  cases h with
  | base b =>
    refine .base ?_
    cases b with
    | non => exact .non
    | bl x => exact .bl x
    | int i => exact .int i
    | str x => exact .str x
    | flt x => exact .flt x
    | lst e => exact .lst (k e)
    | frz e => exact .frz (k e)
    | tup e => exact .tup (k e)
    | dK e => exact .dK (k e)
    | dT e => exact .dT (k e)
    | ins e cl ha hn htk hm => exact .ins (k e) cl ha hn htk hm
  | byt b => exact .byt b
  | set e => exact .set (k e)
  | kList e c => exact .kList e c
  | kTuple e c => exact .kTuple e c
  | kDict e c => exact .kDict e c
  | fTuple e => exact .fTuple (k e)
  | fDict e => exact .fDict (k e)
theorem ok_shigh {f f1 fB g1 g2 : Addr} {fd fd1 fdB gd1 gd2 : FuncData} (F : Fun K "simplest" "simplest" sSimp f fd) (T_Ratio : RatT K mg C) (C1 : Cal P w K mg base 4 "_is_in_octave" f1 fd1 ["value"] (spEnd C fun n d => decide (0 ≤ n) && decide (n ≤ d)))
    (C2 : Cal P w K mg base 4 "_is_in_octave" f1 fd1 ["value"] (spOctNo K C)) (TB : ErT K mg "BadRatio" "part" CB fB) (FB : FnOk P w K mg base CX0 1 fB fdB ["self", "part"] (spErI CB "part")) (bB : Binds K fdB ["self", "part"] [])
    (O_le : Opr P w K mg base 3 C "__le__" g1 gd1 ["self", "other"] (spCmp C fun z => decide (z ≤ 0))) (O_ge : Opr P w K mg base 3 C "__ge__" g2 gd2 ["self", "other"] (spCmp C fun z => decide (0 ≤ z))) : FnOk P w K mg base (L2.CX P w) 5 f fd ["low", "high"] (spSHigh K C CB) := by
  refine F.okX scSi (fun vs H Q E h => ?_) (fun cdv A outer s H vs Q E hr h => ?_)
  · obtain ⟨v, u, p, rfl, _⟩ := h
    rfl
  · obtain ⟨v, u, p, rfl, hv, ⟨p0, p1⟩, yp, hu, k⟩ := h
    have nd := scSi.nd
    have a0 := num0 p0
    have a1 := num1 p1
    have zp : Sq 490 p := yp.mono (by decide)
    rcases hu with (⟨t, ty, hi, hk⟩ | ⟨n, d, hu, d0, z, hb⟩) | ⟨q, hu, ⟨q0, q1⟩, yq, qp⟩
    · refine ⟨_, pss_cons (ps_if (pt_not (pt_val (pe_call C1.F (hr.mono (by decide)) (by rfl) C1.mgf C1.kp C1.b .nil pass0 (pa_cons (pv 0) pa_nil)))) pss_never pss_nil) (pss_cons (ps_if (PW.pt (pw_or (pt_not (pt_val (pe_call C2.F (hr.mono (by decide)) (by rfl) C2.mgf C2.kp C2.b .nil pass0 (pa_cons (pv 1) pa_nil)))) (pw_or1 (pt_cmpR (OpR.or op_le (OpR.or (Own.op_ownC O_le.F (hr.mono (by decide)) O_le.at_ O_le.fn O_le.b pass0) (Own.op_reflC O_ge.F (hr.mono (by decide)) O_ge.at_ O_ge.fn T_Ratio.sI O_ge.b pass0 PySem.F.slot_int_le PySem.F.entry_int_le PySem.F.args_int_le_2 Own.int_le_dec ⟨by decide, by decide⟩))) (pv 1) (pv 0) (nomark _))))) (pss_one (ps_raise (by rfl) (takes_of rfl rfl rfl rfl) (pmk_oex TB.o TB.ini TB.tyI FB (hr.mono (by decide)) bB .nil pass0 (by rfl) TB.mgC (pa_cons pe_str pa_nil)))) pss_nil) pss_never), ?_⟩
      refine ⟨_, rfl, v, p.num, p.den, rfl, hv.at_, den_pos p, z4 zp, fun H1 s1 => ⟨_, rfl, iteNot (and2 (decide_eq_true a0) (decide_eq_true a1)) ?_⟩⟩
      refine ⟨_, rfl, u, t, rfl, TyX.same ty s1, hi, hk, _, rfl, iteT ?_⟩
      exact ⟨by decide, fun a ha => erI_go ha fun d H2 _ s hd => k d H2 (s1.trans s) hd⟩
    · refine ⟨_, pss_cons (ps_if (pt_not (pt_val (pe_call C1.F (hr.mono (by decide)) (by rfl) C1.mgf C1.kp C1.b .nil pass0 (pa_cons (pv 0) pa_nil)))) pss_never pss_nil) (pss_cons (ps_if (PW.pt (pw_or (pt_not (pt_val (pe_call C1.F (hr.mono (by decide)) (by rfl) C1.mgf C1.kp C1.b .nil pass0 (pa_cons (pv 1) pa_nil)))) (pw_or1 (pt_cmpR (OpR.or op_le (OpR.or (Own.op_ownC O_le.F (hr.mono (by decide)) O_le.at_ O_le.fn O_le.b pass0) (Own.op_reflC O_ge.F (hr.mono (by decide)) O_ge.at_ O_ge.fn T_Ratio.sI O_ge.b pass0 PySem.F.slot_int_le PySem.F.entry_int_le PySem.F.args_int_le_2 Own.int_le_dec ⟨by decide, by decide⟩))) (pv 1) (pv 0) (nomark _))))) (pss_one (ps_raise (by rfl) (takes_of rfl rfl rfl rfl) (pmk_oex TB.o TB.ini TB.tyI FB (hr.mono (by decide)) bB .nil pass0 (by rfl) TB.mgC (pa_cons pe_str pa_nil)))) pss_nil) pss_never), ?_⟩
      refine ⟨_, rfl, v, p.num, p.den, rfl, hv.at_, den_pos p, z4 zp, fun H1 s1 => ⟨_, rfl, iteNot (and2 (decide_eq_true a0) (decide_eq_true a1)) ?_⟩⟩
      refine ⟨_, rfl, u, n, d, rfl, hu.same s1, d0, z, fun H2 s2 => ⟨_, rfl, iteNotF hb ?_⟩⟩
      exact ⟨by decide, fun a ha => erI_go ha fun d H3 _ s hd => k d H3 ((s1.trans s2).trans s) hd⟩
    · refine ⟨_, pss_cons (ps_if (pt_not (pt_val (pe_call C1.F (hr.mono (by decide)) (by rfl) C1.mgf C1.kp C1.b .nil pass0 (pa_cons (pv 0) pa_nil)))) pss_never pss_nil) (pss_cons (ps_if (PW.pt (pw_or (pt_not (pt_val (pe_call C1.F (hr.mono (by decide)) (by rfl) C1.mgf C1.kp C1.b .nil pass0 (pa_cons (pv 1) pa_nil)))) (pw_or1 (pt_cmpR (OpR.or op_le (OpR.or (Own.op_ownC O_le.F (hr.mono (by decide)) O_le.at_ O_le.fn O_le.b pass0) (Own.op_reflC O_ge.F (hr.mono (by decide)) O_ge.at_ O_ge.fn T_Ratio.sI O_ge.b pass0 PySem.F.slot_int_le PySem.F.entry_int_le PySem.F.args_int_le_2 Own.int_le_dec ⟨by decide, by decide⟩))) (pv 1) (pv 0) (nomark _))))) (pss_one (ps_raise (by rfl) (takes_of rfl rfl rfl rfl) (pmk_oex TB.o TB.ini TB.tyI FB (hr.mono (by decide)) bB .nil pass0 (by rfl) TB.mgC (pa_cons pe_str pa_nil)))) pss_nil) pss_never), ?_⟩
      have zq : Sq 490 q := yq.mono (by decide)
      refine ⟨_, rfl, v, p.num, p.den, rfl, hv.at_, den_pos p, z4 zp, fun H1 s1 => ⟨_, rfl, iteNot (and2 (decide_eq_true a0) (decide_eq_true a1)) ?_⟩⟩
      refine ⟨_, rfl, u, q.num, q.den, rfl, (hu.same s1).at_, den_pos q, z4 zq, fun H2 s2 => ⟨_, rfl, iteNot (and2 (decide_eq_true (num0 q0)) (decide_eq_true (num1 q1))) ?_⟩⟩
      refine ⟨_, rfl, _, rfl, leN T_Ratio ((hu.same s1).same s2) ((hv.same s1).same s2) zq zp fun H3 s3 => ⟨_, rfl, iteTb (decide_eq_true qp) ?_⟩⟩
      exact ⟨by decide, fun a ha => erI_go ha fun d H4 _ s hd => k d H4 (((s1.trans s2).trans s3).trans s) hd⟩
end
end Toy
set_option maxRecDepth 100000
set_option maxHeartbeats 4000000
set_option exponentiation.threshold 3000
namespace Toy
open PySem L2
open Rat (divInt)
/-- 3/10 and 2/5 -/
theorem third {x y : Int} (m : Simp.Mn (divInt 2 5).den (divInt 2 5).num (divInt 3 10).den (divInt 3 10).num x y) : x = 3 ∧ y = 1 := by
  obtain ⟨e1, e2⟩ := Simp.div_cop (n := 3) (d := 10) (by decide) (by decide)
  obtain ⟨e3, e4⟩ := Simp.div_cop (n := 2) (d := 5) (by decide) (by decide)
  rw [e1, e2, e3, e4] at m
  have h1 := m.least 3 1 ⟨by decide, by decide, by decide⟩
  have h2 := m.isIn.q0
  have h3 := m.isIn.lo
  omega
section
variable {P : Program} {w : World} {K : PySem.W.Frag} {mg : Str → Option Value} {base : Heap} {C : Addr}
def spPen (K : PySem.W.Frag) : Sp := fun vs H Q _ => ∃ (a : Addr) (ns : List Int), vs = [.ref a] ∧ SqL K H a (ns.map V.int) ∧ ns.length ≤ 63 ∧ ∀ p c H', Same H H' → H p = none → Pen H' p c 0 → Q (.ref p) H'
abbrev sPen : Stmt := top 33
theorem scPe : FnScope ["_law_script"] ["_law_script"] (defScope sPen) := ⟨rfl, rfl, rfl, by decide +kernel, rfl, by decide +kernel, by decide +kernel⟩
theorem cutV_ints (ns : List Int) (lo hi : Option Int) : ∃ ms : List Int, cutV (ns.map V.int) lo hi = ms.map V.int ∧ ms.length ≤ ns.length := by
  refine ⟨(ns.drop (HT.sIx (ns.map V.int).length 0 lo)).take (HT.sIx (ns.map V.int).length (ns.map V.int).length hi - HT.sIx (ns.map V.int).length 0 lo), ?_, ?_⟩
  · unfold cutV
    rw [← List.map_drop, ← List.map_take]
  · rw [List.length_take, List.length_drop]
    omega
theorem ok_pen {f : Addr} {fd : FuncData} (F : Fun K "_law_pen" "_law_pen" sPen f fd) (T : Bl mg) : FnOk P w K mg base CX0 1 f fd ["_law_script"] (spPen K) := by
  refine F.ok scPe (fun vs H Q E h => ?_) (fun cdv A outer s H vs Q E hr h => ?_)
  · obtain ⟨a, ns, rfl, _⟩ := h
    rfl
  · obtain ⟨a, ns, rfl, hS, hl, q⟩ := h
    have nd := scPe.nd
    refine ⟨_, pss_one (ps_ret (pe_lst (pa_cons (pe_callTy call_list_of (by rfl) T.list (by decide +kernel) (pa_cons (pe_slice sl_list (pv 0) po_none (po_some pe_int)) pa_nil)) (pa_cons pe_int (pa_cons pe_int pa_nil))))), ?_⟩
    obtain ⟨ms, e, hm⟩ := cutV_ints ns none (some 63)
    refine ⟨_, rfl, _, rfl, a, _, rfl, hS, fun c1 h1 => ⟨c1, _, rfl, .inl (SqL.of upd_same), fun c2 h2 => ⟨(by decide : 3 ≤ sizeLine), fun p hp => ?_⟩⟩⟩
    have s1 : Same H (upd H c1 (.lst (cutV (ns.map V.int) none (some 63)))) := same_new h1
    have s2 := s1.trans (same_new (o := .lst (cutV (ns.map V.int) none (some 63))) h2)
    have s3 := s2.trans (same_new (o := .lst [.ref c2, .int 0, .int 0]) hp)
    refine q p c2 _ s3 (s2.free hp) ⟨ms, 0, 0, ⟨upd_same, ?_, by omega, by decide⟩, by decide⟩
    have n2 : c2 ≠ p := by
      intro e2
      rw [← e2, upd_same] at hp
      cases hp
    rw [upd_ne n2, upd_same, e]
def spPick : Sp := fun vs H Q _ => ∃ p c s xs k, vs = [.ref p, .ref s] ∧ Pen H p c k ∧ k ≤ 1000000 ∧ H s = some (.lst xs) ∧ s ≠ p ∧ 0 < xs.length ∧ xs.length ≤ 1000 ∧ ∀ v H', v ∈ xs → Pen H' p c (k + 1) → But p H H' → Q v H'
abbrev sPick : Stmt := top 35
theorem scPk : FnScope ["_law_pen_here", "_law_some"] ["_law_pen_here", "_law_some"] (defScope sPick) := ⟨rfl, rfl, rfl, by decide +kernel, rfl, by decide +kernel, by decide +kernel⟩
theorem small_i {z : Int} (h : z.natAbs ≤ 1000000000) : z.natAbs < 2 ^ 2000 := Nat.lt_of_le_of_lt h (by decide +kernel)
theorem small_len {n : Nat} (h : n ≤ 1000000000) : (n : Int).natAbs < 2 ^ 2000 := Nat.lt_of_le_of_lt (show (n : Int).natAbs ≤ 1000000000 by omega) (by decide +kernel)
theorem ok_pick {f f1 : Addr} {fd fd1 : FuncData} (F : Fun K "_law_pick" "_law_pick" sPick f fd) (T : Bl mg) (C__law_draw : Cal P w K mg base 1 "_law_draw" f1 fd1 ["_law_pen_here", "_law_many"] spDraw) : FnOk P w K mg base CX0 2 f fd ["_law_pen_here", "_law_some"] spPick := by
  refine F.ok scPk (fun vs H Q E h => ?_) (fun cdv A outer s H vs Q E hr h => ?_)
  · obtain ⟨p, c, l, xs, k, rfl, _⟩ := h
    rfl
  · obtain ⟨p, c, l, xs, k, rfl, hP, hk, hl, hne, h0, h1, q⟩ := h
    have nd := scPk.nd
    refine ⟨_, pss_one (ps_ret (pe_ix ix_list (pv 1) (pe_call C__law_draw.F (hr.mono (by decide)) (by rfl) C__law_draw.mgf C__law_draw.kp C__law_draw.b .nil pass0 (pa_cons (pv 0) (pa_cons (pe_callB call_len (by rfl) T.len (by decide +kernel) (pa_cons (pv 1) pa_nil)) pa_nil))) (fun _ _ => rfl))), ?_⟩
    refine ⟨_, rfl, _, rfl, _, rfl, _, _, rfl, .inl ⟨_, SqL.of hl, rfl⟩, p, c, _, k, rfl, hP, hk, by omega, small_len (by omega), fun r H' r0 r1 hP' hB => ?_⟩
    exact ⟨l, xs, r, _, rfl, rfl, SqL.of (hB _ _ hl hne), atI_in r0 r1, q _ H' (List.getElem_mem _) hP' hB⟩

end
end Toy
set_option maxRecDepth 100000
set_option maxHeartbeats 4000000
set_option exponentiation.threshold 3000
namespace Toy
open PySem L2
open Rat (divInt)
/-- the object of a value, if it has one -/
def Has (H : Hp) (v : V) (o : HO) : Prop := ∀ a, v = .ref a → H a = some o
theorem Has.same {H H' : Hp} {v : V} {o : HO} (h : Has H v o) (s : Same H H') : Has H' v o := fun a e => s _ _ (h a e)
theorem Has.extN {H H' : Hp} {v : V} {o : HO} (h : Has H v o) (s : LamX.ExtN H H') (n : ∀ ps, o ≠ .tbl ps) : Has H' v o := fun a e => s _ _ (h a e) n
theorem Has.put {H : Hp} {v : V} {o u : HO} {l : Addr} {us : List V} (h : Has H v o) (hl : H l = some (.lst us)) (n : ∀ a, v = .ref a → a ≠ l) : Has (upd H l u) v o := fun a e => by rw [upd_ne (n a e)]; exact h a e
theorem Has.but {H H' : Hp} {v : V} {o : HO} {p : Addr} (h : Has H v o) (b : But p H H') (n : ∀ a, v = .ref a → a ≠ p) : Has H' v o := fun a e => b _ _ (h a e) (n a e)
/-- a value that is no number from 0 to 1, whatever else the heap holds -/
structure OddV (K : PySem.W.Frag) (C : Addr) (v : V) (o : HO) : Prop where
  nt : ∀ ps, o ≠ .tbl ps
  no : ∀ H, Has H v o → NotOct K C H v
/-- the built-in types are no Ratio -/
structure KitNo (K : PySem.W.Frag) (C : Addr) : Prop where
  non : PySem.W.kitOne K (.type "NoneType") (.ref C) = some false
  bl : PySem.W.kitOne K (.type "bool") (.ref C) = some false
  str : PySem.W.kitOne K (.type "str") (.ref C) = some false
  tup : PySem.W.kitOne K (.type "tuple") (.ref C) = some false
  lst : PySem.W.kitOne K (.type "list") (.ref C) = some false
  dct : PySem.W.kitOne K (.type "dict") (.ref C) = some false
section
variable {K : PySem.W.Frag} {C : Addr}
theorem odd_non {o : HO} (k : KitNo K C) (n : ∀ ps, o ≠ .tbl ps) : OddV K C .non o := ⟨n, fun _ _ => .inl ⟨_, .base .non, ⟨false, false, kit_ty (by decide +kernel), kit_ty (by decide +kernel), rfl⟩, k.non⟩⟩
theorem odd_bl {o : HO} {b : Bool} (k : KitNo K C) (n : ∀ ps, o ≠ .tbl ps) : OddV K C (.bl b) o := ⟨n, fun _ _ => .inl ⟨_, .base (.bl b), ⟨true, true, kit_ty (by decide +kernel), kit_ty (by decide +kernel), rfl⟩, k.bl⟩⟩
theorem odd_str {o : HO} {x : Str} (k : KitNo K C) (n : ∀ ps, o ≠ .tbl ps) : OddV K C (.str x) o := ⟨n, fun _ _ => .inl ⟨_, .base (.str x), ⟨false, false, kit_ty (by decide +kernel), kit_ty (by decide +kernel), rfl⟩, k.str⟩⟩
theorem odd_tup {a : Addr} {xs : List V} (k : KitNo K C) : OddV K C (.ref a) (.tup xs) := ⟨(fun _ z => nomatch z), fun _ h => .inl ⟨_, .base (.tup (h a rfl)), ⟨false, false, kit_ty (by decide +kernel), kit_ty (by decide +kernel), rfl⟩, k.tup⟩⟩
theorem odd_lst {a : Addr} {xs : List V} (k : KitNo K C) : OddV K C (.ref a) (.lst xs) := ⟨(fun _ z => nomatch z), fun _ h => .inl ⟨_, .base (.lst (h a rfl)), ⟨false, false, kit_ty (by decide +kernel), kit_ty (by decide +kernel), rfl⟩, k.lst⟩⟩
theorem odd_dct {a : Addr} {kvs : List (Key × V)} (k : KitNo K C) : OddV K C (.ref a) (.dK kvs) := ⟨(fun _ z => nomatch z), fun _ h => .inl ⟨_, .base (.dK (h a rfl)), ⟨false, false, kit_ty (by decide +kernel), kit_ty (by decide +kernel), rfl⟩, k.dct⟩⟩
theorem odd_int {o : HO} {i : Int} (n : ∀ ps, o ≠ .tbl ps) (z : Sz i) (h : (decide (0 ≤ i) && decide (i ≤ 1)) = false) : OddV K C (.int i) o := ⟨n, fun _ _ => .inr ⟨i, 1, .int i, by decide, ⟨z, Sz1⟩, h⟩⟩
theorem odd_rat {a dx : Addr} {n d : Int} (d0 : 0 < d) (z : Sz n) (z2 : Sz d) (h : (decide (0 ≤ n) && decide (n ≤ d)) = false) : OddV K C (.ref a) (.ins C dx (ratF n d)) := ⟨(fun _ z => nomatch z), fun _ k => .inr ⟨n, d, .rat ⟨dx, k a rfl⟩, d0, ⟨z, z2⟩, h⟩⟩
end
end Toy
set_option maxRecDepth 100000
set_option maxHeartbeats 4000000
set_option exponentiation.threshold 3000
namespace Toy
open PySem L2
open Rat (divInt)
section
variable {P : Program} {w : World} {K : PySem.W.Frag} {mg : Str → Option Value} {base : Heap} {C CB CF Pt c : Addr}
abbrev sRef : Stmt := top 42
abbrev LQ : Str := (PyProof.Rows.envOfC "_law_refused" (defScope sRef) 0 0 .none).qual ++ "<lambda>"
def spRef (Pt : Addr) : Sp := fun vs H Q _ => ∃ p cc k, vs = [.ref p] ∧ Pen H p cc k ∧ k ≤ 900000 ∧ LamX.Tabs [(Pt, LQ)] H ∧ ∀ H', Q (.bl true) H'
theorem scRef : FnScope ["_law_pen_here", "_law_heard_here", "_law_odd", "_law_one", "_law_other"] ["_law_pen_here"] (defScope sRef) := ⟨rfl, rfl, rfl, by decide +kernel, rfl, by decide +kernel, by decide +kernel⟩
theorem pen_ne {H : Hp} {p c l : Addr} {k : Nat} (h : Pen H p c k) (hl : H l = none) : l ≠ p := by
  obtain ⟨_, _, _, W, _⟩ := h
  exact fun z => by
    rw [z, W.hp] at hl
    cases hl
open LamX in
theorem codeO_lst {c : Addr} {q : Str} {xs : List V} : CodeO c q ≠ .lst xs := fun z => by
  unfold CodeO at z
  cases z
open LamX in
theorem tabs_but {T : List (Addr × Str)} {H H' : Hp} {p : Addr} {xs : List V} (t : Tabs T H) (hp : H p = some (.lst xs)) (e : But p H H') : Tabs T H' := fun r hr => by
  obtain ⟨ps, h1, h2, h3⟩ := t r hr
  refine ⟨ps, e _ _ h1 (fun z => ?_), h2, fun pos cv hc => ?_⟩
  · rw [z, hp] at h1
    cases h1
  · obtain ⟨c, e1, e2⟩ := h3 pos cv hc
    refine ⟨c, e1, e _ _ e2 fun z => ?_⟩
    rw [z, hp] at e2
    exact codeO_lst (Option.some.inj e2).symm
theorem pen_at {H : Hp} {p c : Addr} {k : Nat} (h : Pen H p c k) : ∃ xs, H p = some (.lst xs) := by
  obtain ⟨_, _, _, W, _⟩ := h
  exact ⟨_, W.hp⟩
/-- what is heard so far, and what the questions ask about -/
structure RS (C Pt x l : Addr) (q : Rat) (odd other : V) (oo ov : HO) (H : Hp) (qs : List (Addr × Str)) : Prop where
  k1 : Has H odd oo
  k2 : Has H other ov
  w : RatQ C H x q
  t : LamX.Tabs [(Pt, LQ)] H
  ll : H l = some (.lst (qs.map fun z => V.ref z.1))
  el : ∀ z ∈ qs, H z.1 = some (.tup [.str "ratio", .str z.2])
  n1 : ∀ a, odd = .ref a → a ≠ l
  n2 : ∀ a, other = .ref a → a ≠ l
  n3 : x ≠ l
  o1 : ∀ ps, oo ≠ .tbl ps
  o2 : ∀ ps, ov ≠ .tbl ps
theorem RS.step {x l q1 : Addr} {q : Rat} {odd other : V} {oo ov : HO} {H H5 H6 : Hp} {qs : List (Addr × Str)} {s : Str} (R : RS C Pt x l q odd other oo ov H qs) (e5 : LamX.ExtN H H5) (T5 : LamX.Tabs [(Pt, LQ)] H5) (s6 : Same H5 H6) (hq : H6 q1 = none) :
    RS C Pt x l q odd other oo ov (upd (upd H6 q1 (.tup [.str "ratio", .str s])) l (.lst ((qs.map fun z => V.ref z.1) ++ [.ref q1]))) (qs ++ [(q1, s)]) := by
  have s7 := s6.trans (same_new (o := .tup [.str "ratio", .str s]) hq)
  have l5 := s7 _ _ (e5 _ _ R.ll (fun _ z => nomatch z))
  have b7 : But l (upd H6 q1 (.tup [.str "ratio", .str s])) (upd (upd H6 q1 (.tup [.str "ratio", .str s])) l (.lst ((qs.map fun z => V.ref z.1) ++ [.ref q1]))) := fun b o h n => by rw [upd_ne n]; exact h
  refine ⟨((R.k1.extN e5 R.o1).same s7).put l5 R.n1, ((R.k2.extN e5 R.o2).same s7).put l5 R.n2, ?_, tabs_but (T5.ext s7) l5 b7, ?_, fun z hz => ?_, R.n1, R.n2, R.n3, R.o1, R.o2⟩
  · obtain ⟨dx, h⟩ := R.w
    exact ⟨dx, b7 _ _ (s7 _ _ (e5 _ _ h (fun _ z => nomatch z))) R.n3⟩
  · rw [List.map_append]
    exact upd_same
  · have ne : ∀ b us, (upd H6 q1 (.tup [.str "ratio", .str s])) b = some (.tup us) → b ≠ l := fun b us h z => by
      rw [z, l5] at h
      cases h
    rcases List.mem_append.mp hz with hz | hz
    · have h := s7 _ _ (e5 _ _ (R.el z hz) (fun _ z => nomatch z))
      exact b7 _ _ h (ne _ _ h)
    · rw [List.mem_singleton.mp hz]
      exact b7 _ _ upd_same (ne _ _ upd_same)
theorem ratX {H H' : Hp} {a : Addr} {q : Rat} (h : RatQ C H a q) (e : LamX.ExtN H H') : RatQ C H' a q := let ⟨dx, h⟩ := h; ⟨dx, e _ _ h fun _ z => nomatch z⟩
theorem ok_ref {f g f1 f2 f3 f4 : Addr} {fd gd fd1 fd2 fd3 : FuncData} (F : Fun K "_law_refused" "_law_refused" sRef f fd) (hcF : fd.code = .ref c) (TB : LamX.TabB base mg c Pt) (T : Bl mg) (T_Ratio : RatT K mg C) (kn : KitNo K C) (ET : ErT K mg "BadRatio" "part" CB f4)
    (FH : Fun K "_law_heard" "_law_heard" sHeard g gd) (mgH : mg "_law_heard" = some (.ref g)) (bH : Binds K gd ["_law_ask"] []) (hF : mg "FifthError" = some (.ref CF)) (eBB : PySem.W.exmOne K (.ref CB) (.ref CB) = some true)
    (C__law_draw : Cal P w K mg base 1 "_law_draw" f1 fd1 ["_law_pen_here", "_law_many"] spDraw) (C__law_pick : Cal P w K mg base 2 "_law_pick" f2 fd2 ["_law_pen_here", "_law_some"] spPick) (M_Ratio : Mak P w K mg base 2 "Ratio" C f3 fd3 ["self", "top", "bottom"] (spRInit C))
    {fs : Addr} {fds : FuncData} (mgS : mg "simplest" = some (.ref fs)) (kpS : PySem.W.keepIn K (.ref fs) = true) (bS : Binds K fds ["low", "high"] []) (SL : FnOk P w K mg base (L2.CX P w) 5 fs fds ["low", "high"] (spSLow K C CB)) (SH : FnOk P w K mg base (L2.CX P w) 5 fs fds ["low", "high"] (spSHigh K C CB)) :
    FnOk P w K mg base CX0 8 f fd ["_law_pen_here"] (spRef Pt) := by
  have kH := FH.kp
  obtain ⟨oc, od, kV, doc, pm, an, cdv, ct, osl, egd, lk, hcg⟩ := FH.ex
  subst egd
  refine Own.okC F hcF scRef (fun vs H Q E h => ?_) (fun A outer s H vs Q E hr h => ?_)
  · obtain ⟨p, cc, k, rfl, _⟩ := h
    rfl
  · obtain ⟨p, cc, k, rfl, hP, hk, hT, q⟩ := h
    have nd := scRef.nd
    refine ⟨_, pss_cons (ps_set (i := 2) nd rfl (Or.inr rfl) (pe_call C__law_pick.F (hr.mono (by decide)) (by rfl) C__law_pick.mgf C__law_pick.kp C__law_pick.b .nil pass0 (pa_cons (pv 0) (pa_cons (pe_lst (pa_cons pe_non (pa_cons pe_bl (pa_cons pe_bl (pa_cons pe_str (pa_cons (pe_tup (pa_cons pe_int pa_nil)) (pa_cons (pe_lst (pa_cons pe_int pa_nil)) (pa_cons pe_dnewK (pa_cons (pe_un un_neg pe_int) (pa_cons pe_int (pa_cons (pe_make M_Ratio.M M_Ratio.F (hr.mono (by decide)) (by rfl) M_Ratio.mgC M_Ratio.b .nil pass0 (pa_cons (pe_un un_neg pe_int) (pa_cons pe_int pa_nil))) (pa_cons (pe_make M_Ratio.M M_Ratio.F (hr.mono (by decide)) (by rfl) M_Ratio.mgC M_Ratio.b .nil pass0 (pa_cons pe_int (pa_cons pe_int pa_nil))) pa_nil)))))))))))) pa_nil))))
      (pss_cons (ps_set (i := 4) nd rfl (Or.inr rfl) (pe_call C__law_pick.F (hr.mono (by decide)) (by rfl) C__law_pick.mgf C__law_pick.kp C__law_pick.b .nil pass0 (pa_cons (pv 0) (pa_cons (pe_lst (pa_cons pe_non (pa_cons pe_bl (pa_cons pe_str (pa_cons (pe_tup (pa_cons pe_int pa_nil)) (pa_cons (pe_lst (pa_cons pe_int pa_nil)) (pa_cons pe_dnewK (pa_cons (pe_un un_neg pe_int) (pa_cons pe_int (pa_cons (pe_make M_Ratio.M M_Ratio.F (hr.mono (by decide)) (by rfl) M_Ratio.mgC M_Ratio.b .nil pass0 (pa_cons (pe_un un_neg pe_int) (pa_cons pe_int pa_nil))) (pa_cons (pe_make M_Ratio.M M_Ratio.F (hr.mono (by decide)) (by rfl) M_Ratio.mgC M_Ratio.b .nil pass0 (pa_cons pe_int (pa_cons pe_int pa_nil))) pa_nil))))))))))) pa_nil))))
      (pss_cons (ps_set (i := 3) nd rfl (Or.inr rfl) (pe_make M_Ratio.M M_Ratio.F (hr.mono (by decide)) (by rfl) M_Ratio.mgC M_Ratio.b .nil pass0 (pa_cons (pe_call C__law_draw.F (hr.mono (by decide)) (by rfl) C__law_draw.mgf C__law_draw.kp C__law_draw.b .nil pass0 (pa_cons (pv 0) (pa_cons pe_int pa_nil))) (pa_cons pe_int pa_nil))))
      (pss_cons (ps_set (i := 1) nd rfl (Or.inl rfl) (pe_lst (pa_cons (LamX.pe_lamcall (T := [(Pt, LQ)]) (TT := TTbad CB) (t := fun E => tCall (spSLow K C CB) [] E (tCons (tVar 2) (tCons (tVar 4) tNil))) (by rfl) mgH kH lk hcg bH scHd (by rfl) (.inl rfl) (heard_bad ET hF eBB) TB (by rfl) (List.mem_cons_self ..) (fun z hz _ => by rw [List.mem_singleton.mp hz]; rfl) hr (LamX.lamS_by (by rfl)) (by rfl) (fun _ _ _ _ _ => rfl) (fun A outer s H E f c' hr2 => pe_call SL hr2 (by rfl) mgS kpS bS .nil (passes_call (takes_of rfl rfl rfl rfl) fun _ _ _ _ h => h) (pa_cons (pv 2) (pa_cons (pv 4) pa_nil)))) pa_nil)))
      (pss_cons (ps_expr (pe_bm PySem.F.plainAttrs_list PySem.F.slot_list_append PySem.F.type_list_append mt_append (pv 1) (pa_cons (LamX.pe_lamcall (T := [(Pt, LQ)]) (TT := TTbad CB) (t := fun E => tCall (spSLow K C CB) [] E (tCons (tVar 2) (tCons (tC (.int 1)) tNil))) (by rfl) mgH kH lk hcg bH scHd (by rfl) (.inl rfl) (heard_bad ET hF eBB) TB (by rfl) (List.mem_cons_self ..) (fun z hz _ => by rw [List.mem_singleton.mp hz]; rfl) hr (LamX.lamS_by (by rfl)) (by rfl) (fun _ _ _ _ _ => rfl) (fun A outer s H E f c' hr2 => pe_call SL hr2 (by rfl) mgS kpS bS .nil (passes_call (takes_of rfl rfl rfl rfl) fun _ _ _ _ h => h) (pa_cons (pv 2) (pa_cons pe_int pa_nil)))) pa_nil)))
      (pss_cons (ps_expr (pe_bm PySem.F.plainAttrs_list PySem.F.slot_list_append PySem.F.type_list_append mt_append (pv 1) (pa_cons (LamX.pe_lamcall (T := [(Pt, LQ)]) (TT := TTbad CB) (t := fun E => tCall (spSHigh K C CB) [] E (tCons (tVar 3) (tCons (tVar 4) tNil))) (by rfl) mgH kH lk hcg bH scHd (by rfl) (.inl rfl) (heard_bad ET hF eBB) TB (by rfl) (List.mem_cons_self ..) (fun z hz _ => by rw [List.mem_singleton.mp hz]; rfl) hr (LamX.lamS_by (by rfl)) (by rfl) (fun _ _ _ _ _ => rfl) (fun A outer s H E f c' hr2 => pe_call SH hr2 (by rfl) mgS kpS bS .nil (passes_call (takes_of rfl rfl rfl rfl) fun _ _ _ _ h => h) (pa_cons (pv 3) (pa_cons (pv 4) pa_nil)))) pa_nil)))
      (pss_cons (ps_expr (pe_bm PySem.F.plainAttrs_list PySem.F.slot_list_append PySem.F.type_list_append mt_append (pv 1) (pa_cons (LamX.pe_lamcall (T := [(Pt, LQ)]) (TT := TTbad CB) (t := fun E => tCall (spSHigh K C CB) [] E (tCons (tVar 3) (tCons (tVar 3) tNil))) (by rfl) mgH kH lk hcg bH scHd (by rfl) (.inl rfl) (heard_bad ET hF eBB) TB (by rfl) (List.mem_cons_self ..) (fun z hz _ => by rw [List.mem_singleton.mp hz]; rfl) hr (LamX.lamS_by (by rfl)) (by rfl) (fun _ _ _ _ _ => rfl) (fun A outer s H E f c' hr2 => pe_call SH hr2 (by rfl) mgS kpS bS .nil (passes_call (takes_of rfl rfl rfl rfl) fun _ _ _ _ h => h) (pa_cons (pv 3) (pa_cons (pv 3) pa_nil)))) pa_nil)))
      (pss_cons (ps_expr (pe_bm PySem.F.plainAttrs_list PySem.F.slot_list_append PySem.F.type_list_append mt_append (pv 1) (pa_cons (LamX.pe_lamcall (T := [(Pt, LQ)]) (TT := TTbad CB) (t := fun E => tCall (spSHigh K C CB) [] E (tCons (tC (.int 1)) (tCons (tVar 3) tNil))) (by rfl) mgH kH lk hcg bH scHd (by rfl) (.inl rfl) (heard_bad ET hF eBB) TB (by rfl) (List.mem_cons_self ..) (fun z hz _ => by rw [List.mem_singleton.mp hz]; rfl) hr (LamX.lamS_by (by rfl)) (by rfl) (fun _ _ _ _ _ => rfl) (fun A outer s H E f c' hr2 => pe_call SH hr2 (by rfl) mgS kpS bS .nil (passes_call (takes_of rfl rfl rfl rfl) fun _ _ _ _ h => h) (pa_cons pe_int (pa_cons (pv 3) pa_nil)))) pa_nil)))
      (pss_one (ps_ret (pe_cmpR (op_eqD hr.units) (pv 1) (pe_op op_cat (pe_op op_rep (pe_lst (pa_cons (pe_tup (pa_cons pe_str (pa_cons pe_str pa_nil))) pa_nil)) pe_int) (pe_op op_rep (pe_lst (pa_cons (pe_tup (pa_cons pe_str (pa_cons pe_str pa_nil))) pa_nil)) pe_int)) (nomark _))))))))))), ?_⟩
    refine ⟨_, rfl, (by decide : 1 ≤ sizeLine), fun t1 ht1 => ⟨(by decide : 1 ≤ sizeLine), fun l1 hl1 => fun d1 hd1 => ⟨_, rfl, _, rfl, ?_⟩⟩⟩
    have a11 : Same H _ := same_new (o := .tup [.int 0]) ht1
    have a12 := same_new (o := .lst [.int 0]) hl1
    have a13 := same_new (o := .dK []) hd1
    have a123 := a12.trans a13
    have a1123 := a11.trans a123
    intro x1 dx1 hx1 hdx1 hn1
    refine ⟨x1, dx1, -1, 9, rfl, upd_same, by decide, by unfold Sz; decide +kernel, fun J1 hR1 hk1 => ⟨rfl, ?_⟩⟩
    have c11 := mk_same hx1 hdx1 hk1
    have R1 := asAt (by decide) (by decide) hR1
    intro y1 dy1 hy1 hdy1 hm1
    refine ⟨y1, dy1, 10, 9, rfl, upd_same, by decide, by unfold Sz; decide +kernel, fun L1 hS1 hj1 => ⟨rfl, ?_⟩⟩
    have c12 := mk_same hy1 hdy1 hj1
    have S1 := asAt (by decide) (by decide) hS1
    refine ⟨(by decide : 11 ≤ sizeLine), fun s1 hs1 => ?_⟩
    have sF1 := ((a1123.trans c11).trans c12)
    have sP1 := hP.same sF1
    refine ⟨p, cc, s1, _, k, rfl, sP1.same (same_new hs1), by omega, upd_same, pen_ne sP1 hs1, (by decide : 0 < 11), (by decide : 11 ≤ 1000), fun odd H1 hv1 P1 B1 => ?_⟩
    have zz : Sz (-1) ∧ Sz 9 ∧ Sz 10 ∧ Sz 2 := by unfold Sz; decide +kernel
    have fx1 := R1.same c12
    have N1 : ∃ o, OddV K C odd o ∧ Has H1 odd o ∧ ∀ a, odd = .ref a → a ≠ p := by
      have up : ∀ (a : Addr) (o : HO), L1 a = some o → a ≠ p → H1 a = some o := fun a o h n => B1 a o (same_new hs1 _ _ h) n
      have nt : ∀ ps, HO.tup [] ≠ .tbl ps := fun _ z => nomatch z
      have hit : ∀ (a : Addr) (o : HO), OddV K C (.ref a) o → L1 a = some o → a ≠ p → ∃ o, OddV K C (.ref a) o ∧ Has H1 (.ref a) o ∧ ∀ b, V.ref a = .ref b → b ≠ p := fun a o ho h n => ⟨o, ho, fun b e => by cases e; exact up a o h n, fun b e => by cases e; exact n⟩
      have miss : ∀ (v : V), OddV K C v (.tup []) → (∀ a, v ≠ .ref a) → ∃ o, OddV K C v o ∧ Has H1 v o ∧ ∀ b, v = .ref b → b ≠ p := fun v ho n => ⟨_, ho, fun b e => absurd e (n b), fun b e => absurd e (n b)⟩
      rcases List.mem_cons.mp hv1 with rfl | hv
      · exact miss _ (odd_non kn nt) (fun _ z => nomatch z)
      rcases List.mem_cons.mp hv with rfl | hv
      · exact miss _ (odd_bl kn nt) (fun _ z => nomatch z)
      rcases List.mem_cons.mp hv with rfl | hv
      · exact miss _ (odd_bl kn nt) (fun _ z => nomatch z)
      rcases List.mem_cons.mp hv with rfl | hv
      · exact miss _ (odd_str kn nt) (fun _ z => nomatch z)
      rcases List.mem_cons.mp hv with rfl | hv
      · exact hit _ _ (odd_tup kn) (c12 _ _ (c11 _ _ (a123 _ _ upd_same))) (pen_ne hP ht1)
      rcases List.mem_cons.mp hv with rfl | hv
      · exact hit _ _ (odd_lst kn) (c12 _ _ (c11 _ _ (a13 _ _ upd_same))) (pen_ne (hP.same a11) hl1)
      rcases List.mem_cons.mp hv with rfl | hv
      · exact hit _ _ (odd_dct kn) (c12 _ _ (c11 _ _ upd_same)) (pen_ne (hP.same (a11.trans a12)) hd1)
      rcases List.mem_cons.mp hv with rfl | hv
      · exact miss _ (odd_int nt zz.1 (by decide)) (fun _ z => nomatch z)
      rcases List.mem_cons.mp hv with rfl | hv
      · exact miss _ (odd_int nt zz.2.2.2 (by decide)) (fun _ z => nomatch z)
      rcases List.mem_cons.mp hv with rfl | hv
      · obtain ⟨dd, h⟩ := fx1
        exact hit _ _ (odd_rat (by decide) zz.1 zz.2.1 (by decide)) h (pen_ne (hP.same a1123) hx1)
      rcases List.mem_cons.mp hv with rfl | hv
      · obtain ⟨dd, h⟩ := S1
        exact hit _ _ (odd_rat (by decide) zz.2.2.1 zz.2.1 (by decide)) h (pen_ne (hP.same (a1123.trans c11)) hy1)
      cases hv
    obtain ⟨oo, O1, K1, Q1⟩ := N1
    refine ⟨_, rfl, (by decide : 1 ≤ sizeLine), fun t2 ht2 => ⟨(by decide : 1 ≤ sizeLine), fun l2 hl2 => fun d2 hd2 => ⟨_, rfl, _, rfl, ?_⟩⟩⟩
    have a21 : Same H1 _ := same_new (o := .tup [.int 1]) ht2
    have a22 := same_new (o := .lst [.int 1]) hl2
    have a23 := same_new (o := .dK []) hd2
    have a223 := a22.trans a23
    have a2123 := a21.trans a223
    intro x2 dx2 hx2 hdx2 hn2
    refine ⟨x2, dx2, -1, 9, rfl, upd_same, by decide, by unfold Sz; decide +kernel, fun J2 hR2 hk2 => ⟨rfl, ?_⟩⟩
    have c21 := mk_same hx2 hdx2 hk2
    have R2 := asAt (by decide) (by decide) hR2
    intro y2 dy2 hy2 hdy2 hm2
    refine ⟨y2, dy2, 10, 9, rfl, upd_same, by decide, by unfold Sz; decide +kernel, fun L2 hS2 hj2 => ⟨rfl, ?_⟩⟩
    have c22 := mk_same hy2 hdy2 hj2
    have S2 := asAt (by decide) (by decide) hS2
    refine ⟨(by decide : 10 ≤ sizeLine), fun s2 hs2 => ?_⟩
    have sF2 := ((a2123.trans c21).trans c22)
    have sP2 := P1.same sF2
    refine ⟨p, cc, s2, _, k + 1, rfl, sP2.same (same_new hs2), by omega, upd_same, pen_ne sP2 hs2, (by decide : 0 < 10), (by decide : 10 ≤ 1000), fun other H2 hv2 P2 B2 => ?_⟩
    have fx2 := R2.same c22
    have N2 : ∃ o, OddV K C other o ∧ Has H2 other o ∧ ∀ a, other = .ref a → a ≠ p := by
      have up : ∀ (a : Addr) (o : HO), L2 a = some o → a ≠ p → H2 a = some o := fun a o h n => B2 a o (same_new hs2 _ _ h) n
      have nt : ∀ ps, HO.tup [] ≠ .tbl ps := fun _ z => nomatch z
      have hit : ∀ (a : Addr) (o : HO), OddV K C (.ref a) o → L2 a = some o → a ≠ p → ∃ o, OddV K C (.ref a) o ∧ Has H2 (.ref a) o ∧ ∀ b, V.ref a = .ref b → b ≠ p := fun a o ho h n => ⟨o, ho, fun b e => by cases e; exact up a o h n, fun b e => by cases e; exact n⟩
      have miss : ∀ (v : V), OddV K C v (.tup []) → (∀ a, v ≠ .ref a) → ∃ o, OddV K C v o ∧ Has H2 v o ∧ ∀ b, v = .ref b → b ≠ p := fun v ho n => ⟨_, ho, fun b e => absurd e (n b), fun b e => absurd e (n b)⟩
      rcases List.mem_cons.mp hv2 with rfl | hv
      · exact miss _ (odd_non kn nt) (fun _ z => nomatch z)
      rcases List.mem_cons.mp hv with rfl | hv
      · exact miss _ (odd_bl kn nt) (fun _ z => nomatch z)
      rcases List.mem_cons.mp hv with rfl | hv
      · exact miss _ (odd_str kn nt) (fun _ z => nomatch z)
      rcases List.mem_cons.mp hv with rfl | hv
      · exact hit _ _ (odd_tup kn) (c22 _ _ (c21 _ _ (a223 _ _ upd_same))) (pen_ne P1 ht2)
      rcases List.mem_cons.mp hv with rfl | hv
      · exact hit _ _ (odd_lst kn) (c22 _ _ (c21 _ _ (a23 _ _ upd_same))) (pen_ne (P1.same a21) hl2)
      rcases List.mem_cons.mp hv with rfl | hv
      · exact hit _ _ (odd_dct kn) (c22 _ _ (c21 _ _ upd_same)) (pen_ne (P1.same (a21.trans a22)) hd2)
      rcases List.mem_cons.mp hv with rfl | hv
      · exact miss _ (odd_int nt zz.1 (by decide)) (fun _ z => nomatch z)
      rcases List.mem_cons.mp hv with rfl | hv
      · exact miss _ (odd_int nt zz.2.2.2 (by decide)) (fun _ z => nomatch z)
      rcases List.mem_cons.mp hv with rfl | hv
      · obtain ⟨dd, h⟩ := fx2
        exact hit _ _ (odd_rat (by decide) zz.1 zz.2.1 (by decide)) h (pen_ne (P1.same a2123) hx2)
      rcases List.mem_cons.mp hv with rfl | hv
      · obtain ⟨dd, h⟩ := S2
        exact hit _ _ (odd_rat (by decide) zz.2.2.1 zz.2.1 (by decide)) h (pen_ne (P1.same (a2123.trans c21)) hy2)
      cases hv
    obtain ⟨ov, O2, K2, Q2⟩ := N2
    have K1 := (K1.same (sF2.trans (same_new (o := .lst _) hs2))).but B2 Q1
    have T1 := (fun xs (hx : (upd L1 s1 _) p = some (HO.lst xs)) => tabs_but (hT.ext (sF1.trans (same_new hs1))) hx B1) _ (pen_at (sP1.same (same_new hs1))).choose_spec
    have T2 := (fun xs (hx : (upd L2 s2 _) p = some (HO.lst xs)) => tabs_but (T1.ext (sF2.trans (same_new hs2))) hx B2) _ (pen_at (sP2.same (same_new hs2))).choose_spec
    refine ⟨_, rfl, p, cc, 9, _, rfl, P2, by omega, by decide, by decide +kernel, fun r H3 r0 r1 P3 B3 => ?_⟩
    have T3 := tabs_but T2 (pen_at P2).choose_spec B3
    have K1 := K1.but B3 Q1
    have K2 := K2.but B3 Q2
    intro x3 dx3 hx3 hdx3 hn3
    refine ⟨x3, dx3, r, 9, rfl, upd_same, by decide, zz.2.1, fun J3 hR3 hk3 => ⟨rfl, ?_⟩⟩
    have c31 := mk_same hx3 hdx3 hk3
    have W3 := asQ (by decide) rfl hR3
    have T3 := T3.ext c31
    have K1 := K1.same c31
    have K2 := K2.same c31
    have w0 : 0 ≤ divInt r 9 := Rat.divInt_nonneg r0 (by decide)
    have w1 : divInt r 9 < 1 := by
      have h := lt_div (a := r) (b := 9) (c := 1) (d := 1) (by decide) (by decide) (by omega)
      have e : divInt 1 1 = 1 := by decide +kernel
      rw [e] at h
      exact h
    have zw : Sq 450 (divInt r 9) := sq_of (by decide) r0 (by omega) (by decide) (by decide)
    refine ⟨T3, fun H5 e5 T5 => ⟨_, rfl, _, rfl, odd, other, rfl, O1.no _ (K1.extN e5 O1.nt), fun d5 H6 s6 hd5 => ⟨d5, _, rfl, rfl, hd5, fun q1 hq1 => ⟨(by decide : 1 ≤ sizeLine), fun l hl => ?_⟩⟩⟩⟩
    have nl : l ≠ q1 := fun z => by rw [z, upd_same] at hl; cases hl
    have f6 := s6.trans (same_new (o := .tup [.str "ratio", .str "low"]) hq1)
    have g6 := f6.trans (same_new (o := .lst [.ref q1]) hl)
    have nn : ∀ (a : Addr) (o : HO), (upd H6 q1 (.tup [.str "ratio", .str "low"])) a = some o → a ≠ l := fun a o h => ne_of_none h hl
    have R1 : RS C Pt x3 l (divInt r 9) odd other oo ov (upd (upd H6 q1 (.tup [.str "ratio", .str "low"])) l (.lst [.ref q1])) [(q1, "low")] := by
      have k1 := (K1.extN e5 O1.nt).same f6
      have k2 := (K2.extN e5 O2.nt).same f6
      obtain ⟨dw, hw⟩ := W3
      have hw5 := f6 _ _ (e5 _ _ hw (fun _ z => nomatch z))
      have b7 := same_new (o := .lst [.ref q1]) hl
      exact ⟨k1.same b7, k2.same b7, ⟨dw, b7 _ _ hw5⟩, (T5.ext f6).ext b7, upd_same, fun z hz => by rw [List.mem_singleton.mp hz]; exact b7 _ _ upd_same, fun a e => nn a _ (k1 a e), fun a e => nn a _ (k2 a e), nn _ _ hw5, O1.nt, O2.nt⟩
    refine ⟨_, rfl, .inl ⟨rfl, _, SqL.of R1.ll⟩, R1.t, fun H7 e7 T7 => ⟨_, rfl, odd, .int 1, rfl, O1.no _ (R1.k1.extN e7 O1.nt), fun d7 H8 s8 hd7 => ⟨d7, _, rfl, rfl, hd7, fun q2 hq2 => ⟨l, _, _, rfl, rfl, same_new hq2 _ _ (s8 _ _ (e7 _ _ R1.ll (fun _ z => nomatch z))), (by decide : 1 < sizeLine), ?_⟩⟩⟩⟩
    have R2 := R1.step (s := "low") e7 T7 s8 hq2
    refine ⟨_, rfl, .inl ⟨rfl, _, SqL.of R2.ll⟩, R2.t, fun H3a e3 T3 => ⟨_, rfl, _, rfl, .ref x3, other, divInt r 9, rfl, .rat (ratX R2.w e3), ⟨w0, Rat.le_of_lt w1⟩, zw, .inl (O2.no _ (R2.k2.extN e3 O2.nt)), fun d3 H3b s3 hd3 => ⟨d3, _, rfl, rfl, hd3, fun q3 hq3 => ⟨l, _, _, rfl, rfl, same_new hq3 _ _ (s3 _ _ (e3 _ _ R2.ll (fun _ z => nomatch z))), (by decide : 2 < sizeLine), ?_⟩⟩⟩⟩
    have R3 := R2.step (s := "high") e3 T3 s3 hq3
    refine ⟨_, rfl, .inl ⟨rfl, _, SqL.of R3.ll⟩, R3.t, fun H4a e4 T4 => ⟨_, rfl, _, rfl, .ref x3, .ref x3, divInt r 9, rfl, .rat (ratX R3.w e4), ⟨w0, Rat.le_of_lt w1⟩, zw, .inr ⟨_, .rat (ratX R3.w e4), ⟨w0, Rat.le_of_lt w1⟩, zw, Rat.le_refl⟩, fun d4 H4b s4 hd4 => ⟨d4, _, rfl, rfl, hd4, fun q4 hq4 => ⟨l, _, _, rfl, rfl, same_new hq4 _ _ (s4 _ _ (e4 _ _ R3.ll (fun _ z => nomatch z))), (by decide : 3 < sizeLine), ?_⟩⟩⟩⟩
    have R4 := R3.step (s := "high") e4 T4 s4 hq4
    refine ⟨_, rfl, .inl ⟨rfl, _, SqL.of R4.ll⟩, R4.t, fun H5a e55 T55 => ⟨_, rfl, .int 1, .ref x3, _, rfl, .int 1, ⟨by decide +kernel, by decide +kernel⟩, Sq.int (by decide) (by decide), .inr ⟨_, .rat (ratX R4.w e55), ⟨w0, Rat.le_of_lt w1⟩, zw, Rat.le_of_lt w1⟩, fun d5 H5b s5 hd5 => ⟨d5, _, rfl, rfl, hd5, fun q5 hq5 => ⟨l, _, _, rfl, rfl, same_new hq5 _ _ (s5 _ _ (e55 _ _ R4.ll (fun _ z => nomatch z))), (by decide : 4 < sizeLine), ?_⟩⟩⟩⟩
    have R5 := R4.step (s := "high") e55 T55 s5 hq5
    refine ⟨_, rfl, (by decide : 2 ≤ sizeLine), fun m1 hm1 => ⟨(by decide : 1 ≤ sizeLine), fun lm1 hlm1 => ⟨lm1, 2, _, rfl, rfl, upd_same, by decide, by decide, (by decide : 1 * 2 ≤ sizeLine), fun p1 hp1 => ⟨(by decide : 2 ≤ sizeLine), fun m2 hm2 => ⟨(by decide : 1 ≤ sizeLine), fun lm2 hlm2 => ⟨lm2, 3, _, rfl, rfl, upd_same, by decide, by decide, (by decide : 1 * 3 ≤ sizeLine), fun p2 hp2 => ?_⟩⟩⟩⟩⟩⟩
    have v1 := same_new (o := .tup [.str "ratio", .str "low"]) hm1
    have v2 := same_new (o := .lst [.ref m1]) hlm1
    have v3 := same_new (o := .lst [.ref m1, .ref m1]) hp1
    have v4 := same_new (o := .tup [.str "ratio", .str "high"]) hm2
    have v5 := same_new (o := .lst [.ref m2]) hlm2
    have v6 := same_new (o := .lst [.ref m2, .ref m2, .ref m2]) hp2
    refine ⟨p1, p2, [.ref m1, .ref m1], [.ref m2, .ref m2, .ref m2], rfl, rfl, v6 _ _ (v5 _ _ (v4 _ _ upd_same)), upd_same, (by decide : 2 + 3 ≤ sizeLine), fun p3 hp3 => ?_⟩
    have v7 := same_new (o := .lst [.ref m1, .ref m1, .ref m2, .ref m2, .ref m2]) hp3
    have g1 := v7 _ _ (v6 _ _ (v5 _ _ (v4 _ _ (v3 _ _ (v2 _ _ upd_same)))))
    have g2 := v7 _ _ (v6 _ _ (v5 _ _ upd_same))
    have up := fun (a : Addr) (o : HO) h => v7 a o (v6 _ _ (v5 _ _ (v4 _ _ (v3 _ _ (v2 _ _ (v1 _ _ h))))))
    have tl : ∀ {HX : Hp} {a : Addr} {s : Str}, HX a = some (.tup [.str "ratio", .str s]) → Dp K HX (.ref a) (.tuple [.str "ratio", .str s]) := fun h => .tup (SqT.of h) (.cons (.str _) (.cons (.str _) .nil))
    have e1 := tl (s := "low") (up _ _ (R5.el (q1, "low") (by simp)))
    have e2 := tl (s := "low") (up _ _ (R5.el (q2, "low") (by simp)))
    have e3 := tl (s := "high") (up _ _ (R5.el (q3, "high") (by simp)))
    have e4 := tl (s := "high") (up _ _ (R5.el (q4, "high") (by simp)))
    have e6 := tl (s := "high") (up _ _ (R5.el (q5, "high") (by simp)))
    refine ⟨_, _, .lst (SqL.of (up _ _ R5.ll)) (.cons e1 (.cons e2 (.cons e3 (.cons e4 (.cons e6 .nil))))), .lst (SqL.of upd_same) (.cons (tl g1) (.cons (tl g1) (.cons (tl g2) (.cons (tl g2) (.cons (tl g2) .nil))))), by decide +kernel, by decide +kernel, ?_⟩
    have ee : PyData.eqv (.list [.tuple [.str "ratio", .str "low"], .tuple [.str "ratio", .str "low"], .tuple [.str "ratio", .str "high"], .tuple [.str "ratio", .str "high"], .tuple [.str "ratio", .str "high"]]) (.list [.tuple [.str "ratio", .str "low"], .tuple [.str "ratio", .str "low"], .tuple [.str "ratio", .str "high"], .tuple [.str "ratio", .str "high"], .tuple [.str "ratio", .str "high"]]) = true := by decide +kernel
    rw [ee]
    exact q _
end
end Toy
set_option maxRecDepth 100000
set_option maxHeartbeats 4000000
set_option exponentiation.threshold 3000
namespace Toy
open PySem L2
open Rat (divInt)
section
variable {P : Program} {w : World} {K : PySem.W.Frag} {mg : Str → Option Value} {base : Heap} {C CP Pt : Addr}
def spLaw (K : PySem.W.Frag) (Pt : Addr) : Sp := fun vs H Q _ => ∃ (a : Addr) (ns : List Int), vs = [.ref a] ∧ SqL K H a (ns.map V.int) ∧ ns.length ≤ 63 ∧ LamX.Tabs [(Pt, LQ)] H ∧ ∀ H', Q (.bl true) H'
abbrev sLaw : Stmt := top 43
theorem scL : FnScope ["_law_script", "_law_pen_here", "_law_turn"] ["_law_script"] (defScope sLaw) := ⟨rfl, rfl, rfl, by decide +kernel, rfl, by decide +kernel, by decide +kernel⟩
theorem ok_law {f f1 f2 f3 f4 f5 f6 f7 g1 : Addr} {fd fd1 fd2 fd3 fd4 fd5 fd6 fd7 gd1 : FuncData} (F : Fun K "law" "law" sLaw f fd) (T : Bl mg) (T_Ratio : RatT K mg C) (C__law_pen : Cal P w K mg base 1 "_law_pen" f1 fd1 ["_law_script"] (spPen K)) (C__law_ends : Cal P w K mg base 2 "_law_ends" f2 fd2 ["_law_pen_here"] spEnds)
    (C__law_right : Cal P w K mg base 6 "_law_right" f3 fd3 ["_law_ends_here"] (spRight C)) (C__law_far_right : Cal P w K mg base 7 "_law_far_right" f4 fd4 ["_law_pen_here"] spFar) (C__law_refused : Cal P w K mg base 8 "_law_refused" f5 fd5 ["_law_pen_here"] (spRef Pt))
    (C_simplest : Cal P w K mg base 5 "simplest" f6 fd6 ["low", "high"] (spSimp C)) (M_Ratio : Mak P w K mg base 2 "Ratio" C f7 fd7 ["self", "top", "bottom"] (spRInit C)) (O_eq : Opr P w K mg base 3 C "__eq__" g1 gd1 ["self", "other"] (spEqQ C)) : FnOk P w K mg base CX0 9 f fd ["_law_script"] (spLaw K Pt) := by
  refine F.ok scL (fun vs H Q E h => ?_) (fun cdv A outer s H vs Q E hr h => ?_)
  · obtain ⟨a, ns, rfl, _⟩ := h
    rfl
  · obtain ⟨a, ns, rfl, hS, hl, hT, q⟩ := h
    have nd := scL.nd
    refine ⟨_, pss_cons (ps_set (i := 1) nd rfl (Or.inl rfl) (pe_call C__law_pen.F (hr.mono (by decide)) (by rfl) C__law_pen.mgf C__law_pen.kp C__law_pen.b .nil pass0 (pa_cons (pv 0) pa_nil)))
      (pss_cons (ps_for PassesOwn.never rfl (pi_range1 (by rfl) T.range (pa_cons pe_int pa_nil)) (pg_name (i := 2) nd rfl (Or.inl rfl)) (pss_one (ps_if (pt_not (pt_val (pe_call C__law_right.F (hr.mono (by decide)) (by rfl) C__law_right.mgf C__law_right.kp C__law_right.b .nil pass0 (pa_cons (pe_call C__law_ends.F (hr.mono (by decide)) (by rfl) C__law_ends.mgf C__law_ends.kp C__law_ends.b .nil pass0 (pa_cons (pv 1) pa_nil)) pa_nil)))) (pss_one (ps_ret pe_bl)) pss_nil)))
      (pss_cons (ps_if (PW.pt (pw_or (pt_not (pt_val (pe_call C__law_far_right.F (hr.mono (by decide)) (by rfl) C__law_far_right.mgf C__law_far_right.kp C__law_far_right.b .nil pass0 (pa_cons (pv 1) pa_nil)))) (pw_or1 (pt_not (pt_val (pe_call C__law_refused.F (hr.mono (by decide)) (by rfl) C__law_refused.mgf C__law_refused.kp C__law_refused.b .nil pass0 (pa_cons (pv 1) pa_nil))))))) (pss_one (ps_ret pe_bl)) pss_nil)
      (pss_one (ps_ret (pe_and (pe_cmpR (Own.op_eqL O_eq.F (hr.mono (by decide)) O_eq.at_ O_eq.fn T_Ratio.nI O_eq.b pass0) (pe_call C_simplest.F (hr.mono (by decide)) (by rfl) C_simplest.mgf C_simplest.kp C_simplest.b .nil pass0 (pa_cons pe_int (pa_cons pe_int pa_nil))) (pe_make M_Ratio.M M_Ratio.F (hr.mono (by decide)) (by rfl) M_Ratio.mgC M_Ratio.b .nil pass0 (pa_cons pe_int (pa_cons pe_int pa_nil))) (nomark _)) (pe_one (pe_cmpR (Own.op_eqL O_eq.F (hr.mono (by decide)) O_eq.at_ O_eq.fn T_Ratio.nI O_eq.b pass0) (pe_call C_simplest.F (hr.mono (by decide)) (by rfl) C_simplest.mgf C_simplest.kp C_simplest.b .nil pass0 (pa_cons (pe_make M_Ratio.M M_Ratio.F (hr.mono (by decide)) (by rfl) M_Ratio.mgC M_Ratio.b .nil pass0 (pa_cons pe_int (pa_cons pe_int pa_nil))) (pa_cons (pe_make M_Ratio.M M_Ratio.F (hr.mono (by decide)) (by rfl) M_Ratio.mgC M_Ratio.b .nil pass0 (pa_cons pe_int (pa_cons pe_int pa_nil))) pa_nil))) (pe_make M_Ratio.M M_Ratio.F (hr.mono (by decide)) (by rfl) M_Ratio.mgC M_Ratio.b .nil pass0 (pa_cons pe_int (pa_cons pe_int pa_nil))) (nomark _)))))))), ?_⟩
    refine ⟨_, rfl, a, ns, rfl, hS, hl, fun p cc H0 s0 hp0 hP0 => ?_⟩
    refine ⟨8, rfl, by decide, by decide, ?_⟩
    refine for_range (lo := 0) (n := 8) (fun i σ H' => ∃ x, σ = [some (.ref a), some (.ref p), x] ∧ Pen H' p cc (5 * i) ∧ LamX.Tabs [(Pt, LQ)] H') ⟨_, rfl, hP0, hT.ext s0⟩ ?_ ?_
    · rintro i σ H1 hi ⟨x, rfl, P1, T1⟩
      refine ⟨_, rfl, p, cc, _, rfl, P1, by omega, fun e H2 a b c d N he P2 B2 => ⟨e, a, b, c, d, rfl, he, N, fun H3 s3 => ⟨_, rfl, iteNot rfl ?_⟩⟩⟩
      exact ⟨_, rfl, (P2.same s3).mono (by omega), (tabs_but T1 (pen_at P1).choose_spec B2).ext s3⟩
    · rintro σ H1 ⟨x, rfl, P1, T1⟩
      refine ⟨_, rfl, p, cc, _, rfl, P1, by omega, fun H2 P2 B2 => ⟨_, rfl, iteFb rfl ?_⟩⟩
      refine ⟨_, rfl, p, cc, _, rfl, P2, by omega, tabs_but T1 (pen_at P1).choose_spec B2, fun H3 => ⟨_, rfl, iteFb rfl ?_⟩⟩
      have one : Sq 450 ((1 : Int) : Rat) := Sq.int (by decide) (by decide)
      have nul : Sq 450 ((0 : Int) : Rat) := Sq.int (by decide) (by decide)
      refine ⟨.int 0, .int 1, _, _, rfl, .int 0, .int 1, ⟨by decide +kernel, by decide +kernel, by decide +kernel⟩, ⟨nul, one⟩, fun r H4 x4 y4 s4 x0 m4 hr4 => ?_⟩
      have g4 := Simp.coprime m4 x0
      obtain ⟨ex, ey⟩ := mid_mn (a := 0) (b := 1) (c := 1) (d := 1) (by decide) (by decide) (by decide) (by decide) (by decide) (x := x4) (y := y4) (by
        have e1 : divInt 0 1 = ((0 : Int) : Rat) := by decide +kernel
        have e2 : divInt 1 1 = ((1 : Int) : Rat) := by decide +kernel
        rw [e1, e2]
        exact m4)
      have h4 := ratQ_of hr4 x0 g4
      rw [ex, ey] at h4
      intro x5 d5 hx5 hd5 hn5
      refine ⟨x5, d5, 1, 2, rfl, upd_same, by decide, by unfold Sz; decide +kernel, fun J5 hR5 hk5 => ⟨rfl, ?_⟩⟩
      have c5 := mk_same hx5 hd5 hk5
      have w5 := asQ (by decide) rfl hR5
      refine eqLq (h4.same c5) (.rat w5) fun H6 s6 => ⟨_, rfl, iteTb (by decide +kernel) ?_⟩
      intro x7 d7 hx7 hd7 hn7
      refine ⟨x7, d7, 3, 10, rfl, upd_same, by decide, by unfold Sz; decide +kernel, fun J7 hR7 hk7 => ⟨rfl, ?_⟩⟩
      have w7 := asQ (by decide) rfl hR7
      intro x8 d8 hx8 hd8 hn8
      refine ⟨x8, d8, 2, 5, rfl, upd_same, by decide, by unfold Sz; decide +kernel, fun J8 hR8 hk8 => ⟨rfl, ?_⟩⟩
      have c8 := mk_same hx8 hd8 hk8
      have w8 := asQ (by decide) rfl hR8
      refine ⟨.ref x7, .ref x8, _, _, rfl, .rat (w7.same c8), .rat w8, ⟨by decide +kernel, by decide +kernel, by decide +kernel⟩, ⟨sq_of (by decide) (by decide) (by decide) (by decide) (by decide), sq_of (by decide) (by decide) (by decide) (by decide) (by decide)⟩, fun r9 H9 x9 y9 s9 x90 m9 hr9 => ?_⟩
      have g9 := Simp.coprime m9 x90
      obtain ⟨ex9, ey9⟩ := third m9
      have h9 := ratQ_of hr9 x90 g9
      rw [ex9, ey9] at h9
      intro xa da hxa hda hna
      refine ⟨xa, da, 1, 3, rfl, upd_same, by decide, by unfold Sz; decide +kernel, fun Ja hRa hka => ⟨rfl, ?_⟩⟩
      have ca := mk_same hxa hda hka
      have wa := asQ (by decide) rfl hRa
      refine eqLq (h9.same ca) (.rat wa) fun Hb sb => ?_
      rw [decide_eq_true rfl]
      exact q _
end
end Toy
set_option maxRecDepth 100000
set_option maxHeartbeats 4000000
namespace Toy
open PySem L2
/-! ### the end -/
theorem _root_.L2.Fun.kbn {K : PySem.W.Frag} {x qual : Str} {st : Stmt} {f : Addr} {fd : FuncData} {ps ks : List Str} {n : Nat} {g : List Value → List Value → List Value} {gV : List V → List V → List V} (F : Fun K x qual st f fd)
    (h : ∀ (kV doc pm : Value) (an : Option Addr) (cdv ct : Value) (us ws : List Value), us.length = n → ws.length = ks.length → bindArgs (PySem.W.fnOf x qual (defArgs st) (defBody st) (defScope st) .none kV doc pm an cdv ct) ⟨us, ks.zip ws⟩ = pure (ps.zip (g us ws)))
    (hg : ∀ {vs : List V} {us : List Value} {zs : List V} {ws : List Value}, Vals vs us → Vals zs ws → Vals (gV vs zs) (g us ws)) : KBn K fd ps n ks g gV := by
  obtain ⟨oc, od, kV, doc, pm, an, cdv, ct, osl, rfl, lk, hcd⟩ := F.ex
  exact ⟨fun s us ws _ hu hw => .of_eq (h kV doc pm an cdv ct us ws hu hw), hg⟩
theorem vals_rev {zs : List V} {ws : List Value} (h : Vals zs ws) : Vals zs.reverse ws.reverse := by
  induction h with
  | nil => exact .nil
  | cons a _ ih =>
    rw [List.reverse_cons, List.reverse_cons]
    exact ih.append (.cons a .nil)
theorem FnOk.toG {P : Program} {w : World} {K : PySem.W.Frag} {mg : Str → Option Value} {base : Heap} {CX : CXT} {k : Nat} {f : Addr} {fd : FuncData} {ps : List Str} {sp : Sp} (F : FnOk P w K mg base CX k f fd ps sp) : Own.FnG P w K mg base CX k f fd ps sp := ⟨F.len, fun A outer s H args us vs Q E _ hr => F.run A outer s H args us vs Q E hr⟩
theorem all_mk {l : PySem.W.OpenLaw} {w : World} {K : PySem.W.Frag} {h : Heap} {mg : Str → Option Value} {fa CR CP CB CF gAdd gSub gMult cR0 Pt0 f0 f1 p1 f2 f3 f4 dT4 f5 f6 f7 f8 f9 f10 p10 f11 f12 f13 f14 f15 f16 f17 f18 f19 f20 f21 f22 p22 f23 f24 f25 f26 f27 f28 f29 f30 f31 f32 f33 f34 f35 f36 f37 f38 : Addr} (X : K.In h) (G : h.Ns mainGlobals mg) (hfa : mg "law" = some (.ref fa))
    {o1Add o2Add : Option Value}
    {o1Sub o2Sub : Option Value}
    {o1Mult o2Mult : Option Value}
    {od0 an0 : Option Addr} {sl0 : Array (Option Value)} {oc0 kV0 dc0 pm0 cd0 ct0 : Value}
    {rest1 : List Value}
    {od1 an1 : Option Addr} {sl1 : Array (Option Value)} {oc1 kV1 dc1 pm1 cd1 ct1 : Value}
    {od2 an2 : Option Addr} {sl2 : Array (Option Value)} {oc2 kV2 dc2 pm2 cd2 ct2 : Value}
    {od3 an3 : Option Addr} {sl3 : Array (Option Value)} {oc3 kV3 dc3 pm3 cd3 ct3 : Value}
    {od4 an4 : Option Addr} {sl4 : Array (Option Value)} {oc4 kV4 dc4 pm4 cd4 ct4 : Value}
    {doc4 : Value} {dod4 : Option Addr} {dn4 : Nat} {dsl4 : Array (Option Value)} {dtk4 : Tok}
    {od5 an5 : Option Addr} {sl5 : Array (Option Value)} {oc5 kV5 dc5 pm5 cd5 ct5 : Value}
    {od6 an6 : Option Addr} {sl6 : Array (Option Value)} {oc6 kV6 dc6 pm6 cd6 ct6 : Value}
    {od7 an7 : Option Addr} {sl7 : Array (Option Value)} {oc7 kV7 dc7 pm7 cd7 ct7 : Value}
    {od8 an8 : Option Addr} {sl8 : Array (Option Value)} {oc8 kV8 dc8 pm8 cd8 ct8 : Value}
    {od9 an9 : Option Addr} {sl9 : Array (Option Value)} {oc9 kV9 dc9 pm9 cd9 ct9 : Value}
    {rest10 : List Value}
    {od10 an10 : Option Addr} {sl10 : Array (Option Value)} {oc10 kV10 dc10 pm10 cd10 ct10 : Value}
    {od11 an11 : Option Addr} {sl11 : Array (Option Value)} {oc11 kV11 dc11 pm11 cd11 ct11 : Value}
    {od12 an12 : Option Addr} {sl12 : Array (Option Value)} {oc12 kV12 dc12 pm12 cd12 ct12 : Value}
    {od13 an13 : Option Addr} {sl13 : Array (Option Value)} {oc13 kV13 dc13 pm13 cd13 ct13 : Value}
    {od14 an14 : Option Addr} {sl14 : Array (Option Value)} {oc14 kV14 dc14 pm14 cd14 ct14 : Value}
    {od15 an15 : Option Addr} {sl15 : Array (Option Value)} {oc15 kV15 dc15 pm15 cd15 ct15 : Value}
    {od16 an16 : Option Addr} {sl16 : Array (Option Value)} {oc16 kV16 dc16 pm16 cd16 ct16 : Value}
    {od17 an17 : Option Addr} {sl17 : Array (Option Value)} {oc17 kV17 dc17 pm17 cd17 ct17 : Value}
    {od18 an18 : Option Addr} {sl18 : Array (Option Value)} {oc18 kV18 dc18 pm18 cd18 ct18 : Value}
    {od19 an19 : Option Addr} {sl19 : Array (Option Value)} {oc19 kV19 dc19 pm19 cd19 ct19 : Value}
    {od20 an20 : Option Addr} {sl20 : Array (Option Value)} {oc20 kV20 dc20 pm20 cd20 ct20 : Value}
    {od21 an21 : Option Addr} {sl21 : Array (Option Value)} {oc21 kV21 dc21 pm21 cd21 ct21 : Value}
    {rest22 : List Value}
    {od22 an22 : Option Addr} {sl22 : Array (Option Value)} {oc22 kV22 dc22 pm22 cd22 ct22 : Value}
    {od23 an23 : Option Addr} {sl23 : Array (Option Value)} {oc23 kV23 dc23 pm23 cd23 ct23 : Value}
    {od24 an24 : Option Addr} {sl24 : Array (Option Value)} {oc24 kV24 dc24 pm24 cd24 ct24 : Value}
    {od25 an25 : Option Addr} {sl25 : Array (Option Value)} {oc25 kV25 dc25 pm25 cd25 ct25 : Value}
    {od26 an26 : Option Addr} {sl26 : Array (Option Value)} {oc26 kV26 dc26 pm26 cd26 ct26 : Value}
    {od27 an27 : Option Addr} {sl27 : Array (Option Value)} {oc27 kV27 dc27 pm27 cd27 ct27 : Value}
    {od28 an28 : Option Addr} {sl28 : Array (Option Value)} {oc28 kV28 dc28 pm28 cd28 ct28 : Value}
    {od29 an29 : Option Addr} {sl29 : Array (Option Value)} {oc29 kV29 dc29 pm29 cd29 ct29 : Value}
    {od30 an30 : Option Addr} {sl30 : Array (Option Value)} {oc30 kV30 dc30 pm30 cd30 ct30 : Value}
    {od31 an31 : Option Addr} {sl31 : Array (Option Value)} {oc31 kV31 dc31 pm31 cd31 ct31 : Value}
    {od32 an32 : Option Addr} {sl32 : Array (Option Value)} {oc32 kV32 dc32 pm32 cd32 ct32 : Value}
    {od33 an33 : Option Addr} {sl33 : Array (Option Value)} {oc33 kV33 dc33 pm33 cd33 ct33 : Value}
    {od34 an34 : Option Addr} {sl34 : Array (Option Value)} {oc34 kV34 dc34 pm34 cd34 ct34 : Value}
    {od35 an35 : Option Addr} {sl35 : Array (Option Value)} {oc35 kV35 dc35 pm35 cd35 ct35 : Value}
    {od36 an36 : Option Addr} {sl36 : Array (Option Value)} {oc36 kV36 dc36 pm36 cd36 ct36 : Value}
    {od37 an37 : Option Addr} {sl37 : Array (Option Value)} {oc37 kV37 dc37 pm37 ct37 : Value}
    {od38 an38 : Option Addr} {sl38 : Array (Option Value)} {oc38 kV38 dc38 pm38 cd38 ct38 : Value}
    (aCR : PySem.W.nsIn K mainGlobals "Ratio" = some (some (.ref CR)))
    (pgCR : PySem.W.plainGet K CR Str.empty = true)
    (hdCR : PySem.W.hasDictIn K CR = true)
    (poCR : PySem.W.plainOver K CR = true)
    (saCR : PySem.W.findIn K (.ref CR) "__setattr__" = some (some (.builtin "object.__setattr__")))
    (rdCR : PySem.W.readsIn K CR (.type "type") = true)
    (gaCR : PySem.W.specialIn K (.ref CR) "__getattribute__" = some (some (.builtin "type.__getattribute__")))
    (caCR : PySem.W.findIn K (.ref CR) "__class__" = some (some (.builtin "object.__class__")))
    (cmCR : PySem.W.mroIn K CR (.type "object") = some true)
    (sICR : PySem.W.subIn K (.ref CR) (.type "int") = some false)
    (nICR : PySem.W.notFirst K CR (.type "int") = true)
    (nCCR : PySem.W.notFirst K CR (.ref CR) = true)
    (kICR : PySem.W.kitOne K (.ref CR) (.type "int") = some false)
    (kBCR : PySem.W.kitOne K (.ref CR) (.type "bool") = some false)
    (iKCR : PySem.W.kitOne K (.type "int") (.ref CR) = some false)
    (kSCR : PySem.W.kitOne K (.ref CR) (.ref CR) = some true)
    (n_topCR : PySem.W.findIn K (.ref CR) "top" = some none)
    (n_bottomCR : PySem.W.findIn K (.ref CR) "bottom" = some none)
    (mkCR : PySem.W.makesIn K CR = true)
    (kcCR : PySem.W.keepIn K (.ref CR) = true)
    (aCP : PySem.W.nsIn K mainGlobals "Piece" = some (some (.ref CP)))
    (pgCP : PySem.W.plainGet K CP Str.empty = true)
    (hdCP : PySem.W.hasDictIn K CP = true)
    (poCP : PySem.W.plainOver K CP = true)
    (saCP : PySem.W.findIn K (.ref CP) "__setattr__" = some (some (.builtin "object.__setattr__")))
    (rdCP : PySem.W.readsIn K CP (.type "type") = true)
    (gaCP : PySem.W.specialIn K (.ref CP) "__getattribute__" = some (some (.builtin "type.__getattribute__")))
    (caCP : PySem.W.findIn K (.ref CP) "__class__" = some (some (.builtin "object.__class__")))
    (cmCP : PySem.W.mroIn K CP (.type "object") = some true)
    (sICP : PySem.W.subIn K (.ref CP) (.type "int") = some false)
    (nICP : PySem.W.notFirst K CP (.type "int") = true)
    (nCCP : PySem.W.notFirst K CP (.ref CP) = true)
    (kICP : PySem.W.kitOne K (.ref CP) (.type "int") = some false)
    (kBCP : PySem.W.kitOne K (.ref CP) (.type "bool") = some false)
    (iKCP : PySem.W.kitOne K (.type "int") (.ref CP) = some false)
    (kSCP : PySem.W.kitOne K (.ref CP) (.ref CP) = some true)
    (n_leftCP : PySem.W.findIn K (.ref CP) "left" = some none)
    (n_rightCP : PySem.W.findIn K (.ref CP) "right" = some none)
    (mkCP : PySem.W.makesIn K CP = true)
    (kcCP : PySem.W.keepIn K (.ref CP) = true)
    (cn : PySem.W.specialIn K (.builtin "object.__class__") "__get__" = some (some (.builtin "getset_descriptor.__get__")))
    (ct : PySem.W.takesIn K (.builtin "object.__class__") = some true)
    (z_int : PySem.W.nsIn K mainGlobals "int" = some none)
    (z_len : PySem.W.nsIn K mainGlobals "len" = some none)
    (z_abs : PySem.W.nsIn K mainGlobals "abs" = some none)
    (z_list : PySem.W.nsIn K mainGlobals "list" = some none)
    (z_range : PySem.W.nsIn K mainGlobals "range" = some none)
    (z_isinstance : PySem.W.nsIn K mainGlobals "isinstance" = some none)
    (z_bool : PySem.W.nsIn K mainGlobals "bool" = some none)
    (z_gcd : PySem.W.nsIn K mainGlobals "gcd" = some (some (.builtin "math.gcd")))
    (aCB : PySem.W.nsIn K mainGlobals "BadRatio" = some (some (.ref CB)))
    (lkCB : ∃ nm q N bs bm sn sub ab col dd k0 k1 k2 k3 k5, K.lookup CB = some (excClassObj nm q CB N bs bm true sn sub ab col dd k0 k1 k2 k3 k5 "ValueError.__new__") ∧ PySem.HandSPX.refsVE bm = true)
    (saCB : PySem.W.findIn K (.ref CB) "__setattr__" = some (some (.builtin "object.__setattr__")))
    (exCB : PySem.W.subIn K (.ref CB) (.type "BaseException") = some true)
    (tyCB : PySem.W.typeIn K (.ref CB) = some (.type "type"))
    (kpCB : PySem.W.keepIn K (.ref CB) = true)
    (inCB : PySem.W.findIn K (.ref CB) "__init__" = some (some (.ref f36)))
    (tiCB : PySem.W.typeIn K (.ref f36) = some (.type "function"))
    (noCB : PySem.W.findIn K (.ref CB) "part" = some none)
    (xfCB : PySem.W.findIn K (.ref CB) "__getattribute__" = some (some (.builtin "BaseException.__getattribute__")))
    (xgCB : PySem.W.findIn K (.ref CB) "__getattr__" = some none)
    (xhCB : PySem.W.hasDictIn K CB = true)
    (aCF : PySem.W.nsIn K mainGlobals "FifthError" = some (some (.ref CF)))
    (e_CB_CB : PySem.W.exmOne K (.ref CB) (.ref CB) = some true)
    (neR : PySem.W.findIn K (.ref CR) "__ne__" = some (some (.builtin "object.__ne__")))
    (sO : PySem.W.subIn K (.ref CR) (.type "object") = some true)
    (sIR : PySem.W.subIn K (.type "int") (.ref CR) = some false)
    (sf : PySem.W.selfFirst K CR = true)
    (i1Add : PySem.W.findIn K (.type "int") "__add__" = some o1Add)
    (i2Add : PySem.W.findIn K (.type "int") "__radd__" = some o2Add)
    (rAdd : PySem.W.findIn K (.ref CR) "__radd__" = some (some (.ref gAdd)))
    (i1Sub : PySem.W.findIn K (.type "int") "__sub__" = some o1Sub)
    (i2Sub : PySem.W.findIn K (.type "int") "__rsub__" = some o2Sub)
    (rSub : PySem.W.findIn K (.ref CR) "__rsub__" = some (some (.ref gSub)))
    (i1Mult : PySem.W.findIn K (.type "int") "__mul__" = some o1Mult)
    (i2Mult : PySem.W.findIn K (.type "int") "__rmul__" = some o2Mult)
    (rMult : PySem.W.findIn K (.ref CR) "__rmul__" = some (some (.ref gMult)))
    (tab0 : PySem.W.tabIn K "_law_refused" = some (cR0, Pt0))
    (chd0 : PySem.W.codeHdIn K cR0 Pt0 = true)
    (outP0 : K.lookup Pt0 = none)
    (eP0 : h.get? Pt0 = some (PySem.W.tabObj #[]))
    (kn1 : PySem.W.kitOne K (.type "NoneType") (.ref CR) = some false)
    (kn2 : PySem.W.kitOne K (.type "bool") (.ref CR) = some false)
    (kn3 : PySem.W.kitOne K (.type "str") (.ref CR) = some false)
    (kn4 : PySem.W.kitOne K (.type "tuple") (.ref CR) = some false)
    (kn5 : PySem.W.kitOne K (.type "list") (.ref CR) = some false)
    (kn6 : PySem.W.kitOne K (.type "dict") (.ref CR) = some false)
    (a0 : PySem.W.nsIn K mainGlobals "is_int" = some (some (.ref f0)))
    (l0 : K.lookup f0 = some ⟨oc0, od0, .func (PySem.W.fnOf "is_int" "is_int" (defArgs sIsInt) (defBody sIsInt) (defScope sIsInt) .none kV0 dc0 pm0 an0 cd0 ct0), sl0⟩)
    (c0 : PySem.W.codeIn K cd0 "is_int" = true)
    (k0 : PySem.W.keepIn K (.ref f0) = true)
    (a1 : PySem.W.findCls K (.ref CR) (.type "type") "is_number" = some (.get (.builtin "staticmethod.__get__") (.ref p1) .none (.ref CR)))
    (r1 : PySem.W.recIn K p1 "staticmethod" = some (.ref f1 :: rest1))
    (l1 : K.lookup f1 = some ⟨oc1, od1, .func (PySem.W.fnOf "is_number" "Ratio.is_number" (defArgs sIsNum) (defBody sIsNum) (defScope sIsNum) .none kV1 dc1 pm1 an1 cd1 ct1), sl1⟩)
    (c1 : PySem.W.codeIn K cd1 "Ratio.is_number" = true)
    (k1 : PySem.W.keepIn K (.ref f1) = true)
    (a2 : PySem.W.nsIn K mainGlobals "parts_of" = some (some (.ref f2)))
    (l2 : K.lookup f2 = some ⟨oc2, od2, .func (PySem.W.fnOf "parts_of" "parts_of" (defArgs sParts) (defBody sParts) (defScope sParts) .none kV2 dc2 pm2 an2 cd2 ct2), sl2⟩)
    (c2 : PySem.W.codeIn K cd2 "parts_of" = true)
    (k2 : PySem.W.keepIn K (.ref f2) = true)
    (a3 : PySem.W.nsIn K mainGlobals "_lead" = some (some (.ref f3)))
    (l3 : K.lookup f3 = some ⟨oc3, od3, .func (PySem.W.fnOf "_lead" "_lead" (defArgs sLead) (defBody sLead) (defScope sLead) .none kV3 dc3 pm3 an3 cd3 ct3), sl3⟩)
    (c3 : PySem.W.codeIn K cd3 "_lead" = true)
    (k3 : PySem.W.keepIn K (.ref f3) = true)
    (a4 : PySem.W.findIn K (.ref CR) "__init__" = some (some (.ref f4)))
    (i4 : PySem.W.isFn K (.ref f4) = true)
    (l4 : K.lookup f4 = some ⟨oc4, od4, .func (PySem.W.fnOf "__init__" "Ratio.__init__" (defArgs sRInit) (defBody sRInit) (defScope sRInit) (.ref dT4) kV4 dc4 pm4 an4 cd4 ct4), sl4⟩)
    (c4 : PySem.W.codeIn K cd4 "Ratio.__init__" = true)
    (k4 : PySem.W.keepIn K (.ref f4) = true)
    (d4 : K.lookup dT4 = some ⟨doc4, dod4, .seq #[.int 1 dtk4] dn4, dsl4⟩)
    (a5 : PySem.W.findIn K (.ref CR) "__lt__" = some (some (.ref f5)))
    (i5 : PySem.W.isFn K (.ref f5) = true)
    (l5 : K.lookup f5 = some ⟨oc5, od5, .func (PySem.W.fnOf "__lt__" "Ratio.__lt__" (defArgs sLt) (defBody sLt) (defScope sLt) .none kV5 dc5 pm5 an5 cd5 ct5), sl5⟩)
    (c5 : PySem.W.codeIn K cd5 "Ratio.__lt__" = true)
    (k5 : PySem.W.keepIn K (.ref f5) = true)
    (a6 : PySem.W.findIn K (.ref CR) "__le__" = some (some (.ref f6)))
    (i6 : PySem.W.isFn K (.ref f6) = true)
    (l6 : K.lookup f6 = some ⟨oc6, od6, .func (PySem.W.fnOf "__le__" "Ratio.__le__" (defArgs sLeq) (defBody sLeq) (defScope sLeq) .none kV6 dc6 pm6 an6 cd6 ct6), sl6⟩)
    (c6 : PySem.W.codeIn K cd6 "Ratio.__le__" = true)
    (k6 : PySem.W.keepIn K (.ref f6) = true)
    (a7 : PySem.W.findIn K (.ref CR) "__gt__" = some (some (.ref f7)))
    (i7 : PySem.W.isFn K (.ref f7) = true)
    (l7 : K.lookup f7 = some ⟨oc7, od7, .func (PySem.W.fnOf "__gt__" "Ratio.__gt__" (defArgs sGt) (defBody sGt) (defScope sGt) .none kV7 dc7 pm7 an7 cd7 ct7), sl7⟩)
    (c7 : PySem.W.codeIn K cd7 "Ratio.__gt__" = true)
    (k7 : PySem.W.keepIn K (.ref f7) = true)
    (a8 : PySem.W.findIn K (.ref CR) "__ge__" = some (some (.ref f8)))
    (i8 : PySem.W.isFn K (.ref f8) = true)
    (l8 : K.lookup f8 = some ⟨oc8, od8, .func (PySem.W.fnOf "__ge__" "Ratio.__ge__" (defArgs sGe) (defBody sGe) (defScope sGe) .none kV8 dc8 pm8 an8 cd8 ct8), sl8⟩)
    (c8 : PySem.W.codeIn K cd8 "Ratio.__ge__" = true)
    (k8 : PySem.W.keepIn K (.ref f8) = true)
    (a9 : PySem.W.findIn K (.ref CR) "__eq__" = some (some (.ref f9)))
    (i9 : PySem.W.isFn K (.ref f9) = true)
    (l9 : K.lookup f9 = some ⟨oc9, od9, .func (PySem.W.fnOf "__eq__" "Ratio.__eq__" (defArgs sEq) (defBody sEq) (defScope sEq) .none kV9 dc9 pm9 an9 cd9 ct9), sl9⟩)
    (c9 : PySem.W.codeIn K cd9 "Ratio.__eq__" = true)
    (k9 : PySem.W.keepIn K (.ref f9) = true)
    (a10 : PySem.W.findCls K (.ref CR) (.type "type") "of" = some (.get (.builtin "staticmethod.__get__") (.ref p10) .none (.ref CR)))
    (r10 : PySem.W.recIn K p10 "staticmethod" = some (.ref f10 :: rest10))
    (l10 : K.lookup f10 = some ⟨oc10, od10, .func (PySem.W.fnOf "of" "Ratio.of" (defArgs sOf) (defBody sOf) (defScope sOf) .none kV10 dc10 pm10 an10 cd10 ct10), sl10⟩)
    (c10 : PySem.W.codeIn K cd10 "Ratio.of" = true)
    (k10 : PySem.W.keepIn K (.ref f10) = true)
    (a11 : PySem.W.findIn K (.ref CR) "over" = some (some (.ref f11)))
    (i11 : PySem.W.isFn K (.ref f11) = true)
    (l11 : K.lookup f11 = some ⟨oc11, od11, .func (PySem.W.fnOf "over" "Ratio.over" (defArgs sOver) (defBody sOver) (defScope sOver) .none kV11 dc11 pm11 an11 cd11 ct11), sl11⟩)
    (c11 : PySem.W.codeIn K cd11 "Ratio.over" = true)
    (k11 : PySem.W.keepIn K (.ref f11) = true)
    (a12 : PySem.W.findIn K (.ref CR) "__add__" = some (some (.ref f12)))
    (i12 : PySem.W.isFn K (.ref f12) = true)
    (l12 : K.lookup f12 = some ⟨oc12, od12, .func (PySem.W.fnOf "__add__" "Ratio.__add__" (defArgs sAdd) (defBody sAdd) (defScope sAdd) .none kV12 dc12 pm12 an12 cd12 ct12), sl12⟩)
    (c12 : PySem.W.codeIn K cd12 "Ratio.__add__" = true)
    (k12 : PySem.W.keepIn K (.ref f12) = true)
    (a13 : PySem.W.findIn K (.ref CR) "__sub__" = some (some (.ref f13)))
    (i13 : PySem.W.isFn K (.ref f13) = true)
    (l13 : K.lookup f13 = some ⟨oc13, od13, .func (PySem.W.fnOf "__sub__" "Ratio.__sub__" (defArgs sSub) (defBody sSub) (defScope sSub) .none kV13 dc13 pm13 an13 cd13 ct13), sl13⟩)
    (c13 : PySem.W.codeIn K cd13 "Ratio.__sub__" = true)
    (k13 : PySem.W.keepIn K (.ref f13) = true)
    (a14 : PySem.W.findIn K (.ref CR) "__mul__" = some (some (.ref f14)))
    (i14 : PySem.W.isFn K (.ref f14) = true)
    (l14 : K.lookup f14 = some ⟨oc14, od14, .func (PySem.W.fnOf "__mul__" "Ratio.__mul__" (defArgs sMul) (defBody sMul) (defScope sMul) .none kV14 dc14 pm14 an14 cd14 ct14), sl14⟩)
    (c14 : PySem.W.codeIn K cd14 "Ratio.__mul__" = true)
    (k14 : PySem.W.keepIn K (.ref f14) = true)
    (a15 : PySem.W.findIn K (.ref CR) "__rmul__" = some (some (.ref f15)))
    (i15 : PySem.W.isFn K (.ref f15) = true)
    (l15 : K.lookup f15 = some ⟨oc15, od15, .func (PySem.W.fnOf "__rmul__" "Ratio.__rmul__" (defArgs sRMul) (defBody sRMul) (defScope sRMul) .none kV15 dc15 pm15 an15 cd15 ct15), sl15⟩)
    (c15 : PySem.W.codeIn K cd15 "Ratio.__rmul__" = true)
    (k15 : PySem.W.keepIn K (.ref f15) = true)
    (a16 : PySem.W.findIn K (.ref CR) "__neg__" = some (some (.ref f16)))
    (i16 : PySem.W.isFn K (.ref f16) = true)
    (l16 : K.lookup f16 = some ⟨oc16, od16, .func (PySem.W.fnOf "__neg__" "Ratio.__neg__" (defArgs sNeg) (defBody sNeg) (defScope sNeg) .none kV16 dc16 pm16 an16 cd16 ct16), sl16⟩)
    (c16 : PySem.W.codeIn K cd16 "Ratio.__neg__" = true)
    (k16 : PySem.W.keepIn K (.ref f16) = true)
    (a17 : PySem.W.findIn K (.ref CR) "__rsub__" = some (some (.ref f17)))
    (i17 : PySem.W.isFn K (.ref f17) = true)
    (l17 : K.lookup f17 = some ⟨oc17, od17, .func (PySem.W.fnOf "__rsub__" "Ratio.__rsub__" (defArgs sRSub) (defBody sRSub) (defScope sRSub) .none kV17 dc17 pm17 an17 cd17 ct17), sl17⟩)
    (c17 : PySem.W.codeIn K cd17 "Ratio.__rsub__" = true)
    (k17 : PySem.W.keepIn K (.ref f17) = true)
    (a18 : PySem.W.nsIn K mainGlobals "_is_left_end" = some (some (.ref f18)))
    (l18 : K.lookup f18 = some ⟨oc18, od18, .func (PySem.W.fnOf "_is_left_end" "_is_left_end" (defArgs sLE) (defBody sLE) (defScope sLE) .none kV18 dc18 pm18 an18 cd18 ct18), sl18⟩)
    (c18 : PySem.W.codeIn K cd18 "_is_left_end" = true)
    (k18 : PySem.W.keepIn K (.ref f18) = true)
    (a19 : PySem.W.nsIn K mainGlobals "_is_right_end" = some (some (.ref f19)))
    (l19 : K.lookup f19 = some ⟨oc19, od19, .func (PySem.W.fnOf "_is_right_end" "_is_right_end" (defArgs sRE) (defBody sRE) (defScope sRE) .none kV19 dc19 pm19 an19 cd19 ct19), sl19⟩)
    (c19 : PySem.W.codeIn K cd19 "_is_right_end" = true)
    (k19 : PySem.W.keepIn K (.ref f19) = true)
    (a20 : PySem.W.nsIn K mainGlobals "_are_neighbours" = some (some (.ref f20)))
    (l20 : K.lookup f20 = some ⟨oc20, od20, .func (PySem.W.fnOf "_are_neighbours" "_are_neighbours" (defArgs sNeigh) (defBody sNeigh) (defScope sNeigh) .none kV20 dc20 pm20 an20 cd20 ct20), sl20⟩)
    (c20 : PySem.W.codeIn K cd20 "_are_neighbours" = true)
    (k20 : PySem.W.keepIn K (.ref f20) = true)
    (a21 : PySem.W.findIn K (.ref CP) "__init__" = some (some (.ref f21)))
    (i21 : PySem.W.isFn K (.ref f21) = true)
    (l21 : K.lookup f21 = some ⟨oc21, od21, .func (PySem.W.fnOf "__init__" "Piece.__init__" (defArgs sPInit) (defBody sPInit) (defScope sPInit) .none kV21 dc21 pm21 an21 cd21 ct21), sl21⟩)
    (c21 : PySem.W.codeIn K cd21 "Piece.__init__" = true)
    (k21 : PySem.W.keepIn K (.ref f21) = true)
    (a22 : PySem.W.findIn K (.ref CP) "middle" = some (some (.ref p22)))
    (g22 : PySem.W.specialIn K (.ref p22) "__get__" = some (some (.builtin "property.__get__")))
    (t22 : PySem.W.takesIn K (.ref p22) = some true)
    (r22 : PySem.W.recIn K p22 "property" = some (.ref f22 :: rest22))
    (l22 : K.lookup f22 = some ⟨oc22, od22, .func (PySem.W.fnOf "middle" "Piece.middle" (defArgs sMid) (defBody sMid) (defScope sMid) .none kV22 dc22 pm22 an22 cd22 ct22), sl22⟩)
    (c22 : PySem.W.codeIn K cd22 "Piece.middle" = true)
    (k22 : PySem.W.keepIn K (.ref f22) = true)
    (a23 : PySem.W.nsIn K mainGlobals "_is_in_octave" = some (some (.ref f23)))
    (l23 : K.lookup f23 = some ⟨oc23, od23, .func (PySem.W.fnOf "_is_in_octave" "_is_in_octave" (defArgs sOct) (defBody sOct) (defScope sOct) .none kV23 dc23 pm23 an23 cd23 ct23), sl23⟩)
    (c23 : PySem.W.codeIn K cd23 "_is_in_octave" = true)
    (k23 : PySem.W.keepIn K (.ref f23) = true)
    (a24 : PySem.W.nsIn K mainGlobals "_is_from_one_on" = some (some (.ref f24)))
    (l24 : K.lookup f24 = some ⟨oc24, od24, .func (PySem.W.fnOf "_is_from_one_on" "_is_from_one_on" (defArgs sF1) (defBody sF1) (defScope sF1) .none kV24 dc24 pm24 an24 cd24 ct24), sl24⟩)
    (c24 : PySem.W.codeIn K cd24 "_is_from_one_on" = true)
    (k24 : PySem.W.keepIn K (.ref f24) = true)
    (a25 : PySem.W.nsIn K mainGlobals "ratio_by" = some (some (.ref f25)))
    (l25 : K.lookup f25 = some ⟨oc25, od25, .func (PySem.W.fnOf "ratio_by" "ratio_by" (defArgs sBy) (defBody sBy) (defScope sBy) .none kV25 dc25 pm25 an25 cd25 ct25), sl25⟩)
    (c25 : PySem.W.codeIn K cd25 "ratio_by" = true)
    (k25 : PySem.W.keepIn K (.ref f25) = true)
    (a26 : PySem.W.nsIn K mainGlobals "simplest" = some (some (.ref f26)))
    (l26 : K.lookup f26 = some ⟨oc26, od26, .func (PySem.W.fnOf "simplest" "simplest" (defArgs sSimp) (defBody sSimp) (defScope sSimp) .none kV26 dc26 pm26 an26 cd26 ct26), sl26⟩)
    (c26 : PySem.W.codeIn K cd26 "simplest" = true)
    (k26 : PySem.W.keepIn K (.ref f26) = true)
    (a27 : PySem.W.nsIn K mainGlobals "_law_pen" = some (some (.ref f27)))
    (l27 : K.lookup f27 = some ⟨oc27, od27, .func (PySem.W.fnOf "_law_pen" "_law_pen" (defArgs sPen) (defBody sPen) (defScope sPen) .none kV27 dc27 pm27 an27 cd27 ct27), sl27⟩)
    (c27 : PySem.W.codeIn K cd27 "_law_pen" = true)
    (k27 : PySem.W.keepIn K (.ref f27) = true)
    (a28 : PySem.W.nsIn K mainGlobals "_law_draw" = some (some (.ref f28)))
    (l28 : K.lookup f28 = some ⟨oc28, od28, .func (PySem.W.fnOf "_law_draw" "_law_draw" (defArgs sDraw) (defBody sDraw) (defScope sDraw) .none kV28 dc28 pm28 an28 cd28 ct28), sl28⟩)
    (c28 : PySem.W.codeIn K cd28 "_law_draw" = true)
    (k28 : PySem.W.keepIn K (.ref f28) = true)
    (a29 : PySem.W.nsIn K mainGlobals "_law_pick" = some (some (.ref f29)))
    (l29 : K.lookup f29 = some ⟨oc29, od29, .func (PySem.W.fnOf "_law_pick" "_law_pick" (defArgs sPick) (defBody sPick) (defScope sPick) .none kV29 dc29 pm29 an29 cd29 ct29), sl29⟩)
    (c29 : PySem.W.codeIn K cd29 "_law_pick" = true)
    (k29 : PySem.W.keepIn K (.ref f29) = true)
    (a30 : PySem.W.nsIn K mainGlobals "_law_heard" = some (some (.ref f30)))
    (l30 : K.lookup f30 = some ⟨oc30, od30, .func (PySem.W.fnOf "_law_heard" "_law_heard" (defArgs sHeard) (defBody sHeard) (defScope sHeard) .none kV30 dc30 pm30 an30 cd30 ct30), sl30⟩)
    (c30 : PySem.W.codeIn K cd30 "_law_heard" = true)
    (k30 : PySem.W.keepIn K (.ref f30) = true)
    (a31 : PySem.W.nsIn K mainGlobals "_law_number" = some (some (.ref f31)))
    (l31 : K.lookup f31 = some ⟨oc31, od31, .func (PySem.W.fnOf "_law_number" "_law_number" (defArgs sNum2) (defBody sNum2) (defScope sNum2) .none kV31 dc31 pm31 an31 cd31 ct31), sl31⟩)
    (c31 : PySem.W.codeIn K cd31 "_law_number" = true)
    (k31 : PySem.W.keepIn K (.ref f31) = true)
    (a32 : PySem.W.nsIn K mainGlobals "_law_ends" = some (some (.ref f32)))
    (l32 : K.lookup f32 = some ⟨oc32, od32, .func (PySem.W.fnOf "_law_ends" "_law_ends" (defArgs sEnds) (defBody sEnds) (defScope sEnds) .none kV32 dc32 pm32 an32 cd32 ct32), sl32⟩)
    (c32 : PySem.W.codeIn K cd32 "_law_ends" = true)
    (k32 : PySem.W.keepIn K (.ref f32) = true)
    (a33 : PySem.W.nsIn K mainGlobals "_law_least" = some (some (.ref f33)))
    (l33 : K.lookup f33 = some ⟨oc33, od33, .func (PySem.W.fnOf "_law_least" "_law_least" (defArgs sLeast) (defBody sLeast) (defScope sLeast) .none kV33 dc33 pm33 an33 cd33 ct33), sl33⟩)
    (c33 : PySem.W.codeIn K cd33 "_law_least" = true)
    (k33 : PySem.W.keepIn K (.ref f33) = true)
    (a34 : PySem.W.nsIn K mainGlobals "_law_right" = some (some (.ref f34)))
    (l34 : K.lookup f34 = some ⟨oc34, od34, .func (PySem.W.fnOf "_law_right" "_law_right" (defArgs sRi) (defBody sRi) (defScope sRi) .none kV34 dc34 pm34 an34 cd34 ct34), sl34⟩)
    (c34 : PySem.W.codeIn K cd34 "_law_right" = true)
    (k34 : PySem.W.keepIn K (.ref f34) = true)
    (a35 : PySem.W.nsIn K mainGlobals "_law_far_right" = some (some (.ref f35)))
    (l35 : K.lookup f35 = some ⟨oc35, od35, .func (PySem.W.fnOf "_law_far_right" "_law_far_right" (defArgs sFar) (defBody sFar) (defScope sFar) .none kV35 dc35 pm35 an35 cd35 ct35), sl35⟩)
    (c35 : PySem.W.codeIn K cd35 "_law_far_right" = true)
    (k35 : PySem.W.keepIn K (.ref f35) = true)
    (l36 : K.lookup f36 = some ⟨oc36, od36, .func (PySem.W.fnOf "__init__" "BadRatio.__init__" (defArgs sBRI) (defBody sBRI) (defScope sBRI) .none kV36 dc36 pm36 an36 cd36 ct36), sl36⟩)
    (c36 : PySem.W.codeIn K cd36 "BadRatio.__init__" = true)
    (k36 : PySem.W.keepIn K (.ref f36) = true)
    (a37 : PySem.W.nsIn K mainGlobals "_law_refused" = some (some (.ref f37)))
    (l37 : K.lookup f37 = some ⟨oc37, od37, .func (PySem.W.fnOf "_law_refused" "_law_refused" (defArgs sRef) (defBody sRef) (defScope sRef) .none kV37 dc37 pm37 an37 (.ref cR0) ct37), sl37⟩)
    (c37 : PySem.W.codeIn K (.ref cR0) "_law_refused" = true)
    (k37 : PySem.W.keepIn K (.ref f37) = true)
    (a38 : PySem.W.nsIn K mainGlobals "law" = some (some (.ref f38)))
    (l38 : K.lookup f38 = some ⟨oc38, od38, .func (PySem.W.fnOf "law" "law" (defArgs sLaw) (defBody sLaw) (defScope sLaw) .none kV38 dc38 pm38 an38 cd38 ct38), sl38⟩)
    (c38 : PySem.W.codeIn K cd38 "law" = true)
    (k38 : PySem.W.keepIn K (.ref f38) = true) :
    ∃ tabs, Own.LawG l w K 9 63 "_law_script" mg fa h tabs := by
  have e := hfa.symm.trans (PySem.W.mg_of X G a38)
  cases e
  have T : Bl mg := ⟨PySem.W.mg_none_of X G z_int, PySem.W.mg_none_of X G z_len, PySem.W.mg_none_of X G z_abs, PySem.W.mg_none_of X G z_list, PySem.W.mg_none_of X G z_range, PySem.W.mg_none_of X G z_isinstance, PySem.W.mg_none_of X G z_bool, PySem.W.mg_of X G z_gcd⟩
  have T_Ratio : RatT K mg CR := ⟨⟨⟨pgCR, hdCR, poCR, saCR⟩, PySem.W.mg_of X G aCR, ⟨rdCR, gaCR⟩, caCR, cn, ct, cmCR, kICR, kBCR, kSCR, iKCR, sICR, nICR, nCCR⟩, n_topCR, n_bottomCR⟩
  have T_Piece : PieT K mg CP := ⟨⟨⟨pgCP, hdCP, poCP, saCP⟩, PySem.W.mg_of X G aCP, ⟨rdCP, gaCP⟩, caCP, cn, ct, cmCP, kICP, kBCP, kSCP, iKCP, sICP, nICP, nCCP⟩, n_leftCP, n_rightCP⟩
  have E_BadRatio : ErT K mg "BadRatio" "part" CB f36 := ⟨⟨lkCB, saCB, exCB, tyCB, kpCB⟩, PySem.W.mg_of X G aCB, inCB, tiCB, noCB, ⟨xfCB, xgCB, exCB, xhCB⟩⟩
  have BA : BinF K CR .Add := ⟨sf, ⟨_, rAdd, .inr ⟨_, rfl⟩⟩, ⟨_, i1Add⟩, ⟨_, i2Add⟩, sIR⟩
  have BS : BinF K CR .Sub := ⟨sf, ⟨_, rSub, .inr ⟨_, rfl⟩⟩, ⟨_, i1Sub⟩, ⟨_, i2Sub⟩, sIR⟩
  have BM : BinF K CR .Mult := ⟨sf, ⟨_, rMult, .inr ⟨_, rfl⟩⟩, ⟨_, i1Mult⟩, ⟨_, i2Mult⟩, sIR⟩
  have F0 := fun_mk (st := sIsInt) l0 c0 k0
  have b0 := F0.binds (ps := ["value"]) fun _ _ _ _ _ _ us hl => match us, hl with | [_], _ => rfl
  have F1 := fun_mk (st := sIsNum) l1 c1 k1
  have b1 := F1.binds (ps := ["value"]) fun _ _ _ _ _ _ us hl => match us, hl with | [_], _ => rfl
  have F2 := fun_mk (st := sParts) l2 c2 k2
  have b2 := F2.binds (ps := ["number"]) fun _ _ _ _ _ _ us hl => match us, hl with | [_], _ => rfl
  have F3 := fun_mk (st := sLead) l3 c3 k3
  have b3 := F3.binds (ps := ["one", "other"]) fun _ _ _ _ _ _ us hl => match us, hl with | [_, _], _ => rfl
  have F4 : FunD K "__init__" "Ratio.__init__" (defArgs sRInit) (defBody sRInit) (defScope sRInit) [.int 1] [] f4 _ := ⟨⟨_, _, _, _, _, _, _, _, _, _, rfl, l4, c4, .inr ⟨(fun z => nomatch z), _, _, [_], _, rfl, d4, rfl, .cons ⟨_, rfl⟩ .nil⟩, .inl rfl⟩, k4⟩
  obtain ⟨ds4, hds4, b4⟩ := F4.binds1 (ps := ["self", "top", "bottom"]) 3 1 (fun z => nomatch z) rfl fun _ _ _ _ _ _ _ us its hu hi => match us, hu, its, hi with | [_, _, _], _, [_], _ => ⟨_, rfl, rfl⟩
  cases hds4
  obtain ⟨dv4, hdv4, bd4⟩ := F4.binds1 (ps := ["self", "top", "bottom"]) 2 0 (fun z => nomatch z) rfl fun _ _ _ _ _ _ _ us its hu hi => match us, hu, its, hi with | [_, _], _, [_], _ => ⟨_, rfl, rfl⟩
  have F5 := fun_mk (st := sLt) l5 c5 k5
  have b5 := F5.binds (ps := ["self", "other"]) fun _ _ _ _ _ _ us hl => match us, hl with | [_, _], _ => rfl
  have F6 := fun_mk (st := sLeq) l6 c6 k6
  have b6 := F6.binds (ps := ["self", "other"]) fun _ _ _ _ _ _ us hl => match us, hl with | [_, _], _ => rfl
  have F7 := fun_mk (st := sGt) l7 c7 k7
  have b7 := F7.binds (ps := ["self", "other"]) fun _ _ _ _ _ _ us hl => match us, hl with | [_, _], _ => rfl
  have F8 := fun_mk (st := sGe) l8 c8 k8
  have b8 := F8.binds (ps := ["self", "other"]) fun _ _ _ _ _ _ us hl => match us, hl with | [_, _], _ => rfl
  have F9 := fun_mk (st := sEq) l9 c9 k9
  have b9 := F9.binds (ps := ["self", "other"]) fun _ _ _ _ _ _ us hl => match us, hl with | [_, _], _ => rfl
  have F10 := fun_mk (st := sOf) l10 c10 k10
  have b10 := F10.binds (ps := ["number"]) fun _ _ _ _ _ _ us hl => match us, hl with | [_], _ => rfl
  have F11 := fun_mk (st := sOver) l11 c11 k11
  have b11 := F11.binds (ps := ["self", "number"]) fun _ _ _ _ _ _ us hl => match us, hl with | [_, _], _ => rfl
  have F12 := fun_mk (st := sAdd) l12 c12 k12
  have b12 := F12.binds (ps := ["self", "other"]) fun _ _ _ _ _ _ us hl => match us, hl with | [_, _], _ => rfl
  have F13 := fun_mk (st := sSub) l13 c13 k13
  have b13 := F13.binds (ps := ["self", "other"]) fun _ _ _ _ _ _ us hl => match us, hl with | [_, _], _ => rfl
  have F14 := fun_mk (st := sMul) l14 c14 k14
  have b14 := F14.binds (ps := ["self", "other"]) fun _ _ _ _ _ _ us hl => match us, hl with | [_, _], _ => rfl
  have F15 := fun_mk (st := sRMul) l15 c15 k15
  have b15 := F15.binds (ps := ["self", "other"]) fun _ _ _ _ _ _ us hl => match us, hl with | [_, _], _ => rfl
  have F16 := fun_mk (st := sNeg) l16 c16 k16
  have b16 := F16.binds (ps := ["self"]) fun _ _ _ _ _ _ us hl => match us, hl with | [_], _ => rfl
  have F17 := fun_mk (st := sRSub) l17 c17 k17
  have b17 := F17.binds (ps := ["self", "other"]) fun _ _ _ _ _ _ us hl => match us, hl with | [_, _], _ => rfl
  have F18 := fun_mk (st := sLE) l18 c18 k18
  have b18 := F18.binds (ps := ["value"]) fun _ _ _ _ _ _ us hl => match us, hl with | [_], _ => rfl
  have F19 := fun_mk (st := sRE) l19 c19 k19
  have b19 := F19.binds (ps := ["value"]) fun _ _ _ _ _ _ us hl => match us, hl with | [_], _ => rfl
  have F20 := fun_mk (st := sNeigh) l20 c20 k20
  have b20 := F20.binds (ps := ["left", "right"]) fun _ _ _ _ _ _ us hl => match us, hl with | [_, _], _ => rfl
  have F21 := fun_mk (st := sPInit) l21 c21 k21
  have b21 := F21.binds (ps := ["self", "left", "right"]) fun _ _ _ _ _ _ us hl => match us, hl with | [_, _, _], _ => rfl
  have F22 := fun_mk (st := sMid) l22 c22 k22
  have b22 := F22.binds (ps := ["self"]) fun _ _ _ _ _ _ us hl => match us, hl with | [_], _ => rfl
  have F23 := fun_mk (st := sOct) l23 c23 k23
  have b23 := F23.binds (ps := ["value"]) fun _ _ _ _ _ _ us hl => match us, hl with | [_], _ => rfl
  have F24 := fun_mk (st := sF1) l24 c24 k24
  have b24 := F24.binds (ps := ["value"]) fun _ _ _ _ _ _ us hl => match us, hl with | [_], _ => rfl
  have F25 := fun_mk (st := sBy) l25 c25 k25
  have F26 := fun_mk (st := sSimp) l26 c26 k26
  have b26 := F26.binds (ps := ["low", "high"]) fun _ _ _ _ _ _ us hl => match us, hl with | [_, _], _ => rfl
  have F27 := fun_mk (st := sPen) l27 c27 k27
  have b27 := F27.binds (ps := ["_law_script"]) fun _ _ _ _ _ _ us hl => match us, hl with | [_], _ => rfl
  have F28 := fun_mk (st := sDraw) l28 c28 k28
  have b28 := F28.binds (ps := ["_law_pen_here", "_law_many"]) fun _ _ _ _ _ _ us hl => match us, hl with | [_, _], _ => rfl
  have F29 := fun_mk (st := sPick) l29 c29 k29
  have b29 := F29.binds (ps := ["_law_pen_here", "_law_some"]) fun _ _ _ _ _ _ us hl => match us, hl with | [_, _], _ => rfl
  have F30 := fun_mk (st := sHeard) l30 c30 k30
  have b30 := F30.binds (ps := ["_law_ask"]) fun _ _ _ _ _ _ us hl => match us, hl with | [_], _ => rfl
  have F31 := fun_mk (st := sNum2) l31 c31 k31
  have b31 := F31.binds (ps := ["_law_top", "_law_bottom"]) fun _ _ _ _ _ _ us hl => match us, hl with | [_, _], _ => rfl
  have F32 := fun_mk (st := sEnds) l32 c32 k32
  have b32 := F32.binds (ps := ["_law_pen_here"]) fun _ _ _ _ _ _ us hl => match us, hl with | [_], _ => rfl
  have F33 := fun_mk (st := sLeast) l33 c33 k33
  have b33 := F33.binds (ps := ["_law_a", "_law_b", "_law_c", "_law_d"]) fun _ _ _ _ _ _ us hl => match us, hl with | [_, _, _, _], _ => rfl
  have F34 := fun_mk (st := sRi) l34 c34 k34
  have b34 := F34.binds (ps := ["_law_ends_here"]) fun _ _ _ _ _ _ us hl => match us, hl with | [_], _ => rfl
  have F35 := fun_mk (st := sFar) l35 c35 k35
  have b35 := F35.binds (ps := ["_law_pen_here"]) fun _ _ _ _ _ _ us hl => match us, hl with | [_], _ => rfl
  have F36 := fun_mk (st := sBRI) l36 c36 k36
  have b36 := F36.binds (ps := ["self", "part"]) fun _ _ _ _ _ _ us hl => match us, hl with | [_, _], _ => rfl
  have F37 := fun_mk (st := sRef) l37 c37 k37
  have b37 := F37.binds (ps := ["_law_pen_here"]) fun _ _ _ _ _ _ us hl => match us, hl with | [_], _ => rfl
  have F38 := fun_mk (st := sLaw) l38 c38 k38
  have b38 := F38.binds (ps := ["_law_script"]) fun _ _ _ _ _ _ us hl => match us, hl with | [_], _ => rfl
  refine ⟨[(cR0, Pt0)], fun z hz => ?_, fun z hz => ?_, PySem.W.fnOf "law" "law" (defArgs sLaw) (defBody sLaw) (defScope sLaw) .none kV38 dc38 pm38 an38 cd38 ct38, (spLaw K Pt0), fun s v => .of_eq rfl, fun H a ns hl hT hS => ⟨a, ns, rfl, hS, hl, fun p hp => by rw [List.mem_singleton.mp hp]; exact .nil (hT (cR0, Pt0) (List.mem_cons_self ..)), fun _ => rfl⟩, fun base _ _ TBs => ?_⟩
  · simp only [List.mem_cons, List.not_mem_nil, or_false] at hz
    subst hz
    exact ⟨PySem.W.codeHd_of_K X chd0, eP0⟩
  · simp only [List.mem_cons, List.not_mem_nil, or_false] at hz
    subst hz
    exact outP0
  have TB0 := TBs (cR0, Pt0) (by simp)
  have C_is_int : Cal l.prog w K mg base 1 "is_int" f0 _ ["value"] (spIsInt K) := ⟨(ok_isint F0 T), PySem.W.mg_of X G a0, k0, b0⟩
  have S_Ratio_is_number : Sta l.prog w K mg base 2 CR "is_number" p1 f1 _ ["value"] (spIsNum K CR) := ⟨⟨a1, ⟨_, r1⟩, k1⟩, (ok_isnum F1 T T_Ratio C_is_int), b1⟩
  have C_parts_of : Cal l.prog w K mg base 1 "parts_of" f2 _ ["number"] (spParts CR) := ⟨(ok_parts F2 T T_Ratio), PySem.W.mg_of X G a2, k2, b2⟩
  have C__lead : Cal l.prog w K mg base 2 "_lead" f3 _ ["one", "other"] (spLead CR) := ⟨(ok_lead F3 C_parts_of), PySem.W.mg_of X G a3, k3, b3⟩
  have M_Ratio : Mak l.prog w K mg base 2 "Ratio" CR f4 _ ["self", "top", "bottom"] (spRInit CR) := ⟨⟨mkCR, a4, i4, kcCR⟩, (ok_rinit F4 T T_Ratio C_is_int), PySem.W.mg_of X G aCR, b4⟩
  have O_lt : Opr l.prog w K mg base 3 CR "__lt__" f5 _ ["self", "other"] (spCmp CR fun z => decide (z < 0)) := ⟨a5, i5, (ok_lt F5 T_Ratio S_Ratio_is_number C__lead), b5⟩
  have O_le : Opr l.prog w K mg base 3 CR "__le__" f6 _ ["self", "other"] (spCmp CR fun z => decide (z ≤ 0)) := ⟨a6, i6, (ok_le F6 T_Ratio S_Ratio_is_number C__lead), b6⟩
  have O_gt : Opr l.prog w K mg base 3 CR "__gt__" f7 _ ["self", "other"] (spCmp CR fun z => decide (0 < z)) := ⟨a7, i7, (ok_gt F7 T_Ratio S_Ratio_is_number C__lead), b7⟩
  have O_ge : Opr l.prog w K mg base 3 CR "__ge__" f8 _ ["self", "other"] (spCmp CR fun z => decide (0 ≤ z)) := ⟨a8, i8, (ok_ge F8 T_Ratio S_Ratio_is_number C__lead), b8⟩
  have O_eq : Opr l.prog w K mg base 3 CR "__eq__" f9 _ ["self", "other"] (spEqQ CR) := ⟨a9, i9, (ok_eq F9 T_Ratio S_Ratio_is_number C_parts_of), b9⟩
  have S_Ratio_of : Sta l.prog w K mg base 4 CR "of" p10 f10 _ ["number"] (spOf CR) := ⟨⟨a10, ⟨_, r10⟩, k10⟩, (ok_ofN F10 T T_Ratio C_is_int M_Ratio hdv4 bd4), b10⟩
  have D_Ratio_over : Dot l.prog w K mg base 4 CR "over" f11 _ ["self", "number"] (spBin CR (fun _ q => q ≠ 0) fun p q => p / q) := ⟨⟨a11, i11, k11⟩, (ok_over F11 T_Ratio C_parts_of M_Ratio), b11⟩
  have O_add : Opr l.prog w K mg base 4 CR "__add__" f12 _ ["self", "other"] (spBin CR GT fun p q => p + q) := ⟨a12, i12, (ok_add F12 T_Ratio S_Ratio_is_number C_parts_of M_Ratio), b12⟩
  have O_sub : Opr l.prog w K mg base 4 CR "__sub__" f13 _ ["self", "other"] (spBin CR GT fun p q => p - q) := ⟨a13, i13, (ok_sub F13 T_Ratio S_Ratio_is_number C_parts_of M_Ratio), b13⟩
  have O_mul : Opr l.prog w K mg base 4 CR "__mul__" f14 _ ["self", "other"] (spBin CR GT fun p q => p * q) := ⟨a14, i14, (ok_mul F14 T_Ratio S_Ratio_is_number C_parts_of M_Ratio), b14⟩
  have O_rmul : Opr l.prog w K mg base 5 CR "__rmul__" f15 _ ["self", "other"] (spBin CR GT fun p q => p * q) := ⟨a15, i15, (ok_rmul F15 BM O_mul), b15⟩
  have O_neg : Opr l.prog w K mg base 4 CR "__neg__" f16 _ ["self"] (spUn CR fun p => -p) := ⟨a16, i16, (ok_neg F16 T_Ratio M_Ratio), b16⟩
  have O_rsub : Opr l.prog w K mg base 5 CR "__rsub__" f17 _ ["self", "other"] (spBin CR GT fun p q => -p + q) := ⟨a17, i17, (ok_rsub F17 BA O_add O_neg), b17⟩
  have C__is_left_end : Cal l.prog w K mg base 4 "_is_left_end" f18 _ ["value"] (spEnd CR fun n d => decide (0 ≤ n) && decide (n < d)) := ⟨(ok_lend F18 T_Ratio S_Ratio_is_number O_ge O_lt), PySem.W.mg_of X G a18, k18, b18⟩
  have C__is_right_end : Cal l.prog w K mg base 4 "_is_right_end" f19 _ ["value"] (spEnd CR fun n d => decide (0 < n) && decide (n ≤ d)) := ⟨(ok_rend F19 T_Ratio S_Ratio_is_number O_gt O_le), PySem.W.mg_of X G a19, k19, b19⟩
  have C__are_neighbours : Cal l.prog w K mg base 2 "_are_neighbours" f20 _ ["left", "right"] (spNeigh CR) := ⟨(ok_neigh F20 C_parts_of), PySem.W.mg_of X G a20, k20, b20⟩
  have M_Piece : Mak l.prog w K mg base 5 "Piece" CP f21 _ ["self", "left", "right"] (spPInit CP CR) := ⟨⟨mkCP, a21, i21, kcCP⟩, (ok_pinit F21 T_Ratio T_Piece S_Ratio_of C__is_left_end C__is_right_end C__are_neighbours), PySem.W.mg_of X G aCP, b21⟩
  have PM22 : PropOf K CP "middle" p22 f22 := ⟨a22, g22, t22, ⟨_, r22⟩⟩
  have FM22 : FnOk l.prog w K mg base CX0 4 f22 _ ["self"] (spMid CP CR) := (ok_mid F22 T_Ratio T_Piece M_Ratio)
  have C__is_in_octave : Cal l.prog w K mg base 4 "_is_in_octave" f23 _ ["value"] (spEnd CR fun n d => decide (0 ≤ n) && decide (n ≤ d)) := ⟨(ok_oct F23 T_Ratio S_Ratio_is_number O_ge O_le), PySem.W.mg_of X G a23, k23, b23⟩
  have C__is_from_one_on : Cal l.prog w K mg base 2 "_is_from_one_on" f24 _ ["value"] spFrom1 := ⟨(ok_from1 F24 C_is_int), PySem.W.mg_of X G a24, k24, b24⟩
  have C_ratio_by : CalR l.prog w K mg base 4 "ratio_by" f25 (spByS CR) := ⟨(ok_by F25 M_Ratio C__is_from_one_on), PySem.W.mg_of X G a25, k25⟩
  have C_simplest : Cal l.prog w K mg base 5 "simplest" f26 _ ["low", "high"] (spSimp CR) := ⟨(ok_simp F26 T_Ratio C__is_in_octave C_parts_of C_ratio_by O_le O_ge), PySem.W.mg_of X G a26, k26, b26⟩
  have C__law_pen : Cal l.prog w K mg base 1 "_law_pen" f27 _ ["_law_script"] (spPen K) := ⟨(ok_pen F27 T), PySem.W.mg_of X G a27, k27, b27⟩
  have C__law_draw : Cal l.prog w K mg base 1 "_law_draw" f28 _ ["_law_pen_here", "_law_many"] spDraw := ⟨(ok_draw F28 T), PySem.W.mg_of X G a28, k28, b28⟩
  have C__law_pick : Cal l.prog w K mg base 2 "_law_pick" f29 _ ["_law_pen_here", "_law_some"] spPick := ⟨(ok_pick F29 T C__law_draw), PySem.W.mg_of X G a29, k29, b29⟩
  have C__law_number : Cal l.prog w K mg base 4 "_law_number" f31 _ ["_law_top", "_law_bottom"] (spNum2 CR) := ⟨(ok_num2 F31 T M_Ratio), PySem.W.mg_of X G a31, k31, b31⟩
  have C__law_ends : Cal l.prog w K mg base 2 "_law_ends" f32 _ ["_law_pen_here"] spEnds := ⟨(ok_ends F32 C__law_draw), PySem.W.mg_of X G a32, k32, b32⟩
  have C__law_least : Cal l.prog w K mg base 1 "_law_least" f33 _ ["_law_a", "_law_b", "_law_c", "_law_d"] spLeast := ⟨(ok_least F33 ), PySem.W.mg_of X G a33, k33, b33⟩
  have KB1 : KBn K _ ["low", "high"] 0 ["low", "high"] (fun _ ws => ws) (fun _ zs => zs) := F26.kbn (g := fun _ ws => ws) (gV := fun _ zs => zs) (fun _ _ _ _ _ _ us ws hu hw => match us, hu, ws, hw with | [], _, [_, _], _ => rfl) fun _ r2 => r2
  have KB2 : KBn K _ ["low", "high"] 0 ["high", "low"] (fun _ ws => ws.reverse) (fun _ zs => zs.reverse) := F26.kbn (g := fun _ ws => ws.reverse) (gV := fun _ zs => zs.reverse) (fun _ _ _ _ _ _ us ws hu hw => match us, hu, ws, hw with | [], _, [_, _], _ => rfl) fun _ r2 => vals_rev r2
  have C__law_right : Cal l.prog w K mg base 6 "_law_right" f34 _ ["_law_ends_here"] (spRight CR) := ⟨(ok_right F34 T T_Ratio BS C__law_number C_simplest KB1 KB2 C__law_least M_Ratio O_eq O_sub O_rsub), PySem.W.mg_of X G a34, k34, b34⟩
  have C__law_far_right : Cal l.prog w K mg base 7 "_law_far_right" f35 _ ["_law_pen_here"] spFar := ⟨(ok_far F35 T T_Ratio T_Piece neR sO BA BM C__law_draw C_simplest M_Ratio hdv4 bd4 M_Piece PM22 FM22 b22 O_eq O_add O_mul O_rmul D_Ratio_over), PySem.W.mg_of X G a35, k35, b35⟩
  have FE36 : FnOk l.prog w K mg base CX0 1 f36 _ ["self", "part"] (spErI CB "part") := (ok_bri F36 E_BadRatio)
  have C_octNo : Cal l.prog w K mg base 4 "_is_in_octave" f23 _ ["value"] (spOctNo K CR) := ⟨ok_octNo F23 T_Ratio S_Ratio_is_number O_ge O_le, PySem.W.mg_of X G a23, k23, b23⟩
  have kn : KitNo K CR := ⟨kn1, kn2, kn3, kn4, kn5, kn6⟩
  have SL := ok_slow F26 C__is_in_octave C_octNo E_BadRatio FE36 b36
  have SH := ok_shigh F26 T_Ratio C__is_in_octave C_octNo E_BadRatio FE36 b36 O_le O_ge
  have C__law_refused : Cal l.prog w K mg base 8 "_law_refused" f37 _ ["_law_pen_here"] (spRef Pt0) := ⟨(ok_ref F37 rfl TB0 T T_Ratio kn E_BadRatio F30 (PySem.W.mg_of X G a30) b30 (PySem.W.mg_of X G aCF) e_CB_CB C__law_draw C__law_pick M_Ratio (PySem.W.mg_of X G a26) k26 b26 SL SH), PySem.W.mg_of X G a37, k37, b37⟩
  exact FnOk.toG (ok_law F38 T T_Ratio C__law_pen C__law_ends C__law_right C__law_far_right C__law_refused C_simplest M_Ratio O_eq)
theorem walk {l : PySem.W.OpenLaw} {q : Program} {loose : List Str} {XP : (Str → Option Value) → Heap → Prop} {YP : World → Heap → Prop} {d : DefRec} {K : Params → PySem.W.Frag} (hn : l.most = some 63) (hdf : d.params.defaults = [])
    (hY : ∀ (w : World) (h : Heap), YP w h → (K w.params).In h)
    (F : ∀ (w : World) (mg : Str → Option Value) (fa : Addr) (h : Heap), YP w h → (K w.params).In h → h.Ns mainGlobals mg → mg d.name = some (.ref fa) → ∃ tabs, Own.LawG l w (K w.params) 9 63 "_law_script" mg fa h tabs) :
    PySem.W.WalkO q loose XP YP l.row.toRowW d [] (fun f vs => PySem.call f vs) :=
  Own.walk_ofG hn (by decide) hdf ⟨rfl, by decide, by decide⟩ hY F
end Toy
open PySem PySem.W PyProof.Rows
set_option maxRecDepth 100000 in
set_option maxHeartbeats 0 in
theorem PySem.Challenge.cw_anyfifth_k10_whole_simplest_fractions_holds : PySem.Challenge.rw_anyfifth_k10_whole_simplest_fractions.Holds := by
  w_on; o_law; k_head; (case hw => w_witness2)
  k_fill
  refine Toy.walk (l := PySem.Challenge.rw_anyfifth_k10_whole_simplest_fractions) rfl rfl (fun w h Y => PySem.W.km_in_of Y) ?F
  case F =>
    intro w mg fa h Y KX G hmg
    have hT := PySem.W.km_tabs_of Y
    refine' Toy.all_mk KX G hmg ?h_aCR ?h_pgCR ?h_hdCR ?h_poCR ?h_saCR ?h_rdCR ?h_gaCR ?h_caCR ?h_cmCR ?h_sICR ?h_nICR ?h_nCCR ?h_kICR ?h_kBCR ?h_iKCR ?h_kSCR ?h_n_topCR ?h_n_bottomCR ?h_mkCR ?h_kcCR ?h_aCP ?h_pgCP ?h_hdCP ?h_poCP ?h_saCP ?h_rdCP ?h_gaCP ?h_caCP ?h_cmCP ?h_sICP ?h_nICP ?h_nCCP ?h_kICP ?h_kBCP ?h_iKCP ?h_kSCP ?h_n_leftCP ?h_n_rightCP ?h_mkCP ?h_kcCP ?h_cn ?h_ct ?h_z_int ?h_z_len ?h_z_abs ?h_z_list ?h_z_range ?h_z_isinstance ?h_z_bool ?h_z_gcd ?h_aCB ?h_lkCB ?h_saCB ?h_exCB ?h_tyCB ?h_kpCB ?h_inCB ?h_tiCB ?h_noCB ?h_xfCB ?h_xgCB ?h_xhCB ?h_aCF ?h_e_CB_CB ?h_neR ?h_sO ?h_sIR ?h_sf ?h_i1Add ?h_i2Add ?h_rAdd ?h_i1Sub ?h_i2Sub ?h_rSub ?h_i1Mult ?h_i2Mult ?h_rMult ?h_tab0 ?h_chd0 ?h_outP0 ?h_eP0 ?h_kn1 ?h_kn2 ?h_kn3 ?h_kn4 ?h_kn5 ?h_kn6 ?h_a0 ?h_l0 ?h_c0 ?h_k0 ?h_a1 ?h_r1 ?h_l1 ?h_c1 ?h_k1 ?h_a2 ?h_l2 ?h_c2 ?h_k2 ?h_a3 ?h_l3 ?h_c3 ?h_k3 ?h_a4 ?h_i4 ?h_l4 ?h_c4 ?h_k4 ?h_d4 ?h_a5 ?h_i5 ?h_l5 ?h_c5 ?h_k5 ?h_a6 ?h_i6 ?h_l6 ?h_c6 ?h_k6 ?h_a7 ?h_i7 ?h_l7 ?h_c7 ?h_k7 ?h_a8 ?h_i8 ?h_l8 ?h_c8 ?h_k8 ?h_a9 ?h_i9 ?h_l9 ?h_c9 ?h_k9 ?h_a10 ?h_r10 ?h_l10 ?h_c10 ?h_k10 ?h_a11 ?h_i11 ?h_l11 ?h_c11 ?h_k11 ?h_a12 ?h_i12 ?h_l12 ?h_c12 ?h_k12 ?h_a13 ?h_i13 ?h_l13 ?h_c13 ?h_k13 ?h_a14 ?h_i14 ?h_l14 ?h_c14 ?h_k14 ?h_a15 ?h_i15 ?h_l15 ?h_c15 ?h_k15 ?h_a16 ?h_i16 ?h_l16 ?h_c16 ?h_k16 ?h_a17 ?h_i17 ?h_l17 ?h_c17 ?h_k17 ?h_a18 ?h_l18 ?h_c18 ?h_k18 ?h_a19 ?h_l19 ?h_c19 ?h_k19 ?h_a20 ?h_l20 ?h_c20 ?h_k20 ?h_a21 ?h_i21 ?h_l21 ?h_c21 ?h_k21 ?h_a22 ?h_g22 ?h_t22 ?h_r22 ?h_l22 ?h_c22 ?h_k22 ?h_a23 ?h_l23 ?h_c23 ?h_k23 ?h_a24 ?h_l24 ?h_c24 ?h_k24 ?h_a25 ?h_l25 ?h_c25 ?h_k25 ?h_a26 ?h_l26 ?h_c26 ?h_k26 ?h_a27 ?h_l27 ?h_c27 ?h_k27 ?h_a28 ?h_l28 ?h_c28 ?h_k28 ?h_a29 ?h_l29 ?h_c29 ?h_k29 ?h_a30 ?h_l30 ?h_c30 ?h_k30 ?h_a31 ?h_l31 ?h_c31 ?h_k31 ?h_a32 ?h_l32 ?h_c32 ?h_k32 ?h_a33 ?h_l33 ?h_c33 ?h_k33 ?h_a34 ?h_l34 ?h_c34 ?h_k34 ?h_a35 ?h_l35 ?h_c35 ?h_k35 ?h_l36 ?h_c36 ?h_k36 ?h_a37 ?h_l37 ?h_c37 ?h_k37 ?h_a38 ?h_l38 ?h_c38 ?h_k38
    (case h_aCR => k_is)
    (case h_pgCR => k_is)
    (case h_hdCR => k_is)
    (case h_poCR => k_is)
    (case h_saCR => k_is)
    (case h_rdCR => k_is)
    (case h_gaCR => k_is)
    (case h_caCR => k_is)
    (case h_cmCR => k_is)
    (case h_sICR => k_is)
    (case h_nICR => k_is)
    (case h_nCCR => k_is)
    (case h_kICR => kit_is)
    (case h_kBCR => kit_is)
    (case h_iKCR => kit_is)
    (case h_kSCR => kit_is)
    (case h_n_topCR => k_is)
    (case h_n_bottomCR => k_is)
    (case h_mkCR => k_is)
    (case h_kcCR => k_is)
    (case h_aCP => k_is)
    (case h_pgCP => k_is)
    (case h_hdCP => k_is)
    (case h_poCP => k_is)
    (case h_saCP => k_is)
    (case h_rdCP => k_is)
    (case h_gaCP => k_is)
    (case h_caCP => k_is)
    (case h_cmCP => k_is)
    (case h_sICP => k_is)
    (case h_nICP => k_is)
    (case h_nCCP => k_is)
    (case h_kICP => kit_is)
    (case h_kBCP => kit_is)
    (case h_iKCP => kit_is)
    (case h_kSCP => kit_is)
    (case h_n_leftCP => k_is)
    (case h_n_rightCP => k_is)
    (case h_mkCP => k_is)
    (case h_kcCP => k_is)
    (case h_cn => k_is)
    (case h_ct => k_is)
    (case h_z_int => k_is)
    (case h_z_len => k_is)
    (case h_z_abs => k_is)
    (case h_z_list => k_is)
    (case h_z_range => k_is)
    (case h_z_isinstance => k_is)
    (case h_z_bool => k_is)
    (case h_z_gcd => k_is)
    (case h_aCB => k_is)
    (case h_lkCB => exact ⟨_, _, _, _, _, _, _, _, _, _, _, _, _, _, _, by k_is, by decide +kernel⟩)
    (case h_saCB => k_is)
    (case h_exCB => k_is)
    (case h_tyCB => k_is)
    (case h_kpCB => k_is)
    (case h_inCB => k_is)
    (case h_tiCB => k_is)
    (case h_noCB => k_is)
    (case h_xfCB => k_is)
    (case h_xgCB => k_is)
    (case h_xhCB => k_is)
    (case h_aCF => k_is)
    (case h_e_CB_CB => rfl)
    (case h_neR => k_is)
    (case h_sO => k_is)
    (case h_sIR => k_is)
    (case h_sf => k_is)
    (case h_i1Add => k_is)
    (case h_i2Add => k_is)
    (case h_rAdd => k_is)
    (case h_i1Sub => k_is)
    (case h_i2Sub => k_is)
    (case h_rSub => k_is)
    (case h_i1Mult => k_is)
    (case h_i2Mult => k_is)
    (case h_rMult => k_is)
    (case h_tab0 => rfl)
    (case h_chd0 => rfl)
    (case h_outP0 => rfl)
    (case h_eP0 => exact hT _ (by decide))
    (case h_kn1 => kit_is)
    (case h_kn2 => kit_is)
    (case h_kn3 => kit_is)
    (case h_kn4 => kit_is)
    (case h_kn5 => kit_is)
    (case h_kn6 => kit_is)
    (case h_a0 => k_is)
    (case h_l0 => k_is)
    (case h_c0 => k_is)
    (case h_k0 => k_is)
    (case h_a1 => k_is)
    (case h_r1 => k_is)
    (case h_l1 => k_is)
    (case h_c1 => k_is)
    (case h_k1 => k_is)
    (case h_a2 => k_is)
    (case h_l2 => k_is)
    (case h_c2 => k_is)
    (case h_k2 => k_is)
    (case h_a3 => k_is)
    (case h_l3 => k_is)
    (case h_c3 => k_is)
    (case h_k3 => k_is)
    (case h_a4 => k_is)
    (case h_i4 => k_is)
    (case h_l4 => k_is)
    (case h_c4 => k_is)
    (case h_k4 => k_is)
    (case h_d4 => k_is)
    (case h_a5 => k_is)
    (case h_i5 => k_is)
    (case h_l5 => k_is)
    (case h_c5 => k_is)
    (case h_k5 => k_is)
    (case h_a6 => k_is)
    (case h_i6 => k_is)
    (case h_l6 => k_is)
    (case h_c6 => k_is)
    (case h_k6 => k_is)
    (case h_a7 => k_is)
    (case h_i7 => k_is)
    (case h_l7 => k_is)
    (case h_c7 => k_is)
    (case h_k7 => k_is)
    (case h_a8 => k_is)
    (case h_i8 => k_is)
    (case h_l8 => k_is)
    (case h_c8 => k_is)
    (case h_k8 => k_is)
    (case h_a9 => k_is)
    (case h_i9 => k_is)
    (case h_l9 => k_is)
    (case h_c9 => k_is)
    (case h_k9 => k_is)
    (case h_a10 => k_is)
    (case h_r10 => k_is)
    (case h_l10 => k_is)
    (case h_c10 => k_is)
    (case h_k10 => k_is)
    (case h_a11 => k_is)
    (case h_i11 => k_is)
    (case h_l11 => k_is)
    (case h_c11 => k_is)
    (case h_k11 => k_is)
    (case h_a12 => k_is)
    (case h_i12 => k_is)
    (case h_l12 => k_is)
    (case h_c12 => k_is)
    (case h_k12 => k_is)
    (case h_a13 => k_is)
    (case h_i13 => k_is)
    (case h_l13 => k_is)
    (case h_c13 => k_is)
    (case h_k13 => k_is)
    (case h_a14 => k_is)
    (case h_i14 => k_is)
    (case h_l14 => k_is)
    (case h_c14 => k_is)
    (case h_k14 => k_is)
    (case h_a15 => k_is)
    (case h_i15 => k_is)
    (case h_l15 => k_is)
    (case h_c15 => k_is)
    (case h_k15 => k_is)
    (case h_a16 => k_is)
    (case h_i16 => k_is)
    (case h_l16 => k_is)
    (case h_c16 => k_is)
    (case h_k16 => k_is)
    (case h_a17 => k_is)
    (case h_i17 => k_is)
    (case h_l17 => k_is)
    (case h_c17 => k_is)
    (case h_k17 => k_is)
    (case h_a18 => k_is)
    (case h_l18 => k_is)
    (case h_c18 => k_is)
    (case h_k18 => k_is)
    (case h_a19 => k_is)
    (case h_l19 => k_is)
    (case h_c19 => k_is)
    (case h_k19 => k_is)
    (case h_a20 => k_is)
    (case h_l20 => k_is)
    (case h_c20 => k_is)
    (case h_k20 => k_is)
    (case h_a21 => k_is)
    (case h_i21 => k_is)
    (case h_l21 => k_is)
    (case h_c21 => k_is)
    (case h_k21 => k_is)
    (case h_a22 => k_is)
    (case h_g22 => k_is)
    (case h_t22 => k_is)
    (case h_r22 => k_is)
    (case h_l22 => k_is)
    (case h_c22 => k_is)
    (case h_k22 => k_is)
    (case h_a23 => k_is)
    (case h_l23 => k_is)
    (case h_c23 => k_is)
    (case h_k23 => k_is)
    (case h_a24 => k_is)
    (case h_l24 => k_is)
    (case h_c24 => k_is)
    (case h_k24 => k_is)
    (case h_a25 => k_is)
    (case h_l25 => k_is)
    (case h_c25 => k_is)
    (case h_k25 => k_is)
    (case h_a26 => k_is)
    (case h_l26 => k_is)
    (case h_c26 => k_is)
    (case h_k26 => k_is)
    (case h_a27 => k_is)
    (case h_l27 => k_is)
    (case h_c27 => k_is)
    (case h_k27 => k_is)
    (case h_a28 => k_is)
    (case h_l28 => k_is)
    (case h_c28 => k_is)
    (case h_k28 => k_is)
    (case h_a29 => k_is)
    (case h_l29 => k_is)
    (case h_c29 => k_is)
    (case h_k29 => k_is)
    (case h_a30 => k_is)
    (case h_l30 => k_is)
    (case h_c30 => k_is)
    (case h_k30 => k_is)
    (case h_a31 => k_is)
    (case h_l31 => k_is)
    (case h_c31 => k_is)
    (case h_k31 => k_is)
    (case h_a32 => k_is)
    (case h_l32 => k_is)
    (case h_c32 => k_is)
    (case h_k32 => k_is)
    (case h_a33 => k_is)
    (case h_l33 => k_is)
    (case h_c33 => k_is)
    (case h_k33 => k_is)
    (case h_a34 => k_is)
    (case h_l34 => k_is)
    (case h_c34 => k_is)
    (case h_k34 => k_is)
    (case h_a35 => k_is)
    (case h_l35 => k_is)
    (case h_c35 => k_is)
    (case h_k35 => k_is)
    (case h_l36 => k_is)
    (case h_c36 => k_is)
    (case h_k36 => k_is)
    (case h_a37 => k_is)
    (case h_l37 => k_is)
    (case h_c37 => k_is)
    (case h_k37 => k_is)
    (case h_a38 => k_is)
    (case h_l38 => k_is)
    (case h_c38 => k_is)
    (case h_k38 => k_is)
