import PyProof.Rows.All
import Wide.All
import OpenK.AllK
import Wide.FinOn
import HandS.ForMost
import HandS.Wide
import HandS.Gcd
import HandS.Codes
import HandS.IsInst
import HandS.ClsMeth
import HandS.Property
import HandS.OwnEq
import HandS.Defaults
import KE.KEqSeq
import KE.KOpsOwn
import PyProof.InstEq
import HandS.Exc
import HandS.TryMany
import HandS.EndTab
import HandS.List
import PyProof.ReprRoads
import HandS.WordsExc
import HandS.Small
import HandS.Style
import KE.RegKIsAll
import KE.KNestM
import PySem.Challenge.RW_anyfifth_k04_whole_ratios_in_order
set_option Elab.async false
set_option maxRecDepth 100000
set_option maxHeartbeats 4000000
/-! Rules of our own: static methods, comparisons by the text's own operators. -/
namespace Own
open PySem PySem.Spec PyProof.Rows L2
open AutoSeq1 (wpAny_loadPart')

section
variable {X : Cx} {pins : List (Addr × Obj)} {σ : L2.St} {H : Hp} {s : Shared} {C p f : Addr} {mc : Value} {m : Str} {A : Around} {E : Value → Shared → Prop}
/-- C.m is a static method: its record at p, its def at f -/
structure SMet (K : PySem.W.Frag) (C : Addr) (mc : Value) (m : Str) (p f : Addr) : Prop where
  at_ : PySem.W.findCls K (.ref C) mc m = some (.get (.builtin "staticmethod.__get__") (.ref p) .none (.ref C))
  rc : ∃ rest, PySem.W.recIn K p "staticmethod" = some (.ref f :: rest)
  kp : PySem.W.keepIn K (.ref f) = true
theorem getsm_ok {b : Bool} {Q : Value → Shared → Prop} (I : Inv X pins σ H s) (r : ClX.CRead X.K C mc) (k : SMet X.K C mc m p f) (h : ∀ s', Inv X pins σ H s' → Q (.ref f) s') : wpAny (model X.prog X.w) A (getAttr (.ref C) m b) Q E s := by
  obtain ⟨rest, hp⟩ := k.rc
  refine PySem.W.cls_bind I.kIn r.rd k.at_ ?_
  refine wpAny_call (PySem.W.sm_get (s := { s with toks := s.toks + 1 }) I.kIn hp (PySem.W.handed_on rfl ?_))
  exact h _ (I.tok _)
def tSMeth (C : Addr) (sp : Sp) (E : XK) (ta : TE) (t : TA) : TE := fun σ H Q => ta σ H fun x H1 => x = .ref C ∧ t σ H1 fun vs H2 => sp (vs ++ []) H2 Q E
end
section
variable {X : Cx} {CX : CXT} {k : Nat} {C p f : Addr} {mc : Value} {sp : Sp} {E : XK} {o e : Expr} {es : List Expr} {m : Str} {pos apos : Pos} {ta : TE} {t : TA} {pl : Sem Bool} {fd : FuncData} {ps : List Str}
theorem pe_smeth (r : ClX.CRead X.K C mc) (c : SMet X.K C mc m p f) (F : FnOk X.prog X.w X.K X.mg X.base CX k f fd ps sp) (hr : Room k X.A) (hb : Binds X.K fd ps []) (hx : Passes CX X E) (he : PE X o ta) (ha : PA X (e :: es) t)
    (hst : starEach (e :: es) X.env = (false, eval e X.env) :: starEach es X.env := by rfl) (hpl : (backTo pos (starEach es X.env)).any (·.1) = false := by rfl)
    (ht : eval (.Call (.Attribute o m apos) (e :: es) [] pos) X.env = (do
      let ov ← eval o X.env
      standAt apos.atName
      let (f, first) ← holding [ov] (getMethod ov m pl)
      callWith pos f first (backTo pos (starEach (e :: es) X.env)) (backToKw pos (keywordEach [] X.env))) := by rfl) :
    PE X (.Call (.Attribute o m apos) (e :: es) [] pos) (tSMeth C sp E ta t) := by
  refine ⟨fun pins s σ H Q I h => ?_⟩
  refine PySem.W.methodCall_KW (pl := pl) (thn (he.run pins s σ H _ I h) fun u s1 ⟨x, H1, I1, rx, ex, q⟩ => ?_) ht
  subst ex
  obtain rfl : u = Value.ref C := rx
  refine PySem.W.method_cls I1.kIn r.ga (getsm_ok I1 r c fun s2 I2 => ?_)
  refine PySem.W.callWith_K (first := []) (h₀ := X.base) I.ok.mod.kin c.kp (thn (ha.run pos pins s2 σ H1 _ I2 q) fun us s3 ⟨vs, H2, I3, rv, q2⟩ => ⟨I3.kIn, ?_⟩) hst hpl
  exact run_fn F hr hb .nil hx I3 rv q2
end

theorem pe_gref {X : Cx} {x : Str} {a : Addr} {pos : Pos} (hg : Gl X x) (hm : X.mg x = some (.ref a)) (hd : (x == ("__debug__" : Str)) = false := by decide) : PE X (.Name x pos) (tC (.ref a)) := pe_glob hg hm rfl hd
/-! ### calls with keywords alone -/
def tMethK0 (C : Addr) (m : Str) (n : Nat) (sp : Sp) (gV : List V → List V → List V) (E : XK) (ta : TE) (tk : TA) : TE := fun σ H Q => ta σ H fun x H1 => ∃ a dx fs, x = .ref a ∧ H1 a = some (.ins C dx fs) ∧ fs.lookup m = none ∧
  tk σ H1 fun zs H2 => zs.length = n ∧ sp (gV [x] zs) H2 Q E
section
variable {X : Cx} {CX : CXT} {k : Nat} {C p f : Addr} {sp : Sp} {E : XK} {o : Expr} {m : Str} {pos apos : Pos} {ta : TE} {tk : TA} {pl : Sem Bool} {fd : FuncData} {ps ks : List Str} {kws : List Keyword}
  {g : List Value → List Value → List Value} {gV : List V → List V → List V}
theorem pe_methK0 (he : PE X o ta) (c : Cls X.K C) (hm : Meth X.K C m f) (F : FnOk X.prog X.w X.K X.mg X.base CX k f fd ps sp) (hr : Room k X.A) (hb : KBn X.K fd ps 1 ks g gV) (hx : Passes CX X E) (hkw : PK X kws tk)
    (hall : (backToKw pos (keywordEach kws X.env)).all (·.1.isSome) = true := by rfl) (hks : (backToKw pos (keywordEach kws X.env)).filterMap (·.1) = ks := by rfl)
    (hpl : ((backTo pos (starEach [] X.env)).any (·.1) || (backToKw pos (keywordEach kws X.env)).any (·.1.isNone)) = false := by rfl)
    (ht : eval (.Call (.Attribute o m apos) [] kws pos) X.env = (do
      let ov ← eval o X.env
      standAt apos.atName
      let (f, first) ← holding [ov] (getMethod ov m pl)
      callWith pos f first (backTo pos (starEach [] X.env)) (backToKw pos (keywordEach kws X.env))) := by rfl) :
    PE X (.Call (.Attribute o m apos) [] kws pos) (tMethK0 C m ks.length sp gV E ta tk) := by
  refine ⟨fun pins s σ H Q I h => ?_⟩
  refine PySem.W.methodCall_KW (pl := pl) (thn (he.run pins s σ H _ I h) fun u s1 ⟨x, H1, I1, rx, a, dx, fs, ex, ea, l, q⟩ => ?_) ht
  subst ex
  obtain rfl : u = Value.ref a := rx
  refine getmeth_ok I1 ea c hm l ?_
  refine PySem.W.callWith_KW0 (first := [.ref a]) (h₀ := X.base) I.ok.mod.kin hm.kp hall (thn (hkw.run pos pins s1 σ H1 _ I1 q) fun ws s2 ⟨zs, H2, I2, rz, hl, q2⟩ => ⟨I2.kIn, ?_⟩) hpl
  rw [hks]
  exact run_fnN (us := [.ref a]) (vs := [.ref a]) F hr hb hx I2 (.cons rfl .nil) rz rfl hl q2
end
/-! ### comparisons by own operators -/
section
variable {X : Cx} {CX : CXT} {k : Nat} {C f : Addr} {fd : FuncData} {ps : List Str} {sp : Sp} {E : XK} {op : CmpOp}
/-- the left one is an instance with the operator -/
def rOwnC (K : PySem.W.Frag) (C : Addr) (sp : Sp) (E : XK) : R2 := fun x y H Q => ∃ a dx fs t, x = .ref a ∧ H a = some (.ins C dx fs) ∧ TyX K H y t ∧ PySem.W.notFirst K C t = true ∧ sp [x, y] H (fun v H' => (∃ b, v = .bl b) ∧ Q v H') E
theorem op_ownC (F : FnOk X.prog X.w X.K X.mg X.base CX k f fd ps sp) (hr : Room k X.A) (hs : PySem.W.findIn X.K (.ref C) (cmpInfo op).2.1 = some (some (.ref f))) (hf : PySem.W.isFn X.K (.ref f) = true) (hb : Binds X.K fd ps []) (hx : Passes CX X E)
    (hop : ∀ a b, compareOp op a b = richCompare op a b := by intros; rfl) : OpR X (compareOp op) (rOwnC X.K C sp E) := by
  intro pins s σ H x y u v Q I rx ry h
  obtain ⟨a, dx, fs, t, rfl, ha, ty, nf, hsp⟩ := h
  cases rx
  obtain ⟨mA, J, _⟩ := ins_get I.hok ha
  obtain ⟨od, J, _⟩ := J.look
  obtain ⟨m, hF⟩ := I.fr
  obtain ⟨Pk, Z, pk, _⟩ := kit_of I ry ty
  rw [hop]
  refine PySem.W.cmp_K (op := op) (tb := t) hr.units0 hF I.ok.mod.kin J (Z.ty _ _ I.kIn pk) nf hs hf ?_
  have r2 : Vals [V.ref a, y] [Value.ref a, v] := .cons rfl (.cons ry .nil)
  refine wpAny_mono (run_fn F hr hb .nil hx I r2 hsp) (fun w s' q => ?_) fun _ _ e => e
  obtain ⟨v', H', I', rv, ⟨b, rfl⟩, q⟩ := q
  cases rv
  exact ⟨.bl b, H', I', rfl, q⟩

/-- an int on the left, an instance with the reflected operator on the right -/
def rReflC (C : Addr) (sp : Sp) (E : XK) : R2 := fun x y H Q => ∃ i a dx fs, x = .int i ∧ y = .ref a ∧ H a = some (.ins C dx fs) ∧ sp [y, x] H (fun v H' => (∃ b, v = .bl b) ∧ Q v H') E
theorem op_reflC {id : String} {B : Builtin} (F : FnOk X.prog X.w X.K X.mg X.base CX k f fd ps sp) (hr : Room k X.A) (hs : PySem.W.findIn X.K (.ref C) (cmpInfo op).2.2 = some (some (.ref f))) (hf : PySem.W.isFn X.K (.ref f) = true)
    (hsub : PySem.W.subIn X.K (.ref C) (.type "int") = some false) (hb : Binds X.K fd ps []) (hx : Passes CX X E)
    (slot : Slot "int" (cmpInfo op).2.1 id) (entry : entryFor table id = some B) (args : ∀ a b, argsOk id ⟨[a, b], []⟩)
    (dec : ∀ (b : Int) (u : Tok) (l : Addr) (C dx : Addr), Meets (B ⟨[.int b u, .ref l], []⟩) (fun _ R s => s.heap.get? l = some (PySem.W.instObj C dx) ∧ R (.ok (.ret .notImplemented)) s))
    (hne : op ≠ .Eq ∧ op ≠ .NotEq) (hop : ∀ a b, compareOp op a b = richCompare op a b := by intros; rfl) : OpR X (compareOp op) (rReflC C sp E) := by
  intro pins s σ H x y u v Q I rx ry h
  obtain ⟨i, a, dx, fs, rfl, rfl, ha, hsp⟩ := h
  obtain ⟨t, rfl⟩ := rx
  cases ry
  obtain ⟨mA, O, _⟩ := ins_get I.hok ha
  obtain ⟨od, J, _⟩ := O.look
  have ho : s.heap.get? a = some (PySem.W.instObj C dx) := by
    obtain ⟨_, _, _, e, _⟩ := I.hok a _ ha
    exact e
  have KX := I.kIn
  rw [hop]
  have one : wpAny (model X.prog X.w) X.A (tryCompare (.ref a) (cmpInfo op).2.2 (.int i t)) (fun r s' => ∃ v, r = some v ∧ EP X pins σ Q v s') X.xe s := by
    unfold tryCompare
    have r2 : Vals [V.ref a, V.int i] [Value.ref a, Value.int i t] := .cons rfl (.cons ⟨t, rfl⟩ .nil)
    refine wpAny_bind (PySem.W.ifBound_K KX J hs hf (wpAny_mono (run_fn F hr hb .nil hx I r2 hsp) (fun v s' hv => ?_) fun _ _ e => e))
    obtain ⟨v', H', I', rv, ⟨b, rfl⟩, q⟩ := hv
    cases rv
    exact wpAny_pure ⟨_, rfl, .bl b, H', I', rfl, q⟩
  have hT := typeIs_int s i t
  unfold richCompare
  simp only [hT.oneThing_none]
  refine wpAny_holding (wpAny_bind (wpAny_cRoomFor hr.units0 ?_))
  refine wpAny_bind (wpAny_typeOf hT (wpAny_bind (J.type.here ?_)))
  have hne1 : (Value.type "int" != Value.ref C) = true := rfl
  simp only [hne1, if_true]
  refine wpAny_bind ((PySem.W.looks_subIn KX hsub).here ?_)
  simp only [Bool.false_eq_true, if_false, Bool.not_false, if_true]
  refine wpAny_bind (m := tryCompare (.int i t) _ (.ref a)) (wpAny_tryCompare_declines hT slot (call_meets slot hT entry (args _ _) (dec i t a C dx) ⟨ho, rfl, ?_⟩))
  refine wpAny_bind (wpAny_mono one (fun r s' z => ?_) fun _ _ e => e)
  obtain ⟨v, rfl, hq⟩ := z
  exact wpAny_pure hq
end
theorem int_le_dec (b : Int) (u : Tok) (l : Addr) (C dx : Addr) :
    Meets (Builtin.«int.__le__» ⟨[.int b u, .ref l], []⟩) (fun _ R s => s.heap.get? l = some (PySem.W.instObj C dx) ∧ R (.ok (.ret .notImplemented)) s) :=
  .of_wp fun prog w A R s h => by obtain ⟨hp, g, d, tk, os⟩ := s; obtain ⟨hl, h⟩ := h; wp_walk using wpAny_loadPart' hl, wpAny_load hl; exact ⟨_, rfl, h⟩
theorem int_lt_dec (b : Int) (u : Tok) (l : Addr) (C dx : Addr) :
    Meets (Builtin.«int.__lt__» ⟨[.int b u, .ref l], []⟩) (fun _ R s => s.heap.get? l = some (PySem.W.instObj C dx) ∧ R (.ok (.ret .notImplemented)) s) :=
  .of_wp fun prog w A R s h => by obtain ⟨hp, g, d, tk, os⟩ := s; obtain ⟨hl, h⟩ := h; wp_walk using wpAny_loadPart' hl, wpAny_load hl; exact ⟨_, rfl, h⟩
end Own
set_option maxRecDepth 100000
set_option maxHeartbeats 4000000
/-! Rules of our own: arithmetic by the text's own operators, != by its own ==, abs and minus. -/
namespace Own
open PySem PySem.Spec PyProof.Rows L2
open AutoSeq1 (wpAny_loadPart')
theorem relV_back {v : V} {u : Value} {s' : Shared} {Q : Value → Shared → Prop} (r : RelV v u) (q : Q u s') : PySem.W.CmpBack Q u s' := by
  cases v <;> first | (obtain ⟨t, rfl⟩ := r; exact q) | (obtain rfl := r; exact q)
section
variable {X : Cx} {CX : CXT} {k : Nat} {C f : Addr} {fd : FuncData} {ps : List Str} {sp : Sp} {E : XK} {op : Operator}
/-- an own method in the place of an operator: an instance at the left, the same class or an int at the right -/
def rOwnB (C : Addr) (sp : Sp) (E : XK) : R2 := fun x y H Q => ∃ a dx fs, x = .ref a ∧ H a = some (.ins C dx fs) ∧ ((∃ j, y = .int j) ∨ ∃ b dy gs, y = .ref b ∧ H b = some (.ins C dy gs)) ∧ sp [x, y] H Q E
theorem op_ownB {fo ro rc : Option Value} (F : FnOk X.prog X.w X.K X.mg X.base CX k f fd ps sp) (hr : Room k X.A) (hs : PySem.W.findIn X.K (.ref C) (PySem.dunder op.info.2) = some (some (.ref f))) (hf : PySem.W.isFn X.K (.ref f) = true)
    (hc : PySem.W.selfFirst X.K C = true) (hR : PySem.W.findIn X.K (.ref C) (dunderR op.info.2) = some rc) (hp : rc = none ∨ ∃ g : Addr, rc = some (.ref g)) (h1 : PySem.W.findIn X.K (.type "int") (PySem.dunder op.info.2) = some fo)
    (h2 : PySem.W.findIn X.K (.type "int") (dunderR op.info.2) = some ro) (hsub : PySem.W.subIn X.K (.type "int") (.ref C) = some false) (hb : Binds X.K fd ps []) (hx : Passes CX X E) : OpR X (binaryOp op) (rOwnB C sp E) := by
  intro pins s σ H x y u v Q I rx ry h
  obtain ⟨a, dx, fs, rfl, ha, hy, hsp⟩ := h
  cases rx
  obtain ⟨mA, J, _⟩ := ins_get I.hok ha
  obtain ⟨od, J, _⟩ := J.look
  obtain ⟨m, hF⟩ := I.fr
  have r2 : Vals [V.ref a, y] [Value.ref a, v] := .cons rfl (.cons ry .nil)
  have fin : wpAny (model X.prog X.w) X.A (call (.ref f) [.ref a, v]) (PySem.W.CmpBack (EP X pins σ Q)) X.xe s := wpAny_mono (run_fn F hr hb .nil hx I r2 hsp) (fun w s' q => by
    obtain ⟨v', H', I', rv, q⟩ := q
    exact relV_back rv ⟨v', H', I', rv, q⟩) fun _ _ e => e
  rcases hy with ⟨j, rfl⟩ | ⟨b, dy, gs, rfl, hb'⟩
  · obtain ⟨t, rfl⟩ := ry
    exact PySem.W.ksp_binT (T := "int") hF I.ok.mod.kin J rfl hc hs hf hR hp h1 h2 hsub fin
  · cases ry
    obtain ⟨mB, J', _⟩ := ins_get I.hok hb'
    obtain ⟨od', J', _⟩ := J'.look
    exact PySem.W.binop_K hF I.ok.mod.kin J J'.type hc hs hf fin

/-- an int at the left, an instance with the reflected operator at the right -/
def rReflB (C : Addr) (sp : Sp) (E : XK) : R2 := fun x y H Q => ∃ i a dx fs, x = .int i ∧ y = .ref a ∧ H a = some (.ins C dx fs) ∧ sp [y, x] H Q E
theorem op_reflB {f0 : Addr} {id : String} {B : Builtin} (F : FnOk X.prog X.w X.K X.mg X.base CX k f fd ps sp) (hr : Room k X.A) (hs : PySem.W.findIn X.K (.ref C) (dunderR op.info.2) = some (some (.ref f))) (hf : PySem.W.isFn X.K (.ref f) = true)
    (hs0 : PySem.W.findIn X.K (.ref C) (PySem.dunder op.info.2) = some (some (.ref f0))) (hc : PySem.W.selfFirst X.K C = true) (hsub : PySem.W.subIn X.K (.ref C) (.type "int") = some false) (hb : Binds X.K fd ps []) (hx : Passes CX X E)
    (fills : fillsNumberSlot (.type "int") op.info.2 = pure true) (slot : Slot "int" (PySem.dunder op.info.2) id) (entry : entryFor table id = some B) (args : ∀ a b, argsOk id ⟨[a, b], []⟩)
    (dec : ∀ (b : Int) (u : Tok) (l : Addr) (C dx : Addr), Meets (B ⟨[.int b u, .ref l], []⟩) (fun _ R s => s.heap.get? l = some (PySem.W.instObj C dx) ∧ R (.ok (.ret .notImplemented)) s)) : OpR X (binaryOp op) (rReflB C sp E) := by
  intro pins s σ H x y u v Q I rx ry h
  obtain ⟨i, a, dx, fs, rfl, rfl, ha, hsp⟩ := h
  obtain ⟨t, rfl⟩ := rx
  cases ry
  obtain ⟨mA, O, _⟩ := ins_get I.hok ha
  obtain ⟨od, J, _⟩ := O.look
  have ho : s.heap.get? a = some (PySem.W.instObj C dx) := by
    obtain ⟨_, _, _, e, _⟩ := I.hok a _ ha
    exact e
  have KX := I.kIn
  obtain ⟨cd, rest, hcd, hm⟩ := PySem.W.ksp_first hc
  rcases hi : op.info with ⟨sym, nm⟩
  rw [hi] at hs hs0 fills slot
  dsimp only at hs hs0 fills slot
  have one : wpAny (model X.prog X.w) X.A (tryMethod (.ref a) (dunderR nm) (.int i t)) (fun r s' => ∃ v, r = some v ∧ EP X pins σ Q v s') X.xe s := by
    have r2 : Vals [V.ref a, V.int i] [Value.ref a, Value.int i t] := .cons rfl (.cons ⟨t, rfl⟩ .nil)
    refine PySem.W.ksp_try KX J hs hf (wpAny_mono (run_fn F hr hb .nil hx I r2 hsp) (fun v s' hv => ?_) fun _ _ e => e)
    obtain ⟨v', H', I', rv, q⟩ := hv
    exact relV_back rv ⟨v', H', I', rv, q⟩
  have hT := typeIs_int s i t
  have L3 : PySem.W.Looks (model X.prog X.w) s.heap (fillsNumberSlot (.ref C) nm) true := PySem.W.fills_K KX hcd hm hs0
  have hne : (Value.type "int" == Value.ref C) = false := Bool.eq_false_iff.mpr fun q => by cases beq_iff_eq.mp q
  have hpy : numberSlotInPython (.type "int") nm = pure false := rfl
  simp only [binaryOp, hi]
  refine wpAny_holding (wpAny_bind ?_)
  unfold binaryOp1
  refine wpAny_bind (wpAny_typeOf hT (wpAny_bind (J.type.here (wpAny_bind (wpAny_of_eq fills ?_)))))
  simp only [hne, Bool.false_eq_true, if_false]
  refine wpAny_bind (L3.here ?_)
  simp only [Bool.and_self, if_true]
  refine wpAny_bind ((PySem.W.looks_subIn KX hsub).here ?_)
  simp only [Bool.false_eq_true, if_false, pure_bind, Bool.not_false, Bool.and_self, if_true, hpy]
  refine wpAny_bind (wpAny_tryMethod_declines hT slot (call_meets slot hT entry (args _ _) (dec i t a C dx) ⟨ho, rfl, ?_⟩))
  dsimp only
  refine wpAny_bind (wpAny_mono one (fun r s' z => ?_) fun _ _ e => e)
  obtain ⟨v, rfl, hq⟩ := z
  exact wpAny_bind (wpAny_rule (wpAny_pure (wpAny_pure hq)))

/-- minus an instance -/
def rNeg (C : Addr) (sp : Sp) (E : XK) : V → Hp → VK → Prop := fun x H Q => ∃ a dx fs, x = .ref a ∧ H a = some (.ins C dx fs) ∧ sp [x] H Q E
theorem un_ownNeg (F : FnOk X.prog X.w X.K X.mg X.base CX k f fd ps sp) (hr : Room k X.A) (hs : PySem.W.findIn X.K (.ref C) "__neg__" = some (some (.ref f))) (hf : PySem.W.isFn X.K (.ref f) = true) (hb : Binds X.K fd ps []) (hx : Passes CX X E) :
    UnR X (unaryOp .USub) (rNeg C sp E) := by
  intro pins s σ H x v Q I rx h
  obtain ⟨a, dx, fs, rfl, ha, hsp⟩ := h
  cases rx
  obtain ⟨mA, J, _⟩ := ins_get I.hok ha
  obtain ⟨od, J, _⟩ := J.look
  obtain ⟨m, hF⟩ := I.fr
  exact PySem.W.ksp_neg hF I.ok.mod.kin J hs hf (run_fn F hr hb .nil hx I (vs := [.ref a]) (.cons rfl .nil) hsp)

/-- at any place below the body -/
theorem run_fnA {pins : List (Addr × Obj)} {σ : L2.St} {H : Hp} {s : Shared} {Q : VK} {us : List Value} {vs : List V} {A : Around} (F : FnOk X.prog X.w X.K X.mg X.base CX k f fd ps sp) (hr : Room k A) (hA : A.frames = X.A.frames) (hb : Binds X.K fd ps []) (hx : Passes CX X E)
    (I : Inv X pins σ H s) (r : Vals vs us) (h : sp vs H Q E) : wpAny (model X.prog X.w) A (call (.ref f) us) (EP X pins σ Q) X.xe s := by
  have hl : us.length = ps.length := by rw [← r.length]; exact F.len _ _ _ _ h
  have e0 : Env0 X.prog X.w X.K X.mg X.base A X.stack s H := by
    have e := I.env0
    exact ⟨by rw [hA]; exact e.frames, e.mod, e.bs, e.bsz, e.funs, e.frf, e.hok, e.bare⟩
  refine wpAny_call (codeAny_mono (F.run A X.stack s H ⟨us, []⟩ us vs Q E hr e0 (by
    have := hb s us I.kIn (by rw [List.append_nil]; exact hl)
    rwa [List.append_nil] at this) r h) fun r s' hq => ?_)
  cases r with
  | error e => exact hx pins σ H s e s' I hq
  | ok fl =>
    cases fl with
    | ret u => exact I.after hq
    | next => exact False.elim hq
    | brk => exact False.elim hq
    | cont => exact False.elim hq

/-! ### == and != by an own == -/
/-- an own ==: gives a bool -/
def rEqL (C : Addr) (sp : Sp) (E : XK) (g : Bool → Bool) : R2 := fun x y H Q => ∃ a dx fs, x = .ref a ∧ H a = some (.ins C dx fs) ∧ ((∃ j, y = .int j) ∨ ∃ b dy gs, y = .ref b ∧ H b = some (.ins C dy gs)) ∧ sp [x, y] H (fun v H' => ∃ b, v = .bl b ∧ Q (.bl (g b)) H') E
def rEqR (C : Addr) (sp : Sp) (E : XK) (g : Bool → Bool) : R2 := fun x y H Q => ∃ i a dx fs, x = .int i ∧ y = .ref a ∧ H a = some (.ins C dx fs) ∧ sp [y, x] H (fun v H' => ∃ b, v = .bl b ∧ Q (.bl (g b)) H') E
theorem op_eqL (F : FnOk X.prog X.w X.K X.mg X.base CX k f fd ps sp) (hr : Room k X.A) (hs : PySem.W.findIn X.K (.ref C) "__eq__" = some (some (.ref f))) (hf : PySem.W.isFn X.K (.ref f) = true) (hn : PySem.W.notFirst X.K C (.type "int") = true) (hb : Binds X.K fd ps []) (hx : Passes CX X E) :
    OpR X (compareOp .Eq) (rEqL C sp E fun b => b) := by
  intro pins s σ H x y u v Q I rx ry h
  obtain ⟨a, dx, fs, rfl, ha, hy, hsp⟩ := h
  cases rx
  obtain ⟨mA, J, _⟩ := ins_get I.hok ha
  obtain ⟨od, J, _⟩ := J.look
  obtain ⟨m, hF⟩ := I.fr
  have r2 : Vals [V.ref a, y] [Value.ref a, v] := .cons rfl (.cons ry .nil)
  have fin : wpAny (model X.prog X.w) X.A (call (.ref f) [.ref a, v]) (PySem.W.CmpBack (EP X pins σ Q)) X.xe s := wpAny_mono (run_fn F hr hb .nil hx I r2 hsp) (fun w s' q => by
    obtain ⟨v', H', I', rv, b, rfl, q⟩ := q
    cases rv
    exact ⟨.bl b, H', I', rfl, q⟩) fun _ _ e => e
  show wpAny (model X.prog X.w) X.A (richCompare .Eq (.ref a) v) (EP X pins σ Q) X.xe s
  rcases hy with ⟨j, rfl⟩ | ⟨b, dy, gs, rfl, hb'⟩
  · obtain ⟨t, rfl⟩ := ry
    exact PySem.W.cmp_K (op := .Eq) (tb := .type "int") hr.units0 hF I.ok.mod.kin J (PySem.W.Looks.of_pure rfl) hn hs hf fin
  · cases ry
    obtain ⟨mB, J', _⟩ := ins_get I.hok hb'
    obtain ⟨od', J', _⟩ := J'.look
    exact PySem.W.cmp_K (op := .Eq) (tb := .ref C) hr.units0 hF I.ok.mod.kin J J'.type (by simp [PySem.W.notFirst]) hs hf fin
theorem bind_ne (self : Value) : bindSpecial (.builtin "object.__ne__") self = pure (.builtin "object.__ne__", [self]) :=
  (Slot.of (T := "object") (name := "__ne__") (owner := "object") (n := "__ne__") (by rw [typeLookup_type, builtinLookup_eq_fast]; kernel_rfl) (by decide +kernel) (by decide +kernel) (by decide +kernel)
    (.inl (by decide +kernel)) (by rw [isSubtype_type]; kernel_rfl)).bind self
theorem plain_ne : plainId "object.__ne__" = true := by decide +kernel
/-- x.__ne__(y) of an instance without its own one -/
theorem try_ne {pins : List (Addr × Obj)} {σ : L2.St} {H : Hp} {s : Shared} {a dx : Addr} {fs : List (Str × V)} {y : V} {v : Value} {Q : VK} (F : FnOk X.prog X.w X.K X.mg X.base CX k f fd ps sp) (hr : Room (k + 1) X.A) (hs : PySem.W.findIn X.K (.ref C) "__eq__" = some (some (.ref f)))
    (hn : PySem.W.findIn X.K (.ref C) "__ne__" = some (some (.builtin "object.__ne__"))) (hO : PySem.W.subIn X.K (.ref C) (.type "object") = some true) (hf : PySem.W.isFn X.K (.ref f) = true) (hb : Binds X.K fd ps []) (hx : Passes CX X E) (I : Inv X pins σ H s)
    (ha : H a = some (.ins C dx fs)) (ry : RelV y v) (hsp : sp [.ref a, y] H (fun v H' => ∃ b, v = .bl b ∧ Q (.bl (!b)) H') E) :
    wpAny (model X.prog X.w) X.A (tryCompare (.ref a) "__ne__" v) (fun r s' => ∃ w, r = some w ∧ EP X pins σ Q w s') X.xe s := by
  obtain ⟨mA, J, _⟩ := ins_get I.hok ha
  obtain ⟨od, J, _⟩ := J.look
  have KX := I.kIn
  have r2 : Vals [V.ref a, y] [Value.ref a, v] := .cons rfl (.cons ry .nil)
  have inner : wpAny (model X.prog X.w) X.A.in1 (Builtin.«object.__ne__» ⟨[.ref a, v], []⟩) (fun fin s' => ∃ b, fin = .done (.ret (.bool b)) ∧ EP X pins σ Q (.bool b) s') X.xe s := by
    unfold Builtin.«object.__ne__»
    repeat (first | with_reducible refine wpAny_cRoomFor hr.in1.units0 ?_ | ((fail_if_success (with_reducible show wpAny _ _ (callSpecialIfBound? _ _ _) _ _ _)); wp_step))
    refine (PySem.W.ifBound_K KX J hs hf (wpAny_mono (run_fnA F hr.in1 rfl hb hx I r2 hsp) (fun w s' q => ?_) fun _ _ e => e))
    obtain ⟨v', H', I', rv, b, rfl, q⟩ := q
    cases rv
    exact wpAny_bind (wpAny_truthy_bool (wpAny_pure ⟨_, rfl, .bl (!b), H', I', rfl, q⟩))
  unfold tryCompare
  simp only [callSpecialIfBound?, bindSpecialIfBound?]
  refine wpAny_bind (wpAny_holding (wpAny_bind (wpAny_bind (wpAny_bind (J.type.here ((PySem.W.looks_findIn KX hn).here ?_))))))
  refine wpAny_bind (wpAny_askSetting (wpAny_ite ?_))
  have t2 : PySem.W.Looks (model X.prog X.w) s.heap (isInstance (.ref a) (.type "object")) true := J.type.andThen (PySem.W.looks_subIn KX hO)
  have fin : wpAny (model X.prog X.w) X.A (call (.builtin "object.__ne__") ([.ref a] ++ [v]) >>= fun v => pure (some v)) (fun r s' => wpAny (model X.prog X.w) X.A (match (motive := Option Value → Sem (Option Value)) r with
      | some .notImplemented | none => pure none
      | some v => pure (some v)) (fun r s' => ∃ w, r = some w ∧ EP X pins σ Q w s') X.xe s') X.xe s := by
    refine wpAny_bind (wpAny_call (codeAny_call_builtin plain_ne PySem.F.cmpEntry_ne (PySem.W.check_slot PySem.F.cmpKind_ne PySem.F.cmpSplit_ne t2 (PySem.F.cmpArgs_ne _ _) (wpAny_mono inner (fun fin s' q => ?_) fun _ _ e => e))))
    obtain ⟨b, rfl, q⟩ := q
    exact wpAny_pure (wpAny_pure ⟨_, rfl, q⟩)
  split
  · exact wpAny_bind (wpAny_of_eq (bind_ne _) (wpAny_pure (by exact fin)))
  · exact wpAny_tryCatch (wpAny_bind (wpAny_of_eq (bind_ne _) (wpAny_pure (by exact fin))))
end
end Own
set_option maxRecDepth 100000
set_option maxHeartbeats 4000000
namespace Own
open PySem PySem.Spec PyProof.Rows L2
open AutoSeq1 (wpAny_loadPart')
section
variable {X : Cx} {CX : CXT} {k : Nat} {C f : Addr} {fd : FuncData} {ps : List Str} {sp : Sp} {E : XK}
theorem op_neL (F : FnOk X.prog X.w X.K X.mg X.base CX k f fd ps sp) (hr : Room (k + 1) X.A) (hs : PySem.W.findIn X.K (.ref C) "__eq__" = some (some (.ref f))) (hn : PySem.W.findIn X.K (.ref C) "__ne__" = some (some (.builtin "object.__ne__")))
    (hO : PySem.W.subIn X.K (.ref C) (.type "object") = some true) (hf : PySem.W.isFn X.K (.ref f) = true) (hN : PySem.W.notFirst X.K C (.type "int") = true) (hb : Binds X.K fd ps []) (hx : Passes CX X E) : OpR X (compareOp .NotEq) (rEqL C sp E fun b => !b) := by
  intro pins s σ H x y u v Q I rx ry h
  obtain ⟨a, dx, fs, rfl, ha, hy, hsp⟩ := h
  cases rx
  have one := try_ne F hr hs hn hO hf hb hx I ha ry hsp
  obtain ⟨mA, J, _⟩ := ins_get I.hok ha
  obtain ⟨od, J, _⟩ := J.look
  have KX := I.kIn
  have go : ∀ t : Value, PySem.W.Looks (model X.prog X.w) s.heap (typeOf v) t → PySem.W.notFirst X.K C t = true → wpAny (model X.prog X.w) X.A (richCompare .NotEq (.ref a) v) (EP X pins σ Q) X.xe s := fun t hT hn => by
    unfold richCompare
    simp only [oneThing_ref, cmpInfo_NotEq]
    refine wpAny_holding (wpAny_bind (wpAny_cRoomFor hr.units0 ?_))
    refine wpAny_bind (J.type.here (wpAny_bind (hT.here ?_)))
    split
    · rename_i q
      have e : PySem.W.subIn X.K t (.ref C) = some false := by
        rcases Bool.or_eq_true_iff.mp hn with e | e
        · rw [beq_iff_eq.mp e] at q; simp at q
        · exact beq_iff_eq.mp e
      refine wpAny_bind ((PySem.W.looks_subIn KX e).here ?_)
      simp only [Bool.false_eq_true, if_false]
      refine wpAny_bind (wpAny_mono one (fun r s' z => ?_) fun _ _ e => e)
      obtain ⟨v, rfl, hq⟩ := z
      exact wpAny_pure hq
    · refine wpAny_bind (wpAny_pure ?_)
      simp only [Bool.false_eq_true, if_false]
      refine wpAny_bind (wpAny_mono one (fun r s' z => ?_) fun _ _ e => e)
      obtain ⟨v, rfl, hq⟩ := z
      exact wpAny_pure hq
  show wpAny (model X.prog X.w) X.A (richCompare .NotEq (.ref a) v) (EP X pins σ Q) X.xe s
  rcases hy with ⟨j, rfl⟩ | ⟨b, dy, gs, rfl, hb'⟩
  · obtain ⟨t, rfl⟩ := ry
    exact go (.type "int") (PySem.W.Looks.of_pure rfl) hN
  · cases ry
    obtain ⟨mB, J', _⟩ := ins_get I.hok hb'
    obtain ⟨od', J', _⟩ := J'.look
    exact go (.ref C) J'.type (by simp [PySem.W.notFirst])
/-- int == instance, int != instance: the int declines -/
theorem refl_cmp {op : CmpOp} {pins : List (Addr × Obj)} {σ : L2.St} {H : Hp} {s : Shared} {i : Int} {t : Tok} {a dx : Addr} {fs : List (Str × V)} {Q : VK} {id : String} {B : Builtin} (hr : Room k X.A) (I : Inv X pins σ H s) (ha : H a = some (.ins C dx fs))
    (hsub : PySem.W.subIn X.K (.ref C) (.type "int") = some false) (slot : Slot "int" (cmpInfo op).2.1 id) (entry : entryFor table id = some B) (args : ∀ a b, argsOk id ⟨[a, b], []⟩)
    (dec : ∀ (b : Int) (u : Tok) (l : Addr) (C dx : Addr), Meets (B ⟨[.int b u, .ref l], []⟩) (fun _ R s => s.heap.get? l = some (PySem.W.instObj C dx) ∧ R (.ok (.ret .notImplemented)) s))
    (one : wpAny (model X.prog X.w) X.A (tryCompare (.ref a) (cmpInfo op).2.2 (.int i t)) (fun r s' => ∃ v, r = some v ∧ EP X pins σ Q v s') X.xe s) :
    wpAny (model X.prog X.w) X.A (richCompare op (.int i t) (.ref a)) (EP X pins σ Q) X.xe s := by
  obtain ⟨mA, O, _⟩ := ins_get I.hok ha
  obtain ⟨od, J, _⟩ := O.look
  have ho : s.heap.get? a = some (PySem.W.instObj C dx) := by
    obtain ⟨_, _, _, e, _⟩ := I.hok a _ ha
    exact e
  have KX := I.kIn
  have hT := typeIs_int s i t
  unfold richCompare
  simp only [hT.oneThing_none]
  refine wpAny_holding (wpAny_bind (wpAny_cRoomFor hr.units0 ?_))
  refine wpAny_bind (wpAny_typeOf hT (wpAny_bind (J.type.here ?_)))
  have hne1 : (Value.type "int" != Value.ref C) = true := rfl
  simp only [hne1, if_true]
  refine wpAny_bind ((PySem.W.looks_subIn KX hsub).here ?_)
  simp only [Bool.false_eq_true, if_false, Bool.not_false, if_true]
  refine wpAny_bind (m := tryCompare (.int i t) _ (.ref a)) (wpAny_tryCompare_declines hT slot (call_meets slot hT entry (args _ _) (dec i t a C dx) ⟨ho, rfl, ?_⟩))
  refine wpAny_bind (wpAny_mono one (fun r s' z => ?_) fun _ _ e => e)
  obtain ⟨v, rfl, hq⟩ := z
  exact wpAny_pure hq
theorem int_eq_dec (b : Int) (u : Tok) (l : Addr) (C dx : Addr) :
    Meets (Builtin.«int.__eq__» ⟨[.int b u, .ref l], []⟩) (fun _ R s => s.heap.get? l = some (PySem.W.instObj C dx) ∧ R (.ok (.ret .notImplemented)) s) :=
  .of_wp fun prog w A R s h => by obtain ⟨hp, g, d, tk, os⟩ := s; obtain ⟨hl, h⟩ := h; wp_walk using wpAny_loadPart' hl, wpAny_load hl; exact ⟨_, rfl, h⟩
theorem int_ne_dec (b : Int) (u : Tok) (l : Addr) (C dx : Addr) :
    Meets (Builtin.«int.__ne__» ⟨[.int b u, .ref l], []⟩) (fun _ R s => s.heap.get? l = some (PySem.W.instObj C dx) ∧ R (.ok (.ret .notImplemented)) s) :=
  .of_wp fun prog w A R s h => by obtain ⟨hp, g, d, tk, os⟩ := s; obtain ⟨hl, h⟩ := h; wp_walk using wpAny_loadPart' hl, wpAny_load hl; exact ⟨_, rfl, h⟩
theorem int_ge_dec (b : Int) (u : Tok) (l : Addr) (C dx : Addr) :
    Meets (Builtin.«int.__ge__» ⟨[.int b u, .ref l], []⟩) (fun _ R s => s.heap.get? l = some (PySem.W.instObj C dx) ∧ R (.ok (.ret .notImplemented)) s) :=
  .of_wp fun prog w A R s h => by obtain ⟨hp, g, d, tk, os⟩ := s; obtain ⟨hl, h⟩ := h; wp_walk using wpAny_loadPart' hl, wpAny_load hl; exact ⟨_, rfl, h⟩
theorem int_gt_dec (b : Int) (u : Tok) (l : Addr) (C dx : Addr) :
    Meets (Builtin.«int.__gt__» ⟨[.int b u, .ref l], []⟩) (fun _ R s => s.heap.get? l = some (PySem.W.instObj C dx) ∧ R (.ok (.ret .notImplemented)) s) :=
  .of_wp fun prog w A R s h => by obtain ⟨hp, g, d, tk, os⟩ := s; obtain ⟨hl, h⟩ := h; wp_walk using wpAny_loadPart' hl, wpAny_load hl; exact ⟨_, rfl, h⟩
theorem int_add_dec (b : Int) (u : Tok) (l : Addr) (C dx : Addr) :
    Meets (Builtin.«int.__add__» ⟨[.int b u, .ref l], []⟩) (fun _ R s => s.heap.get? l = some (PySem.W.instObj C dx) ∧ R (.ok (.ret .notImplemented)) s) :=
  .of_wp fun prog w A R s h => by obtain ⟨hp, g, d, tk, os⟩ := s; obtain ⟨hl, h⟩ := h; wp_walk using wpAny_loadPart' hl, wpAny_load hl; exact ⟨_, rfl, h⟩
theorem int_sub_dec (b : Int) (u : Tok) (l : Addr) (C dx : Addr) :
    Meets (Builtin.«int.__sub__» ⟨[.int b u, .ref l], []⟩) (fun _ R s => s.heap.get? l = some (PySem.W.instObj C dx) ∧ R (.ok (.ret .notImplemented)) s) :=
  .of_wp fun prog w A R s h => by obtain ⟨hp, g, d, tk, os⟩ := s; obtain ⟨hl, h⟩ := h; wp_walk using wpAny_loadPart' hl, wpAny_load hl; exact ⟨_, rfl, h⟩
theorem int_mul_dec (b : Int) (u : Tok) (l : Addr) (C dx : Addr) :
    Meets (Builtin.«int.__mul__» ⟨[.int b u, .ref l], []⟩) (fun _ R s => s.heap.get? l = some (PySem.W.instObj C dx) ∧ R (.ok (.ret .notImplemented)) s) :=
  .of_wp fun prog w A R s h => by obtain ⟨hp, g, d, tk, os⟩ := s; obtain ⟨hl, h⟩ := h; wp_walk using wpAny_loadPart' hl, wpAny_load hl; exact ⟨_, rfl, h⟩
theorem op_eqR (F : FnOk X.prog X.w X.K X.mg X.base CX k f fd ps sp) (hr : Room k X.A) (hs : PySem.W.findIn X.K (.ref C) "__eq__" = some (some (.ref f))) (hf : PySem.W.isFn X.K (.ref f) = true) (hsub : PySem.W.subIn X.K (.ref C) (.type "int") = some false) (hb : Binds X.K fd ps []) (hx : Passes CX X E) :
    OpR X (compareOp .Eq) (rEqR C sp E fun b => b) := by
  intro pins s σ H x y u v Q I rx ry h
  obtain ⟨i, a, dx, fs, rfl, rfl, ha, hsp⟩ := h
  obtain ⟨t, rfl⟩ := rx
  cases ry
  obtain ⟨mA, O, _⟩ := ins_get I.hok ha
  obtain ⟨od, J, _⟩ := O.look
  refine refl_cmp (op := .Eq) hr I ha hsub PySem.F.slot_int_eq PySem.F.entry_int_eq PySem.F.args_int_eq_2 int_eq_dec ?_
  unfold tryCompare
  have r2 : Vals [V.ref a, V.int i] [Value.ref a, Value.int i t] := .cons rfl (.cons ⟨t, rfl⟩ .nil)
  refine wpAny_bind (PySem.W.ifBound_K I.kIn J hs hf (wpAny_mono (run_fn F hr hb .nil hx I r2 hsp) (fun v s' hv => ?_) fun _ _ e => e))
  obtain ⟨v', H', I', rv, b, rfl, q⟩ := hv
  cases rv
  exact wpAny_pure ⟨_, rfl, .bl b, H', I', rfl, q⟩
theorem op_neR (F : FnOk X.prog X.w X.K X.mg X.base CX k f fd ps sp) (hr : Room (k + 1) X.A) (hs : PySem.W.findIn X.K (.ref C) "__eq__" = some (some (.ref f))) (hn : PySem.W.findIn X.K (.ref C) "__ne__" = some (some (.builtin "object.__ne__")))
    (hO : PySem.W.subIn X.K (.ref C) (.type "object") = some true) (hf : PySem.W.isFn X.K (.ref f) = true) (hsub : PySem.W.subIn X.K (.ref C) (.type "int") = some false) (hb : Binds X.K fd ps []) (hx : Passes CX X E) : OpR X (compareOp .NotEq) (rEqR C sp E fun b => !b) := by
  intro pins s σ H x y u v Q I rx ry h
  obtain ⟨i, a, dx, fs, rfl, rfl, ha, hsp⟩ := h
  obtain ⟨t, rfl⟩ := rx
  cases ry
  exact refl_cmp (op := .NotEq) (hr.mono (Nat.le_succ k)) I ha hsub PySem.F.slot_int_ne PySem.F.entry_int_ne PySem.F.args_int_ne_2 int_ne_dec (try_ne F hr hs hn hO hf hb hx I ha (y := .int i) ⟨t, rfl⟩ hsp)
/-- abs of an instance -/
def rAbs (C : Addr) (sp : Sp) (E : XK) : List V → Hp → VK → Prop := fun xs H Q => ∃ a dx fs, xs = [.ref a] ∧ H a = some (.ins C dx fs) ∧ sp [.ref a] H Q E
theorem call_ownAbs (F : FnOk X.prog X.w X.K X.mg X.base CX k f fd ps sp) (hr : Room (k + 1) X.A) (hs : PySem.W.findIn X.K (.ref C) "__abs__" = some (some (.ref f))) (hf : PySem.W.isFn X.K (.ref f) = true) (hb : Binds X.K fd ps []) (hx : Passes CX X E) :
    CallR X (.builtin "abs") (rAbs C sp E) := by
  intro pins s σ H xs us Q I r h
  obtain ⟨a, dx, fs, rfl, ha, hsp⟩ := h
  obtain ⟨u, rfl, ru⟩ := vals1 r
  obtain rfl : u = Value.ref a := ru
  obtain ⟨mA, J, _⟩ := ins_get I.hok ha
  obtain ⟨od, J, _⟩ := J.look
  have inner : wpAny (model X.prog X.w) X.A.in1 (Builtin.«abs» ⟨[.ref a], []⟩) (fun fin s' => ∃ v, fin = .done (.ret v) ∧ EP X pins σ Q v s') X.xe s := by
    unfold Builtin.«abs»
    repeat (first | ((fail_if_success (with_reducible show wpAny _ _ (callSpecial? _ _ _) _ _ _)); wp_step))
    refine PySem.W.special_fn I.kIn J hs (beq_iff_eq.mp hf) (wpAny_mono (run_fnA F hr.in1 rfl hb hx I (vs := [.ref a]) (.cons rfl .nil) hsp) (fun w s' q => ?_) fun _ _ e => e)
    exact wpAny_pure ⟨_, rfl, q⟩
  refine wpAny_call (codeAny_call_builtin (b := Builtin.«abs») (by decide +kernel) (entryFor_of_tree (by kernel_rfl)) ?_)
  have hchk : checkBuiltinCall "abs" ⟨[.ref a], []⟩ = pure () := by kernel_rfl
  refine wpAny_of_eq hchk (wpAny_mono inner (fun fin s' q => ?_) fun _ _ e => e)
  obtain ⟨v, rfl, q⟩ := q
  exact q
end
end Own
set_option maxRecDepth 100000
set_option maxHeartbeats 4000000
/-! Several except clauses, with and without a name. -/
namespace Own
open PySem PySem.Spec PyProof.Rows L2
/-- an exception of the body, come down, ahead of a clause -/
structure Dn (X : Cx) (pins : List (Addr × Obj)) (a : Addr) (cls : Value) (d : Option Addr) (σ : L2.St) (H : Hp) (B : Heap) (sI s : Shared) : Prop where
  J : Inv X pins σ H sI
  nb : ∀ b o, sI.heap.get? b = some o → b ∉ frs X.stack → B.get? b = some o
  up : sI.heap.UpToSlots s.heap
  fl : HandSPX.FlyingZ B (X.env :: X.outer) a (Zc cls d) s.heap
  na : H a = none
  os : s.os = sI.os
  ag : AllBare s.gens
section
variable {X : Cx} {pins : List (Addr × Obj)} {a : Addr} {cls : Value} {d : Option Addr} {σ : L2.St} {H : Hp} {B : Heap} {sI s : Shared}
theorem Dn.inv (k : Dn X pins a cls d σ H B sI s) : Inv X pins σ H s := k.J.landed k.nb k.fl.1 k.up k.os k.ag
theorem Dn.out (k : Dn X pins a cls d σ H B sI s) : a ∉ frs (X.env :: X.outer) := fun hm => by
  obtain ⟨oe, vs, he, _, hd⟩ := k.fl.there
  obtain ⟨_, o', e', hnf⟩ := k.fl.2.2.1.mem hm
  rw [he] at e'; cases e'
  exact hnf _ hd
theorem Dn.nL (k : Dn X pins a cls d σ H B sI s) (hf : X.env.frame = some X.env.locals) : a ≠ X.env.locals := fun z => k.out (by
  rw [z]
  exact List.mem_filterMap.mpr ⟨X.env, List.mem_cons_self, hf⟩)
theorem Dn.nF (k : Dn X pins a cls d σ H B sI s) : a ∉ X.fs := fun hm => by
  obtain ⟨e, he, q⟩ := List.mem_filterMap.mp hm
  exact k.out (List.mem_filterMap.mpr ⟨e, List.mem_cons_of_mem _ he, q⟩)
/-- what the clauses hds do with an exception for which w holds -/
def Cl (X : Cx) (hds : List ExceptHandler) (w : Ends → WX) : Prop :=
  ∀ (pins : List (Addr × Obj)) (a : Addr) (cls : Value) (d : Option Addr) (σ : L2.St) (H : Hp) (B : Heap) (sI s : Shared) (D : Ends), Dn X pins a cls d σ H B sI s → w D cls d σ H →
    wpAny (model X.prog X.w) X.A (handleBy (.ref a) X.env hds) (SP X pins D) X.xe s
theorem cl_nil {Wout : WX} (hs : X.stack = X.env :: X.outer) (hf : X.env.frame = some X.env.locals) (tk : Takes X Wout) : Cl X [] fun _ => Wout := by
  intro pins a cls d σ H B sI s D k w
  refine wpAny_handleBy_nil ?_
  obtain ⟨k1, k2, k3, oe, vs, T, oT, ts', he, hz, hd, h1, hr⟩ := id k.fl
  unfold PySem.passOn
  refine wpAny_bind (wpAny_field he hd h1 ?_)
  rw [if_neg (show ¬ ((Value.ref T == Value.none) = true) from by simp)]
  have go : wpAny (model X.prog X.w) X.A (setFlight (.ref a) X.env.frame) (fun _ s2 => wpAny (model X.prog X.w) X.A (throw (.ref a) : Sem Flow) (SP X pins D) X.xe s2) X.xe s := by
    rw [hf]
    exact HandSPX.setFlight_upZ k.fl fun h2 hh up => wpAny_throw (tk _ _ ⟨a, B, sI, pins, σ, H, cls, d, rfl, k.J, k.nb, k.up.trans up, .inr (.inr (by rw [hs]; exact hh)), k.na, k.os, k.ag, w⟩)
  first
    | exact wpAny_bind (wpAny_pure (wpAny_bind go))
    | exact wpAny_bind go
/-- the clause's class is looked up and compared -/
theorem Dn.ask {x : Str} {np : Pos} {c : Value} {b : Bool} {Q : Bool → Shared → Prop} {E : Value → Shared → Prop} (k : Dn X pins a cls d σ H B sI s) (hf : X.env.frame = some X.env.locals) (hc : Names X x c) (hb : PySem.W.exmOne X.K cls c = some b) (q : Q b s) :
    wpAny (model X.prog X.w) (X.A.mark (some (.ref a))) (eval (.Name x np) X.env) (fun c s₁ => wpAny (model X.prog X.w) (X.A.mark (some (.ref a))) (excMatches (.ref a) c) Q E s₁) E s := by
  obtain ⟨oe, vs, he, hz, hd⟩ := k.fl.there
  have S := k.inv.suite he hd k.na (k.nL hf) k.nF
  have ty : PySem.W.Looks (model X.prog X.w) s.heap (typeOf (.ref a)) cls := fun A Q E s k q => wpAny_typeOf_ref (k _ _ he) (by rw [hz.1]; exact q)
  have em := PySem.W.exm_one (M := model X.prog X.w) k.inv.kIn ty hb
  obtain ⟨hg, hdb, hm | ⟨hm, hv, hnn⟩⟩ := hc
  · exact ld_glob (X := X.suite a ((a, oe) :: (X.pn ++ pins))) S hg hm (em.here q) hdb
  · exact ld_blt (X := X.suite a ((a, oe) :: (X.pn ++ pins))) S hg hm hv (em.here q) hnn hdb
theorem cl_on {x : Str} {c : Value} {ts : Addr → Value → Option Addr → TS} {b₀ : Stmt} {suite : List Stmt} {np pos : Pos} {hds : List ExceptHandler} {w : Ends → WX} (hf : X.env.frame = some X.env.locals) (hc : Names X x c)
    (hsu : ∀ (a : Addr) (oe : Obj) (cls : Value) (d : Option Addr) (pn : List (Addr × Obj)), Zc cls d oe → (∃ vs, oe.data = .fields vs) → PSs (X.suite a ((a, oe) :: pn)) (b₀ :: suite) (ts a cls d)) (r : Cl X hds w) :
    Cl X (.ExceptHandler (some (.Name x np)) none (b₀ :: suite) pos :: hds) fun D cls d σ H => ∃ b, PySem.W.exmOne X.K cls c = some b ∧ (b = true → ∀ a, H a = none → ts a cls d D σ H) ∧ (b = false → w D cls d σ H) := by
  intro pins a cls d σ H B sI s D k ⟨b, hb, yes, no⟩
  refine wpAny_handleBy_cons (codeAny_handlers_test (k.ask hf hc hb ?_)) (by intro q; cases q)
  cases b with
  | false => exact r pins a cls d σ H B sI s D k (no rfl)
  | true =>
    refine codeAny_handlers_suite (HandSPX.lands_againZ k.fl fun h2 fl2 up2 => ?_)
    have k2 : Dn X pins a cls d σ H B sI { s with heap := h2 } := ⟨k.J, k.nb, k.up.trans up2, fl2, k.na, k.os, k.ag⟩
    obtain ⟨oe, vs, he, hz, hd⟩ := fl2.there
    have S := k2.inv.suite he hd k.na (k.nL hf) k.nF
    refine wpAny_mono ((hsu a oe cls d (X.pn ++ pins) hz ⟨_, hd⟩).run [] _ σ H _ S (yes rfl a k.na)) (fun f s3 hsp => ?_) (fun _ _ z => False.elim z)
    have ok := k.J.ok
    cases f with
    | next => obtain ⟨σ3, H3, S3, q3⟩ := hsp; exact ⟨σ3, H3, S3.unsuite ok, q3⟩
    | brk => obtain ⟨σ3, H3, S3, q3⟩ := hsp; exact ⟨σ3, H3, S3.unsuite ok, q3⟩
    | cont => obtain ⟨σ3, H3, S3, q3⟩ := hsp; exact ⟨σ3, H3, S3.unsuite ok, q3⟩
    | ret u => obtain ⟨v3, σ3, H3, S3, r3, q3⟩ := hsp; exact ⟨v3, σ3, H3, S3.unsuite ok, r3, q3⟩
/-- what is wanted behind a suite whose name goes -/
def Ends.gone (D : Ends) (i : Nat) : Ends := { nx := fun σ H => D.nx (σ.set i none) H, rt := D.rt, bk := fun σ H => D.bk (σ.set i none) H, ct := fun σ H => D.ct (σ.set i none) H }
theorem cl_as {x n : Str} {c : Value} {i : Nat} {ts : Addr → Value → Option Addr → TS} {b₀ : Stmt} {suite : List Stmt} {np pos : Pos} {hds : List ExceptHandler} {w : Ends → WX} (hf : X.env.frame = some X.env.locals) (hN : X.N.Nodup) (hi : X.N[i]? = some n) (hln : X.env.kindOf n = some .local) (hc : Names X x c)
    (hsu : ∀ (a : Addr) (oe : Obj) (cls : Value) (d : Option Addr) (pn : List (Addr × Obj)), Zc cls d oe → (∃ vs, oe.data = .fields vs) → PSs (X.suite a ((a, oe) :: pn)) (b₀ :: suite) (ts a cls d)) (r : Cl X hds w) :
    Cl X (.ExceptHandler (some (.Name x np)) (some n) (b₀ :: suite) pos :: hds) fun D cls d σ H => ∃ b, PySem.W.exmOne X.K cls c = some b ∧ (b = true → ∀ a, H a = none → ts a cls d (Ends.gone D i) (σ.set i (some (.ref a))) H) ∧ (b = false → w D cls d σ H) := by
  intro pins a cls d σ H B sI s D k ⟨b, hb, yes, no⟩
  refine wpAny_handleBy_cons (codeAny_handlers_test (k.ask hf hc hb ?_)) (by intro q; cases q)
  cases b with
  | false => exact r pins a cls d σ H B sI s D k (no rfl)
  | true =>
    refine codeAny_handlers_suite_as (HandSPX.lands_againZ k.fl fun h2 fl2 up2 => ?_)
    have k2 : Dn X pins a cls d σ H B sI { s with heap := h2 } := ⟨k.J, k.nb, k.up.trans up2, fl2, k.na, k.os, k.ag⟩
    obtain ⟨oe, vs, he, hz, hd⟩ := fl2.there
    have S := k2.inv.suite he hd k.na (k.nL hf) k.nF
    have ok := k.J.ok
    refine store_ok (X := X.suite a ((a, oe) :: (X.pn ++ pins))) (v := .ref a) S hN hi (.inl hln) rfl (fun s3 S3 => ?_) (.inr hln)
    refine wpAny_mono ((hsu a oe cls d (X.pn ++ pins) hz ⟨_, hd⟩).run [] s3 _ H _ S3 (yes rfl a k.na)) (fun f s4 hsp => ?_) (fun _ _ z => False.elim z)
    have bye : ∀ {σ4 : L2.St} {H4 : Hp} {Q : Shared → Prop}, Inv (X.suite a ((a, oe) :: (X.pn ++ pins))) [] σ4 H4 s4 → (∀ s5, Inv X pins (σ4.set i none) H4 s5 → Q s5) →
        wpAny (model X.prog X.w) X.A (do bindName X.env n .none; unbindBehindTheSuite X.env n pos) (fun _ s5 => Q s5) X.xe s4 := fun {σ4 H4 Q} S4 hq => gone_ok (S4.unsuite ok) hN hi hln hq
    cases f with
    | next => obtain ⟨σ4, H4, S4, q4⟩ := hsp; exact bye S4 fun s5 J5 => ⟨_, _, J5, q4⟩
    | brk => obtain ⟨σ4, H4, S4, q4⟩ := hsp; exact bye S4 fun s5 J5 => ⟨_, _, J5, q4⟩
    | cont => obtain ⟨σ4, H4, S4, q4⟩ := hsp; exact bye S4 fun s5 J5 => ⟨_, _, J5, q4⟩
    | ret u => obtain ⟨v4, σ4, H4, S4, r4, q4⟩ := hsp; exact bye S4 fun s5 J5 => ⟨_, _, _, J5, r4, q4⟩
end
section
variable {X : Cx} {body : List Stmt} {h₀ : ExceptHandler} {hds : List ExceptHandler} {pos : Pos} {tb : WX → TS} {w : Ends → WX}
theorem ps_try_cl (hs : X.stack = X.env :: X.outer) (hf : X.env.frame = some X.env.locals)
    (hb : ∀ (W : WX) (pn : List (Addr × Obj)) (xe : Value → Shared → Prop), Takes (X.tr pn xe) W → PassesOwn (model X.prog X.w) X.A X.env xe → PSs (X.tr pn xe) body (tb W)) (hh : Cl X (h₀ :: hds) w) :
    PS X (.Try body (h₀ :: hds) [] [] pos) (fun D σ H => tb (w D) D σ H) := by
  refine ⟨fun pins s σ H D I h => ?_⟩
  have ok := I.ok
  have hfr : X.A.frames = some (X.env :: X.outer) := by rw [ok.frames, hs]
  refine wpAny_Try_except ?_
  have catch_ : Takes (X.tr (X.pn ++ pins) fun e s₁ => wpAny (model X.prog X.w) X.A (noteFrame e X.env) (fun _ s₂ => wpAny (model X.prog X.w) X.A (setFlight e none) (fun _ s₃ =>
      wpAny (model X.prog X.w) X.A (handleBy e X.env (h₀ :: hds)) (SP X pins D) X.xe s₃) X.xe s₂) X.xe s₁) (w D) := fun u s' xx => by
    obtain ⟨a, B, sI, pins', σ', H', cls, d, rfl, J', nb, up, sky, na, os, ag, ww⟩ := xx
    have sky' : Sky B (X.env :: X.outer) a (Zc cls d) X.env.locals s'.heap := by rw [← hs]; exact sky
    exact Sky.land Zc.steady hfr hf sky' fun h3 fl3 up3 => hh pins a cls d σ' H' B sI _ D ⟨J'.ofTry ok, nb, up.trans up3, fl3, na, os, ag⟩ ww
  refine wpAny_mono ((hb (w D) (X.pn ++ pins) _ catch_ PassesOwn.looking).run [] s σ H D (I.toTry _) h) (fun f s1 hsp => ?_) (fun e s1 he => he)
  cases f with
  | next => obtain ⟨σ', H', J', q⟩ := hsp; exact wpAny_execs_nil ⟨σ', H', J'.ofTry ok, q⟩
  | brk => obtain ⟨σ', H', J', q⟩ := hsp; exact ⟨σ', H', J'.ofTry ok, q⟩
  | cont => obtain ⟨σ', H', J', q⟩ := hsp; exact ⟨σ', H', J'.ofTry ok, q⟩
  | ret u => obtain ⟨v, σ', H', J', r, q⟩ := hsp; exact ⟨v, σ', H', J'.ofTry ok, r, q⟩
end
end Own
set_option maxRecDepth 100000
set_option maxHeartbeats 4000000
/-! Promises of defs that are called where no object is being shown (for repr), and the end of such a law, with tables of code objects. -/
namespace Own
open PySem PySem.Spec PyProof.Rows L2
structure FnG (P : Program) (w : World) (K : PySem.W.Frag) (mg : Str → Option Value) (base : Heap) (CX : CXT) (k : Nat) (f : Addr) (fd : FuncData) (ps : List Str) (sp : Sp) : Prop where
  len : ∀ vs H Q E, sp vs H Q E → vs.length = ps.length
  run : ∀ (A : Around) (outer : List Env) (s : Shared) (H : Hp) (args : Args) (us : List Value) (vs : List V) (Q : VK) (E : XK), A.guards = some [] → Room k A → Env0 P w K mg base A outer s H → BindsTo s fd args (ps.zip us) → Vals vs us →
    sp vs H Q E → codeAny (model P w) A (.call (.ref f) args) (CR CX outer P w H s Q E) s
section
variable {P : Program} {w : World} {K : PySem.W.Frag} {mg : Str → Option Value} {base : Heap} {x qual : Str} {st : Stmt} {f c : Addr} {fd : FuncData} {N ps : List Str} {k : Nat} {sp : Sp}
theorem okG (F : Fun K x qual st f fd) (S : FnScope N ps (defScope st)) (len : ∀ vs H Q E, sp vs H Q E → vs.length = ps.length)
    (hbody : ∀ (cdv : Value) (A : Around) (outer : List Env) (s : Shared) (H : Hp) (vs : List V) (Q : VK) (E : XK), A.guards = some [] → Room k (A.deeper (envOfC qual (defScope st) s.heap.objs.size f cdv)) → sp vs H Q E →
      ∃ t, PSs (cxOf CX0 P w K mg base N qual (defScope st) f cdv A outer s H E).nox (defBody st) t ∧ t { nx := fun _ H' => Q .non H', rt := Q } (start N vs) H) : FnG P w K mg base CX0 (k + 1) f fd ps sp := by
  obtain ⟨oc, od, kV, doc, pm, an, cdv, ct, osl, rfl, lk, hcd⟩ := F.ex
  refine ⟨len, fun A outer s H args us vs Q E hg hr e0 hb r hsp => LamX.run_ofS lk hcd S hr e0 hb r (len _ _ _ _ hsp) fun hr2 => ?_⟩
  obtain ⟨t, h, q⟩ := hbody cdv A outer s H vs Q E hg hr2 hsp
  exact ⟨t, h.nox, q⟩
/-- its code object is known -/
theorem okC (F : Fun K x qual st f fd) (hc : fd.code = .ref c) (S : FnScope N ps (defScope st)) (len : ∀ vs H Q E, sp vs H Q E → vs.length = ps.length)
    (hbody : ∀ (A : Around) (outer : List Env) (s : Shared) (H : Hp) (vs : List V) (Q : VK) (E : XK), Room k (A.deeper (envOfC qual (defScope st) s.heap.objs.size f (.ref c))) → sp vs H Q E →
      ∃ t, PSs (cxOf CX0 P w K mg base N qual (defScope st) f (.ref c) A outer s H E).nox (defBody st) t ∧ t { nx := fun _ H' => Q .non H', rt := Q } (start N vs) H) : FnOk P w K mg base CX0 (k + 1) f fd ps sp := by
  obtain ⟨oc, od, kV, doc, pm, an, cdv, ct, osl, rfl, lk, hcd⟩ := F.ex
  obtain rfl : cdv = .ref c := hc
  refine fn_of lk hcd S len fun A outer s H vs Q E hr hsp => ?_
  obtain ⟨t, h, q⟩ := hbody A outer s H vs Q E hr hsp
  exact ⟨t, h.nox, q⟩
end
section
variable {X : Cx} {CX : CXT} {k : Nat} {f : Addr} {fd : FuncData} {ps : List Str} {sp : Sp} {E : XK} {x : Str} {e : Expr} {es : List Expr} {t : TA} {p pos : Pos}
theorem run_fnG {pins : List (Addr × Obj)} {σ : L2.St} {H : Hp} {s : Shared} {Q : VK} {us : List Value} {vs : List V} (F : FnG X.prog X.w X.K X.mg X.base CX k f fd ps sp) (hg : X.A.guards = some []) (hr : Room k X.A) (hb : Binds X.K fd ps []) (hx : Passes CX X E)
    (I : Inv X pins σ H s) (r : Vals vs us) (h : sp vs H Q E) : wpAny (model X.prog X.w) X.A (call (.ref f) us) (EP X pins σ Q) X.xe s := by
  have hl : us.length = ps.length := by rw [← r.length]; exact F.len _ _ _ _ h
  have hb2 : BindsTo s fd ⟨us, []⟩ (ps.zip us) := by
    have := hb s us I.kIn (by rw [List.append_nil]; exact hl)
    rwa [List.append_nil] at this
  refine wpAny_call (codeAny_mono (F.run X.A X.stack s H ⟨us, []⟩ us vs Q E hg hr I.env0 hb2 r h) fun r s' hq => ?_)
  match r, hq with
  | .error e, hq => exact hx pins σ H s e s' I hq
  | .ok (.ret u), hq => exact I.after hq
  | .ok .next, hq => exact False.elim hq
  | .ok .brk, hq => exact False.elim hq
  | .ok .cont, hq => exact False.elim hq
theorem pe_callG (F : FnG X.prog X.w X.K X.mg X.base CX k f fd ps sp) (hg : X.A.guards = some []) (hr : Room k X.A) (hn : Gl X x) (hm : X.mg x = some (.ref f)) (hk : PySem.W.keepIn X.K (.ref f) = true) (hb : Binds X.K fd ps []) (hx : Passes CX X E)
    (ha : PA X (e :: es) t) (hdb : (x == ("__debug__" : Str)) = false := by decide) (he : starEach (e :: es) X.env = (false, eval e X.env) :: starEach es X.env := by rfl) (hpl : (backTo pos (starEach es X.env)).any (·.1) = false := by rfl) :
    PE X (.Call (.Name x p) (e :: es) [] pos) (fun σ H Q => t σ H fun vs H1 => sp vs H1 Q E) := by
  refine ⟨fun pins s σ H Q I h => wpAny_Call_Name_kw (ld_glob I hn hm ?_ hdb)⟩
  refine PySem.W.callWith_K (h₀ := X.base) I.ok.mod.kin hk (thn (ha.run pos pins s σ H _ I h) fun us s1 z => ?_) he hpl
  obtain ⟨vs, H1, I1, r, q⟩ := z
  exact ⟨I1.kIn, run_fnG F hg hr hb hx I1 r q⟩
/-- repr of data -/
def rRepr (K : PySem.W.Frag) : List V → Hp → VK → Prop := fun xs H Q => ∃ a d, xs = [.ref a] ∧ Dp K H (.ref a) d ∧ d.showable = true ∧ d.hasDict = false ∧ d.depth ≤ 60 ∧ d.shown.length ≤ sizeLine ∧ Q (.str d.shown) H
theorem call_repr (hg : X.A.guards = some []) (hu : X.A.units + 64 < cLine) : CallR X (.builtin "repr") (rRepr X.K) := by
  intro pins s σ H xs us Q I r h
  obtain ⟨a, d, rfl, hd, h1, h2, h3, h4, q⟩ := h
  obtain ⟨u, rfl, ru⟩ := vals1 r
  obtain rfl : u = Value.ref a := ru
  obtain ⟨as, rd⟩ := Dp.reads I d _ _ hd rfl
  exact repr_of_reads' rd h1 (fun e => by rw [h2] at e; cases e) hg (by omega) (fun _ _ e => e) (fun h' u tk hk => ⟨.str d.shown, H, I.kept hk, ⟨u, rfl⟩, q⟩) h4
end

/-! ### the end -/
/-- what is tracked at the law's entry: the tables, and the script unless it is the module's own -/
structure Ent (P : Program) (w : World) (K : PySem.W.Frag) (a : Addr) (cs : List (Addr × Addr)) (h : Heap) (ns : List Int) (H : Hp) : Prop where
  tab : ∀ p ∈ cs, H p.2 = some (.tbl #[])
  scr : SqL K H a (ns.map V.int)
  ok : HOk P w H h
  out : ∀ b u, H b = some u → K.lookup b = none
  only : ∀ b u, H b = some u → (u = .tbl #[] ∧ b ∈ cs.map (·.2)) ∨ (∃ xs o, u = .frz o (.lst xs) ∧ b = a)
theorem ent {P : Program} {w : World} {K : PySem.W.Frag} {a : Addr} {cs : List (Addr × Addr)} {h : Heap} {vs : List Value} {ns : List Int} (KX : K.In h) (hT : ∀ p ∈ cs, h.get? p.2 = some { cls := .none, data := .fields #[] }) (nT : ∀ p ∈ cs, K.lookup p.2 = none)
    (ha : h.get? a = some { cls := .type "list", data := .seq vs.toArray }) (hi : IntsAre vs ns) (hl : ns.length ≤ sizeLine) : ∃ H, Ent P w K a cs h ns H := by
  have rv := vals_ints hi
  have inT : ∀ b, b ∈ cs.map (·.2) → h.get? b = some { cls := .none, data := .fields #[] } ∧ K.lookup b = none := fun b m => by
    obtain ⟨p, hp, rfl⟩ := List.mem_map.mp m
    exact ⟨hT p hp, nT p hp⟩
  have aT : a ∉ cs.map (·.2) := fun m => by
    have z := (inT a m).1
    rw [ha] at z
    exact nomatch congrArg Obj.cls (Option.some.inj z)
  have hm : ∀ p ∈ cs, p.2 ∈ cs.map (·.2) := fun p hp => List.mem_map_of_mem hp
  by_cases hk : K.lookup a = none
  · refine ⟨fun b => if b ∈ cs.map (·.2) then some (.tbl #[]) else if b = a then some (.frz { cls := .type "list", data := .seq vs.toArray } (.lst (ns.map V.int))) else none,
      fun p hp => if_pos (hm p hp), .inl (.inr ⟨{ cls := .type "list", data := .seq vs.toArray }, ?_⟩), fun b u e => ?_, fun b u e => ?_, fun b u e => ?_⟩
    · show (if a ∈ cs.map (·.2) then _ else _) = _
      rw [if_neg aT, if_pos rfl]
    · by_cases m : b ∈ cs.map (·.2)
      · rw [if_pos m] at e
        cases e
        exact (inT b m).1
      · rw [if_neg m] at e
        by_cases eb : b = a
        · rw [if_pos eb] at e
          cases e
          subst eb
          exact ⟨ha, by rw [List.length_map]; exact hl, vs, _, rv, ha⟩
        · rw [if_neg eb] at e
          cases e
    · by_cases m : b ∈ cs.map (·.2)
      · exact (inT b m).2
      · rw [if_neg m] at e
        by_cases eb : b = a
        · rw [eb]; exact hk
        · rw [if_neg eb] at e
          cases e
    · by_cases m : b ∈ cs.map (·.2)
      · rw [if_pos m] at e
        cases e
        exact .inl ⟨rfl, m⟩
      · rw [if_neg m] at e
        by_cases eb : b = a
        · rw [if_pos eb] at e
          cases e
          exact .inr ⟨_, _, rfl, eb⟩
        · rw [if_neg eb] at e
          cases e
  · obtain ⟨o, ho⟩ := Option.ne_none_iff_exists'.mp hk
    have e0 := KX a o ho
    rw [ha] at e0
    cases e0
    refine ⟨fun b => if b ∈ cs.map (·.2) then some (.tbl #[]) else none, fun p hp => if_pos (hm p hp), .inr ⟨_, vs.toArray, _, ho, rfl, rfl, rfl, by rw [List.size_toArray, hi.length]; exact hl, by simpa using rv⟩, fun b u e => ?_, fun b u e => ?_, fun b u e => ?_⟩
    · by_cases m : b ∈ cs.map (·.2)
      · rw [if_pos m] at e
        cases e
        exact (inT b m).1
      · rw [if_neg m] at e
        cases e
    · by_cases m : b ∈ cs.map (·.2)
      · exact (inT b m).2
      · rw [if_neg m] at e
        cases e
    · by_cases m : b ∈ cs.map (·.2)
      · rw [if_pos m] at e
        cases e
        exact .inl ⟨rfl, m⟩
      · rw [if_neg m] at e
        cases e
end Own
set_option maxRecDepth 100000
set_option maxHeartbeats 4000000
namespace Own
open PySem PySem.Spec PyProof.Rows L2
open LamX (TabB)
section
variable {P : Program} {w : World} {K : PySem.W.Frag} {a : Addr} {cs : List (Addr × Addr)} {h : Heap} {vs : List Value} {ns : List Int} {H : Hp}
theorem Ent.none (T : Ent P w K a cs h ns H) (ha : h.get? a = some { cls := .type "list", data := .seq vs.toArray }) {b : Addr} {o : Obj} (e : h.get? b = some o) (h1 : ∀ vs n, o.data ≠ .seq vs n) (h2 : o.data ≠ .fields #[]) : H b = none := by
  cases q : H b with
  | none => rfl
  | some u =>
    rcases T.only b u q with ⟨rfl, _⟩ | ⟨_, _, _, rfl⟩
    · have z : h.get? b = some { cls := .none, data := .fields #[] } := T.ok b _ q
      rw [e] at z
      cases z
      exact absurd rfl h2
    · rw [ha] at e
      cases e
      exact absurd rfl (h1 _ _)
theorem Ent.dict (T : Ent P w K a cs h ns H) (ha : h.get? a = some { cls := .type "list", data := .seq vs.toArray }) {b : Addr} {o : Obj} {es : Array DictEntry} {n : Nat} (e : h.get? b = some o) (d : o.data = .dict es n) : H b = .none := T.none ha e (fun vs n z => nomatch d.symm.trans z) fun z => nomatch d.symm.trans z
theorem Ent.nsp (T : Ent P w K a cs h ns H) (ha : h.get? a = some { cls := .type "list", data := .seq vs.toArray }) {b : Addr} {m : Str → Option Value} (x : h.Ns b m) : (hidT h H).Ns b m := by
  obtain ⟨o, es, n, e, d, r⟩ := x
  exact ⟨o, es, n, hidT_get e (T.dict ha e d), d, r⟩
theorem Ent.kin (T : Ent P w K a cs h ns H) (KX : K.In h) : K.In (hidT h H) := fun b o e => hidT_get (KX b o e) (by
  cases q : H b with
  | none => rfl
  | some u => rw [T.out b u q] at e; cases e)
theorem Ent.tabB (T : Ent P w K a cs h ns H) (ha : h.get? a = some { cls := .type "list", data := .seq vs.toArray }) {mg : Str → Option Value} (hg : h.Ns mainGlobals mg) {c p : Addr} (hP : h.get? p = some { cls := .none, data := .fields #[] }) (C : PySem.W.CodeHd h c p)
    (hbm : ∃ (bm : Addr) (ob : Obj), mg "__builtins__" = some (.ref bm) ∧ bm ≠ builtinsNs ∧ h.get? bm = some ob ∧ ob.cls = .type "module" ∧ ob.dict = some builtinsNs ∧ ob.data = .plain) : TabB (hidT h H) mg c p := by
  obtain ⟨og, es, n, eg, dg, _⟩ := hg
  refine ⟨?_, ?_, fun z => ?_⟩
  · obtain ⟨o, us, file, tf, flags, tg, inF, text, tt, e, r1, r2, r3, r⟩ := C
    refine ⟨o, us, file, tf, flags, tg, inF, text, tt, hidT_get e (T.none ha e (fun _ _ z => nomatch r2.symm.trans z) fun z => ?_), r1, r2, r3, r⟩
    have z2 := r2.symm.trans z
    cases z2
    simp at r3
  · obtain ⟨bm, ob, b1, b2, b3, b4, b5, b6⟩ := hbm
    refine ⟨bm, ob, b1, b2, fun z => ?_, fun z => ?_, hidT_get b3 (T.none ha b3 (fun _ _ z => nomatch b6.symm.trans z) fun z => nomatch b6.symm.trans z), b4, b5, b6⟩
    · rw [z, eg] at b3
      cases b3
      exact nomatch dg.symm.trans b6
    · rw [z, hP] at b3
      cases b3
      exact nomatch b6
  · rw [z, hP] at eg
    cases eg
    exact nomatch dg
/-- from the law's promise, at the heap behind the top -/
theorem law_callG {mg mb : Str → Option Value} {k : Nat} {fa : Addr} {fd : FuncData} {x : Str} {sp : Sp} {s : Shared} (KX : K.In s.heap) (hg : s.heap.Ns mainGlobals mg) (hb : s.heap.Ns builtinsNs mb) (hbb : ∀ x : Str, x ≠ "__name__" → mb x = bootBuiltins x) (hlim : s.heap.NoLimit)
    (hgn : s.gens = #[]) (hT : ∀ p ∈ cs, s.heap.get? p.2 = some { cls := .none, data := .fields #[] }) (nT : ∀ p ∈ cs, K.lookup p.2 = none) (C : ∀ p ∈ cs, PySem.W.CodeHd s.heap p.1 p.2)
    (hbm : ∃ (bm : Addr) (ob : Obj), mg "__builtins__" = some (.ref bm) ∧ bm ≠ builtinsNs ∧ s.heap.get? bm = some ob ∧ ob.cls = .type "module" ∧ ob.dict = some builtinsNs ∧ ob.data = .plain)
    (ha : s.heap.get? a = some { cls := .type "list", data := .seq vs.toArray }) (hi : IntsAre vs ns) (hl : ns.length ≤ sizeLine) (hr : Room k callerA)
    (F : ∀ base : Heap, K.In base → base.Ns mainGlobals mg → (∀ p ∈ cs, TabB base mg p.1 p.2) → FnG P w K mg base CX0 k fa fd [x] sp) (hbind : ∀ (s : Shared) (u : Value), BindsTo s fd ⟨[u], []⟩ [(x, u)])
    (hsp : ∀ H : Hp, (∀ p ∈ cs, H p.2 = some (.tbl #[])) → SqL K H a (ns.map V.int) → sp [.ref a] H (fun v _ => v = .bl true) fun _ _ _ => False) :
    codeAny (model P w) callerA (.call (.ref fa) ⟨[.ref a], []⟩) (fun r s' => r = .ok (.ret (.bool true)) ∧ OldK s.heap s'.heap ∧ s'.os = s.os ∧ AllBare s'.gens) s := by
  obtain ⟨H, T⟩ := ent (P := P) (w := w) KX hT nT ha hi hl
  have KB := T.kin KX
  have GB := T.nsp ha hg
  have TB : ∀ p ∈ cs, TabB (hidT s.heap H) mg p.1 p.2 := fun p hp => T.tabB ha hg (hT p hp) (C p hp) hbm
  have M : L2.Mod K mg (hidT s.heap H) := ⟨KB, GB, ⟨mb, T.nsp ha hb, hbb⟩, by obtain ⟨mc, q1, q2⟩ := hlim; exact ⟨mc, T.nsp ha q1, q2⟩⟩
  have e0 : Env0 P w K mg (hidT s.heap H) callerA [] s H := { frames := rfl, mod := M, bs := fun b o e => of_hidT e, bsz := Nat.le_of_eq (hidT_size _ _), funs := trivial, frf := fun b m => absurd (show b ∈ ([] : List Addr) from m) List.not_mem_nil, hok := T.ok, bare := .of_eq hgn }
  refine codeAny_mono ((F _ KB GB TB).run callerA [] s H ⟨[.ref a], []⟩ [.ref a] [.ref a] _ _ rfl hr e0 (hbind s (.ref a)) (.cons rfl .nil) (hsp H T.tab T.scr)) fun r s' q => ?_
  match r, q with
  | .error e, q => exact False.elim q
  | .ok .next, q => exact False.elim q
  | .ok .brk, q => exact False.elim q
  | .ok .cont, q => exact False.elim q
  | .ok (.ret u), q =>
    obtain ⟨v, H', os, bare, un, ok', rv, qv⟩ := q
    obtain rfl : v = .bl true := qv
    obtain rfl : u = Value.bool true := rv
    have old : ∀ b o, s.heap.get? b = some o → (s'.heap.get? b = some o ∧ b ∉ cs.map (·.2)) ∨ (∃ p ∈ cs, p.2 = b ∧ o = { cls := .none, data := .fields #[] } ∧ ∃ more : Array Value, s'.heap.get? b = some { cls := .none, data := .fields more }) := fun b o e => by
      by_cases m : b ∈ cs.map (·.2)
      · obtain ⟨p, hp, rfl⟩ := List.mem_map.mp m
        obtain ⟨more, z⟩ := un.tbls p.2 #[] (T.tab p hp)
        rw [hT p hp] at e
        cases e
        exact .inr ⟨p, hp, rfl, rfl, _, ok' p.2 _ z⟩
      · refine .inl ⟨?_, m⟩
        cases q : H b with
        | none => exact un.keep b o e q (fun z => nomatch (show b ∈ ([] : List Addr) from z)) (fun z => nomatch (show b ∈ ([] : List Addr) from z))
        | some u =>
          rcases T.only b u q with ⟨_, m2⟩ | ⟨xs, ob, rfl, rfl⟩
          · exact absurd m2 m
          · have z1 := (T.ok _ _ q).1
            have z2 := (ok' _ _ (un.frzs _ ob _ q)).1
            rw [e] at z1
            cases z1
            exact z2
    refine ⟨rfl, ⟨fun b o e => ?_, fun b o e => ?_⟩, os, bare⟩
    · rcases old b o e with ⟨z, _⟩ | ⟨p, hp, rfl, rfl, more, z⟩
      · exact .inl z
      · exact .inr (.inl ⟨((C p hp).tab (hT p hp)).isCodeTable, rfl, #[], more, rfl, by rw [Array.empty_append]; exact z⟩)
    · rcases old b o e with ⟨z, _⟩ | ⟨p, hp, rfl, rfl, more, z⟩
      · exact ⟨_, z⟩
      · exact ⟨_, z⟩
end
/-- what is known of the law at the head's heap h; tabs: code objects and tables of the defs that make lambdas -/
structure LawG (l : PySem.W.OpenLaw) (w : World) (K : PySem.W.Frag) (k n : Nat) (x : Str) (mg : Str → Option Value) (fa : Addr) (h : Heap) (tabs : List (Addr × Addr)) : Prop where
  at_ : ∀ p ∈ tabs, PySem.W.CodeHd h p.1 p.2 ∧ h.get? p.2 = some (PySem.W.tabObj #[])
  out : ∀ p ∈ tabs, K.lookup p.2 = none
  pr : ∃ (fd : FuncData) (sp : Sp), (∀ (s : Shared) (u : Value), BindsTo s fd ⟨[u], []⟩ [(x, u)]) ∧
    (∀ (H : Hp) (a : Addr) (ns : List Int), ns.length ≤ n → (∀ p ∈ tabs, H p.2 = some (.tbl #[])) → SqL K H a (ns.map V.int) → sp [.ref a] H (fun v _ => v = .bl true) fun _ _ _ => False) ∧
    ∀ base : Heap, K.In base → base.Ns mainGlobals mg → (∀ p ∈ tabs, TabB base mg p.1 p.2) → FnG l.prog w K mg base CX0 k fa fd [x] sp
theorem walk_ofG {l : PySem.W.OpenLaw} {n k : Nat} {q : Program} {loose : List Str} {XP : (Str → Option Value) → Heap → Prop} {YP : World → Heap → Prop} {d : DefRec} {K : Params → PySem.W.Frag} {x : Str}
    (hn : l.most = some n) (hn2 : n ≤ sizeLine) (hdf : d.params.defaults = []) (hr : Room k callerA) (hY : ∀ (w : World) (h : Heap), YP w h → (K w.params).In h)
    (F : ∀ (w : World) (mg : Str → Option Value) (fa : Addr) (h : Heap), YP w h → (K w.params).In h → h.Ns mainGlobals mg → mg d.name = some (.ref fa) → ∃ tabs, LawG l w (K w.params) k n x mg fa h tabs) :
    PySem.W.WalkO q loose XP YP l.row.toRowW d [] (fun f vs => PySem.call f vs) := by
  refine Att.attach_call hn hdf fun w s₀ s₁ mg mb fa o pm cd doc a vs ns G Y ho hd hcd hmg hobj hints hlen hg => ?_
  have KX := hY w _ Y
  obtain ⟨tabs, L⟩ := F w mg fa _ Y KX G.T.g hmg
  obtain ⟨fd, sp, hb, hsp, hF⟩ := L.pr
  exact law_callG KX G.T.g G.T.b G.T.builtins G.T.nolimit hg (fun p hp => (L.at_ p hp).2) L.out (fun p hp => (L.at_ p hp).1) G.T.bmain hobj hints (Nat.le_trans hlen hn2) hr hF hb fun H h1 h2 => hsp H a ns hlen h1 h2
end Own
set_option maxRecDepth 100000
set_option maxHeartbeats 4000000
namespace Toy
open PySem L2
def top (i : Nat) : Stmt := PySem.Challenge.pw_anyfifth_k04_whole_ratios_in_order.main.body.getD i (.Pass ⟨0, 0, 0, 0⟩)

structure Bl (mg : Str → Option Value) : Prop where
  int : mg "int" = none
  len : mg "len" = none
  abs : mg "abs" = none
  list : mg "list" = none
  range : mg "range" = none
  isinstance : mg "isinstance" = none
  bool : mg "bool" = none
  gcd : mg "gcd" = some (.builtin "math.gcd")

/-- all but what stands at p is as it was -/
def But (p : Addr) (H H' : Hp) : Prop := ∀ b o, H b = some o → b ≠ p → H' b = some o
theorem But.refl {p : Addr} {H : Hp} : But p H H := fun _ _ h _ => h
theorem But.upd {p : Addr} {H H1 : Hp} {o : HO} (h : But p H H1) : But p H (upd H1 p o) := fun b u e n => by rw [upd_ne n]; exact h b u e n
theorem But.new {p q : Addr} {H H1 : Hp} {o : HO} (h : But p H H1) (hq : H1 q = none) : But p H (L2.upd H1 q o) := fun b u e n => by
  rw [upd_ne (ne_of_none (h b u e n) hq)]; exact h b u e n
theorem But.trans {p : Addr} {H H1 H2 : Hp} (a : But p H H1) (b : But p H1 H2) : But p H H2 := fun c u e n => b c u (a c u e n) n
theorem But.same {p : Addr} {H H' : Hp} (h : Same H H') : But p H H' := fun b o e _ => h b o e

/-- the state of the drawing at p, behind at most k draws -/
structure PenW (H : Hp) (p c : Addr) (ns : List Int) (b l : Int) : Prop where
  hp : H p = some (.lst [.ref c, .int b, .int l])
  hc : H c = some (.lst (ns.map V.int))
  ln : ns.length ≤ 63
  b0 : 0 ≤ b
def Pen (H : Hp) (p c : Addr) (k : Nat) : Prop := ∃ ns b l, PenW H p c ns b l ∧ b ≤ k
theorem PenW.ne {H : Hp} {p c : Addr} {ns : List Int} {b l : Int} (h : PenW H p c ns b l) : c ≠ p := by
  intro e
  have h1 := h.hp
  have h2 := h.hc
  rw [e, h1] at h2
  have h3 := Option.some.inj h2
  injection h3 with h4
  cases ns with
  | nil => cases h4
  | cons a r => injection h4 with h5 h6; cases h5
theorem PenW.put {H : Hp} {p c : Addr} {ns : List Int} {b l b' l' : Int} (h : PenW H p c ns b l) (hb : 0 ≤ b') : PenW (upd H p (.lst [.ref c, .int b', .int l'])) p c ns b' l' :=
  ⟨upd_same, by rw [upd_ne h.ne]; exact h.hc, h.ln, hb⟩
theorem PenW.new {H : Hp} {p c q : Addr} {ns : List Int} {b l : Int} {o : HO} (h : PenW H p c ns b l) (hq : H q = none) : PenW (upd H q o) p c ns b l :=
  ⟨by rw [upd_ne (ne_of_none h.hp hq)]; exact h.hp, by rw [upd_ne (ne_of_none h.hc hq)]; exact h.hc, h.ln, h.b0⟩
theorem Pen.same {H H' : Hp} {p c : Addr} {k : Nat} (h : Pen H p c k) (e : Same H H') : Pen H' p c k := by
  obtain ⟨ns, b, l, h, hk⟩ := h
  exact ⟨ns, b, l, ⟨e _ _ h.hp, e _ _ h.hc, h.ln, h.b0⟩, hk⟩
theorem Pen.mono {H : Hp} {p c : Addr} {k j : Nat} (h : Pen H p c k) (e : k ≤ j) : Pen H p c j := by
  obtain ⟨ns, b, l, h, hk⟩ := h
  exact ⟨ns, b, l, h, by omega⟩
theorem dpInts {K : PySem.W.Frag} {H : Hp} : ∀ ns : List Int, DpAll K H (ns.map V.int) (ns.map PyData.int)
  | [] => .nil
  | n :: r => .cons (.int n) (dpInts r)
theorem shInts (ns : List Int) : SeqAt.shaped (.list (ns.map PyData.int)) = true := PySem.W.ke_shaped_ints ns
theorem eqvNil (ns : List Int) : PyData.eqv (.list (ns.map PyData.int)) (.list []) = decide (ns = []) := by
  cases ns <;> rfl
theorem modB (a : Int) {m : Int} (h : 0 < m) : 0 ≤ a % m ∧ a % m < m := ⟨Int.emod_nonneg _ (by omega), Int.emod_lt_of_pos _ h⟩
theorem wide_m {i m : Int} (h : 0 < m) (hb : m.natAbs < 2 ^ 2000) : CDivW i m := wide_div h hb (by decide) (by decide)

theorem atI_in {α : Type} {xs : List α} {i : Int} (h0 : 0 ≤ i) (h1 : i < (xs.length : Int)) : atI xs i = some (xs[i.toNat]'(by omega)) := by
  have e : i = ((i.toNat : Nat) : Int) := by omega
  exact (congrArg (atI xs) e).trans (atI_nat (List.getElem?_eq_getElem (by omega)))

theorem p0 {j : Int} (h : decide (0 < j) = true) : 0 < j := of_decide_eq_true h
theorem mulB {x y M N : Int} (hx : 0 ≤ x) (hxM : x ≤ M) (hy : 0 ≤ y) (hyN : y ≤ N) : 0 ≤ x * y ∧ x * y ≤ M * N := ⟨Int.mul_nonneg hx hy, Int.mul_le_mul hxM hyN hy (by omega)⟩
abbrev sDraw : Stmt := top 21
def spDraw : Sp := fun vs H Q _ => ∃ (p c : Addr) (m : Int) (k : Nat), vs = [.ref p, .int m] ∧ Pen H p c k ∧ k ≤ 1000000 ∧ 0 < m ∧ m.natAbs < 2 ^ 2000 ∧
  ∀ r H', 0 ≤ r → r < m → Pen H' p c (k + 1) → But p H H' → Q (.int r) H'
section
variable {P : Program} {w : World} {K : PySem.W.Frag} {mg : Str → Option Value} {base : Heap}
theorem scD : FnScope ["_law_pen_here", "_law_many", "_law_digit", "_law_begun", "_law_cell", "_law_great", "_law_mixed"] ["_law_pen_here", "_law_many"] (defScope sDraw) :=
  ⟨rfl, rfl, rfl, by decide +kernel, rfl, by decide +kernel, by decide +kernel⟩
theorem ok_draw {f : Addr} {fd : FuncData} (F : Fun K "_law_draw" "_law_draw" sDraw f fd) (T : Bl mg) : FnOk P w K mg base CX0 1 f fd ["_law_pen_here", "_law_many"] spDraw := by
  refine F.ok scD (fun vs H Q E h => ?_) (fun cdv A outer s H vs Q E hr h => ?_)
  · obtain ⟨p, c, m, k, rfl, _⟩ := h
    rfl
  · obtain ⟨p, c, m, k, rfl, ⟨ns, b, l, W, hb⟩, hk, hm, hmb, q⟩ := h
    have nd := scD.nd
    refine ⟨_, pss_cons (ps_if (pt_cmpR op_gt (pe_ix ix_list (pv 0) pe_int (fun _ _ => rfl)) pe_int (nomark _)) (pss_cons (ps_set (i := 2) nd rfl (Or.inl rfl) (pe_op op_mod (pe_callTy call_int1 (by rfl) T.int (by decide +kernel) (pa_cons (pe_ix ix_list (pv 0) pe_int (fun _ _ => rfl)) pa_nil)) (pv 1)))
      (pss_cons (ps_asg (pe_op op_fdivW (pe_callTy call_int1 (by rfl) T.int (by decide +kernel) (pa_cons (pe_ix ix_list (pv 0) pe_int (fun _ _ => rfl)) pa_nil)) (pv 1)) (pg_sub (pv 0) pe_int set_list))
      (pss_one (ps_ret (pv 2))))) pss_nil)
      (pss_cons (ps_set (i := 3) nd rfl (Or.inl rfl) (pe_ix ix_list (pv 0) pe_int (fun _ _ => rfl)))
      (pss_cons (ps_asg (pe_op op_add (pv 3) pe_int) (pg_sub (pv 0) pe_int set_list))
      (pss_cons (ps_set (i := 4) nd rfl (Or.inl rfl) (pe_op op_add (pe_op op_mul pe_int (pv 3)) pe_int))
      (C8.pss_cut (ps_if (pt_cmpR (op_neD hr.units) (pe_ix ix_list (pv 0) pe_int (fun _ _ => rfl)) (pe_lst pa_nil) (nomark _)) (pss_one (ps_set (i := 4) nd rfl (Or.inl rfl) (pe_ix ix_list (pe_ix ix_list (pv 0) pe_int (fun _ _ => rfl)) (pe_op op_mod (pe_callTy call_int1 (by rfl) T.int (by decide +kernel) (pa_cons (pv 3) pa_nil)) (pe_callB call_len (by rfl) T.len (by decide +kernel) (pa_cons (pe_ix ix_list (pv 0) pe_int (fun _ _ => rfl)) pa_nil))) (fun _ _ => rfl)))) pss_nil)
      (pss_cons (ps_if (PW.pt (pw_and (pt_cmpR op_lt (pv 3) (pe_callB call_len (by rfl) T.len (by decide +kernel) (pa_cons (pe_ix ix_list (pv 0) pe_int (fun _ _ => rfl)) pa_nil)) (nomark _)) (pw_and1 (pt_cmpR op_ge (pe_callB call_abs (by rfl) T.abs (by decide +kernel) (pa_cons (pv 4) pa_nil)) (pe_op op_pow pe_int pe_int) (nomark _))))) (pss_cons (ps_set (i := 5) nd rfl (Or.inl rfl) (pe_op op_add (pe_op op_mul pe_int (pe_op op_sub (pe_callB call_abs (by rfl) T.abs (by decide +kernel) (pa_cons (pv 4) pa_nil)) (pe_op op_pow pe_int pe_int))) (pe_callTy call_int1 (by rfl) T.int (by decide +kernel) (pa_cons (pe_cmpR op_lt (pv 4) pe_int (nomark _)) pa_nil))))
      (pss_cons (ps_asg (pe_op op_fdivW (pe_callTy call_int1 (by rfl) T.int (by decide +kernel) (pa_cons (pv 5) pa_nil)) (pv 1)) (pg_sub (pv 0) pe_int set_list))
      (pss_one (ps_ret (pe_op op_mod (pe_callTy call_int1 (by rfl) T.int (by decide +kernel) (pa_cons (pv 5) pa_nil)) (pv 1)))))) pss_nil)
      (pss_cons (ps_set (i := 6) nd rfl (Or.inl rfl) (pe_op op_mod (pe_callTy call_int1 (by rfl) T.int (by decide +kernel) (pa_cons (pe_op op_pow (pe_op op_add (pe_op op_add (pe_op op_mod (pe_callTy call_int1 (by rfl) T.int (by decide +kernel) (pa_cons (pv 4) pa_nil)) pe_int) (pe_op op_mul pe_int (pv 3))) pe_int) pe_int) pa_nil)) pe_int))
      (pss_cons (ps_set (i := 6) nd rfl (Or.inl rfl) (pe_op op_mod (pe_callTy call_int1 (by rfl) T.int (by decide +kernel) (pa_cons (pe_op op_pow (pe_op op_add (pe_op op_add (pe_op op_mul (pv 6) (pe_op op_add (pe_op op_mul pe_int (pv 3)) pe_int)) (pe_op op_mul (pe_op op_mul pe_int (pv 3)) (pv 3))) pe_int) pe_int) pa_nil)) pe_int))
      (pss_one (ps_ret (pe_op op_mod (pe_callTy call_int1 (by rfl) T.int (by decide +kernel) (pa_cons (pe_op op_fdivW (pv 6) pe_int) pa_nil)) (pv 1))))))))))), ?_⟩
    have hp := W.hp
    -- what is left of a great cell
    refine ⟨_, rfl, p, _, _, _, rfl, rfl, SqL.of hp, rfl, _, _, rfl, rfl, _, rfl, ?_⟩
    refine ite2 (fun _ => ?_) (fun _ => ?_)
    · refine ⟨_, rfl, p, _, _, _, rfl, rfl, SqL.of hp, rfl, .inl ⟨_, rfl, _, rfl, _, _, rfl, rfl, hm, ?_⟩⟩
      refine ⟨_, rfl, p, _, _, _, rfl, rfl, SqL.of hp, rfl, .inl ⟨_, rfl, _, rfl, _, _, rfl, rfl, wide_m hm hmb, ?_⟩⟩
      refine ⟨_, rfl, p, _, _, _, rfl, rfl, hp, rfl, ?_⟩
      refine ⟨_, rfl, ?_⟩
      exact q _ _ (modB _ hm).1 (modB _ hm).2 ⟨ns, b, _, W.put W.b0, by omega⟩ (But.refl.upd)
    · -- begun; the count goes up; cell
      refine ⟨_, rfl, p, _, _, _, rfl, rfl, SqL.of hp, rfl, ?_⟩
      refine ⟨_, rfl, _, _, rfl, rfl, ?_⟩
      refine ⟨_, rfl, p, _, _, _, rfl, rfl, hp, rfl, ?_⟩
      refine ⟨_, rfl, _, _, rfl, rfl, .inl ⟨by decide, by decide⟩, _, _, rfl, rfl, ?_⟩
      have W1 : PenW (upd H p (.lst [.ref c, .int (b + 1), .int l])) p c ns (b + 1) l := W.put (by have := W.b0; omega)
      refine ⟨fun σ' H' => ∃ z : Int, σ' = [some (.ref p), some (.int m), none, some (.int b), some (.int z), none, none] ∧ PenW H' p c ns (b + 1) l ∧ But p H H', ?_, ?_⟩
      · -- a cell of the script
        refine ⟨_, rfl, p, _, _, _, rfl, rfl, SqL.of W1.hp, rfl, by decide, fun e he => ?_⟩
        refine ⟨_, _, .lst (SqL.of (W1.new he).hc) (dpInts ns), .lst (SqL.of upd_same) .nil, shInts ns, by decide, _, rfl, ?_⟩
        have W2 := W1.new (o := .lst []) he
        have B2 : But p H (upd (upd H p (.lst [.ref c, .int (b + 1), .int l])) e (.lst [])) := (But.refl.upd).new he
        rw [eqvNil]
        by_cases hn : ns = []
        · rw [decide_eq_true hn]
          refine iteF ?_
          exact ⟨_, rfl, W2, B2⟩
        · rw [decide_eq_false hn]
          refine iteT ?_
          have hl0 : 0 < ns.length := List.length_pos_iff.mpr hn
          have hm0 : (0 : Int) < ((ns.map V.int).length : Int) := by rw [List.length_map]; omega
          refine ⟨_, rfl, p, _, _, _, rfl, rfl, SqL.of W2.hp, rfl, _, rfl, .inl ⟨_, rfl, _, rfl, p, _, _, _, rfl, rfl, SqL.of W2.hp, rfl, _, _, rfl, .inl ⟨_, SqL.of W2.hc, rfl⟩, _, _, rfl, rfl, hm0, ?_⟩⟩
          obtain ⟨z, hz⟩ : ∃ z, (ns.map V.int)[(b % ((ns.map V.int).length : Int)).toNat]'(by have := modB b hm0; omega) = .int z := ⟨_, List.getElem_map ..⟩
          exact ⟨c, _, _, .int z, rfl, rfl, SqL.of W2.hc, by rw [atI_in (modB b hm0).1 (modB b hm0).2, hz], ⟨_, rfl, W2, B2⟩⟩
      · rintro σ' H' ⟨z, rfl, W2, B2⟩
        have hp2 := W2.hp
        have hb1 := W.b0
        have hb2 : b ≤ 1000000 := by omega
        -- a great cell
        refine ⟨_, rfl, _, rfl, p, _, _, _, rfl, rfl, SqL.of hp2, rfl, _, _, rfl, .inl ⟨_, SqL.of W2.hc, rfl⟩, _, _, rfl, rfl, _, rfl, ?_⟩
        refine ite2 (fun _ => ?_) (fun _ => ?_)
        · refine ⟨_, rfl, _, rfl, _, _, rfl, rfl, ⟨by decide, by decide, by decide⟩, _, _, rfl, rfl, _, rfl, ?_⟩
          refine ite2 (fun _ => ?_) (fun _ => ?_)
          · refine ⟨_, rfl, _, rfl, _, _, rfl, rfl, ⟨by decide, by decide, by decide⟩, _, _, rfl, rfl, _, _, rfl, rfl, .inl ⟨by decide, by decide⟩, ?_⟩
            refine ⟨_, rfl, _, _, rfl, rfl, .inr ⟨_, rfl, _, _, rfl, rfl, ?_⟩⟩
            refine ⟨_, rfl, .inl ⟨_, rfl, _, rfl, _, _, rfl, rfl, wide_m hm hmb, ?_⟩⟩
            refine ⟨_, rfl, p, _, _, _, rfl, rfl, hp2, rfl, ?_⟩
            refine ⟨_, rfl, .inl ⟨_, rfl, _, rfl, _, _, rfl, rfl, hm, ?_⟩⟩
            exact q _ _ (modB _ hm).1 (modB _ hm).2 ⟨ns, b + 1, _, W2.put W2.b0, by omega⟩ B2.upd
          · refine ⟨_, rfl, .inl ⟨_, rfl, _, _, rfl, rfl, p0 rfl, _, rfl, _, _, rfl, rfl, .inl ⟨by decide, by decide⟩, _, _, rfl, rfl, _, _, rfl, rfl, _, _, rfl, rfl, ⟨by decide, by decide, ?_⟩, .inl ⟨_, rfl, _, _, rfl, rfl, p0 rfl, ?_⟩⟩⟩
            · have h1 := modB z (m := 2147483563) (by decide)
              omega
            have hx := modB ((z % 2147483563 + 777 * b + 1341) ^ (5 : Int).toNat) (m := 2147483629) (by decide)
            generalize hxe : (z % 2147483563 + 777 * b + 1341) ^ (5 : Int).toNat % 2147483629 = x at hx
            have p1 := mulB hx.1 (show x ≤ 2147483629 by omega) (show 0 ≤ 2 * b + 45 by omega) (show 2 * b + 45 ≤ 2100000 by omega)
            have p2 := mulB (show 0 ≤ 6191 * b by omega) (show 6191 * b ≤ 100000000000 by omega) hb1 hb2
            refine ⟨_, rfl, _, rfl, _, _, rfl, rfl, .inl ⟨by decide, by decide⟩, _, _, rfl, rfl, _, _, rfl, rfl, .inl ?_, _, rfl, _, _, rfl, rfl, .inl ⟨by decide, by decide⟩, _, rfl, _, _, rfl, rfl, .inl ?_, _, _, rfl, rfl, _, _, rfl, rfl, _, _, rfl, rfl, ⟨by decide, by decide, ?_⟩, .inl ⟨_, rfl, _, _, rfl, rfl, p0 rfl, ?_⟩⟩
            · rw [hxe]; omega
            · omega
            · rw [hxe]; omega
            refine ⟨_, rfl, _, _, rfl, rfl, ⟨by decide, by decide⟩, .inl ⟨_, rfl, _, rfl, _, _, rfl, rfl, hm, ?_⟩⟩
            exact q _ _ (modB _ hm).1 (modB _ hm).2 ⟨ns, b + 1, _, W2, by omega⟩ B2
        · refine ⟨_, rfl, .inl ⟨_, rfl, _, _, rfl, rfl, p0 rfl, _, rfl, _, _, rfl, rfl, .inl ⟨by decide, by decide⟩, _, _, rfl, rfl, _, _, rfl, rfl, _, _, rfl, rfl, ⟨by decide, by decide, ?_⟩, .inl ⟨_, rfl, _, _, rfl, rfl, p0 rfl, ?_⟩⟩⟩
          · have h1 := modB z (m := 2147483563) (by decide)
            omega
          have hx := modB ((z % 2147483563 + 777 * b + 1341) ^ (5 : Int).toNat) (m := 2147483629) (by decide)
          generalize hxe : (z % 2147483563 + 777 * b + 1341) ^ (5 : Int).toNat % 2147483629 = x at hx
          have p1 := mulB hx.1 (show x ≤ 2147483629 by omega) (show 0 ≤ 2 * b + 45 by omega) (show 2 * b + 45 ≤ 2100000 by omega)
          have p2 := mulB (show 0 ≤ 6191 * b by omega) (show 6191 * b ≤ 100000000000 by omega) hb1 hb2
          refine ⟨_, rfl, _, rfl, _, _, rfl, rfl, .inl ⟨by decide, by decide⟩, _, _, rfl, rfl, _, _, rfl, rfl, .inl ?_, _, rfl, _, _, rfl, rfl, .inl ⟨by decide, by decide⟩, _, rfl, _, _, rfl, rfl, .inl ?_, _, _, rfl, rfl, _, _, rfl, rfl, _, _, rfl, rfl, ⟨by decide, by decide, ?_⟩, .inl ⟨_, rfl, _, _, rfl, rfl, p0 rfl, ?_⟩⟩
          · rw [hxe]; omega
          · omega
          · rw [hxe]; omega
          refine ⟨_, rfl, _, _, rfl, rfl, ⟨by decide, by decide⟩, .inl ⟨_, rfl, _, rfl, _, _, rfl, rfl, hm, ?_⟩⟩
          exact q _ _ (modB _ hm).1 (modB _ hm).2 ⟨ns, b + 1, _, W2, by omega⟩ B2
end

/-! ### callees -/
structure Cal (P : Program) (w : World) (K : PySem.W.Frag) (mg : Str → Option Value) (base : Heap) (k : Nat) (x : Str) (f : Addr) (fd : FuncData) (ps : List Str) (sp : Sp) : Prop where
  F : FnOk P w K mg base CX0 k f fd ps sp
  mgf : mg x = some (.ref f)
  kp : PySem.W.keepIn K (.ref f) = true
  b : Binds K fd ps []
structure Mak (P : Program) (w : World) (K : PySem.W.Frag) (mg : Str → Option Value) (base : Heap) (k : Nat) (x : Str) (C f : Addr) (fd : FuncData) (ps : List Str) (sp : Sp) : Prop where
  M : Mk K C f
  F : FnOk P w K mg base CX0 k f fd ps sp
  mgC : mg x = some (.ref C)
  b : Binds K fd ps []
structure Sta (P : Program) (w : World) (K : PySem.W.Frag) (mg : Str → Option Value) (base : Heap) (k : Nat) (C : Addr) (m : Str) (p f : Addr) (fd : FuncData) (ps : List Str) (sp : Sp) : Prop where
  s : Own.SMet K C (.type "type") m p f
  F : FnOk P w K mg base CX0 k f fd ps sp
  b : Binds K fd ps []
structure Dot (P : Program) (w : World) (K : PySem.W.Frag) (mg : Str → Option Value) (base : Heap) (k : Nat) (C : Addr) (m : Str) (f : Addr) (fd : FuncData) (ps : List Str) (sp : Sp) : Prop where
  m : Meth K C m f
  F : FnOk P w K mg base CX0 k f fd ps sp
  b : Binds K fd ps []
/-- facts of an own class -/
structure ClT (K : PySem.W.Frag) (mg : Str → Option Value) (C : Addr) (x : Str) : Prop where
  cl : Cls K C
  mgC : mg x = some (.ref C)
  rd : ClX.CRead K C (.type "type")
  ca : PySem.W.findIn K (.ref C) "__class__" = some (some (.builtin "object.__class__"))
  cn : PySem.W.specialIn K (.builtin "object.__class__") "__get__" = some (some (.builtin "getset_descriptor.__get__"))
  ct : PySem.W.takesIn K (.builtin "object.__class__") = some true
  cm : PySem.W.mroIn K C (.type "object") = some true
  kI : PySem.W.kitOne K (.ref C) (.type "int") = some false
  kB : PySem.W.kitOne K (.ref C) (.type "bool") = some false
  kS : PySem.W.kitOne K (.ref C) (.ref C) = some true
  iK : PySem.W.kitOne K (.type "int") (.ref C) = some false
  sI : PySem.W.subIn K (.ref C) (.type "int") = some false
  nI : PySem.W.notFirst K C (.type "int") = true
  nC : PySem.W.notFirst K C (.ref C) = true
theorem ClT.ty {K : PySem.W.Frag} {mg : Str → Option Value} {C a dx : Addr} {x : Str} {H : Hp} {fs : List (Str × V)} (T : ClT K mg C x) (h : H a = some (.ins C dx fs)) : TyX K H (.ref a) (.ref C) :=
  .base (.ins h T.cl T.ca T.cn T.ct T.cm)
structure RatT (K : PySem.W.Frag) (mg : Str → Option Value) (C : Addr) : Prop extends ClT K mg C "Ratio" where
  nT : NoAttr K C "top"
  nB : NoAttr K C "bottom"
structure PieT (K : PySem.W.Frag) (mg : Str → Option Value) (C : Addr) : Prop extends ClT K mg C "Piece" where
  nL : NoAttr K C "left"
  nR : NoAttr K C "right"

/-! ### ratios -/
theorem tb_ne : ¬ (("bottom" : Str) = "top") := by decide +kernel
theorem bt_ne : ¬ (("top" : Str) = "bottom") := by decide +kernel
def ratF (n d : Int) : List (Str × V) := putF "bottom" (.int d) (putF "top" (.int n) [])
theorem ratF_top (n d : Int) : (ratF n d).lookup ("top" : Str) = some (.int n) := by
  unfold ratF
  rw [lookup_putF, if_neg bt_ne, lookup_putF, if_pos rfl]
theorem ratF_bot (n d : Int) : (ratF n d).lookup ("bottom" : Str) = some (.int d) := by
  unfold ratF
  rw [lookup_putF, if_pos rfl]
/-- a Ratio n / d stands at a -/
def RatAt (C : Addr) (H : Hp) (a : Addr) (n d : Int) : Prop := ∃ dx, H a = some (.ins C dx (ratF n d))
theorem RatAt.same {C : Addr} {H H' : Hp} {a : Addr} {n d : Int} (h : RatAt C H a n d) (e : Same H H') : RatAt C H' a n d := let ⟨dx, h⟩ := h; ⟨dx, e _ _ h⟩
theorem RatAt.but {C p : Addr} {H H' : Hp} {a : Addr} {n d : Int} (h : RatAt C H a n d) (e : But p H H') (hp : a ≠ p) : RatAt C H' a n d := let ⟨dx, h⟩ := h; ⟨dx, e _ _ h hp⟩
/-- a number: an int or a Ratio -/
inductive NumAt (C : Addr) (H : Hp) : V → Int → Int → Prop
  | int (i : Int) : NumAt C H (.int i) i 1
  | rat {a : Addr} {n d : Int} (h : RatAt C H a n d) : NumAt C H (.ref a) n d
theorem NumAt.same {C : Addr} {H H' : Hp} {v : V} {n d : Int} (h : NumAt C H v n d) (e : Same H H') : NumAt C H' v n d := by
  cases h with
  | int => exact .int _
  | rat h => exact .rat (h.same e)
theorem same_new {H : Hp} {p : Addr} {o : HO} (h : H p = none) : Same H (upd H p o) := fun b u e => by rw [upd_ne (ne_of_none e h)]; exact e
theorem same_two {H : Hp} {p q : Addr} {o u : HO} (h : H p = none) (h2 : H q = none) (n : p ≠ q) : Same H (upd (upd H p o) q u) := (same_new h).trans (same_new (by rw [upd_ne n.symm]; exact h2))
/-- small enough to reckon with -/
def Sz (z : Int) : Prop := z.natAbs < 2 ^ 1000
theorem Sz.mul {i j : Int} (a : Sz i) (b : Sz j) : CMulW i j := wide_mul a b (by decide) (by decide) (by decide)
theorem Sz.of {z : Int} (h : z.natAbs < 10 ^ 250) : Sz z := Nat.lt_trans h (by decide +kernel)

section
variable {P : Program} {w : World} {K : PySem.W.Frag} {mg : Str → Option Value} {base : Heap} {C : Addr}
def isIntK (K : PySem.W.Frag) (t : Value) (b : Bool) : Prop := ∃ b1 b2, PySem.W.kitOne K t (.type "int") = some b1 ∧ PySem.W.kitOne K t (.type "bool") = some b2 ∧ b = (b1 && !b2)
theorem isIntK_int : isIntK K (.type "int") true := ⟨true, false, kit_ty (by decide +kernel), kit_ty (by decide +kernel), rfl⟩
theorem isIntK_own {x : Str} (T : ClT K mg C x) : isIntK K (.ref C) false := ⟨false, false, T.kI, T.kB, rfl⟩
def spIsInt (K : PySem.W.Frag) : Sp := fun vs H Q _ => ∃ v t b, vs = [v] ∧ TyX K H v t ∧ isIntK K t b ∧ Q (.bl b) H

abbrev sIsInt : Stmt := top 10
theorem scII : FnScope ["value"] ["value"] (defScope sIsInt) := ⟨rfl, rfl, rfl, by decide +kernel, rfl, by decide +kernel, by decide +kernel⟩
theorem ok_isint {f : Addr} {fd : FuncData} (F : Fun K "is_int" "is_int" sIsInt f fd) (T : Bl mg) : FnOk P w K mg base CX0 1 f fd ["value"] (spIsInt K) := by
  refine F.ok scII (fun vs H Q E h => ?_) (fun cdv A outer s H vs Q E hr h => ?_)
  · obtain ⟨v, t, b, rfl, _⟩ := h
    rfl
  · obtain ⟨v, t, b, rfl, ty, ⟨b1, b2, h1, h2, rfl⟩, q⟩ := h
    have nd := scII.nd
    refine ⟨_, pss_one (ps_ret (pe_and (pe_callB call_isi (by rfl) T.isinstance (by decide +kernel) (pa_cons (pv 0) (pa_cons (pe_bltn (v := .ty "int") (u := .type "int") (by rfl) T.int (by decide +kernel) rfl) pa_nil))) (pe_one (pe_not (pe_callB call_isi (by rfl) T.isinstance (by decide +kernel) (pa_cons (pv 0) (pa_cons (pe_bltn (v := .ty "bool") (u := .type "bool") (by rfl) T.bool (by decide +kernel) rfl) pa_nil))))))), ?_⟩
    refine ⟨_, rfl, _, _, t, _, b1, rfl, .ty _, ty, h1, _, rfl, ?_⟩
    cases b1 with
    | true =>
      refine iteT ?_
      exact ⟨_, rfl, _, _, t, _, b2, rfl, .ty _, ty, h2, _, rfl, q⟩
    | false => exact iteF q

def spIsNum (K : PySem.W.Frag) (C : Addr) : Sp := fun vs H Q _ => ∃ v t b c, vs = [v] ∧ TyX K H v t ∧ isIntK K t b ∧ PySem.W.kitOne K t (.ref C) = some c ∧ Q (.bl (b || c)) H
theorem NumAt.spNum {x : Str} {H : Hp} {v : V} {n d : Int} {Q : VK} {E : XK} (T : ClT K mg C x) (h : NumAt C H v n d) (q : Q (.bl true) H) : spIsNum K C [v] H Q E := by
  cases h with
  | int => exact ⟨_, _, _, _, rfl, .base (.int _), isIntK_int, T.iK, q⟩
  | rat h => obtain ⟨dx, h⟩ := h; exact ⟨_, _, _, _, rfl, T.ty h, isIntK_own T, T.kS, q⟩
abbrev sIsNum : Stmt := inClass (top 14) 1
theorem scIN : FnScope ["value"] ["value"] (defScope sIsNum) := ⟨rfl, rfl, rfl, by decide +kernel, rfl, by decide +kernel, by decide +kernel⟩
theorem ok_isnum {f f1 : Addr} {fd fd1 : FuncData} (F : Fun K "is_number" "Ratio.is_number" sIsNum f fd) (T : Bl mg) (T_Ratio : RatT K mg C) (C_is_int : Cal P w K mg base 1 "is_int" f1 fd1 ["value"] (spIsInt K)) :
    FnOk P w K mg base CX0 2 f fd ["value"] (spIsNum K C) := by
  refine F.ok scIN (fun vs H Q E h => ?_) (fun cdv A outer s H vs Q E hr h => ?_)
  · obtain ⟨v, t, b, c, rfl, _⟩ := h
    rfl
  · obtain ⟨v, t, b, c, rfl, ty, hb, hc, q⟩ := h
    have nd := scIN.nd
    refine ⟨_, pss_one (ps_ret (pe_or (pe_call C_is_int.F (hr.mono (by decide)) (by rfl) C_is_int.mgf C_is_int.kp C_is_int.b .nil pass0 (pa_cons (pv 0) pa_nil)) (pe_one (pe_callB call_isi (by rfl) T.isinstance (by decide +kernel) (pa_cons (pv 0) (pa_cons (Own.pe_gref (by rfl) T_Ratio.mgC) pa_nil)))))), ?_⟩
    refine ⟨_, rfl, _, t, b, rfl, ty, hb, _, rfl, ?_⟩
    cases b with
    | true => exact iteT q
    | false =>
      refine iteF ?_
      exact ⟨_, rfl, _, _, t, _, c, rfl, .own _, ty, hc, q⟩

def spParts (C : Addr) : Sp := fun vs H Q _ => ∃ v n d, vs = [v] ∧ NumAt C H v n d ∧ ∀ p, H p = none → Q (.ref p) (upd H p (.tup [.int n, .int d]))
abbrev sParts : Stmt := top 15
theorem scPa : FnScope ["number"] ["number"] (defScope sParts) := ⟨rfl, rfl, rfl, by decide +kernel, rfl, by decide +kernel, by decide +kernel⟩
theorem ok_parts {f : Addr} {fd : FuncData} (F : Fun K "parts_of" "parts_of" sParts f fd) (T : Bl mg) (T_Ratio : RatT K mg C) : FnOk P w K mg base CX0 1 f fd ["number"] (spParts C) := by
  refine F.ok scPa (fun vs H Q E h => ?_) (fun cdv A outer s H vs Q E hr h => ?_)
  · obtain ⟨v, n, d, rfl, _⟩ := h
    rfl
  · obtain ⟨v, n, d, rfl, hn, q⟩ := h
    have nd := scPa.nd
    refine ⟨_, pss_cons (ps_if (pt_val (pe_callB call_isi (by rfl) T.isinstance (by decide +kernel) (pa_cons (pv 0) (pa_cons (Own.pe_gref (by rfl) T_Ratio.mgC) pa_nil)))) (pss_one (ps_ret (pe_tup (pa_cons (pe_fld (pv 0) rfl) (pa_cons (pe_fld (pv 0) rfl) pa_nil))))) pss_nil)
      (pss_one (ps_ret (pe_tup (pa_cons (pv 0) (pa_cons pe_int pa_nil))))), ?_⟩
    cases hn with
    | int =>
      refine ⟨_, rfl, _, _, _, _, false, rfl, .own _, .base (.int _), T_Ratio.iK, _, rfl, iteF ?_⟩
      exact ⟨_, rfl, (by decide : 2 ≤ sizeLine), fun p hp => q p hp⟩
    | rat h =>
      obtain ⟨dx, h⟩ := h
      refine ⟨_, rfl, _, _, _, _, true, rfl, .own _, T_Ratio.ty h, T_Ratio.kS, _, rfl, iteT ?_⟩
      exact ⟨_, rfl, _, C, dx, _, _, rfl, h, T_Ratio.cl, T_Ratio.nT, ratF_top _ _, _, rfl, _, C, dx, _, _, rfl, h, T_Ratio.cl, T_Ratio.nB, ratF_bot _ _, (by decide : 2 ≤ sizeLine), fun p hp => q p hp⟩

def spLead (C : Addr) : Sp := fun vs H Q _ => ∃ v u n d m e, vs = [v, u] ∧ NumAt C H v n d ∧ NumAt C H u m e ∧ (Sz n ∧ Sz d ∧ Sz m ∧ Sz e) ∧ ∀ H', Same H H' → Q (.int (n * e - m * d)) H'
abbrev sLead : Stmt := top 17
theorem scLe : FnScope ["one", "other", "top", "bottom", "other_top", "other_bottom"] ["one", "other"] (defScope sLead) := ⟨rfl, rfl, rfl, by decide +kernel, rfl, by decide +kernel, by decide +kernel⟩
theorem ok_lead {f f1 : Addr} {fd fd1 : FuncData} (F : Fun K "_lead" "_lead" sLead f fd) (C_parts_of : Cal P w K mg base 1 "parts_of" f1 fd1 ["number"] (spParts C)) : FnOk P w K mg base CX0 2 f fd ["one", "other"] (spLead C) := by
  refine F.ok scLe (fun vs H Q E h => ?_) (fun cdv A outer s H vs Q E hr h => ?_)
  · obtain ⟨v, u, n, d, m, e, rfl, _⟩ := h
    rfl
  · obtain ⟨v, u, n, d, m, e, rfl, hv, hu, ⟨z1, z2, z3, z4⟩, q⟩ := h
    have nd := scLe.nd
    refine ⟨_, pss_cons (ps_asg (pe_call C_parts_of.F (hr.mono (by decide)) (by rfl) C_parts_of.mgf C_parts_of.kp C_parts_of.b .nil pass0 (pa_cons (pv 0) pa_nil)) (pg_tup (by rfl) (pgs_cons (pg_name (i := 2) nd rfl (Or.inl rfl)) (pgs_cons (pg_name (i := 3) nd rfl (Or.inl rfl)) pgs_nil))))
      (pss_cons (ps_asg (pe_call C_parts_of.F (hr.mono (by decide)) (by rfl) C_parts_of.mgf C_parts_of.kp C_parts_of.b .nil pass0 (pa_cons (pv 1) pa_nil)) (pg_tup (by rfl) (pgs_cons (pg_name (i := 4) nd rfl (Or.inl rfl)) (pgs_cons (pg_name (i := 5) nd rfl (Or.inl rfl)) pgs_nil))))
      (pss_one (ps_ret (pe_op op_sub (pe_op op_mulW (pv 2) (pv 5)) (pe_op op_mulW (pv 4) (pv 3)))))), ?_⟩
    refine ⟨_, rfl, _, _, _, rfl, hv, fun p hp => ⟨_, _, rfl, SqT.of upd_same, rfl, _, _, rfl, _, _, rfl, rfl, ?_⟩⟩
    have s1 : Same H (upd H p (.tup [.int n, .int d])) := same_new hp
    refine ⟨_, rfl, _, _, _, rfl, hu.same s1, fun p2 hp2 => ⟨_, _, rfl, SqT.of upd_same, rfl, _, _, rfl, _, _, rfl, rfl, ?_⟩⟩
    exact ⟨_, rfl, _, rfl, _, _, rfl, rfl, z1.mul z4, _, rfl, _, rfl, _, _, rfl, rfl, z3.mul z2, _, _, rfl, rfl, q _ (s1.trans (same_new hp2))⟩
end
end Toy
set_option maxRecDepth 100000
set_option maxHeartbeats 4000000
namespace Toy
open PySem L2
/-! ### a ratio made -/
theorem vint_ne {b c : Int} (h : b ≠ c) : ¬ (decide (V.int b = V.int c) = true) := fun e => h (V.int.inj (of_decide_eq_true e))
def CDivZ (_ j : Int) : Prop := j ≠ 0 ∧ j.natAbs.log2 < 9000
theorem op_fdivZ {X : Cx} : OpR X (binaryOp .FloorDiv) (rI CDivZ fun i j => .int (i.fdiv j)) := opI fun i j _ _ _ _ _ hc q => PyProof.Rows.floordiv_int hc.1 q (.inl (PyProof.noPylong_of_log2 hc.2))
def gcdI (t b : Int) : Int := ((Nat.gcd t.natAbs b.natAbs : Nat) : Int)
def lowD (t b : Int) : Int := if 0 < b then gcdI t b else -gcdI t b
def lowT (t b : Int) : Int := t.fdiv (lowD t b)
def lowB (t b : Int) : Int := b.fdiv (lowD t b)
theorem gcdI_pos {t b : Int} (h : b ≠ 0) : 0 < gcdI t b := by
  have h1 : 0 < b.natAbs := by omega
  have h2 := Nat.gcd_pos_of_pos_right t.natAbs h1
  unfold gcdI
  omega
theorem gcdI_neg {t b : Int} (h : b ≠ 0) : -gcdI t b ≠ 0 := by
  have := gcdI_pos (t := t) h
  omega
theorem gcdI_le {t b : Int} (h : b ≠ 0) : (gcdI t b).natAbs ≤ b.natAbs := by
  have h1 : 0 < b.natAbs := by omega
  have h2 := Nat.gcd_le_right t.natAbs h1
  unfold gcdI
  omega
theorem Sz.div {i j : Int} (h : j ≠ 0) (z : Sz j) : CDivZ i j := ⟨h, Nat.lt_trans (PySem.Flt.log2_lt_of (by decide) z) (by decide)⟩
theorem Sz.gcd {t b : Int} (h : b ≠ 0) (z : Sz b) : Sz (gcdI t b) := Nat.lt_of_le_of_lt (gcdI_le h) z
theorem Sz.neg {b : Int} (z : Sz b) : Sz (-b) := by unfold Sz; rw [Int.natAbs_neg]; exact z
theorem lowT_one {t b : Int} (h : 0 < b) (g : gcdI t b = 1) : lowT t b = t := by
  unfold lowT lowD
  rw [if_pos h, g]
  exact Int.fdiv_one t
theorem lowB_one {t b : Int} (h : 0 < b) (g : gcdI t b = 1) : lowB t b = b := by
  unfold lowB lowD
  rw [if_pos h, g]
  exact Int.fdiv_one b
theorem iteNot {b : Bool} {A B : Prop} (h : b = true) (x : B) : if (!b) = true then A else B := by
  subst h
  exact iteF x
theorem NumAt.info {K : PySem.W.Frag} {mg : Str → Option Value} {C : Addr} {x : Str} {H : Hp} {v : V} {n d : Int} (T : ClT K mg C x) (h : NumAt C H v n d) :
    ∃ t b c, TyX K H v t ∧ isIntK K t b ∧ PySem.W.kitOne K t (.ref C) = some c ∧ (b || c) = true := by
  cases h with
  | int => exact ⟨_, _, _, .base (.int _), isIntK_int, T.iK, rfl⟩
  | rat h => obtain ⟨dx, h⟩ := h; exact ⟨_, _, _, T.ty h, isIntK_own T, T.kS, rfl⟩
section
variable {P : Program} {w : World} {K : PySem.W.Frag} {mg : Str → Option Value} {base : Heap} {C : Addr}
def spRInit (C : Addr) : Sp := fun vs H Q _ => ∃ x dx t b, vs = [.ref x, .int t, .int b] ∧ H x = some (.ins C dx []) ∧ b ≠ 0 ∧ Sz b ∧ ∀ H', RatAt C H' x (lowT t b) (lowB t b) → (∀ c o, H c = some o → c ≠ x → H' c = some o) → Q .non H'
theorem spRInit.make {H1 : Hp} {t b : Int} {Q : VK} {E : XK} (hb : b ≠ 0) (hz : Sz b) (q : ∀ x H', H1 x = none → Same H1 H' → RatAt C H' x (lowT t b) (lowB t b) → Q (.ref x) H') :
    ∀ x dx, H1 x = none → H1 dx = none → dx ≠ x → spRInit C [.ref x, .int t, .int b] (upd (upd H1 dx (.own x)) x (.ins C dx [])) (fun v H2 => v = .non ∧ Q (.ref x) H2) E := fun x dx hx hdx hne =>
  ⟨x, dx, t, b, rfl, upd_same, hb, hz, fun H' hR hk => ⟨rfl, q x H' hx (fun c o e => hk c o (by rw [upd_ne (ne_of_none e hx), upd_ne (ne_of_none e hdx)]; exact e) (ne_of_none e hx)) hR⟩⟩
abbrev sRInit : Stmt := inClass (top 14) 0
theorem scRI : FnScope ["self", "top", "bottom", "divisor"] ["self", "top", "bottom"] (defScope sRInit) := ⟨rfl, rfl, rfl, by decide +kernel, rfl, by decide +kernel, by decide +kernel⟩
theorem ok_rinit {f f1 : Addr} {fd fd1 : FuncData} (F : FunD K "__init__" "Ratio.__init__" (defArgs sRInit) (defBody sRInit) (defScope sRInit) [.int 1] [] f fd) (T : Bl mg) (T_Ratio : RatT K mg C) (C_is_int : Cal P w K mg base 1 "is_int" f1 fd1 ["value"] (spIsInt K)) :
    FnOk P w K mg base CX0 2 f fd ["self", "top", "bottom"] (spRInit C) := by
  refine F.ok scRI (fun vs H Q E h => ?_) (fun cdv A outer s H vs Q E hr h => ?_)
  · obtain ⟨x, dx, t, b, rfl, _⟩ := h
    rfl
  · obtain ⟨x, dx, t, b, rfl, hx, hb, hz, q⟩ := h
    have nd := scRI.nd
    refine ⟨_, pss_cons (ps_if (pt_not (pt_val (pe_call C_is_int.F (hr.mono (by decide)) (by rfl) C_is_int.mgf C_is_int.kp C_is_int.b .nil pass0 (pa_cons (pv 1) pa_nil)))) pss_never pss_nil)
      (pss_cons (ps_if (pt_not (pt_val (pe_call C_is_int.F (hr.mono (by decide)) (by rfl) C_is_int.mgf C_is_int.kp C_is_int.b .nil pass0 (pa_cons (pv 2) pa_nil)))) pss_never pss_nil)
      (pss_cons (ps_if (pt_cmpR op_eq (pv 2) pe_int (nomark _)) pss_never pss_nil)
      (pss_cons (ps_set (i := 3) nd rfl (Or.inl rfl) (pe_ifExp (pt_cmpR op_gt (pv 2) pe_int (nomark _)) (pe_callBfun cr_gcd (by rfl) T.gcd (pa_cons (pv 1) (pa_cons (pv 2) pa_nil))) (pe_un un_neg (pe_callBfun cr_gcd (by rfl) T.gcd (pa_cons (pv 1) (pa_cons (pv 2) pa_nil))))))
      (pss_cons (ps_fld (pv 0) (pe_op op_fdivZ (pv 1) (pv 3)) rfl)
      (pss_one (ps_fld (pv 0) (pe_op op_fdivZ (pv 2) (pv 3)) rfl)))))), ?_⟩
    refine ⟨_, rfl, _, _, true, rfl, .base (.int _), isIntK_int, _, rfl, iteF ?_⟩
    refine ⟨_, rfl, _, _, true, rfl, .base (.int _), isIntK_int, _, rfl, iteF ?_⟩
    refine ⟨_, rfl, rfl, _, rfl, ?_⟩
    refine ite2 (fun e => absurd e (vint_ne hb)) (fun _ => ?_)
    refine ⟨_, rfl, _, _, rfl, rfl, _, rfl, ?_⟩
    have fin : ∀ z : Int, z = lowD t b → Q .non (upd (upd H x (.ins C dx (putF "top" (.int (t.fdiv z)) []))) x (.ins C dx (putF "bottom" (.int (b.fdiv z)) (putF "top" (.int (t.fdiv z)) [])))) := fun z e =>
      q _ ⟨dx, by rw [e]; exact upd_same⟩ fun c o h n => by rw [upd_ne n, upd_ne n]; exact h
    refine ite2 (fun hp => ?_) (fun hp => ?_)
    · have hp1 : 0 < b := of_decide_eq_true hp
      refine ⟨_, rfl, _, rfl, _, _, rfl, ?_⟩
      refine ⟨_, rfl, _, rfl, _, _, rfl, rfl, (Sz.gcd hb hz).div (by have := gcdI_pos (t := t) hb; exact Int.ne_of_gt this), _, rfl, x, C, dx, _, rfl, hx, T_Ratio.cl, T_Ratio.nT, (by decide : 0 < 1000), ?_⟩
      refine ⟨_, rfl, _, rfl, _, _, rfl, rfl, (Sz.gcd hb hz).div (by have := gcdI_pos (t := t) hb; exact Int.ne_of_gt this), _, rfl, x, C, dx, _, rfl, upd_same, T_Ratio.cl, T_Ratio.nB, (by decide : 1 < 1000), ?_⟩
      exact fin _ (by unfold lowD; rw [if_pos hp1]; rfl)
    · have hp1 : ¬ 0 < b := fun e => hp (decide_eq_true e)
      refine ⟨_, rfl, _, rfl, _, _, rfl, _, rfl, ?_⟩
      refine ⟨_, rfl, _, rfl, _, _, rfl, rfl, (Sz.gcd hb hz).neg.div (gcdI_neg hb), _, rfl, x, C, dx, _, rfl, hx, T_Ratio.cl, T_Ratio.nT, (by decide : 0 < 1000), ?_⟩
      refine ⟨_, rfl, _, rfl, _, _, rfl, rfl, (Sz.gcd hb hz).neg.div (gcdI_neg hb), _, rfl, x, C, dx, _, rfl, upd_same, T_Ratio.cl, T_Ratio.nB, (by decide : 1 < 1000), ?_⟩
      exact fin _ (by unfold lowD; rw [if_neg hp1]; rfl)

/-- comparisons -/
def spCmp (C : Addr) (g : Int → Bool) : Sp := fun vs H Q _ => ∃ v u n d m e, vs = [v, u] ∧ NumAt C H v n d ∧ NumAt C H u m e ∧ (Sz n ∧ Sz d ∧ Sz m ∧ Sz e) ∧ ∀ H', Same H H' → Q (.bl (g (n * e - m * d))) H'
structure Opr (P : Program) (w : World) (K : PySem.W.Frag) (mg : Str → Option Value) (base : Heap) (k : Nat) (C : Addr) (m : Str) (f : Addr) (fd : FuncData) (ps : List Str) (sp : Sp) : Prop where
  at_ : PySem.W.findIn K (.ref C) m = some (some (.ref f))
  fn : PySem.W.isFn K (.ref f) = true
  F : FnOk P w K mg base CX0 k f fd ps sp
  b : Binds K fd ps []
abbrev sLt : Stmt := inClass (top 14) 22
theorem scLt : FnScope ["self", "other"] ["self", "other"] (defScope sLt) := ⟨rfl, rfl, rfl, by decide +kernel, rfl, by decide +kernel, by decide +kernel⟩
theorem ok_lt {f p1 f1 f2 : Addr} {fd fd1 fd2 : FuncData} (F : Fun K "__lt__" "Ratio.__lt__" sLt f fd) (T_Ratio : RatT K mg C)
    (S_Ratio_is_number : Sta P w K mg base 2 C "is_number" p1 f1 fd1 ["value"] (spIsNum K C)) (C__lead : Cal P w K mg base 2 "_lead" f2 fd2 ["one", "other"] (spLead C)) : FnOk P w K mg base CX0 3 f fd ["self", "other"] (spCmp C fun z => decide (z < 0)) := by
  refine F.ok scLt (fun vs H Q E h => ?_) (fun cdv A outer s H vs Q E hr h => ?_)
  · obtain ⟨v, u, n, d, m, e, rfl, _⟩ := h
    rfl
  · obtain ⟨v, u, n, d, m, e, rfl, hv, hu, hz, q⟩ := h
    have nd := scLt.nd
    refine ⟨_, pss_cons (ps_if (pt_not (pt_val (Own.pe_smeth T_Ratio.rd S_Ratio_is_number.s S_Ratio_is_number.F (hr.mono (by decide)) S_Ratio_is_number.b pass0 (Own.pe_gref (by rfl) T_Ratio.mgC) (pa_cons (pv 1) pa_nil)))) pss_never pss_nil)
      (pss_one (ps_ret (pe_cmpR op_lt (pe_call C__lead.F (hr.mono (by decide)) (by rfl) C__lead.mgf C__lead.kp C__lead.b .nil pass0 (pa_cons (pv 0) (pa_cons (pv 1) pa_nil))) pe_int (nomark _)))), ?_⟩
    obtain ⟨t, b, c, ty, hb, hc, hbc⟩ := hu.info T_Ratio.toClT
    refine ⟨rfl, _, rfl, _, t, b, c, rfl, ty, hb, hc, _, rfl, iteNot hbc ?_⟩
    exact ⟨_, rfl, _, rfl, v, u, n, d, m, e, rfl, hv, hu, hz, fun H' s1 => ⟨_, _, rfl, rfl, q H' s1⟩⟩
abbrev sLeq : Stmt := inClass (top 14) 23
theorem scLeq : FnScope ["self", "other"] ["self", "other"] (defScope sLeq) := ⟨rfl, rfl, rfl, by decide +kernel, rfl, by decide +kernel, by decide +kernel⟩
theorem ok_le {f p1 f1 f2 : Addr} {fd fd1 fd2 : FuncData} (F : Fun K "__le__" "Ratio.__le__" sLeq f fd) (T_Ratio : RatT K mg C)
    (S_Ratio_is_number : Sta P w K mg base 2 C "is_number" p1 f1 fd1 ["value"] (spIsNum K C)) (C__lead : Cal P w K mg base 2 "_lead" f2 fd2 ["one", "other"] (spLead C)) : FnOk P w K mg base CX0 3 f fd ["self", "other"] (spCmp C fun z => decide (z ≤ 0)) := by
  refine F.ok scLeq (fun vs H Q E h => ?_) (fun cdv A outer s H vs Q E hr h => ?_)
  · obtain ⟨v, u, n, d, m, e, rfl, _⟩ := h
    rfl
  · obtain ⟨v, u, n, d, m, e, rfl, hv, hu, hz, q⟩ := h
    have nd := scLeq.nd
    refine ⟨_, pss_cons (ps_if (pt_not (pt_val (Own.pe_smeth T_Ratio.rd S_Ratio_is_number.s S_Ratio_is_number.F (hr.mono (by decide)) S_Ratio_is_number.b pass0 (Own.pe_gref (by rfl) T_Ratio.mgC) (pa_cons (pv 1) pa_nil)))) pss_never pss_nil)
      (pss_one (ps_ret (pe_cmpR op_le (pe_call C__lead.F (hr.mono (by decide)) (by rfl) C__lead.mgf C__lead.kp C__lead.b .nil pass0 (pa_cons (pv 0) (pa_cons (pv 1) pa_nil))) pe_int (nomark _)))), ?_⟩
    obtain ⟨t, b, c, ty, hb, hc, hbc⟩ := hu.info T_Ratio.toClT
    refine ⟨rfl, _, rfl, _, t, b, c, rfl, ty, hb, hc, _, rfl, iteNot hbc ?_⟩
    exact ⟨_, rfl, _, rfl, v, u, n, d, m, e, rfl, hv, hu, hz, fun H' s1 => ⟨_, _, rfl, rfl, q H' s1⟩⟩
abbrev sGt : Stmt := inClass (top 14) 24
theorem scGt : FnScope ["self", "other"] ["self", "other"] (defScope sGt) := ⟨rfl, rfl, rfl, by decide +kernel, rfl, by decide +kernel, by decide +kernel⟩
theorem ok_gt {f p1 f1 f2 : Addr} {fd fd1 fd2 : FuncData} (F : Fun K "__gt__" "Ratio.__gt__" sGt f fd) (T_Ratio : RatT K mg C)
    (S_Ratio_is_number : Sta P w K mg base 2 C "is_number" p1 f1 fd1 ["value"] (spIsNum K C)) (C__lead : Cal P w K mg base 2 "_lead" f2 fd2 ["one", "other"] (spLead C)) : FnOk P w K mg base CX0 3 f fd ["self", "other"] (spCmp C fun z => decide (0 < z)) := by
  refine F.ok scGt (fun vs H Q E h => ?_) (fun cdv A outer s H vs Q E hr h => ?_)
  · obtain ⟨v, u, n, d, m, e, rfl, _⟩ := h
    rfl
  · obtain ⟨v, u, n, d, m, e, rfl, hv, hu, hz, q⟩ := h
    have nd := scGt.nd
    refine ⟨_, pss_cons (ps_if (pt_not (pt_val (Own.pe_smeth T_Ratio.rd S_Ratio_is_number.s S_Ratio_is_number.F (hr.mono (by decide)) S_Ratio_is_number.b pass0 (Own.pe_gref (by rfl) T_Ratio.mgC) (pa_cons (pv 1) pa_nil)))) pss_never pss_nil)
      (pss_one (ps_ret (pe_cmpR op_gt (pe_call C__lead.F (hr.mono (by decide)) (by rfl) C__lead.mgf C__lead.kp C__lead.b .nil pass0 (pa_cons (pv 0) (pa_cons (pv 1) pa_nil))) pe_int (nomark _)))), ?_⟩
    obtain ⟨t, b, c, ty, hb, hc, hbc⟩ := hu.info T_Ratio.toClT
    refine ⟨rfl, _, rfl, _, t, b, c, rfl, ty, hb, hc, _, rfl, iteNot hbc ?_⟩
    exact ⟨_, rfl, _, rfl, v, u, n, d, m, e, rfl, hv, hu, hz, fun H' s1 => ⟨_, _, rfl, rfl, q H' s1⟩⟩
abbrev sGe : Stmt := inClass (top 14) 25
theorem scGe : FnScope ["self", "other"] ["self", "other"] (defScope sGe) := ⟨rfl, rfl, rfl, by decide +kernel, rfl, by decide +kernel, by decide +kernel⟩
theorem ok_ge {f p1 f1 f2 : Addr} {fd fd1 fd2 : FuncData} (F : Fun K "__ge__" "Ratio.__ge__" sGe f fd) (T_Ratio : RatT K mg C)
    (S_Ratio_is_number : Sta P w K mg base 2 C "is_number" p1 f1 fd1 ["value"] (spIsNum K C)) (C__lead : Cal P w K mg base 2 "_lead" f2 fd2 ["one", "other"] (spLead C)) : FnOk P w K mg base CX0 3 f fd ["self", "other"] (spCmp C fun z => decide (0 ≤ z)) := by
  refine F.ok scGe (fun vs H Q E h => ?_) (fun cdv A outer s H vs Q E hr h => ?_)
  · obtain ⟨v, u, n, d, m, e, rfl, _⟩ := h
    rfl
  · obtain ⟨v, u, n, d, m, e, rfl, hv, hu, hz, q⟩ := h
    have nd := scGe.nd
    refine ⟨_, pss_cons (ps_if (pt_not (pt_val (Own.pe_smeth T_Ratio.rd S_Ratio_is_number.s S_Ratio_is_number.F (hr.mono (by decide)) S_Ratio_is_number.b pass0 (Own.pe_gref (by rfl) T_Ratio.mgC) (pa_cons (pv 1) pa_nil)))) pss_never pss_nil)
      (pss_one (ps_ret (pe_cmpR op_ge (pe_call C__lead.F (hr.mono (by decide)) (by rfl) C__lead.mgf C__lead.kp C__lead.b .nil pass0 (pa_cons (pv 0) (pa_cons (pv 1) pa_nil))) pe_int (nomark _)))), ?_⟩
    obtain ⟨t, b, c, ty, hb, hc, hbc⟩ := hu.info T_Ratio.toClT
    refine ⟨rfl, _, rfl, _, t, b, c, rfl, ty, hb, hc, _, rfl, iteNot hbc ?_⟩
    exact ⟨_, rfl, _, rfl, v, u, n, d, m, e, rfl, hv, hu, hz, fun H' s1 => ⟨_, _, rfl, rfl, q H' s1⟩⟩

end
end Toy
set_option maxRecDepth 100000
set_option maxHeartbeats 4000000
namespace Toy
open PySem L2
open Rat (divInt)
/-! ### numbers of the program as rationals -/
theorem gcdI_eq (t b : Int) : gcdI t b = (Int.gcd b t : Int) := by
  unfold gcdI Int.gcd
  rw [Nat.gcd_comm]
theorem low_num {t b : Int} (h : b ≠ 0) : lowT t b = (divInt t b).num := by
  rw [Rat.num_divInt]
  unfold lowT lowD
  rw [gcdI_eq]
  have hg : (0 : Int) < (Int.gcd b t : Int) := by
    rw [← gcdI_eq]; exact gcdI_pos h
  by_cases hb : 0 < b
  · rw [if_pos hb, Int.sign_eq_one_of_pos hb, Int.one_mul, Int.fdiv_eq_ediv_of_nonneg _ (by omega)]
  · have hb2 : b < 0 := by omega
    rw [if_neg hb, Int.sign_eq_neg_one_of_neg hb2, Int.neg_one_mul, ← Int.fdiv_eq_ediv_of_nonneg _ (by omega), ← Int.neg_fdiv_neg, Int.neg_neg]
theorem low_den {t b : Int} (h : b ≠ 0) : lowB t b = ((divInt t b).den : Int) := by
  rw [Rat.den_divInt, if_neg h]
  unfold lowB lowD
  rw [gcdI_eq]
  have hg : (0 : Int) < (Int.gcd b t : Int) := by
    rw [← gcdI_eq]; exact gcdI_pos h
  rw [Int.natCast_ediv]
  by_cases hb : 0 < b
  · rw [if_pos hb, Int.fdiv_eq_ediv_of_nonneg _ (by omega), Int.natAbs_of_nonneg (by omega)]
  · rw [if_neg hb, show ((b.natAbs : Nat) : Int) = -b by omega, ← Int.fdiv_eq_ediv_of_nonneg _ (by omega), ← Int.neg_fdiv_neg, Int.neg_neg]
/-- a number below 2 ^ k over one below 2 ^ k -/
def Sq (k : Nat) (q : Rat) : Prop := q.num.natAbs < 2 ^ k ∧ q.den < 2 ^ k
theorem Sq.mono {j k : Nat} {q : Rat} (h : Sq j q) (e : j ≤ k) : Sq k q := ⟨Nat.lt_of_lt_of_le h.1 (Nat.pow_le_pow_right (by decide) e), Nat.lt_of_lt_of_le h.2 (Nat.pow_le_pow_right (by decide) e)⟩
theorem Sq.n {k : Nat} {q : Rat} (h : Sq k q) (e : k ≤ 1000) : Sz q.num := (h.mono e).1
theorem Sq.d {k : Nat} {q : Rat} (h : Sq k q) (e : k ≤ 1000) : Sz (q.den : Int) := (h.mono e).2
theorem num_le (t b : Int) : (divInt t b).num.natAbs ≤ t.natAbs := by
  rw [Rat.num_divInt]
  refine Nat.le_trans (Int.natAbs_ediv_le_natAbs _ _) ?_
  rw [Int.natAbs_mul]
  rcases Int.lt_trichotomy b 0 with h | h | h
  · rw [Int.sign_eq_neg_one_of_neg h]; simp
  · subst h; simp
  · rw [Int.sign_eq_one_of_pos h]; simp
theorem den_le {t b : Int} (h : b ≠ 0) : (divInt t b).den ≤ b.natAbs := by
  rw [Rat.den_divInt, if_neg h]
  exact Nat.div_le_self _ _
theorem Sq.of {k : Nat} {t b : Int} (h : b ≠ 0) (ht : t.natAbs < 2 ^ k) (hb : b.natAbs < 2 ^ k) : Sq k (divInt t b) := ⟨Nat.lt_of_le_of_lt (num_le t b) ht, Nat.lt_of_le_of_lt (den_le h) hb⟩
theorem den_ne (q : Rat) : (q.den : Int) ≠ 0 := by have := q.den_pos; omega
theorem den_pos (q : Rat) : (0 : Int) < (q.den : Int) := by have := q.den_pos; omega
theorem q_add (p q : Rat) : divInt (p.num * q.den + q.num * p.den) (p.den * q.den) = p + q := by
  conv => rhs; rw [← Rat.num_divInt_den p, ← Rat.num_divInt_den q]
  rw [Rat.divInt_add_divInt _ _ (den_ne p) (den_ne q)]
theorem q_sub (p q : Rat) : divInt (p.num * q.den - q.num * p.den) (p.den * q.den) = p - q := by
  conv => rhs; rw [← Rat.num_divInt_den p, ← Rat.num_divInt_den q]
  rw [Rat.divInt_sub_divInt _ _ (den_ne p) (den_ne q)]
theorem q_mul (p q : Rat) : divInt (p.num * q.num) (p.den * q.den) = p * q := by
  conv => rhs; rw [← Rat.num_divInt_den p, ← Rat.num_divInt_den q]
  rw [Rat.divInt_mul_divInt]
theorem q_div {p q : Rat} : divInt (p.num * q.den) (p.den * q.num) = p / q := by
  rw [Rat.divInt_eq_div]
  conv => rhs; rw [← Rat.num_divInt_den p, ← Rat.num_divInt_den q]
  rw [Rat.divInt_eq_div, Rat.divInt_eq_div, Rat.intCast_mul, Rat.intCast_mul]
  have h1 : ((p.den : Int) : Rat) ≠ 0 := by simpa using den_ne p
  have h2 : ((q.den : Int) : Rat) ≠ 0 := by simpa using den_ne q
  grind
theorem q_neg (p : Rat) : divInt (-p.num) p.den = -p := by
  conv => rhs; rw [← Rat.num_divInt_den p]
  rw [Rat.neg_divInt]
theorem fdiv_pos (n d k : Int) (hd : 0 < d) (hk : 0 < k) : (n * k).fdiv (d * k) = n / d := by
  rw [Int.fdiv_eq_ediv_of_nonneg _ (by exact Int.le_of_lt (Int.mul_pos hd hk)), Int.mul_ediv_mul_of_pos_left _ _ hk]
theorem q_fdiv {t b : Int} (h : b ≠ 0) : t.fdiv b = (divInt t b).floor := by
  obtain ⟨m, hm, e1, e2⟩ := Rat.divInt_num_den (n := t) (n' := (divInt t b).num) (d' := (divInt t b).den) (z' := (divInt t b).den_nz) (c := (divInt t b).reduced) h rfl
  rw [Rat.floor_def]
  have hd := den_pos (divInt t b)
  generalize (divInt t b).num = n at *
  generalize ((divInt t b).den : Int) = d at *
  rw [e1, e2]
  by_cases hp : 0 < m
  · exact fdiv_pos n d m hd hp
  · rw [← Int.neg_fdiv_neg, ← Int.mul_neg, ← Int.mul_neg]
    exact fdiv_pos n d (-m) hd (by omega)
theorem q_lt (p q : Rat) : decide (p.num * q.den - q.num * p.den < 0) = decide (p < q) := decide_eq_decide.mpr ⟨fun h => (Rat.lt_iff p q).mpr (by omega), fun h => by have := (Rat.lt_iff p q).mp h; omega⟩
theorem q_le (p q : Rat) : decide (p.num * q.den - q.num * p.den ≤ 0) = decide (p ≤ q) := decide_eq_decide.mpr ⟨fun h => (Rat.le_iff p q).mpr (by omega), fun h => by have := (Rat.le_iff p q).mp h; omega⟩
theorem q_gt (p q : Rat) : decide (0 < p.num * q.den - q.num * p.den) = decide (q < p) := decide_eq_decide.mpr ⟨fun h => (Rat.lt_iff q p).mpr (by omega), fun h => by have := (Rat.lt_iff q p).mp h; omega⟩
theorem q_ge (p q : Rat) : decide (0 ≤ p.num * q.den - q.num * p.den) = decide (q ≤ p) := decide_eq_decide.mpr ⟨fun h => (Rat.le_iff q p).mpr (by omega), fun h => by have := (Rat.le_iff q p).mp h; omega⟩
theorem q_eq (p q : Rat) : (decide (p.num = q.num) && decide ((p.den : Int) = q.den)) = decide (p = q) := by
  by_cases h : p = q
  · subst h; simp
  · rw [decide_eq_false h]
    by_cases h1 : p.num = q.num
    · have h2 : (p.den : Int) ≠ q.den := fun e => h (Rat.ext h1 (by exact_mod_cast e))
      simp [h2]
    · simp [h1]
/-! ### sizes -/
theorem mul_lt {i j : Int} {a b : Nat} (ha : i.natAbs < 2 ^ a) (hb : j.natAbs < 2 ^ b) : (i * j).natAbs < 2 ^ (a + b) := wide_lt ha hb
theorem den_abs (q : Rat) : ((q.den : Int)).natAbs = q.den := Int.natAbs_natCast _
theorem add_lt {i j : Int} {a : Nat} (ha : i.natAbs < 2 ^ a) (hb : j.natAbs < 2 ^ a) : (i + j).natAbs < 2 ^ (a + 1) := by
  have := Int.natAbs_add_le i j
  rw [Nat.pow_succ]
  omega
theorem sub_lt {i j : Int} {a : Nat} (ha : i.natAbs < 2 ^ a) (hb : j.natAbs < 2 ^ a) : (i - j).natAbs < 2 ^ (a + 1) := by
  have := Int.natAbs_sub_le i j
  rw [Nat.pow_succ]
  omega
theorem Sq.dd {k : Nat} {q : Rat} (h : Sq k q) : ((q.den : Int)).natAbs < 2 ^ k := by rw [den_abs]; exact h.2
section
variable {j k : Nat} {p q : Rat}
theorem Sq.dm (a : Sq j p) (b : Sq k q) : ((p.den : Int) * q.den).natAbs < 2 ^ (j + k) := mul_lt a.dd b.dd
theorem Sq.tadd (a : Sq j p) (b : Sq k q) : (p.num * q.den + q.num * p.den).natAbs < 2 ^ (j + k + 1) := add_lt (mul_lt a.1 b.dd) (by rw [Nat.add_comm]; exact mul_lt b.1 a.dd)
theorem Sq.tsub (a : Sq j p) (b : Sq k q) : (p.num * q.den - q.num * p.den).natAbs < 2 ^ (j + k + 1) := sub_lt (mul_lt a.1 b.dd) (by rw [Nat.add_comm]; exact mul_lt b.1 a.dd)
theorem dm_ne (p q : Rat) : (p.den : Int) * q.den ≠ 0 := Int.mul_ne_zero (den_ne p) (den_ne q)
theorem Sq.add (a : Sq j p) (b : Sq k q) : Sq (j + k + 1) (p + q) := by rw [← q_add]; exact Sq.of (dm_ne p q) (a.tadd b) (Nat.lt_of_lt_of_le (a.dm b) (Nat.pow_le_pow_right (by decide) (by omega)))
theorem Sq.sub (a : Sq j p) (b : Sq k q) : Sq (j + k + 1) (p - q) := by rw [← q_sub]; exact Sq.of (dm_ne p q) (a.tsub b) (Nat.lt_of_lt_of_le (a.dm b) (Nat.pow_le_pow_right (by decide) (by omega)))
theorem Sq.mul (a : Sq j p) (b : Sq k q) : Sq (j + k) (p * q) := by rw [← q_mul]; exact Sq.of (dm_ne p q) (mul_lt a.1 b.1) (a.dm b)
theorem num_ne {q : Rat} (h : q ≠ 0) : q.num ≠ 0 := fun e => h (Rat.num_eq_zero.mp e)
theorem dn_ne (p : Rat) {q : Rat} (h : q ≠ 0) : (p.den : Int) * q.num ≠ 0 := Int.mul_ne_zero (den_ne p) (num_ne h)
theorem Sq.div (a : Sq j p) (b : Sq k q) (h : q ≠ 0) : Sq (j + k) (p / q) := by rw [← q_div]; exact Sq.of (dn_ne p h) (mul_lt a.1 b.dd) (mul_lt a.dd b.1)
theorem Sq.neg (a : Sq j p) : Sq j (-p) := by
  refine ⟨?_, a.2⟩
  show (-p.num).natAbs < _
  rw [Int.natAbs_neg]
  exact a.1
theorem Sq.abs (a : Sq j p) : Sq j p.abs := by
  unfold Rat.abs
  split
  · exact a
  · exact a.neg
theorem Sq.int {i : Int} (h : i.natAbs < 2 ^ k) (h0 : 0 < k) : Sq k (i : Rat) := ⟨by rw [Rat.num_intCast]; exact h, by rw [Rat.den_intCast]; exact Nat.one_lt_two_pow (by omega)⟩
end
end Toy
set_option maxRecDepth 100000
set_option maxHeartbeats 4000000
namespace Toy
open PySem L2
open Rat (divInt)
/-! ### what the operators of Ratio promise, in rationals -/
def RatQ (C : Addr) (H : Hp) (a : Addr) (q : Rat) : Prop := RatAt C H a q.num q.den
inductive NumQ (C : Addr) (H : Hp) : V → Rat → Prop
  | int (i : Int) : NumQ C H (.int i) (i : Rat)
  | rat {a : Addr} {q : Rat} (h : RatQ C H a q) : NumQ C H (.ref a) q
theorem RatQ.same {C : Addr} {H H' : Hp} {a : Addr} {q : Rat} (h : RatQ C H a q) (e : Same H H') : RatQ C H' a q := RatAt.same h e
theorem RatQ.but {C p : Addr} {H H' : Hp} {a : Addr} {q : Rat} (h : RatQ C H a q) (e : But p H H') (hp : a ≠ p) : RatQ C H' a q := RatAt.but h e hp
theorem NumQ.same {C : Addr} {H H' : Hp} {v : V} {q : Rat} (h : NumQ C H v q) (e : Same H H') : NumQ C H' v q := by
  cases h with
  | int => exact .int _
  | rat h => exact .rat (h.same e)
theorem NumQ.at_ {C : Addr} {H : Hp} {v : V} {q : Rat} (h : NumQ C H v q) : NumAt C H v q.num q.den := by
  cases h with
  | int i => exact .int i
  | rat h => exact .rat h
theorem RatQ.ins {C : Addr} {H : Hp} {a : Addr} {q : Rat} (h : RatQ C H a q) : ∃ dx fs, H a = some (.ins C dx fs) := let ⟨dx, h⟩ := h; ⟨dx, _, h⟩
/-- an int or an instance, as the operators' rules ask -/
theorem NumQ.ri {C : Addr} {H : Hp} {v : V} {q : Rat} (h : NumQ C H v q) : (∃ j, v = .int j) ∨ ∃ b dy gs, v = .ref b ∧ H b = some (.ins C dy gs) := by
  cases h with
  | int i => exact .inl ⟨i, rfl⟩
  | rat h => obtain ⟨dx, h⟩ := h; exact .inr ⟨_, dx, _, rfl, h⟩
theorem NumQ.cases {C : Addr} {H : Hp} {v : V} {q : Rat} (h : NumQ C H v q) : (∃ i : Int, v = .int i ∧ q = i) ∨ ∃ a, v = .ref a ∧ RatQ C H a q := by
  cases h with
  | int i => exact .inl ⟨i, rfl, rfl⟩
  | rat h => exact .inr ⟨_, rfl, h⟩
section
variable {P : Program} {w : World} {K : PySem.W.Frag} {mg : Str → Option Value} {base : Heap} {C : Addr}
theorem mkQ {H1 : Hp} {t b : Int} {Q : VK} {E : XK} {q : Rat} (hb : b ≠ 0) (hz : Sz b) (e : divInt t b = q) (k : ∀ x H', Same H1 H' → RatQ C H' x q → Q (.ref x) H') :
    ∀ x dx, H1 x = none → H1 dx = none → dx ≠ x → spRInit C [.ref x, .int t, .int b] (upd (upd H1 dx (.own x)) x (.ins C dx [])) (fun v H2 => v = .non ∧ Q (.ref x) H2) E :=
  spRInit.make hb hz fun x H' _ s r => k x H' s (by rw [low_num hb, low_den hb, e] at r; exact r)
/-- a Ratio and a number, a Ratio out -/
def spBin (C : Addr) (G : Rat → Rat → Prop) (f : Rat → Rat → Rat) : Sp := fun vs H Q _ => ∃ a u p q, vs = [.ref a, u] ∧ RatQ C H a p ∧ NumQ C H u q ∧ (Sq 490 p ∧ Sq 490 q) ∧ G p q ∧ ∀ x H', Same H H' → RatQ C H' x (f p q) → Q (.ref x) H'
def spUn (C : Addr) (f : Rat → Rat) : Sp := fun vs H Q _ => ∃ a p, vs = [.ref a] ∧ RatQ C H a p ∧ Sq 490 p ∧ ∀ x H', Same H H' → RatQ C H' x (f p) → Q (.ref x) H'
abbrev GT : Rat → Rat → Prop := fun _ _ => True
theorem z4 {p : Rat} (h : Sq 490 p) : Sz p.num ∧ Sz (p.den : Int) := ⟨h.n (by decide), h.d (by decide)⟩
theorem szd {p q : Rat} (a : Sq 490 p) (b : Sq 490 q) : Sz ((p.den : Int) * q.den) := Nat.lt_of_lt_of_le (a.dm b) (Nat.pow_le_pow_right (by decide) (by decide))
abbrev sOver : Stmt := inClass (top 14) 7
theorem scOver : FnScope ["self", "number", "top", "bottom"] ["self", "number"] (defScope sOver) := ⟨rfl, rfl, rfl, by decide +kernel, rfl, by decide +kernel, by decide +kernel⟩
theorem ok_over {f f2 f3 : Addr} {fd fd2 fd3 : FuncData} (F : Fun K "over" "Ratio.over" sOver f fd) (T_Ratio : RatT K mg C) (C_parts_of : Cal P w K mg base 1 "parts_of" f2 fd2 ["number"] (spParts C)) (M_Ratio : Mak P w K mg base 2 "Ratio" C f3 fd3 ["self", "top", "bottom"] (spRInit C)) :
    FnOk P w K mg base CX0 4 f fd ["self", "number"] (spBin C (fun _ q => q ≠ 0) fun p q => p / q) := by
  refine F.ok scOver (fun vs H Q E h => ?_) (fun cdv A outer s H vs Q E hr h => ?_)
  · obtain ⟨a, u, p, q, rfl, _⟩ := h
    rfl
  · obtain ⟨a, u, p, q, rfl, hp, hq, ⟨zp, zq⟩, hG, k⟩ := h
    have nd := scOver.nd
    refine ⟨_, pss_cons (ps_asg (pe_call C_parts_of.F (hr.mono (by decide)) (by rfl) C_parts_of.mgf C_parts_of.kp C_parts_of.b .nil pass0 (pa_cons (pv 1) pa_nil)) (pg_tup (by rfl) (pgs_cons (pg_name (i := 2) nd rfl (Or.inl rfl)) (pgs_cons (pg_name (i := 3) nd rfl (Or.inl rfl)) pgs_nil))))
      (pss_one (ps_ret (pe_make M_Ratio.M M_Ratio.F (hr.mono (by decide)) (by rfl) M_Ratio.mgC M_Ratio.b .nil pass0 (pa_cons (pe_op op_mulW (pe_fld (pv 0) rfl) (pv 3)) (pa_cons (pe_op op_mulW (pe_fld (pv 0) rfl) (pv 2)) pa_nil))))), ?_⟩
    have hv := hq.at_
    obtain ⟨dx, h0⟩ := id hp
    refine ⟨_, rfl, _, _, _, rfl, hv, fun p1 hp1 => ⟨_, _, rfl, SqT.of upd_same, rfl, _, _, rfl, _, _, rfl, rfl, ?_⟩⟩
    have s1 : Same H (upd H p1 (.tup [.int q.num, .int (q.den : Int)])) := same_new hp1
    have h1 := s1 _ _ h0
    refine ⟨_, rfl, _, C, dx, _, _, rfl, h1, T_Ratio.cl, T_Ratio.nT, ratF_top _ _, _, rfl, _, _, rfl, rfl, ((z4 zp).1.mul (z4 zq).2), _, rfl, _, C, dx, _, _, rfl, h1, T_Ratio.cl, T_Ratio.nB, ratF_bot _ _, _, rfl, _, _, rfl, rfl, (z4 zp).2.mul (z4 zq).1, ?_⟩
    exact mkQ (dn_ne p hG) (Nat.lt_of_lt_of_le (mul_lt zp.dd zq.1) (Nat.pow_le_pow_right (by decide) (by decide))) (q_div) fun x H' s2 r => k x H' (s1.trans s2) r
abbrev sAdd : Stmt := inClass (top 14) 8
theorem scAdd : FnScope ["self", "other", "top", "bottom"] ["self", "other"] (defScope sAdd) := ⟨rfl, rfl, rfl, by decide +kernel, rfl, by decide +kernel, by decide +kernel⟩
theorem ok_add {f p1 f1 f2 f3 : Addr} {fd fd1 fd2 fd3 : FuncData} (F : Fun K "__add__" "Ratio.__add__" sAdd f fd) (T_Ratio : RatT K mg C) (S_Ratio_is_number : Sta P w K mg base 2 C "is_number" p1 f1 fd1 ["value"] (spIsNum K C)) (C_parts_of : Cal P w K mg base 1 "parts_of" f2 fd2 ["number"] (spParts C)) (M_Ratio : Mak P w K mg base 2 "Ratio" C f3 fd3 ["self", "top", "bottom"] (spRInit C)) :
    FnOk P w K mg base CX0 4 f fd ["self", "other"] (spBin C GT fun p q => p + q) := by
  refine F.ok scAdd (fun vs H Q E h => ?_) (fun cdv A outer s H vs Q E hr h => ?_)
  · obtain ⟨a, u, p, q, rfl, _⟩ := h
    rfl
  · obtain ⟨a, u, p, q, rfl, hp, hq, ⟨zp, zq⟩, hG, k⟩ := h
    have nd := scAdd.nd
    refine ⟨_, pss_cons (ps_if (pt_not (pt_val (Own.pe_smeth T_Ratio.rd S_Ratio_is_number.s S_Ratio_is_number.F (hr.mono (by decide)) S_Ratio_is_number.b pass0 (Own.pe_gref (by rfl) T_Ratio.mgC) (pa_cons (pv 1) pa_nil)))) pss_never pss_nil)
      (pss_cons (ps_asg (pe_call C_parts_of.F (hr.mono (by decide)) (by rfl) C_parts_of.mgf C_parts_of.kp C_parts_of.b .nil pass0 (pa_cons (pv 1) pa_nil)) (pg_tup (by rfl) (pgs_cons (pg_name (i := 2) nd rfl (Or.inl rfl)) (pgs_cons (pg_name (i := 3) nd rfl (Or.inl rfl)) pgs_nil))))
      (pss_one (ps_ret (pe_make M_Ratio.M M_Ratio.F (hr.mono (by decide)) (by rfl) M_Ratio.mgC M_Ratio.b .nil pass0 (pa_cons (pe_op op_add (pe_op op_mulW (pe_fld (pv 0) rfl) (pv 3)) (pe_op op_mulW (pv 2) (pe_fld (pv 0) rfl))) (pa_cons (pe_op op_mulW (pe_fld (pv 0) rfl) (pv 3)) pa_nil)))))), ?_⟩
    have hv := hq.at_
    obtain ⟨dx, h0⟩ := id hp
    obtain ⟨t, b, c, ty, hb, hc, hbc⟩ := hv.info T_Ratio.toClT
    refine ⟨rfl, _, rfl, _, t, b, c, rfl, ty, hb, hc, _, rfl, iteNot hbc ?_⟩
    refine ⟨_, rfl, _, _, _, rfl, hv, fun p1 hp1 => ⟨_, _, rfl, SqT.of upd_same, rfl, _, _, rfl, _, _, rfl, rfl, ?_⟩⟩
    have s1 : Same H (upd H p1 (.tup [.int q.num, .int (q.den : Int)])) := same_new hp1
    have h1 := s1 _ _ h0
    refine ⟨_, rfl, _, C, dx, _, _, rfl, h1, T_Ratio.cl, T_Ratio.nT, ratF_top _ _, _, rfl, _, _, rfl, rfl, ((z4 zp).1.mul (z4 zq).2), _, rfl, _, rfl, _, C, dx, _, _, rfl, h1, T_Ratio.cl, T_Ratio.nB, ratF_bot _ _, _, _, rfl, rfl, ((z4 zq).1.mul (z4 zp).2), _, _, rfl, rfl, _, rfl, _, C, dx, _, _, rfl, h1, T_Ratio.cl, T_Ratio.nB, ratF_bot _ _, _, rfl, _, _, rfl, rfl, ((z4 zp).2.mul (z4 zq).2), ?_⟩
    exact mkQ (dm_ne p q) (szd zp zq) (q_add p q) fun x H' s2 r => k x H' (s1.trans s2) r
abbrev sSub : Stmt := inClass (top 14) 10
theorem scSub : FnScope ["self", "other", "top", "bottom"] ["self", "other"] (defScope sSub) := ⟨rfl, rfl, rfl, by decide +kernel, rfl, by decide +kernel, by decide +kernel⟩
theorem ok_sub {f p1 f1 f2 f3 : Addr} {fd fd1 fd2 fd3 : FuncData} (F : Fun K "__sub__" "Ratio.__sub__" sSub f fd) (T_Ratio : RatT K mg C) (S_Ratio_is_number : Sta P w K mg base 2 C "is_number" p1 f1 fd1 ["value"] (spIsNum K C)) (C_parts_of : Cal P w K mg base 1 "parts_of" f2 fd2 ["number"] (spParts C)) (M_Ratio : Mak P w K mg base 2 "Ratio" C f3 fd3 ["self", "top", "bottom"] (spRInit C)) :
    FnOk P w K mg base CX0 4 f fd ["self", "other"] (spBin C GT fun p q => p - q) := by
  refine F.ok scSub (fun vs H Q E h => ?_) (fun cdv A outer s H vs Q E hr h => ?_)
  · obtain ⟨a, u, p, q, rfl, _⟩ := h
    rfl
  · obtain ⟨a, u, p, q, rfl, hp, hq, ⟨zp, zq⟩, hG, k⟩ := h
    have nd := scSub.nd
    refine ⟨_, pss_cons (ps_if (pt_not (pt_val (Own.pe_smeth T_Ratio.rd S_Ratio_is_number.s S_Ratio_is_number.F (hr.mono (by decide)) S_Ratio_is_number.b pass0 (Own.pe_gref (by rfl) T_Ratio.mgC) (pa_cons (pv 1) pa_nil)))) pss_never pss_nil)
      (pss_cons (ps_asg (pe_call C_parts_of.F (hr.mono (by decide)) (by rfl) C_parts_of.mgf C_parts_of.kp C_parts_of.b .nil pass0 (pa_cons (pv 1) pa_nil)) (pg_tup (by rfl) (pgs_cons (pg_name (i := 2) nd rfl (Or.inl rfl)) (pgs_cons (pg_name (i := 3) nd rfl (Or.inl rfl)) pgs_nil))))
      (pss_one (ps_ret (pe_make M_Ratio.M M_Ratio.F (hr.mono (by decide)) (by rfl) M_Ratio.mgC M_Ratio.b .nil pass0 (pa_cons (pe_op op_sub (pe_op op_mulW (pe_fld (pv 0) rfl) (pv 3)) (pe_op op_mulW (pv 2) (pe_fld (pv 0) rfl))) (pa_cons (pe_op op_mulW (pe_fld (pv 0) rfl) (pv 3)) pa_nil)))))), ?_⟩
    have hv := hq.at_
    obtain ⟨dx, h0⟩ := id hp
    obtain ⟨t, b, c, ty, hb, hc, hbc⟩ := hv.info T_Ratio.toClT
    refine ⟨rfl, _, rfl, _, t, b, c, rfl, ty, hb, hc, _, rfl, iteNot hbc ?_⟩
    refine ⟨_, rfl, _, _, _, rfl, hv, fun p1 hp1 => ⟨_, _, rfl, SqT.of upd_same, rfl, _, _, rfl, _, _, rfl, rfl, ?_⟩⟩
    have s1 : Same H (upd H p1 (.tup [.int q.num, .int (q.den : Int)])) := same_new hp1
    have h1 := s1 _ _ h0
    refine ⟨_, rfl, _, C, dx, _, _, rfl, h1, T_Ratio.cl, T_Ratio.nT, ratF_top _ _, _, rfl, _, _, rfl, rfl, ((z4 zp).1.mul (z4 zq).2), _, rfl, _, rfl, _, C, dx, _, _, rfl, h1, T_Ratio.cl, T_Ratio.nB, ratF_bot _ _, _, _, rfl, rfl, ((z4 zq).1.mul (z4 zp).2), _, _, rfl, rfl, _, rfl, _, C, dx, _, _, rfl, h1, T_Ratio.cl, T_Ratio.nB, ratF_bot _ _, _, rfl, _, _, rfl, rfl, ((z4 zp).2.mul (z4 zq).2), ?_⟩
    exact mkQ (dm_ne p q) (szd zp zq) (q_sub p q) fun x H' s2 r => k x H' (s1.trans s2) r
abbrev sMul : Stmt := inClass (top 14) 12
theorem scMul : FnScope ["self", "other", "top", "bottom"] ["self", "other"] (defScope sMul) := ⟨rfl, rfl, rfl, by decide +kernel, rfl, by decide +kernel, by decide +kernel⟩
theorem ok_mul {f p1 f1 f2 f3 : Addr} {fd fd1 fd2 fd3 : FuncData} (F : Fun K "__mul__" "Ratio.__mul__" sMul f fd) (T_Ratio : RatT K mg C) (S_Ratio_is_number : Sta P w K mg base 2 C "is_number" p1 f1 fd1 ["value"] (spIsNum K C)) (C_parts_of : Cal P w K mg base 1 "parts_of" f2 fd2 ["number"] (spParts C)) (M_Ratio : Mak P w K mg base 2 "Ratio" C f3 fd3 ["self", "top", "bottom"] (spRInit C)) :
    FnOk P w K mg base CX0 4 f fd ["self", "other"] (spBin C GT fun p q => p * q) := by
  refine F.ok scMul (fun vs H Q E h => ?_) (fun cdv A outer s H vs Q E hr h => ?_)
  · obtain ⟨a, u, p, q, rfl, _⟩ := h
    rfl
  · obtain ⟨a, u, p, q, rfl, hp, hq, ⟨zp, zq⟩, hG, k⟩ := h
    have nd := scMul.nd
    refine ⟨_, pss_cons (ps_if (pt_not (pt_val (Own.pe_smeth T_Ratio.rd S_Ratio_is_number.s S_Ratio_is_number.F (hr.mono (by decide)) S_Ratio_is_number.b pass0 (Own.pe_gref (by rfl) T_Ratio.mgC) (pa_cons (pv 1) pa_nil)))) pss_never pss_nil)
      (pss_cons (ps_asg (pe_call C_parts_of.F (hr.mono (by decide)) (by rfl) C_parts_of.mgf C_parts_of.kp C_parts_of.b .nil pass0 (pa_cons (pv 1) pa_nil)) (pg_tup (by rfl) (pgs_cons (pg_name (i := 2) nd rfl (Or.inl rfl)) (pgs_cons (pg_name (i := 3) nd rfl (Or.inl rfl)) pgs_nil))))
      (pss_one (ps_ret (pe_make M_Ratio.M M_Ratio.F (hr.mono (by decide)) (by rfl) M_Ratio.mgC M_Ratio.b .nil pass0 (pa_cons (pe_op op_mulW (pe_fld (pv 0) rfl) (pv 2)) (pa_cons (pe_op op_mulW (pe_fld (pv 0) rfl) (pv 3)) pa_nil)))))), ?_⟩
    have hv := hq.at_
    obtain ⟨dx, h0⟩ := id hp
    obtain ⟨t, b, c, ty, hb, hc, hbc⟩ := hv.info T_Ratio.toClT
    refine ⟨rfl, _, rfl, _, t, b, c, rfl, ty, hb, hc, _, rfl, iteNot hbc ?_⟩
    refine ⟨_, rfl, _, _, _, rfl, hv, fun p1 hp1 => ⟨_, _, rfl, SqT.of upd_same, rfl, _, _, rfl, _, _, rfl, rfl, ?_⟩⟩
    have s1 : Same H (upd H p1 (.tup [.int q.num, .int (q.den : Int)])) := same_new hp1
    have h1 := s1 _ _ h0
    refine ⟨_, rfl, _, C, dx, _, _, rfl, h1, T_Ratio.cl, T_Ratio.nT, ratF_top _ _, _, rfl, _, _, rfl, rfl, ((z4 zp).1.mul (z4 zq).1), _, rfl, _, C, dx, _, _, rfl, h1, T_Ratio.cl, T_Ratio.nB, ratF_bot _ _, _, rfl, _, _, rfl, rfl, ((z4 zp).2.mul (z4 zq).2), ?_⟩
    exact mkQ (dm_ne p q) (szd zp zq) (q_mul p q) fun x H' s2 r => k x H' (s1.trans s2) r
end
end Toy
set_option maxRecDepth 100000
set_option maxHeartbeats 4000000
set_option exponentiation.threshold 3000
namespace Toy
open PySem L2
open Rat (divInt)
theorem q_abs (p : Rat) : divInt (if p.num < 0 then -p.num else p.num) p.den = p.abs := by
  by_cases h : p.num < 0
  · rw [if_pos h, q_neg, Rat.abs, if_neg]
    intro z
    have := Rat.num_nonneg.mpr z
    omega
  · rw [if_neg h, Rat.num_divInt_den, Rat.abs, if_pos (Rat.num_nonneg.mp (by omega))]
theorem eqvT (n m x y : Int) : PyData.eqv (.tuple [.int n, .int m]) (.tuple [.int x, .int y]) = (decide (n = x) && decide (m = y)) := by
  show (n == x && (m == y && true)) = _
  rw [Bool.and_true]
  rfl
section
variable {P : Program} {w : World} {K : PySem.W.Frag} {mg : Str → Option Value} {base : Heap} {C : Addr}
/-- facts for an operator of Ratio with a Ratio at the left -/
structure BinF (K : PySem.W.Frag) (C : Addr) (op : Operator) : Prop where
  hc : PySem.W.selfFirst K C = true
  hR : ∃ rc, PySem.W.findIn K (.ref C) (dunderR op.info.2) = some rc ∧ (rc = none ∨ ∃ g : Addr, rc = some (.ref g))
  h1 : ∃ fo, PySem.W.findIn K (.type "int") (PySem.dunder op.info.2) = some fo
  h2 : ∃ ro, PySem.W.findIn K (.type "int") (dunderR op.info.2) = some ro
  hs : PySem.W.subIn K (.type "int") (.ref C) = some false
theorem op_B {X : Cx} {CX : CXT} {k : Nat} {f : Addr} {fd : FuncData} {ps : List Str} {sp : Sp} {E : XK} {op : Operator} (B : BinF X.K C op) (F : FnOk X.prog X.w X.K X.mg X.base CX k f fd ps sp) (hr : Room k X.A)
    (hs : PySem.W.findIn X.K (.ref C) (PySem.dunder op.info.2) = some (some (.ref f))) (hf : PySem.W.isFn X.K (.ref f) = true) (hb : Binds X.K fd ps []) (hx : Passes CX X E) : OpR X (binaryOp op) (Own.rOwnB C sp E) := by
  obtain ⟨rc, hR, hp⟩ := B.hR
  obtain ⟨fo, h1⟩ := B.h1
  obtain ⟨ro, h2⟩ := B.h2
  exact Own.op_ownB F hr hs hf B.hc hR hp h1 h2 B.hs hb hx
abbrev sNeg : Stmt := inClass (top 14) 18
theorem scNeg : FnScope ["self"] ["self"] (defScope sNeg) := ⟨rfl, rfl, rfl, by decide +kernel, rfl, by decide +kernel, by decide +kernel⟩
theorem ok_neg {f f3 : Addr} {fd fd3 : FuncData} (F : Fun K "__neg__" "Ratio.__neg__" sNeg f fd) (T_Ratio : RatT K mg C) (M_Ratio : Mak P w K mg base 2 "Ratio" C f3 fd3 ["self", "top", "bottom"] (spRInit C)) :
    FnOk P w K mg base CX0 4 f fd ["self"] (spUn C fun p => -p) := by
  refine F.ok scNeg (fun vs H Q E h => ?_) (fun cdv A outer s H vs Q E hr h => ?_)
  · obtain ⟨a, p, rfl, _⟩ := h
    rfl
  · obtain ⟨a, p, rfl, hp, zp, k⟩ := h
    have nd := scNeg.nd
    refine ⟨_, pss_one (ps_ret (pe_make M_Ratio.M M_Ratio.F (hr.mono (by decide)) (by rfl) M_Ratio.mgC M_Ratio.b .nil pass0 (pa_cons (pe_un un_neg (pe_fld (pv 0) rfl)) (pa_cons (pe_fld (pv 0) rfl) pa_nil)))), ?_⟩
    obtain ⟨dx, h1⟩ := id hp
    refine ⟨_, rfl, _, C, dx, _, _, rfl, h1, T_Ratio.cl, T_Ratio.nT, ratF_top _ _, _, rfl, _, rfl, _, C, dx, _, _, rfl, h1, T_Ratio.cl, T_Ratio.nB, ratF_bot _ _, ?_⟩
    exact mkQ (den_ne p) (z4 zp).2 (q_neg p) k
abbrev sAbs : Stmt := inClass (top 14) 19
theorem scAbs : FnScope ["self"] ["self"] (defScope sAbs) := ⟨rfl, rfl, rfl, by decide +kernel, rfl, by decide +kernel, by decide +kernel⟩
theorem ok_abs {f f3 : Addr} {fd fd3 : FuncData} (F : Fun K "__abs__" "Ratio.__abs__" sAbs f fd) (T : Bl mg) (T_Ratio : RatT K mg C) (M_Ratio : Mak P w K mg base 2 "Ratio" C f3 fd3 ["self", "top", "bottom"] (spRInit C)) :
    FnOk P w K mg base CX0 4 f fd ["self"] (spUn C Rat.abs) := by
  refine F.ok scAbs (fun vs H Q E h => ?_) (fun cdv A outer s H vs Q E hr h => ?_)
  · obtain ⟨a, p, rfl, _⟩ := h
    rfl
  · obtain ⟨a, p, rfl, hp, zp, k⟩ := h
    have nd := scAbs.nd
    refine ⟨_, pss_one (ps_ret (pe_make M_Ratio.M M_Ratio.F (hr.mono (by decide)) (by rfl) M_Ratio.mgC M_Ratio.b .nil pass0 (pa_cons (pe_callB call_abs (by rfl) T.abs (by decide +kernel) (pa_cons (pe_fld (pv 0) rfl) pa_nil)) (pa_cons (pe_fld (pv 0) rfl) pa_nil)))), ?_⟩
    obtain ⟨dx, h1⟩ := id hp
    refine ⟨_, rfl, _, C, dx, _, _, rfl, h1, T_Ratio.cl, T_Ratio.nT, ratF_top _ _, _, rfl, _, rfl, _, C, dx, _, _, rfl, h1, T_Ratio.cl, T_Ratio.nB, ratF_bot _ _, ?_⟩
    exact mkQ (den_ne p) (z4 zp).2 (q_abs p) k
/-- == with a number -/
def spEqQ (C : Addr) : Sp := fun vs H Q _ => ∃ a u p q, vs = [.ref a, u] ∧ RatQ C H a p ∧ NumQ C H u q ∧ ∀ H', Same H H' → Q (.bl (decide (p = q))) H'
abbrev sEq : Stmt := inClass (top 14) 21
theorem scEq : FnScope ["self", "other"] ["self", "other"] (defScope sEq) := ⟨rfl, rfl, rfl, by decide +kernel, rfl, by decide +kernel, by decide +kernel⟩
theorem ok_eq {f p1 f1 f2 : Addr} {fd fd1 fd2 : FuncData} (F : Fun K "__eq__" "Ratio.__eq__" sEq f fd) (T_Ratio : RatT K mg C) (S_Ratio_is_number : Sta P w K mg base 2 C "is_number" p1 f1 fd1 ["value"] (spIsNum K C)) (C_parts_of : Cal P w K mg base 1 "parts_of" f2 fd2 ["number"] (spParts C)) :
    FnOk P w K mg base CX0 3 f fd ["self", "other"] (spEqQ C) := by
  refine F.ok scEq (fun vs H Q E h => ?_) (fun cdv A outer s H vs Q E hr h => ?_)
  · obtain ⟨a, u, p, q, rfl, _⟩ := h
    rfl
  · obtain ⟨a, u, p, q, rfl, hp, hq, k⟩ := h
    have nd := scEq.nd
    refine ⟨_, pss_cons (ps_if (pt_not (pt_val (Own.pe_smeth T_Ratio.rd S_Ratio_is_number.s S_Ratio_is_number.F (hr.mono (by decide)) S_Ratio_is_number.b pass0 (Own.pe_gref (by rfl) T_Ratio.mgC) (pa_cons (pv 1) pa_nil)))) (pss_one (ps_ret pe_bl)) pss_nil)
      (pss_one (ps_ret (pe_cmpR (op_eqD hr.units) (pe_call C_parts_of.F (hr.mono (by decide)) (by rfl) C_parts_of.mgf C_parts_of.kp C_parts_of.b .nil pass0 (pa_cons (pv 0) pa_nil)) (pe_call C_parts_of.F (hr.mono (by decide)) (by rfl) C_parts_of.mgf C_parts_of.kp C_parts_of.b .nil pass0 (pa_cons (pv 1) pa_nil)) (nomark _)))), ?_⟩
    obtain ⟨t, b, c, ty, hb, hc, hbc⟩ := hq.at_.info T_Ratio.toClT
    refine ⟨rfl, _, rfl, _, t, b, c, rfl, ty, hb, hc, _, rfl, iteNot hbc ?_⟩
    refine ⟨_, rfl, _, _, _, rfl, (NumQ.rat hp).at_, fun x1 hx1 => ?_⟩
    have s1 : Same H (upd H x1 (.tup [.int p.num, .int (p.den : Int)])) := same_new hx1
    refine ⟨_, rfl, _, _, _, rfl, (hq.same s1).at_, fun x2 hx2 => ?_⟩
    have s2 := same_new (o := .tup [.int q.num, .int (q.den : Int)]) hx2
    refine ⟨_, _, .tup (SqT.of (s2 _ _ upd_same)) (.cons (.int _) (.cons (.int _) .nil)), .tup (SqT.of upd_same) (.cons (.int _) (.cons (.int _) .nil)), rfl, rfl, ?_⟩
    rw [eqvT, q_eq]
    exact k _ (s1.trans s2)
/-- the whole quotient -/
def spQuo (C : Addr) : Sp := fun vs H Q _ => ∃ v u p q, vs = [v, u] ∧ NumQ C H v p ∧ NumQ C H u q ∧ (Sq 490 p ∧ Sq 490 q) ∧ q ≠ 0 ∧ ∀ H', Same H H' → Q (.int (p / q).floor) H'
abbrev sQuo : Stmt := top 18
theorem scQuo : FnScope ["one", "other", "top", "bottom", "other_top", "other_bottom"] ["one", "other"] (defScope sQuo) := ⟨rfl, rfl, rfl, by decide +kernel, rfl, by decide +kernel, by decide +kernel⟩
theorem ok_quo {f f2 : Addr} {fd fd2 : FuncData} (F : Fun K "_quotient" "_quotient" sQuo f fd) (C_parts_of : Cal P w K mg base 1 "parts_of" f2 fd2 ["number"] (spParts C)) :
    FnOk P w K mg base CX0 2 f fd ["one", "other"] (spQuo C) := by
  refine F.ok scQuo (fun vs H Q E h => ?_) (fun cdv A outer s H vs Q E hr h => ?_)
  · obtain ⟨v, u, p, q, rfl, _⟩ := h
    rfl
  · obtain ⟨v, u, p, q, rfl, hp, hq, ⟨zp, zq⟩, h0, k⟩ := h
    have nd := scQuo.nd
    refine ⟨_, pss_cons (ps_asg (pe_call C_parts_of.F (hr.mono (by decide)) (by rfl) C_parts_of.mgf C_parts_of.kp C_parts_of.b .nil pass0 (pa_cons (pv 0) pa_nil)) (pg_tup (by rfl) (pgs_cons (pg_name (i := 2) nd rfl (Or.inl rfl)) (pgs_cons (pg_name (i := 3) nd rfl (Or.inl rfl)) pgs_nil))))
      (pss_cons (ps_asg (pe_call C_parts_of.F (hr.mono (by decide)) (by rfl) C_parts_of.mgf C_parts_of.kp C_parts_of.b .nil pass0 (pa_cons (pv 1) pa_nil)) (pg_tup (by rfl) (pgs_cons (pg_name (i := 4) nd rfl (Or.inl rfl)) (pgs_cons (pg_name (i := 5) nd rfl (Or.inl rfl)) pgs_nil))))
      (pss_cons (ps_if (pt_cmpR op_eq (pv 4) pe_int (nomark _)) pss_never pss_nil)
      (pss_one (ps_ret (pe_op op_fdivZ (pe_op op_mulW (pv 2) (pv 5)) (pe_op op_mulW (pv 3) (pv 4))))))), ?_⟩
    refine ⟨_, rfl, _, _, _, rfl, hp.at_, fun x1 hx1 => ⟨_, _, rfl, SqT.of upd_same, rfl, _, _, rfl, _, _, rfl, rfl, ?_⟩⟩
    have s1 : Same H (upd H x1 (.tup [.int p.num, .int (p.den : Int)])) := same_new hx1
    refine ⟨_, rfl, _, _, _, rfl, (hq.same s1).at_, fun x2 hx2 => ⟨_, _, rfl, SqT.of upd_same, rfl, _, _, rfl, _, _, rfl, rfl, ?_⟩⟩
    have s2 := same_new (o := .tup [.int q.num, .int (q.den : Int)]) hx2
    refine ⟨_, rfl, rfl, _, rfl, ?_⟩
    refine ite2 (fun e => absurd e (vint_ne (num_ne h0))) (fun _ => ?_)
    have hd : (p.den : Int) * q.num ≠ 0 := dn_ne p h0
    have zd : Sz ((p.den : Int) * q.num) := Nat.lt_of_lt_of_le (mul_lt zp.dd zq.1) (Nat.pow_le_pow_right (by decide) (by decide))
    refine ⟨_, rfl, _, rfl, _, _, rfl, rfl, (z4 zp).1.mul (z4 zq).2, _, rfl, _, rfl, _, _, rfl, rfl, (z4 zp).2.mul (z4 zq).1, _, _, rfl, rfl, zd.div hd, ?_⟩
    show Q (.int ((p.num * (q.den : Int)).fdiv ((p.den : Int) * q.num))) _
    rw [q_fdiv hd, q_div]
    exact k _ (s1.trans s2)
abbrev sRAdd : Stmt := inClass (top 14) 9
theorem scRAdd : FnScope ["self", "other"] ["self", "other"] (defScope sRAdd) := ⟨rfl, rfl, rfl, by decide +kernel, rfl, by decide +kernel, by decide +kernel⟩
theorem ok_radd {f g : Addr} {fd gd : FuncData} (F : Fun K "__radd__" "Ratio.__radd__" sRAdd f fd) (B : BinF K C .Add) (O : Opr P w K mg base 4 C "__add__" g gd ["self", "other"] (spBin C GT fun p q => p + q)) :
    FnOk P w K mg base CX0 5 f fd ["self", "other"] (spBin C GT fun p q => p + q) := by
  refine F.ok scRAdd (fun vs H Q E h => ?_) (fun cdv A outer s H vs Q E hr h => ?_)
  · obtain ⟨a, u, p, q, rfl, _⟩ := h
    rfl
  · obtain ⟨a, u, p, q, rfl, hp, hq, z, g, k⟩ := h
    have nd := scRAdd.nd
    refine ⟨_, pss_one (ps_ret (pe_op (op_B B O.F (hr.mono (by decide)) O.at_ O.fn O.b pass0) (pv 0) (pv 1))), ?_⟩
    obtain ⟨dx, fs, h1⟩ := hp.ins
    exact ⟨_, rfl, _, rfl, a, dx, fs, rfl, h1, hq.ri, a, u, p, q, rfl, hp, hq, z, g, k⟩
abbrev sRMul : Stmt := inClass (top 14) 13
theorem scRMul : FnScope ["self", "other"] ["self", "other"] (defScope sRMul) := ⟨rfl, rfl, rfl, by decide +kernel, rfl, by decide +kernel, by decide +kernel⟩
theorem ok_rmul {f g : Addr} {fd gd : FuncData} (F : Fun K "__rmul__" "Ratio.__rmul__" sRMul f fd) (B : BinF K C .Mult) (O : Opr P w K mg base 4 C "__mul__" g gd ["self", "other"] (spBin C GT fun p q => p * q)) :
    FnOk P w K mg base CX0 5 f fd ["self", "other"] (spBin C GT fun p q => p * q) := by
  refine F.ok scRMul (fun vs H Q E h => ?_) (fun cdv A outer s H vs Q E hr h => ?_)
  · obtain ⟨a, u, p, q, rfl, _⟩ := h
    rfl
  · obtain ⟨a, u, p, q, rfl, hp, hq, z, g, k⟩ := h
    have nd := scRMul.nd
    refine ⟨_, pss_one (ps_ret (pe_op (op_B B O.F (hr.mono (by decide)) O.at_ O.fn O.b pass0) (pv 0) (pv 1))), ?_⟩
    obtain ⟨dx, fs, h1⟩ := hp.ins
    exact ⟨_, rfl, _, rfl, a, dx, fs, rfl, h1, hq.ri, a, u, p, q, rfl, hp, hq, z, g, k⟩
abbrev sFDiv : Stmt := inClass (top 14) 14
theorem scFDiv : FnScope ["self", "other"] ["self", "other"] (defScope sFDiv) := ⟨rfl, rfl, rfl, by decide +kernel, rfl, by decide +kernel, by decide +kernel⟩
theorem ok_fdiv {f p1 f1 f2 : Addr} {fd fd1 fd2 : FuncData} (F : Fun K "__floordiv__" "Ratio.__floordiv__" sFDiv f fd) (T_Ratio : RatT K mg C) (S_Ratio_is_number : Sta P w K mg base 2 C "is_number" p1 f1 fd1 ["value"] (spIsNum K C)) (C__quotient : Cal P w K mg base 2 "_quotient" f2 fd2 ["one", "other"] (spQuo C)) :
    FnOk P w K mg base CX0 3 f fd ["self", "other"] (spQuo C) := by
  refine F.ok scFDiv (fun vs H Q E h => ?_) (fun cdv A outer s H vs Q E hr h => ?_)
  · obtain ⟨v, u, p, q, rfl, _⟩ := h
    rfl
  · obtain ⟨v, u, p, q, rfl, hp, hq, z, h0, k⟩ := h
    have nd := scFDiv.nd
    refine ⟨_, pss_cons (ps_if (pt_not (pt_val (Own.pe_smeth T_Ratio.rd S_Ratio_is_number.s S_Ratio_is_number.F (hr.mono (by decide)) S_Ratio_is_number.b pass0 (Own.pe_gref (by rfl) T_Ratio.mgC) (pa_cons (pv 1) pa_nil)))) pss_never pss_nil)
      (pss_one (ps_ret (pe_call C__quotient.F (hr.mono (by decide)) (by rfl) C__quotient.mgf C__quotient.kp C__quotient.b .nil pass0 (pa_cons (pv 0) (pa_cons (pv 1) pa_nil))))), ?_⟩
    obtain ⟨t, b, c, ty, hb, hc, hbc⟩ := hq.at_.info T_Ratio.toClT
    refine ⟨rfl, _, rfl, _, t, b, c, rfl, ty, hb, hc, _, rfl, iteNot hbc ?_⟩
    exact ⟨_, rfl, _, rfl, v, u, p, q, rfl, hp, hq, z, h0, k⟩
/-- a number as a Ratio -/
def spOfQ (C : Addr) : Sp := fun vs H Q _ => ∃ v q, vs = [v] ∧ NumQ C H v q ∧ ∀ r H', RatQ C H' r q → Same H H' → Q (.ref r) H'
theorem gcdI_one (i : Int) : gcdI i 1 = 1 := by
  unfold gcdI
  show ((Nat.gcd i.natAbs 1 : Nat) : Int) = 1
  rw [Nat.gcd_one_right]
  rfl
theorem Sz1 : Sz 1 := by unfold Sz; decide +kernel
theorem q_int (i : Int) : divInt i 1 = (i : Rat) := by
  rw [Rat.divInt_eq_div]
  have h : ((1 : Int) : Rat) = 1 := rfl
  grind
abbrev sOf : Stmt := inClass (top 14) 3
theorem scOf : FnScope ["number"] ["number"] (defScope sOf) := ⟨rfl, rfl, rfl, by decide +kernel, rfl, by decide +kernel, by decide +kernel⟩
theorem ok_of {f f1 f2 : Addr} {fd fd1 fd2 : FuncData} {dvs : List Value} (F : Fun K "of" "Ratio.of" sOf f fd) (T : Bl mg) (T_Ratio : RatT K mg C) (C_is_int : Cal P w K mg base 1 "is_int" f1 fd1 ["value"] (spIsInt K))
    (M_Ratio : Mak P w K mg base 2 "Ratio" C f2 fd2 ["self", "top", "bottom"] (spRInit C)) (hd : Vals [V.int 1] dvs) (hb1 : Binds K fd2 ["self", "top", "bottom"] dvs) : FnOk P w K mg base CX0 4 f fd ["number"] (spOfQ C) := by
  refine F.ok scOf (fun vs H Q E h => ?_) (fun cdv A outer s H vs Q E hr h => ?_)
  · obtain ⟨v, q, rfl, _⟩ := h
    rfl
  · obtain ⟨v, q, rfl, hv, k⟩ := h
    have nd := scOf.nd
    refine ⟨_, pss_cons (ps_if (pt_val (pe_callB call_isi (by rfl) T.isinstance (by decide +kernel) (pa_cons (pv 0) (pa_cons (Own.pe_gref (by rfl) T_Ratio.mgC) pa_nil)))) (pss_one (ps_ret (pv 0))) pss_nil)
      (pss_cons (ps_if (pt_not (pt_val (pe_call C_is_int.F (hr.mono (by decide)) (by rfl) C_is_int.mgf C_is_int.kp C_is_int.b .nil pass0 (pa_cons (pv 0) pa_nil)))) pss_never pss_nil)
      (pss_one (ps_ret (pe_make M_Ratio.M M_Ratio.F (hr.mono (by decide)) (by rfl) M_Ratio.mgC hb1 hd pass0 (pa_cons (pv 0) pa_nil))))), ?_⟩
    rcases hv.cases with ⟨i, rfl, rfl⟩ | ⟨a, rfl, hR⟩
    · refine ⟨_, rfl, _, _, _, _, false, rfl, .own _, .base (.int _), T_Ratio.iK, _, rfl, iteF ?_⟩
      refine ⟨_, rfl, _, _, true, rfl, .base (.int _), isIntK_int, _, rfl, iteF ?_⟩
      exact ⟨_, rfl, mkQ (by decide) Sz1 (q_int i) fun x H' s1 hR => k x H' hR s1⟩
    · obtain ⟨dx, h⟩ := id hR
      refine ⟨_, rfl, _, _, _, _, true, rfl, .own _, T_Ratio.ty h, T_Ratio.kS, _, rfl, iteT ?_⟩
      exact ⟨_, rfl, k a H hR (Same.refl H)⟩
/-- the rest -/
def qmod (p q : Rat) : Rat := p - ((p / q).floor : Rat) * q
def spMod (C : Addr) : Sp := spBin C (fun p q => q ≠ 0 ∧ Sq 120 p ∧ Sq 120 q) qmod
/-- int at the left, the reflected operator -/
theorem op_R {X : Cx} {CX : CXT} {k : Nat} {f f0 : Addr} {fd : FuncData} {ps : List Str} {sp : Sp} {E : XK} {op : Operator} {id : String} {Bi : Builtin} (B : BinF X.K C op) (F : FnOk X.prog X.w X.K X.mg X.base CX k f fd ps sp) (hr : Room k X.A)
    (hs : PySem.W.findIn X.K (.ref C) (dunderR op.info.2) = some (some (.ref f))) (hf : PySem.W.isFn X.K (.ref f) = true) (hs0 : PySem.W.findIn X.K (.ref C) (PySem.dunder op.info.2) = some (some (.ref f0))) (hsub : PySem.W.subIn X.K (.ref C) (.type "int") = some false)
    (hb : Binds X.K fd ps []) (hx : Passes CX X E) (fills : fillsNumberSlot (.type "int") op.info.2 = pure true) (slot : Slot "int" (PySem.dunder op.info.2) id) (entry : entryFor table id = some Bi) (args : ∀ a b, argsOk id ⟨[a, b], []⟩)
    (dec : ∀ (b : Int) (u : Tok) (l : Addr) (C dx : Addr), Meets (Bi ⟨[.int b u, .ref l], []⟩) (fun _ R s => s.heap.get? l = some (PySem.W.instObj C dx) ∧ R (.ok (.ret .notImplemented)) s)) : OpR X (binaryOp op) (Own.rReflB C sp E) :=
  Own.op_reflB F hr hs hf hs0 B.hc hsub hb hx fills slot entry args dec
theorem floor_sz {p q : Rat} (zp : Sq 120 p) (zq : Sq 120 q) (h : q ≠ 0) : (p / q).floor.natAbs < 2 ^ 241 := by
  have h1 := (zp.div zq h).1
  rw [Rat.floor_def]
  have h2 := Int.natAbs_ediv_le_natAbs (p / q).num ((p / q).den : Int)
  exact Nat.lt_of_le_of_lt h2 (Nat.lt_of_lt_of_le h1 (Nat.pow_le_pow_right (by decide) (by decide)))
abbrev sMod : Stmt := inClass (top 14) 16
theorem scMod : FnScope ["self", "other"] ["self", "other"] (defScope sMod) := ⟨rfl, rfl, rfl, by decide +kernel, rfl, by decide +kernel, by decide +kernel⟩
theorem ok_mod {f p1 f1 f2 f3 p3 f4 f5 f6 : Addr} {fd fd1 fd2 fd3 fd4 fd5 fd6 : FuncData} (F : Fun K "__mod__" "Ratio.__mod__" sMod f fd) (T_Ratio : RatT K mg C) (S_Ratio_is_number : Sta P w K mg base 2 C "is_number" p1 f1 fd1 ["value"] (spIsNum K C)) (C__quotient : Cal P w K mg base 2 "_quotient" f2 fd2 ["one", "other"] (spQuo C))
    (S_Ratio_of : Sta P w K mg base 4 C "of" p3 f3 fd3 ["number"] (spOfQ C)) (BM : BinF K C .Mult) (BS : BinF K C .Sub) (O_mul : Opr P w K mg base 4 C "__mul__" f4 fd4 ["self", "other"] (spBin C GT fun p q => p * q)) (O_rmul : Opr P w K mg base 5 C "__rmul__" f5 fd5 ["self", "other"] (spBin C GT fun p q => p * q))
    (O_sub : Opr P w K mg base 4 C "__sub__" f6 fd6 ["self", "other"] (spBin C GT fun p q => p - q)) :
    FnOk P w K mg base CX0 6 f fd ["self", "other"] (spMod C) := by
  refine F.ok scMod (fun vs H Q E h => ?_) (fun cdv A outer s H vs Q E hr h => ?_)
  · obtain ⟨v, u, p, q, rfl, _⟩ := h
    rfl
  · obtain ⟨v, u, p, q, rfl, hp, hq, z, ⟨h0, yp, yq⟩, k⟩ := h
    have nd := scMod.nd
    refine ⟨_, pss_cons (ps_if (pt_not (pt_val (Own.pe_smeth T_Ratio.rd S_Ratio_is_number.s S_Ratio_is_number.F (hr.mono (by decide)) S_Ratio_is_number.b pass0 (Own.pe_gref (by rfl) T_Ratio.mgC) (pa_cons (pv 1) pa_nil)))) pss_never pss_nil)
      (pss_one (ps_ret (pe_op (op_B BS O_sub.F (hr.mono (by decide)) O_sub.at_ O_sub.fn O_sub.b pass0) (pv 0) (pe_op (op_R BM O_rmul.F (hr.mono (by decide)) O_rmul.at_ O_rmul.fn O_mul.at_ T_Ratio.sI O_rmul.b pass0 PySem.F.fills_int_mul PySem.F.slot_int_mul PySem.F.entry_int_mul PySem.F.args_int_mul_2 Own.int_mul_dec) (pe_call C__quotient.F (hr.mono (by decide)) (by rfl) C__quotient.mgf C__quotient.kp C__quotient.b .nil pass0 (pa_cons (pv 0) (pa_cons (pv 1) pa_nil))) (Own.pe_smeth T_Ratio.rd S_Ratio_of.s S_Ratio_of.F (hr.mono (by decide)) S_Ratio_of.b pass0 (Own.pe_gref (by rfl) T_Ratio.mgC) (pa_cons (pv 1) pa_nil)))))), ?_⟩
    obtain ⟨t, b, c, ty, hb, hc, hbc⟩ := hq.at_.info T_Ratio.toClT
    refine ⟨rfl, _, rfl, _, t, b, c, rfl, ty, hb, hc, _, rfl, iteNot hbc ?_⟩
    refine ⟨_, rfl, _, rfl, _, rfl, _, _, p, q, rfl, .rat hp, hq, z, h0, fun H1 s1 => ?_⟩
    refine ⟨rfl, _, rfl, _, q, rfl, hq.same s1, fun r H2 hr2 s2 => ?_⟩
    obtain ⟨dx, fs, h1⟩ := hr2.ins
    have zf : Sq 241 ((p / q).floor : Rat) := Sq.int (floor_sz yp yq h0) (by decide)
    refine ⟨_, r, dx, fs, rfl, rfl, h1, r, _, q, _, rfl, hr2, .int _, ⟨z.2, zf.mono (by decide)⟩, True.intro, fun x H3 s3 hx => ?_⟩
    have hp3 := hp.same (s1.trans (s2.trans s3))
    obtain ⟨dv, gs, hv1⟩ := hp3.ins
    obtain ⟨dx2, fs2, hx2⟩ := hx.ins
    refine ⟨v, dv, gs, rfl, hv1, .inr ⟨x, dx2, fs2, rfl, hx2⟩, v, _, p, _, rfl, hp3, .rat hx, ⟨z.1, (yq.mul zf).mono (by decide)⟩, True.intro, fun y H4 s4 hy => ?_⟩
    refine k y H4 (s1.trans (s2.trans (s3.trans s4))) ?_
    unfold qmod
    rw [Rat.mul_comm _ q]
    exact hy
end
end Toy
set_option maxRecDepth 100000
set_option maxHeartbeats 4000000
namespace Toy
open PySem PySem.Spec PyProof.Rows L2
open Rat (divInt)
/-! ### NoDivisor, raised and heard -/
/-- an own exception class without __init__ -/
structure ExT (K : PySem.W.Frag) (mg : Str → Option Value) (x : Str) (C : Addr) : Prop where
  mgC : mg x = some (.ref C)
  ex : PySem.W.excIn K C [.type "ValueError", .type "Exception", .type "BaseException", .type "object"] "ValueError.__new__" = true
  kp : PySem.W.keepIn K (.ref C) = true
  bs : PySem.W.subIn K (.ref C) (.type "BaseException") = some true
  ty : PySem.W.typeIn K (.ref C) = some (.type "type")
/-- X() -/
theorem pmk_own0 {X : Cx} {C : Addr} {x : Str} {p pos : Pos} (T : ExT X.K X.mg x C) (hg : Gl X x) (hdb : (x == ("__debug__" : Str)) = false := by decide) : PMk X (.Call (.Name x p) [] [] pos) (fun _ H Q => Q (.ref C) none H) := by
  intro pins s σ H Q I h
  refine wpAny_Call_Name_kw (ld_glob I hg T.mgC ?_ hdb)
  refine PySem.W.callWith_K0 I.kIn T.kp ?_
  obtain ⟨bm, N, nm, qn, bs, hdct, sn, sub, ab, col, dd, k0, k1, k2, k3, k5, mN, hC, hN, hni, tl⟩ := exc_obj I.kIn T.ex
  refine wpAny_call_exc_subT PySem.F.excBase_ValueError tl hC hN hni (fun h' e hm => ?_) (Nat.zero_le _)
  exact mk_of I hm (raises_own T.bs T.ty) h (I.hok.gone hm.new)
section
variable {P : Program} {w : World} {K : PySem.W.Frag} {mg : Str → Option Value} {base : Heap} {C CN : Addr}
/-- a Ratio with the bottom 0 is not made -/
def spRInit0 (CN : Addr) : Sp := fun vs H _ E => ∃ x t, vs = [.ref x, .int t, .int 0] ∧ E (.ref CN) none H
theorem ok_rinit0 {f f1 : Addr} {fd fd1 : FuncData} (F : FunD K "__init__" "Ratio.__init__" (defArgs sRInit) (defBody sRInit) (defScope sRInit) [.int 1] [] f fd) (T : Bl mg) (TN : ExT K mg "NoDivisor" CN) (C_is_int : Cal P w K mg base 1 "is_int" f1 fd1 ["value"] (spIsInt K)) :
    FnOk P w K mg base (L2.CX P w) 2 f fd ["self", "top", "bottom"] (spRInit0 CN) := by
  refine F.ok scRI (fun vs H Q E h => ?_) (fun cdv A outer s H vs Q E hr h => ?_)
  · obtain ⟨x, t, rfl, _⟩ := h
    rfl
  · obtain ⟨x, t, rfl, hE⟩ := h
    have nd := scRI.nd
    refine ⟨_, pss_cons (ps_if (pt_not (pt_val (pe_call C_is_int.F (hr.mono (by decide)) (by rfl) C_is_int.mgf C_is_int.kp C_is_int.b .nil pass0 (pa_cons (pv 1) pa_nil)))) pss_never pss_nil)
      (pss_cons (ps_if (pt_not (pt_val (pe_call C_is_int.F (hr.mono (by decide)) (by rfl) C_is_int.mgf C_is_int.kp C_is_int.b .nil pass0 (pa_cons (pv 2) pa_nil)))) pss_never pss_nil)
      (pss_cons (ps_if (pt_cmpR op_eq (pv 2) pe_int (nomark _)) (pss_one (ps_raise (by rfl) (takes_of rfl rfl rfl rfl) (pmk_own0 TN (by rfl)))) pss_nil)
      (pss_cons (ps_set (i := 3) nd rfl (Or.inl rfl) (pe_ifExp (pt_cmpR op_gt (pv 2) pe_int (nomark _)) (pe_callBfun cr_gcd (by rfl) T.gcd (pa_cons (pv 1) (pa_cons (pv 2) pa_nil))) (pe_un un_neg (pe_callBfun cr_gcd (by rfl) T.gcd (pa_cons (pv 1) (pa_cons (pv 2) pa_nil))))))
      (pss_cons (ps_fld (pv 0) (pe_op op_fdivZ (pv 1) (pv 3)) rfl)
      (pss_one (ps_fld (pv 0) (pe_op op_fdivZ (pv 2) (pv 3)) rfl)))))), ?_⟩
    refine ⟨_, rfl, _, _, true, rfl, .base (.int _), isIntK_int, _, rfl, iteF ?_⟩
    refine ⟨_, rfl, _, _, true, rfl, .base (.int _), isIntK_int, _, rfl, iteF ?_⟩
    refine ⟨_, rfl, rfl, _, rfl, ?_⟩
    exact ite2 (fun _ => hE) (fun e => absurd (decide_eq_true rfl) e)
/-- over by 0 -/
def spOver0 (C CN : Addr) : Sp := fun vs H _ E => ∃ a u p, vs = [.ref a, u] ∧ RatQ C H a p ∧ NumQ C H u 0 ∧ Sq 490 p ∧ ∀ H', Same H H' → E (.ref CN) none H'
theorem ok_over0 {f f2 f3 : Addr} {fd fd2 fd3 : FuncData} (F : Fun K "over" "Ratio.over" sOver f fd) (T_Ratio : RatT K mg C) (C_parts_of : Cal P w K mg base 1 "parts_of" f2 fd2 ["number"] (spParts C))
    (Mk_ : Mk K C f3) (I0 : FnOk P w K mg base (L2.CX P w) 2 f3 fd3 ["self", "top", "bottom"] (spRInit0 CN)) (b3 : Binds K fd3 ["self", "top", "bottom"] []) :
    FnOk P w K mg base (L2.CX P w) 4 f fd ["self", "number"] (spOver0 C CN) := by
  refine F.okX scOver (fun vs H Q E h => ?_) (fun cdv A outer s H vs Q E hr h => ?_)
  · obtain ⟨a, u, p, rfl, _⟩ := h
    rfl
  · obtain ⟨a, u, p, rfl, hp, hq, zp, hE⟩ := h
    have nd := scOver.nd
    refine ⟨_, pss_cons (ps_asg (pe_call C_parts_of.F (hr.mono (by decide)) (by rfl) C_parts_of.mgf C_parts_of.kp C_parts_of.b .nil pass0 (pa_cons (pv 1) pa_nil)) (pg_tup (by rfl) (pgs_cons (pg_name (i := 2) nd rfl (Or.inl rfl)) (pgs_cons (pg_name (i := 3) nd rfl (Or.inl rfl)) pgs_nil))))
      (pss_one (ps_ret (pe_make Mk_ I0 (hr.mono (by decide)) (by rfl) T_Ratio.mgC b3 .nil (passes_call (takes_of rfl rfl rfl rfl) fun _ _ _ _ h => h) (pa_cons (pe_op op_mulW (pe_fld (pv 0) rfl) (pv 3)) (pa_cons (pe_op op_mulW (pe_fld (pv 0) rfl) (pv 2)) pa_nil))))), ?_⟩
    have hv := hq.at_
    obtain ⟨dx, h0⟩ := id hp
    refine ⟨_, rfl, _, _, _, rfl, hv, fun p1 hp1 => ⟨_, _, rfl, SqT.of upd_same, rfl, _, _, rfl, _, _, rfl, rfl, ?_⟩⟩
    have s1 : Same H (upd H p1 (.tup [.int (0 : Rat).num, .int ((0 : Rat).den : Int)])) := same_new hp1
    have h1 := s1 _ _ h0
    refine ⟨_, rfl, _, C, dx, _, _, rfl, h1, T_Ratio.cl, T_Ratio.nT, ratF_top _ _, _, rfl, _, _, rfl, rfl, (z4 zp).1.mul Sz1, _, rfl, _, C, dx, _, _, rfl, h1, T_Ratio.cl, T_Ratio.nB, ratF_bot _ _, _, rfl, _, _, rfl, rfl, (z4 zp).2.mul (by unfold Sz; decide +kernel), ?_⟩
    intro x dx2 hx hdx hne
    refine ⟨x, p.num * ((0 : Rat).den : Int), ?_, hE _ (s1.trans (same_two hdx hx hne))⟩
    show [V.ref x, V.int (p.num * ((0 : Rat).den : Int)), V.int ((p.den : Int) * (0 : Rat).num)] = _
    rw [show (p.den : Int) * (0 : Rat).num = 0 from Int.mul_zero _]
abbrev sHeard : Stmt := top 23
theorem scHd : FnScope ["_law_ask", "error"] ["_law_ask"] (defScope sHeard) := ⟨rfl, rfl, rfl, by decide +kernel, rfl, by decide +kernel, by decide +kernel⟩
/-- what is heard: the value in a list; NoDivisor told -/
def TTdiv (CN : Addr) : (XK → Hp → VK → Prop) → Hp → VK → Prop := fun tl H Q =>
  tl (fun cls _ H' => cls = .ref CN ∧ ∀ p, H' p = none → Q (.ref p) (upd H' p (.tup [.str "divisor", .non]))) H (fun v H' => ([v] : List V).length ≤ sizeLine ∧ ∀ p, H' p = none → Q (.ref p) (upd H' p (.lst [v])))
theorem never_suite {X : Cx} {b : List Stmt} : PSs X b (fun _ _ _ => False) := ⟨fun _ _ _ _ _ _ h => h.elim⟩
theorem heard_gives {X : Cx} {g CB CN CF : Addr} {cdg : Value} {q : Str} (hB : X.mg "BadRatio" = some (.ref CB)) (hN : X.mg "NoDivisor" = some (.ref CN)) (hF : X.mg "FifthError" = some (.ref CF)) (eB : PySem.W.exmOne X.K (.ref CN) (.ref CB) = some false) (eN : PySem.W.exmOne X.K (.ref CN) (.ref CN) = some true) :
    LamX.GivesTo X ["_law_ask", "error"] "_law_heard" (defScope sHeard) g cdg (defBody sHeard) "_law_ask" q (TTdiv CN) := by
  intro f c' s H Q tl act hc h
  have nd := scHd.nd
  refine ⟨_, pss_one (Own.ps_try_cl (X := (cxOf C8.CX0 X.prog X.w X.K X.mg X.base ["_law_ask", "error"] "_law_heard" (defScope sHeard) g cdg X.A X.stack s H C8.E0).nox)
      (tb := fun W D σ H => ∃ Ech : XK, (∀ cls d σ' H', Ech cls d H' → W cls d σ' H') ∧ σ[0]? = some (some (.ref f)) ∧ H c' = some (LamX.CodeO c' q) ∧ tl Ech H fun v H' => ([v] : List V).length ≤ sizeLine ∧ ∀ p, H' p = none → D.rt (.ref p) (upd H' p (.lst [v])))
      rfl rfl (fun W pn xe tk _ => ?_) (Own.cl_as (i := 1) rfl nd rfl rfl ⟨rfl, by decide, .inl hB⟩ (fun _ _ _ _ _ _ _ => never_suite)
        (Own.cl_on rfl ⟨rfl, by decide, .inl hN⟩ (fun a oe cls d pn _ _ => pss_one (ps_ret (pe_tup (pa_cons pe_str (pa_cons pe_non pa_nil)))))
          (Own.cl_on rfl ⟨rfl, by decide, .inl hF⟩ (fun _ _ _ _ _ _ _ => never_suite) (Own.cl_nil rfl rfl takes0))))), ?_⟩
  · refine ⟨fun pins s' σ H' D I h' => ?_⟩
    obtain ⟨Ech, hW, h1, h2, h3⟩ := h'
    exact (pss_one (ps_ret (pe_lst (pa_cons (act W pn xe Ech _ _ tk hW) pa_nil)))).run pins s' σ H' D I ⟨h1, h2, h3⟩
  · refine ⟨fun cls _ H' => cls = .ref CN ∧ ∀ p, H' p = none → Q (.ref p) (upd H' p (.tup [.str "divisor", .non])), fun cls d σ' H' z => ?_, rfl, hc, h⟩
    obtain ⟨e, k⟩ := z
    subst e
    exact ⟨false, eB, (fun z => nomatch z), fun _ => ⟨true, eN, fun _ a na => ⟨(by decide : 2 ≤ sizeLine), k⟩, (fun z => nomatch z)⟩⟩
end
end Toy
set_option maxRecDepth 100000
set_option maxHeartbeats 4000000
set_option exponentiation.threshold 3000
namespace Toy
open PySem L2
open Rat (divInt)
theorem vdec (a b : Int) : decide (V.int a = V.int b) = decide (a = b) := by
  by_cases h : a = b
  · rw [decide_eq_true h, decide_eq_true (congrArg V.int h)]
  · rw [decide_eq_false h, decide_eq_false fun e => h (V.int.inj e)]
theorem iteTb {b : Bool} {A B : Prop} (h : b = true) (x : A) : if b = true then A else B := by
  subst h
  exact iteT x
theorem iteFb {b : Bool} {A B : Prop} (h : b = false) (x : B) : if b = true then A else B := by
  subst h
  exact iteF x
theorem cm {i j : Int} (h : i.natAbs ≤ 1000000000) : CMul i j := .inl ⟨by omega, by omega⟩
theorem cmr {i j : Int} (h : j.natAbs ≤ 1000000000) : CMul i j := .inr ⟨by omega, by omega⟩
theorem Sz.divW {i j : Int} (h0 : 0 < j) (z : Sz j) : CDivW i j := wide_div h0 z (by decide) (by decide)
theorem gcd_step {x y : Int} (hx : 0 ≤ x) (hy : 0 < y) : gcdI y (x % y) = gcdI x y := by
  obtain ⟨n, rfl⟩ := Int.eq_ofNat_of_zero_le hx
  obtain ⟨m, rfl⟩ := Int.eq_ofNat_of_zero_le (show 0 ≤ y by omega)
  unfold gcdI
  have e : ((n : Int) % (m : Int)) = ((n % m : Nat) : Int) := rfl
  rw [e, Int.natAbs_natCast, Int.natAbs_natCast, Int.natAbs_natCast, Nat.gcd_comm n m, Nat.gcd_rec m n, Nat.gcd_comm m]
theorem gcd_zero {x : Int} (hx : 0 ≤ x) : gcdI x 0 = x := by
  unfold gcdI
  show ((Nat.gcd x.natAbs 0 : Nat) : Int) = x
  rw [Nat.gcd_zero_right]
  omega
section
variable {P : Program} {w : World} {K : PySem.W.Frag} {mg : Str → Option Value} {base : Heap} {C : Addr}
def spPen (K : PySem.W.Frag) : Sp := fun vs H Q _ => ∃ (a : Addr) (ns : List Int), vs = [.ref a] ∧ SqL K H a (ns.map V.int) ∧ ns.length ≤ 63 ∧ ∀ p c H', Same H H' → H p = none → Pen H' p c 0 → Q (.ref p) H'
abbrev sPen : Stmt := top 20
theorem scPe : FnScope ["_law_script"] ["_law_script"] (defScope sPen) := ⟨rfl, rfl, rfl, by decide +kernel, rfl, by decide +kernel, by decide +kernel⟩
theorem cutV_ints (ns : List Int) (lo hi : Option Int) : ∃ ms : List Int, cutV (ns.map V.int) lo hi = ms.map V.int ∧ ms.length ≤ ns.length := by
  refine ⟨(ns.drop (HT.sIx (ns.map V.int).length 0 lo)).take (HT.sIx (ns.map V.int).length (ns.map V.int).length hi - HT.sIx (ns.map V.int).length 0 lo), ?_, ?_⟩
  · unfold cutV
    rw [← List.map_drop, ← List.map_take]
  · rw [List.length_take, List.length_drop]
    omega
theorem ok_pen {f : Addr} {fd : FuncData} (F : Fun K "_law_pen" "_law_pen" sPen f fd) (T : Bl mg) : FnOk P w K mg base CX0 1 f fd ["_law_script"] (spPen K) := by
  refine F.ok scPe (fun vs H Q E h => ?_) (fun cdv A outer s H vs Q E hr h => ?_)
  · obtain ⟨a, ns, rfl, _⟩ := h
    rfl
  · obtain ⟨a, ns, rfl, hS, hl, q⟩ := h
    have nd := scPe.nd
    refine ⟨_, pss_one (ps_ret (pe_lst (pa_cons (pe_callTy call_list_of (by rfl) T.list (by decide +kernel) (pa_cons (pe_slice sl_list (pv 0) po_none (po_some pe_int)) pa_nil)) (pa_cons pe_int (pa_cons pe_int pa_nil))))), ?_⟩
    obtain ⟨ms, e, hm⟩ := cutV_ints ns none (some 63)
    refine ⟨_, rfl, _, rfl, a, _, rfl, hS, fun c1 h1 => ⟨c1, _, rfl, .inl (SqL.of upd_same), fun c2 h2 => ⟨(by decide : 3 ≤ sizeLine), fun p hp => ?_⟩⟩⟩
    have s1 : Same H (upd H c1 (.lst (cutV (ns.map V.int) none (some 63)))) := same_new h1
    have s2 := s1.trans (same_new (o := .lst (cutV (ns.map V.int) none (some 63))) h2)
    have s3 := s2.trans (same_new (o := .lst [.ref c2, .int 0, .int 0]) hp)
    refine q p c2 _ s3 (s2.free hp) ⟨ms, 0, 0, ⟨upd_same, ?_, by omega, by decide⟩, by decide⟩
    have n2 : c2 ≠ p := by
      intro e2
      rw [← e2, upd_same] at hp
      cases hp
    rw [upd_ne n2, upd_same, e]
def spPick : Sp := fun vs H Q _ => ∃ p c s xs k, vs = [.ref p, .ref s] ∧ Pen H p c k ∧ k ≤ 1000000 ∧ H s = some (.lst xs) ∧ s ≠ p ∧ 0 < xs.length ∧ xs.length ≤ 1000 ∧ ∀ v H', v ∈ xs → Pen H' p c (k + 1) → But p H H' → Q v H'
abbrev sPick : Stmt := top 22
theorem scPk : FnScope ["_law_pen_here", "_law_some"] ["_law_pen_here", "_law_some"] (defScope sPick) := ⟨rfl, rfl, rfl, by decide +kernel, rfl, by decide +kernel, by decide +kernel⟩
theorem small_i {z : Int} (h : z.natAbs ≤ 1000000000) : z.natAbs < 2 ^ 2000 := Nat.lt_of_le_of_lt h (by decide +kernel)
theorem small_len {n : Nat} (h : n ≤ 1000000000) : (n : Int).natAbs < 2 ^ 2000 := Nat.lt_of_le_of_lt (show (n : Int).natAbs ≤ 1000000000 by omega) (by decide +kernel)
theorem ok_pick {f f1 : Addr} {fd fd1 : FuncData} (F : Fun K "_law_pick" "_law_pick" sPick f fd) (T : Bl mg) (C__law_draw : Cal P w K mg base 1 "_law_draw" f1 fd1 ["_law_pen_here", "_law_many"] spDraw) : FnOk P w K mg base CX0 2 f fd ["_law_pen_here", "_law_some"] spPick := by
  refine F.ok scPk (fun vs H Q E h => ?_) (fun cdv A outer s H vs Q E hr h => ?_)
  · obtain ⟨p, c, l, xs, k, rfl, _⟩ := h
    rfl
  · obtain ⟨p, c, l, xs, k, rfl, hP, hk, hl, hne, h0, h1, q⟩ := h
    have nd := scPk.nd
    refine ⟨_, pss_one (ps_ret (pe_ix ix_list (pv 1) (pe_call C__law_draw.F (hr.mono (by decide)) (by rfl) C__law_draw.mgf C__law_draw.kp C__law_draw.b .nil pass0 (pa_cons (pv 0) (pa_cons (pe_callB call_len (by rfl) T.len (by decide +kernel) (pa_cons (pv 1) pa_nil)) pa_nil))) (fun _ _ => rfl))), ?_⟩
    refine ⟨_, rfl, _, rfl, _, rfl, _, _, rfl, .inl ⟨_, SqL.of hl, rfl⟩, p, c, _, k, rfl, hP, hk, by omega, small_len (by omega), fun r H' r0 r1 hP' hB => ?_⟩
    exact ⟨l, xs, r, _, rfl, rfl, SqL.of (hB _ _ hl hne), atI_in r0 r1, q _ H' (List.getElem_mem _) hP' hB⟩

theorem Pen.ne_none {H : Hp} {p c a : Addr} {k : Nat} (h : Pen H p c k) (e : H a = none) : a ≠ p := by
  obtain ⟨_, _, _, W, _⟩ := h
  exact (ne_of_none W.hp e).symm
theorem Pen.ne_cell {H : Hp} {p c a : Addr} {k : Nat} (h : Pen H p c k) (e : H a = none) : a ≠ c := by
  obtain ⟨_, _, _, W, _⟩ := h
  exact (ne_of_none W.hc e).symm
theorem Pen.put {H : Hp} {p c a : Addr} {o : HO} {k : Nat} (h : Pen H p c k) (h1 : a ≠ p) (h2 : a ≠ c) : Pen (upd H a o) p c k := by
  obtain ⟨ns, b, l, W, hk⟩ := h
  exact ⟨ns, b, l, ⟨by rw [upd_ne h1.symm]; exact W.hp, by rw [upd_ne h2.symm]; exact W.hc, W.ln, W.b0⟩, hk⟩
theorem small_t {m : Int} (h0 : 0 < m) (h : m ≤ 10 ^ 30) : m.natAbs < 2 ^ 2000 := Nat.lt_of_le_of_lt (show m.natAbs ≤ 10 ^ 30 by omega) (by decide +kernel)
/-- a drawn integer -/
def spInteger : Sp := fun vs H Q _ => ∃ p c k, vs = [.ref p] ∧ Pen H p c k ∧ k ≤ 900000 ∧ ∀ z H', z.natAbs < 10 ^ 30 → Pen H' p c (k + 3) → But p H H' → Q (.int z) H'
abbrev sInteger : Stmt := top 24
theorem scIr : FnScope ["_law_pen_here", "_law_size", "_law_number_here"] ["_law_pen_here"] (defScope sInteger) := ⟨rfl, rfl, rfl, by decide +kernel, rfl, by decide +kernel, by decide +kernel⟩
theorem ok_integer {f f1 f2 : Addr} {fd fd1 fd2 : FuncData} (F : Fun K "_law_integer" "_law_integer" sInteger f fd) (C__law_draw : Cal P w K mg base 1 "_law_draw" f1 fd1 ["_law_pen_here", "_law_many"] spDraw) (C__law_pick : Cal P w K mg base 2 "_law_pick" f2 fd2 ["_law_pen_here", "_law_some"] spPick) :
    FnOk P w K mg base CX0 3 f fd ["_law_pen_here"] spInteger := by
  refine F.ok scIr (fun vs H Q E h => ?_) (fun cdv A outer s H vs Q E hr h => ?_)
  · obtain ⟨p, c, k, rfl, _⟩ := h
    rfl
  · obtain ⟨p, c, k, rfl, hP, hk, q⟩ := h
    have nd := scIr.nd
    refine ⟨_, pss_cons (ps_set (i := 1) nd rfl (Or.inl rfl) (pe_call C__law_pick.F (hr.mono (by decide)) (by rfl) C__law_pick.mgf C__law_pick.kp C__law_pick.b .nil pass0 (pa_cons (pv 0) (pa_cons (pe_lst (pa_cons pe_int (pa_cons pe_int (pa_cons pe_int (pa_cons (pe_op op_pow pe_int pe_int) (pa_cons (pe_op op_pow pe_int pe_int) (pa_cons (pe_op op_pow pe_int pe_int) pa_nil))))))) pa_nil))))
      (pss_cons (ps_set (i := 2) nd rfl (Or.inl rfl) (pe_call C__law_draw.F (hr.mono (by decide)) (by rfl) C__law_draw.mgf C__law_draw.kp C__law_draw.b .nil pass0 (pa_cons (pv 0) (pa_cons (pv 1) pa_nil))))
      (pss_one (ps_ret (pe_ifExp (pt_cmpR op_eq (pe_call C__law_draw.F (hr.mono (by decide)) (by rfl) C__law_draw.mgf C__law_draw.kp C__law_draw.b .nil pass0 (pa_cons (pv 0) (pa_cons pe_int pa_nil))) pe_int (nomark _)) (pv 2) (pe_op op_sub pe_int (pv 2)))))), ?_⟩
    refine ⟨_, rfl, _, _, rfl, rfl, ⟨by decide, by decide, by decide⟩, _, _, rfl, rfl, ⟨by decide, by decide, by decide⟩, _, _, rfl, rfl, ⟨by decide, by decide, by decide⟩, by decide, fun l hl => ?_⟩
    refine ⟨p, c, l, _, k, rfl, hP.same (same_new hl), by omega, upd_same, hP.ne_none hl, by decide, by decide, fun v H1 hv hP1 hB1 => ?_⟩
    have B1 : But p H H1 := (But.refl.new hl).trans hB1
    obtain ⟨m, rfl, m0, m1⟩ : ∃ m : Int, v = .int m ∧ 0 < m ∧ m ≤ 10 ^ 30 := by
      simp only [List.mem_cons, List.not_mem_nil, or_false] at hv
      rcases hv with h | h | h | h | h | h <;> exact ⟨_, h, by decide +kernel, by decide +kernel⟩
    refine ⟨_, rfl, _, rfl, p, c, m, k + 1, rfl, hP1, by omega, m0, small_t m0 m1, fun r H2 r0 r1 hP2 hB2 => ?_⟩
    refine ⟨_, rfl, p, c, 2, k + 2, rfl, hP2, by omega, by decide, by decide +kernel, fun z H3 z0 z1 hP3 hB3 => ⟨rfl, _, rfl, ?_⟩⟩
    have B3 := (B1.trans hB2).trans hB3
    refine ite2 (fun _ => ⟨_, rfl, q _ _ (by omega) hP3 B3⟩) (fun _ => ⟨_, rfl, _, _, rfl, rfl, q _ _ (by omega) hP3 B3⟩)
/-- a drawn pair, the second not 0 -/
def spPair : Sp := fun vs H Q _ => ∃ p c k, vs = [.ref p] ∧ Pen H p c k ∧ k ≤ 800000 ∧ ∀ t b x H', t.natAbs < 10 ^ 30 → b.natAbs < 10 ^ 30 → b ≠ 0 → Pen H' p c (k + 6) → But p H H' → H' x = some (.tup [.int t, .int b]) → Q (.ref x) H'
abbrev sPair : Stmt := top 25
theorem scPr : FnScope ["_law_pen_here", "_law_top", "_law_bottom"] ["_law_pen_here"] (defScope sPair) := ⟨rfl, rfl, rfl, by decide +kernel, rfl, by decide +kernel, by decide +kernel⟩
theorem ok_pair {f f1 : Addr} {fd fd1 : FuncData} (F : Fun K "_law_pair" "_law_pair" sPair f fd) (C__law_integer : Cal P w K mg base 3 "_law_integer" f1 fd1 ["_law_pen_here"] spInteger) : FnOk P w K mg base CX0 4 f fd ["_law_pen_here"] spPair := by
  refine F.ok scPr (fun vs H Q E h => ?_) (fun cdv A outer s H vs Q E hr h => ?_)
  · obtain ⟨p, c, k, rfl, _⟩ := h
    rfl
  · obtain ⟨p, c, k, rfl, hP, hk, q⟩ := h
    have nd := scPr.nd
    refine ⟨_, pss_cons (ps_par (i := 1) (j := 2) (by rfl) nd rfl rfl (by decide) rfl rfl (pa_cons (pe_call C__law_integer.F (hr.mono (by decide)) (by rfl) C__law_integer.mgf C__law_integer.kp C__law_integer.b .nil pass0 (pa_cons (pv 0) pa_nil)) (pa_cons (pe_call C__law_integer.F (hr.mono (by decide)) (by rfl) C__law_integer.mgf C__law_integer.kp C__law_integer.b .nil pass0 (pa_cons (pv 0) pa_nil)) pa_nil)) (by rfl))
      (pss_one (ps_ret (pe_tup (pa_cons (pv 1) (pa_cons (pe_ifExp (pt_cmpR op_ne (pv 2) pe_int (nomark _)) (pv 2) pe_int) pa_nil))))), ?_⟩
    refine ⟨_, rfl, p, c, k, rfl, hP, by omega, fun t H1 ht hP1 hB1 => ?_⟩
    refine ⟨_, rfl, p, c, k + 3, rfl, hP1, by omega, fun b H2 hb hP2 hB2 => ⟨_, _, rfl, ?_⟩⟩
    refine ⟨_, rfl, _, rfl, rfl, _, rfl, ?_⟩
    have B2 := hB1.trans hB2
    by_cases h0 : b = 0
    · refine iteFb (by rw [vdec, decide_eq_true h0]; rfl) ⟨(by decide : 2 ≤ sizeLine), fun x hc => ?_⟩
      exact q t 1 x _ ht (by decide) (by decide) (hP2.same (same_new hc)) (B2.new hc) upd_same
    · refine iteTb (by rw [vdec, decide_eq_false h0]; rfl) ⟨_, rfl, (by decide : 2 ≤ sizeLine), fun x hc => ?_⟩
      exact q t b x _ ht hb h0 (hP2.same (same_new hc)) (B2.new hc) upd_same
/-- lowest terms -/
def spLowest : Sp := fun vs H Q _ => ∃ t b, vs = [.int t, .int b] ∧ b ≠ 0 ∧ Sz t ∧ Sz b ∧ ∀ c, H c = none → Q (.ref c) (upd H c (.tup [.int (divInt t b).num, .int ((divInt t b).den : Int)]))
theorem low_pos {t b : Int} (h : 0 < b) : (1 * t) / gcdI t b = (divInt t b).num ∧ (1 * b) / gcdI t b = ((divInt t b).den : Int) := by
  have hg := gcdI_pos (t := t) (b := b) (by omega)
  rw [← low_num (by omega), ← low_den (by omega), Int.one_mul, Int.one_mul]
  unfold lowT lowB lowD
  rw [if_pos h, Int.fdiv_eq_ediv_of_nonneg _ (by omega), Int.fdiv_eq_ediv_of_nonneg _ (by omega)]
  exact ⟨rfl, rfl⟩
theorem low_neg {t b : Int} (h : b < 0) : (-1 * t) / gcdI t b = (divInt t b).num ∧ (-1 * b) / gcdI t b = ((divInt t b).den : Int) := by
  have hg := gcdI_pos (t := t) (b := b) (by omega)
  rw [← low_num (by omega), ← low_den (by omega)]
  unfold lowT lowB lowD
  rw [if_neg (by omega), ← Int.fdiv_eq_ediv_of_nonneg _ (by omega), ← Int.fdiv_eq_ediv_of_nonneg _ (by omega), ← Int.neg_fdiv_neg t, ← Int.neg_fdiv_neg b, Int.neg_neg, Int.neg_one_mul, Int.neg_one_mul]
  exact ⟨rfl, rfl⟩
abbrev sLowest : Stmt := top 26
theorem scLw : FnScope ["_law_top", "_law_bottom", "_law_one", "_law_other", "_law_sign"] ["_law_top", "_law_bottom"] (defScope sLowest) := ⟨rfl, rfl, rfl, by decide +kernel, rfl, by decide +kernel, by decide +kernel⟩
theorem ok_lowest {f : Addr} {fd : FuncData} (F : Fun K "_law_lowest" "_law_lowest" sLowest f fd) (T : Bl mg) : FnOk P w K mg base CX0 1 f fd ["_law_top", "_law_bottom"] spLowest := by
  refine F.ok scLw (fun vs H Q E h => ?_) (fun cdv A outer s H vs Q E hr h => ?_)
  · obtain ⟨t, b, rfl, _⟩ := h
    rfl
  · obtain ⟨x, y, rfl, hy, zx, zy, q⟩ := h
    have nd := scLw.nd
    refine ⟨_, pss_cons (ps_par (i := 2) (j := 3) (by rfl) nd rfl rfl (by decide) rfl rfl (pa_cons (pe_callB call_abs (by rfl) T.abs (by decide +kernel) (pa_cons (pv 0) pa_nil)) (pa_cons (pe_callB call_abs (by rfl) T.abs (by decide +kernel) (pa_cons (pv 1) pa_nil)) pa_nil)) (by rfl))
      (pss_cons (ps_while PassesOwn.never (pt_cmpR op_ne (pv 3) pe_int (nomark _)) (pss_one (ps_par (i := 2) (j := 3) (by rfl) nd rfl rfl (by decide) rfl rfl (pa_cons (pv 3) (pa_cons (pe_op op_mod (pe_callTy call_int1 (by rfl) T.int (by decide +kernel) (pa_cons (pv 2) pa_nil)) (pv 3)) pa_nil)) (by rfl))))
      (pss_cons (ps_set (i := 4) nd rfl (Or.inl rfl) (pe_ifExp (pt_cmpR op_gt (pv 1) pe_int (nomark _)) pe_int (pe_un un_neg pe_int)))
      (pss_one (ps_ret (pe_tup (pa_cons (pe_op op_fdivW (pe_op op_mul (pv 4) (pv 0)) (pv 2)) (pa_cons (pe_op op_fdivW (pe_op op_mul (pv 4) (pv 1)) (pv 2)) pa_nil))))))), ?_⟩
    refine ⟨_, rfl, _, rfl, _, rfl, _, rfl, _, _, rfl, ?_⟩
    have hg : gcdI (if x < 0 then -x else x) (if y < 0 then -y else y) = gcdI x y := by
      unfold gcdI
      rw [show (if x < 0 then -x else x).natAbs = x.natAbs by split <;> omega, show (if y < 0 then -y else y).natAbs = y.natAbs by split <;> omega]
    refine while_by (fun σ H' => ∃ u v : Int, σ = [some (.int x), some (.int y), some (.int u), some (.int v), none] ∧ 0 ≤ u ∧ 0 ≤ v ∧ gcdI u v = gcdI x y ∧ H' = H) (fun σ _ => match σ with | [_, _, _, some (.int v), _] => v.toNat | _ => 0) ⟨_, _, rfl, by split <;> omega, by split <;> omega, hg, rfl⟩ ?_ ?_
    · rintro σ H' ⟨u, v, rfl, u0, v0, g, rfl⟩
      refine ⟨_, rfl, rfl, _, rfl, ?_⟩
      by_cases hv : v = 0
      · refine iteFb (by rw [vdec, decide_eq_true hv]; rfl) ?_
        subst hv
        rw [gcd_zero u0] at g
        subst g
        have g0 := gcdI_pos (t := x) hy
        have zg := Sz.gcd (t := x) hy zy
        refine ⟨_, rfl, _, _, rfl, rfl, _, rfl, ?_⟩
        refine ite2 (fun hp => ?_) (fun hp => ?_)
        · have hp1 : 0 < y := of_decide_eq_true hp
          refine ⟨_, rfl, _, rfl, _, _, rfl, rfl, cm (by decide), _, rfl, _, _, rfl, rfl, zg.divW g0, _, rfl, _, rfl, _, _, rfl, rfl, cm (by decide), _, rfl, _, _, rfl, rfl, zg.divW g0, (by decide : 2 ≤ sizeLine), fun c hc => ?_⟩
          have e := low_pos (t := x) hp1
          show Q (.ref c) (upd _ c (.tup [.int (1 * x / gcdI x y), .int (1 * y / gcdI x y)]))
          rw [e.1, e.2]
          exact q c hc
        · have hp1 : ¬ 0 < y := fun e => hp (decide_eq_true e)
          refine ⟨_, rfl, _, rfl, _, rfl, _, _, rfl, rfl, cm (by decide), _, rfl, _, _, rfl, rfl, zg.divW g0, _, rfl, _, rfl, _, _, rfl, rfl, cm (by decide), _, rfl, _, _, rfl, rfl, zg.divW g0, (by decide : 2 ≤ sizeLine), fun c hc => ?_⟩
          have e := low_neg (t := x) (show y < 0 by omega)
          show Q (.ref c) (upd _ c (.tup [.int (-1 * x / gcdI x y), .int (-1 * y / gcdI x y)]))
          rw [e.1, e.2]
          exact q c hc
      · refine iteTb (by rw [vdec, decide_eq_false hv]; rfl) ⟨_, rfl, _, rfl, .inl ⟨_, rfl, _, rfl, _, _, rfl, rfl, (by omega : 0 < v), _, _, rfl, ⟨_, _, rfl, v0, (modB u (by omega)).1, (gcd_step u0 (by omega)).trans g, rfl⟩, ?_⟩⟩
        have h1 := modB u (show 0 < v by omega)
        show (u % v).toNat < v.toNat
        omega
    · rintro σ H' R R' hR ⟨v, e, sc, k, e2, r⟩
      exact ⟨v, e, sc, k, e2, hR _ _ r⟩
end
end Toy
set_option maxRecDepth 100000
set_option maxHeartbeats 4000000
set_option exponentiation.threshold 3000
namespace Toy
open PySem L2
open Rat (divInt)
/-! ### rows of numbers -/
/-- a pair in lowest terms, its numbers up to B -/
def TupQ (H : Hp) (v : V) (q : Rat) (B : Nat) : Prop := ∃ t, v = .ref t ∧ H t = some (.tup [.int q.num, .int (q.den : Int)]) ∧ q.num.natAbs ≤ B ∧ q.den ≤ B
theorem TupQ.mono {H : Hp} {v : V} {q : Rat} {B D : Nat} (h : TupQ H v q B) (e : B ≤ D) : TupQ H v q D := let ⟨t, h1, h2, h3, h4⟩ := h; ⟨t, h1, h2, Nat.le_trans h3 e, Nat.le_trans h4 e⟩
theorem Pen.ne_tup {H : Hp} {p c a : Addr} {xs : List V} {k : Nat} (h : Pen H p c k) (e : H a = some (.tup xs)) : a ≠ p := by
  obtain ⟨_, _, _, W, _⟩ := h
  exact fun z => by
    rw [z, W.hp] at e
    cases e
theorem TupQ.keep {H H' : Hp} {v : V} {q : Rat} {B : Nat} (h : TupQ H v q B) (e : ∀ t xs, H t = some (.tup xs) → H' t = some (.tup xs)) : TupQ H' v q B := let ⟨t, h1, h2, r⟩ := h; ⟨t, h1, e _ _ h2, r⟩
/-- the row that is being made at l -/
structure RowSt (H H' : Hp) (p c l : Addr) (vs : List V) (B n : Nat) : Prop where
  lst : H' l = some (.lst vs)
  pen : Pen H' p c n
  but : But p H H'
  els : ∀ v ∈ vs, ∃ q, TupQ H' v q B
theorem RowSt.step {H H1 H2 : Hp} {p c l : Addr} {vs : List V} {B n m : Nat} (r : RowSt H H1 p c l vs B n) (b : But p H1 H2) (pn : Pen H2 p c m) (hl : l ≠ p) : RowSt H H2 p c l vs B m :=
  ⟨b _ _ r.lst hl, pn, r.but.trans b, fun v hv => let ⟨q, h⟩ := r.els v hv; ⟨q, h.keep fun t xs e => b _ _ e (r.pen.ne_tup e)⟩⟩
theorem RowSt.mono {H H1 : Hp} {p c l : Addr} {vs : List V} {B n m : Nat} (r : RowSt H H1 p c l vs B n) (h : n ≤ m) : RowSt H H1 p c l vs B m := ⟨r.lst, r.pen.mono h, r.but, r.els⟩
theorem dpTups {K : PySem.W.Frag} {H : Hp} {B : Nat} : ∀ {vs : List V}, (∀ v ∈ vs, ∃ q, TupQ H v q B) → ∃ qs : List Rat, qs.length = vs.length ∧ DpAll K H vs (qs.map fun q => PyData.tuple [.int q.num, .int (q.den : Int)])
  | [], _ => ⟨[], rfl, .nil⟩
  | v :: vs, h => by
    obtain ⟨q, t, rfl, h1, _⟩ := h v (List.mem_cons_self ..)
    obtain ⟨qs, hl, hd⟩ := dpTups fun u hu => h u (List.mem_cons_of_mem _ hu)
    exact ⟨q :: qs, by rw [List.length_cons, hl, List.length_cons], .cons (.tup (SqT.of h1) (.cons (.int _) (.cons (.int _) .nil))) hd⟩
theorem shTups : ∀ qs : List Rat, PyData.canLayAll0 (qs.map fun q => PyData.tuple [.int q.num, .int (q.den : Int)]) = true ∧ PyData.depthAll (qs.map fun q => PyData.tuple [.int q.num, .int (q.den : Int)]) ≤ 1
  | [] => ⟨rfl, by simp [PyData.depthAll]⟩
  | q :: qs => by
    obtain ⟨h1, h2⟩ := shTups qs
    simp only [List.map_cons, PyData.canLayAll0, PyData.depthAll, PyData.canLay0, PyData.depth]
    refine ⟨by simpa using h1, ?_⟩
    simp
    exact Nat.max_le.mpr ⟨by decide, h2⟩
theorem shTups' (qs : List Rat) : SeqAt.shaped (.list (qs.map fun q => PyData.tuple [.int q.num, .int (q.den : Int)])) = true := by
  obtain ⟨h1, h2⟩ := shTups qs
  simp [SeqAt.shaped, PyData.canLay0, PyData.depth, h1]
  omega
theorem eqvE (qs : List Rat) : PyData.eqv (.list (qs.map fun q => PyData.tuple [.int q.num, .int (q.den : Int)])) (.list []) = decide (qs = []) := by
  cases qs <;> rfl
theorem pow_step (i : Nat) : 10 ^ (30 + (i + 1)) = 10 * 10 ^ (30 + i) := by rw [← Nat.add_assoc, Nat.pow_succ, Nat.mul_comm]
theorem sz_row {z : Int} {i : Nat} (hi : i < 5) (h : z.natAbs ≤ 10 ^ (30 + (i + 1))) : Sz z := Nat.lt_of_le_of_lt (Nat.le_trans h (Nat.pow_le_pow_right (by decide) (by omega : 30 + (i + 1) ≤ 35))) (by decide +kernel)
section
variable {P : Program} {w : World} {K : PySem.W.Frag} {mg : Str → Option Value} {base : Heap} {C : Addr}
def spRow : Sp := fun vs H Q _ => ∃ p c k, vs = [.ref p] ∧ Pen H p c k ∧ k ≤ 700000 ∧ ∀ l us H', us.length = 5 → H' l = some (.lst us) → (∀ v ∈ us, ∃ q, TupQ H' v q (10 ^ 35)) → Pen H' p c (k + 50) → But p H H' → Q (.ref l) H'
abbrev sRow : Stmt := top 28
theorem scRw : FnScope ["_law_pen_here", "_law_found", "_law_k", "_law_top", "_law_bottom", "_law_last"] ["_law_pen_here"] (defScope sRow) := ⟨rfl, rfl, rfl, by decide +kernel, rfl, by decide +kernel, by decide +kernel⟩
theorem ok_row {f f1 f2 f3 f4 : Addr} {fd fd1 fd2 fd3 fd4 : FuncData} (F : Fun K "_law_row" "_law_row" sRow f fd) (T : Bl mg) (C__law_draw : Cal P w K mg base 1 "_law_draw" f1 fd1 ["_law_pen_here", "_law_many"] spDraw) (C__law_pick : Cal P w K mg base 2 "_law_pick" f2 fd2 ["_law_pen_here", "_law_some"] spPick)
    (C__law_pair : Cal P w K mg base 4 "_law_pair" f3 fd3 ["_law_pen_here"] spPair) (C__law_lowest : Cal P w K mg base 1 "_law_lowest" f4 fd4 ["_law_top", "_law_bottom"] spLowest) : FnOk P w K mg base CX0 5 f fd ["_law_pen_here"] spRow := by
  refine F.ok scRw (fun vs H Q E h => ?_) (fun cdv A outer s H vs Q E hr h => ?_)
  · obtain ⟨p, c, k, rfl, _⟩ := h
    rfl
  · obtain ⟨p, c, k, rfl, hP, hk, q⟩ := h
    have nd := scRw.nd
    refine ⟨_, pss_cons (ps_set (i := 1) nd rfl (Or.inl rfl) (pe_lst pa_nil))
      (pss_cons (ps_for PassesOwn.never rfl (pi_range1 (by rfl) T.range (pa_cons pe_int pa_nil)) (pg_name (i := 2) nd rfl (Or.inl rfl)) (pss_cons (ps_asg (pe_call C__law_pair.F (hr.mono (by decide)) (by rfl) C__law_pair.mgf C__law_pair.kp C__law_pair.b .nil pass0 (pa_cons (pv 0) pa_nil)) (pg_tup (by rfl) (pgs_cons (pg_name (i := 3) nd rfl (Or.inl rfl)) (pgs_cons (pg_name (i := 4) nd rfl (Or.inl rfl)) pgs_nil))))
      (C8.pss_cut (ps_if (PW.pt (pw_and (pt_cmpR (op_neD hr.units) (pv 1) (pe_lst pa_nil) (nomark _)) (pw_and1 (pt_cmpR op_eq (pe_call C__law_draw.F (hr.mono (by decide)) (by rfl) C__law_draw.mgf C__law_draw.kp C__law_draw.b .nil pass0 (pa_cons (pv 0) (pa_cons pe_int pa_nil))) pe_int (nomark _))))) (pss_cons (ps_set (i := 5) nd rfl (Or.inl rfl) (pe_call C__law_pick.F (hr.mono (by decide)) (by rfl) C__law_pick.mgf C__law_pick.kp C__law_pick.b .nil pass0 (pa_cons (pv 0) (pa_cons (pv 1) pa_nil))))
      (pss_one (ps_par (i := 3) (j := 4) (by rfl) nd rfl rfl (by decide) rfl rfl (pa_cons (pe_op op_sub (pe_op op_add (pe_op op_mul (pe_ix ix_tup (pv 5) pe_int (fun _ _ => rfl)) pe_int) (pe_call C__law_draw.F (hr.mono (by decide)) (by rfl) C__law_draw.mgf C__law_draw.kp C__law_draw.b .nil pass0 (pa_cons (pv 0) (pa_cons pe_int pa_nil)))) pe_int) (pa_cons (pe_op op_mul (pe_ix ix_tup (pv 5) pe_int (fun _ _ => rfl)) pe_int) pa_nil)) (by rfl)))) pss_nil)
      (C8.pss_cut (ps_if (pt_cmpR op_eq (pe_call C__law_draw.F (hr.mono (by decide)) (by rfl) C__law_draw.mgf C__law_draw.kp C__law_draw.b .nil pass0 (pa_cons (pv 0) (pa_cons pe_int pa_nil))) pe_int (nomark _)) (pss_one (ps_set (i := 4) nd rfl (Or.inl rfl) pe_int)) pss_nil)
      (pss_one (ps_expr (pe_bm PySem.F.plainAttrs_list PySem.F.slot_list_append PySem.F.type_list_append mt_append (pv 1) (pa_cons (pe_call C__law_lowest.F (hr.mono (by decide)) (by rfl) C__law_lowest.mgf C__law_lowest.kp C__law_lowest.b .nil pass0 (pa_cons (pv 3) (pa_cons (pv 4) pa_nil))) pa_nil))))))))
      (pss_one (ps_ret (pv 1)))), ?_⟩
    refine ⟨by decide, fun l hl => ?_⟩
    have hlp : l ≠ p := hP.ne_none hl
    have hlc : l ≠ c := hP.ne_cell hl
    refine ⟨5, rfl, by decide, by decide, ?_⟩
    refine for_range (lo := 0) (n := 5) (fun i σ H' => ∃ vs x y z u, σ = [some (.ref p), some (.ref l), x, y, z, u] ∧ vs.length = i ∧ RowSt H H' p c l vs (10 ^ (30 + i)) (k + 10 * i))
      ⟨[], _, _, _, _, rfl, rfl, ⟨upd_same, hP.same (same_new hl), But.refl.new hl, fun v hv => absurd hv List.not_mem_nil⟩⟩ ?_ ?_
    · rintro i σ H1 hi ⟨vs, x, y, z, u0, rfl, hlen, R⟩
      refine ⟨_, rfl, p, c, _, rfl, R.pen, by omega, fun t b e H2 ht hb hb0 hP2 hB2 hc => ?_⟩
      refine ⟨_, _, rfl, SqT.of hc, rfl, _, _, rfl, _, _, rfl, rfl, ?_⟩
      have R2 := R.step hB2 hP2 hlp
      have hps := pow_step i
      have hp30 : 10 ^ 30 ≤ 10 ^ (30 + i) := Nat.pow_le_pow_right (by decide) (by omega)
      refine ⟨fun σ' H' => ∃ (t b : Int) (x u : Option V), σ' = [some (.ref p), some (.ref l), x, some (.int t), some (.int b), u] ∧ b ≠ 0 ∧ t.natAbs ≤ 10 ^ (30 + (i + 1)) ∧ b.natAbs ≤ 10 ^ (30 + (i + 1)) ∧ RowSt H H' p c l vs (10 ^ (30 + i)) (k + 10 * i + 9), ?_, ?_⟩
      · refine ⟨_, rfl, by decide, fun e2 he => ?_⟩
        have R3 := R2.step (But.refl.new (o := .lst []) he) (R2.pen.same (same_new he)) hlp
        obtain ⟨qs, hql, hqd⟩ := dpTups (K := K) R3.els
        refine ⟨_, _, .lst (SqL.of R3.lst) hqd, .lst (SqL.of upd_same) .nil, shTups' qs, by decide, _, rfl, ?_⟩
        rw [eqvE]
        have stay : ∀ H' n, n ≤ k + 10 * i + 9 → RowSt H H' p c l vs (10 ^ (30 + i)) n → ∃ (t' b' : Int) (x u : Option V), [some (V.ref p), some (V.ref l), some (V.int (0 + (i : Int))), some (V.int t), some (V.int b), u0] = [some (.ref p), some (.ref l), x, some (.int t'), some (.int b'), u] ∧ b' ≠ 0 ∧ t'.natAbs ≤ 10 ^ (30 + (i + 1)) ∧ b'.natAbs ≤ 10 ^ (30 + (i + 1)) ∧ RowSt H H' p c l vs (10 ^ (30 + i)) (k + 10 * i + 9) := fun H' n hn r => ⟨t, b, _, _, rfl, hb0, by omega, by omega, r.mono hn⟩
        by_cases hn : qs = []
        · rw [decide_eq_true hn]
          refine iteF ?_
          exact stay _ _ (by omega) R3
        · rw [decide_eq_false hn]
          refine iteT ?_
          refine ⟨_, rfl, p, c, 2, _, rfl, R3.pen, by omega, by decide, by decide +kernel, fun z2 H4 z0 z1 hP4 hB4 => ⟨rfl, _, rfl, ?_⟩⟩
          have R4 := R3.step hB4 hP4 hlp
          refine ite2 (fun _ => ?_) (fun _ => stay _ _ (by omega) R4)
          have hq0 := List.length_pos_iff.mpr hn
          refine ⟨_, rfl, _, rfl, p, c, l, vs, _, rfl, R4.pen, by omega, R4.lst, hlp, by omega, by omega, fun v H5 hv hP5 hB5 => ?_⟩
          have R5 := R4.step hB5 hP5 hlp
          obtain ⟨q0, tt, rfl, hT, n1, n2⟩ := R5.els v hv
          refine ⟨_, rfl, tt, _, _, _, rfl, rfl, SqT.of hT, rfl, _, _, rfl, rfl, cmr (by decide), _, rfl, p, c, 3, _, rfl, R5.pen, by omega, by decide, by decide +kernel, fun r H6 r0 r1 hP6 hB6 => ?_⟩
          have R6 := R5.step hB6 hP6 hlp
          have hT6 := hB6 _ _ hT (R5.pen.ne_tup hT)
          refine ⟨_, _, rfl, rfl, _, _, rfl, rfl, _, rfl, tt, _, _, _, rfl, rfl, SqT.of hT6, rfl, _, _, rfl, rfl, cmr (by decide), _, _, rfl, ?_⟩
          have d0 := den_pos q0
          refine ⟨q0.num * 9 + r - 1, (q0.den : Int) * 9, _, _, rfl, by omega, by omega, by omega, R6.mono (by omega)⟩
      · rintro σ' H3 ⟨t', b', x', u', rfl, b0, tb, bb, R3⟩
        refine ⟨fun σ' H' => ∃ (t b : Int) (x u : Option V), σ' = [some (.ref p), some (.ref l), x, some (.int t), some (.int b), u] ∧ b ≠ 0 ∧ t.natAbs ≤ 10 ^ (30 + (i + 1)) ∧ b.natAbs ≤ 10 ^ (30 + (i + 1)) ∧ RowSt H H' p c l vs (10 ^ (30 + i)) (k + 10 * i + 10), ?_, ?_⟩
        · refine ⟨_, rfl, p, c, 4, _, rfl, R3.pen, by omega, by decide, by decide +kernel, fun z2 H4 z0 z1 hP4 hB4 => ⟨rfl, _, rfl, ?_⟩⟩
          have R4 := R3.step hB4 hP4 hlp
          refine ite2 (fun _ => ⟨t', 1, _, _, rfl, by decide, tb, ?_, R4⟩) (fun _ => ⟨t', b', _, _, rfl, b0, tb, bb, R4⟩)
          have : (1 : Int).natAbs = 1 := rfl
          omega
        · rintro σ' H4 ⟨t2, b2, x2, u2, rfl, b0', tb', bb', R4⟩
          refine ⟨_, rfl, .inl ⟨rfl, _, SqL.of R4.lst⟩, _, rfl, _, rfl, t2, b2, rfl, b0', sz_row hi tb', sz_row hi bb', fun e he => ?_⟩
          have nle : l ≠ e := ne_of_none R4.lst he
          refine ⟨l, vs, _, rfl, rfl, by rw [upd_ne nle]; exact R4.lst, small1000 (by omega), ?_⟩
          refine ⟨vs ++ [.ref e], _, _, _, _, rfl, by rw [List.length_append, hlen]; rfl, ⟨upd_same, ((R4.pen.same (same_new he)).put hlp hlc).mono (by omega), fun b o h n => ?_, fun v hv => ?_⟩⟩
          · have h4 := R4.but b o h n
            rw [upd_ne (ne_of_none h hl), upd_ne (ne_of_none h4 he)]
            exact h4
          · rcases List.mem_append.mp hv with hv | hv
            · obtain ⟨q, h⟩ := R4.els v hv
              refine ⟨q, (h.keep fun t xs e1 => ?_).mono (by omega)⟩
              have ntl : t ≠ l := fun z => by
                rw [z, R4.lst] at e1
                cases e1
              rw [upd_ne ntl, upd_ne (ne_of_none e1 he)]
              exact e1
            · rw [List.mem_singleton.mp hv]
              refine ⟨divInt t2 b2, e, rfl, by rw [upd_ne nle.symm, upd_same], Nat.le_trans (num_le _ _) tb', Nat.le_trans (den_le b0') bb'⟩
    · rintro σ H1 ⟨vs, x, y, z, u, rfl, hlen, R⟩
      refine ⟨_, rfl, q l vs H1 hlen R.lst (fun v hv => ?_) (R.pen.mono (by omega)) R.but⟩
      obtain ⟨q, h⟩ := R.els v hv
      exact ⟨q, h.mono (by decide +kernel)⟩
end
end Toy
set_option maxRecDepth 100000
set_option maxHeartbeats 4000000
set_option exponentiation.threshold 3000
namespace Toy
open PySem L2
open Rat (divInt)
/-! ### comparisons, read in rationals -/
theorem q_self {q : Rat} (h : (q.den : Int) = 1) : q = (q.num : Rat) := by
  apply Rat.ext
  · rw [Rat.num_intCast]
  · rw [Rat.den_intCast]
    omega
theorem q_cross (p q : Rat) : decide (p = q) = decide (V.int (p.num * q.den) = V.int (q.num * p.den)) := by
  rw [vdec]
  refine decide_eq_decide.mpr ?_
  have h := Rat.divInt_eq_divInt_iff (n₁ := p.num) (n₂ := q.num) (den_ne p) (den_ne q)
  rw [Rat.num_divInt_den, Rat.num_divInt_den] at h
  exact h
section
variable {P : Program} {w : World} {K : PySem.W.Frag} {mg : Str → Option Value} {base : Heap} {C : Addr} {H : Hp} {a : Addr} {u : V} {p q : Rat} {Q : VK} {E : XK} {g g1 g2 : Int → Bool} {r : Bool}
theorem cmpL (T : RatT K mg C) (hp : RatQ C H a p) (hq : NumQ C H u q) (zp : Sq 490 p) (zq : Sq 490 q) (e : g (p.num * q.den - q.num * p.den) = r) (k : ∀ H', Same H H' → Q (.bl r) H') : Own.rOwnC K C (spCmp C g) E (.ref a) u H Q := by
  obtain ⟨dx, h⟩ := id hp
  have ty : ∃ t, TyX K H u t ∧ PySem.W.notFirst K C t = true := by
    rcases hq.cases with ⟨i, rfl, _⟩ | ⟨b, rfl, hb⟩
    · exact ⟨_, .base (.int _), T.nI⟩
    · obtain ⟨dy, h2⟩ := hb
      exact ⟨_, T.ty h2, T.nC⟩
  obtain ⟨t, t1, t2⟩ := ty
  exact ⟨a, dx, _, t, rfl, h, t1, t2, _, _, _, _, _, _, rfl, (NumQ.rat hp).at_, hq.at_, ⟨(z4 zp).1, (z4 zp).2, (z4 zq).1, (z4 zq).2⟩, fun H' s => ⟨⟨_, rfl⟩, by rw [e]; exact k H' s⟩⟩
theorem cmpB (T : RatT K mg C) (hp : RatQ C H a p) (hq : NumQ C H u q) (zp : Sq 490 p) (zq : Sq 490 q) (e1 : g1 (q.num * p.den - p.num * q.den) = r) (e2 : g2 (p.num * q.den - q.num * p.den) = r) (k : ∀ H', Same H H' → Q (.bl r) H') :
    Own.rOwnC K C (spCmp C g1) E u (.ref a) H Q ∨ Own.rReflC C (spCmp C g2) E u (.ref a) H Q := by
  rcases hq.cases with ⟨i, rfl, rfl⟩ | ⟨b, rfl, hb⟩
  · obtain ⟨dx, h⟩ := id hp
    exact .inr ⟨i, a, dx, _, rfl, rfl, h, _, _, _, _, _, _, rfl, (NumQ.rat hp).at_, hq.at_, ⟨(z4 zp).1, (z4 zp).2, (z4 zq).1, (z4 zq).2⟩, fun H' s => ⟨⟨_, rfl⟩, by rw [e2]; exact k H' s⟩⟩
  · exact .inl (cmpL T hb (.rat hp) zq zp e1 k)
theorem eqLq {g : Bool → Bool} (hp : RatQ C H a p) (hq : NumQ C H u q) (k : ∀ H', Same H H' → Q (.bl (g (decide (p = q)))) H') : Own.rEqL C (spEqQ C) E g (.ref a) u H Q := by
  obtain ⟨dx, h⟩ := id hp
  exact ⟨a, dx, _, rfl, h, hq.ri, a, u, p, q, rfl, hp, hq, fun H' s => ⟨_, rfl, k H' s⟩⟩
theorem eqBq {g : Bool → Bool} (hp : RatQ C H a p) (hq : NumQ C H u q) (k : ∀ H', Same H H' → Q (.bl (g (decide (p = q)))) H') : Own.rEqL C (spEqQ C) E g u (.ref a) H Q ∨ Own.rEqR C (spEqQ C) E g u (.ref a) H Q := by
  rcases hq.cases with ⟨i, rfl, rfl⟩ | ⟨b, rfl, hb⟩
  · obtain ⟨dx, h⟩ := id hp
    exact .inr ⟨i, a, dx, _, rfl, rfl, h, a, _, p, _, rfl, hp, hq, fun H' s => ⟨_, rfl, k H' s⟩⟩
  · refine .inl (eqLq hb (.rat hp) fun H' s => ?_)
    rw [show decide (q = p) = decide (p = q) from decide_eq_decide.mpr eq_comm]
    exact k H' s
theorem mk_same {H1 H' : Hp} {x dx C : Addr} (hx : H1 x = none) (hdx : H1 dx = none) (hk : ∀ c o, (upd (upd H1 dx (.own x)) x (.ins C dx [])) c = some o → c ≠ x → H' c = some o) : Same H1 H' := fun c o e =>
  hk c o (by rw [upd_ne (ne_of_none e hx), upd_ne (ne_of_none e hdx)]; exact e) (ne_of_none e hx)
theorem asQ {x : Addr} {t b : Int} (hb : b ≠ 0) (e : divInt t b = q) (h : RatAt C H x (lowT t b) (lowB t b)) : RatQ C H x q := by
  rw [low_num hb, low_den hb, e] at h
  exact h
theorem dec_sub1 (x y : Int) : decide (x - y < 0) = decide (x < y) := decide_eq_decide.mpr (by omega)
theorem dec_sub2 (x y : Int) : decide (x - y ≤ 0) = decide (x ≤ y) := decide_eq_decide.mpr (by omega)
theorem dec_sub3 (x y : Int) : decide (0 < x - y) = decide (y < x) := decide_eq_decide.mpr (by omega)
theorem dec_sub4 (x y : Int) : decide (0 ≤ x - y) = decide (y ≤ x) := decide_eq_decide.mpr (by omega)
theorem show6 (b1 b2 b3 b4 b5 b6 : Bool) : (PyData.shown (.list [.bool b1, .bool b2, .bool b3, .bool b4, .bool b5, .bool b6])).length ≤ sizeLine := by
  cases b1 <;> cases b2 <;> cases b3 <;> cases b4 <;> cases b5 <;> cases b6 <;> decide +kernel
theorem rt_self {Q : VK} {x : V} {H : Hp} (h : Q (.bl true) H) : Q (.bl (decide (x = x))) H := by
  rw [decide_eq_true rfl]
  exact h
theorem dp6 {b1 b2 b3 b4 b5 b6 : Bool} : DpAll K H [.bl b1, .bl b2, .bl b3, .bl b4, .bl b5, .bl b6] [.bool b1, .bool b2, .bool b3, .bool b4, .bool b5, .bool b6] := .cons (.bl _) (.cons (.bl _) (.cons (.bl _) (.cons (.bl _) (.cons (.bl _) (.cons (.bl _) .nil)))))
theorem dep6 {b1 b2 b3 b4 b5 b6 : Bool} : (PyData.list [.bool b1, .bool b2, .bool b3, .bool b4, .bool b5, .bool b6]).depth ≤ 60 := by simp [PyData.depth, PyData.depthAll]
/-- a pair as a number -/
def spNumber (C : Addr) : Sp := fun vs H Q _ => ∃ t q, vs = [.ref t] ∧ H t = some (.tup [.int q.num, .int (q.den : Int)]) ∧ Sq 120 q ∧ ∀ v H', Same H H' → NumQ C H' v q → Q v H'
abbrev sNumber : Stmt := top 29
theorem scNu : FnScope ["_law_pair_here"] ["_law_pair_here"] (defScope sNumber) := ⟨rfl, rfl, rfl, by decide +kernel, rfl, by decide +kernel, by decide +kernel⟩
theorem ok_number {f f1 : Addr} {fd fd1 : FuncData} (F : Fun K "_law_number" "_law_number" sNumber f fd) (M_Ratio : Mak P w K mg base 2 "Ratio" C f1 fd1 ["self", "top", "bottom"] (spRInit C)) : FnOk P w K mg base CX0 4 f fd ["_law_pair_here"] (spNumber C) := by
  refine F.ok scNu (fun vs H Q E h => ?_) (fun cdv A outer s H vs Q E hr h => ?_)
  · obtain ⟨t, q, rfl, _⟩ := h
    rfl
  · obtain ⟨t, q, rfl, hT, z, k⟩ := h
    have nd := scNu.nd
    refine ⟨_, pss_one (ps_ret (pe_ifExp (pt_cmpR op_eq (pe_ix ix_tup (pv 0) pe_int (fun _ _ => rfl)) pe_int (nomark _)) (pe_ix ix_tup (pv 0) pe_int (fun _ _ => rfl)) (pe_make M_Ratio.M M_Ratio.F (hr.mono (by decide)) (by rfl) M_Ratio.mgC M_Ratio.b .nil pass0 (pa_cons (pe_ix ix_tup (pv 0) pe_int (fun _ _ => rfl)) (pa_cons (pe_ix ix_tup (pv 0) pe_int (fun _ _ => rfl)) pa_nil))))), ?_⟩
    refine ⟨_, rfl, t, _, _, _, rfl, rfl, SqT.of hT, rfl, rfl, _, rfl, ?_⟩
    by_cases h1 : (q.den : Int) = 1
    · refine iteTb (by rw [vdec]; exact decide_eq_true h1) ⟨_, rfl, t, _, _, _, rfl, rfl, SqT.of hT, rfl, ?_⟩
      have e := NumQ.int (C := C) (H := H) q.num
      rw [← q_self h1] at e
      exact k _ H (Same.refl H) e
    · refine iteFb (by rw [vdec]; exact decide_eq_false h1) ⟨_, rfl, t, _, _, _, rfl, rfl, SqT.of hT, rfl, _, rfl, t, _, _, _, rfl, rfl, SqT.of hT, rfl, ?_⟩
      exact mkQ (den_ne q) (z.d (by decide)) (Rat.num_divInt_den q) fun x H' s r => k _ H' s (.rat r)
/-- the order of two -/
def spOrder : Sp := fun vs H Q _ => ∃ t1 t2 p q, vs = [.ref t1, .ref t2] ∧ H t1 = some (.tup [.int p.num, .int (p.den : Int)]) ∧ H t2 = some (.tup [.int q.num, .int (q.den : Int)]) ∧ (Sq 120 p ∧ Sq 120 q) ∧ ∀ H', Same H H' → Q (.bl true) H'
abbrev sOrder : Stmt := top 30
theorem scOr : FnScope ["_law_one", "_law_other", "_law_left", "_law_right", "_law_mine", "_law_yours", "_law_seen", "_law_back"] ["_law_one", "_law_other"] (defScope sOrder) := ⟨rfl, rfl, rfl, by decide +kernel, rfl, by decide +kernel, by decide +kernel⟩
theorem ok_order {f f1 f2 g1 g2 g3 g4 g5 : Addr} {fd fd1 fd2 gd1 gd2 gd3 gd4 gd5 : FuncData} (F : Fun K "_law_order_right" "_law_order_right" sOrder f fd) (T : Bl mg) (zr : mg "repr" = none) (T_Ratio : RatT K mg C) (hne : PySem.W.findIn K (.ref C) "__ne__" = some (some (.builtin "object.__ne__"))) (hO : PySem.W.subIn K (.ref C) (.type "object") = some true)
    (O_lt : Opr P w K mg base 3 C "__lt__" g1 gd1 ["self", "other"] (spCmp C fun z => decide (z < 0))) (O_le : Opr P w K mg base 3 C "__le__" g2 gd2 ["self", "other"] (spCmp C fun z => decide (z ≤ 0))) (O_gt : Opr P w K mg base 3 C "__gt__" g3 gd3 ["self", "other"] (spCmp C fun z => decide (0 < z))) (O_ge : Opr P w K mg base 3 C "__ge__" g4 gd4 ["self", "other"] (spCmp C fun z => decide (0 ≤ z)))
    (O_eq : Opr P w K mg base 3 C "__eq__" g5 gd5 ["self", "other"] (spEqQ C)) (M_Ratio : Mak P w K mg base 2 "Ratio" C f1 fd1 ["self", "top", "bottom"] (spRInit C)) (C__law_number : Cal P w K mg base 4 "_law_number" f2 fd2 ["_law_pair_here"] (spNumber C)) :
    Own.FnG P w K mg base CX0 5 f fd ["_law_one", "_law_other"] spOrder := by
  refine Own.okG F scOr (fun vs H Q E h => ?_) (fun cdv A outer s H vs Q E hg hr h => ?_)
  · obtain ⟨t1, t2, p, q, rfl, _⟩ := h
    rfl
  · obtain ⟨t1, t2, p, q, rfl, h1, h2, ⟨zp, zq⟩, k⟩ := h
    have nd := scOr.nd
    have yp : Sq 490 p := zp.mono (by decide)
    have yq : Sq 490 q := zq.mono (by decide)
    refine ⟨_, pss_cons (ps_par (i := 2) (j := 3) (by rfl) nd rfl rfl (by decide) rfl rfl (pa_cons (pe_op op_mulW (pe_ix ix_tup (pv 0) pe_int (fun _ _ => rfl)) (pe_ix ix_tup (pv 1) pe_int (fun _ _ => rfl))) (pa_cons (pe_op op_mulW (pe_ix ix_tup (pv 1) pe_int (fun _ _ => rfl)) (pe_ix ix_tup (pv 0) pe_int (fun _ _ => rfl))) pa_nil)) (by rfl))
      (pss_cons (ps_par (i := 4) (j := 5) (by rfl) nd rfl rfl (by decide) rfl rfl (pa_cons (pe_make M_Ratio.M M_Ratio.F (hr.mono (by decide)) (by rfl) M_Ratio.mgC M_Ratio.b .nil pass0 (pa_cons (pe_ix ix_tup (pv 0) pe_int (fun _ _ => rfl)) (pa_cons (pe_ix ix_tup (pv 0) pe_int (fun _ _ => rfl)) pa_nil))) (pa_cons (pe_call C__law_number.F (hr.mono (by decide)) (by rfl) C__law_number.mgf C__law_number.kp C__law_number.b .nil pass0 (pa_cons (pv 1) pa_nil)) pa_nil)) (by rfl))
      (pss_cons (ps_set (i := 6) nd rfl (Or.inl rfl) (pe_lst (pa_cons (pe_cmpR (Own.op_ownC O_lt.F (hr.mono (by decide)) O_lt.at_ O_lt.fn O_lt.b pass0) (pv 4) (pv 5) (nomark _)) (pa_cons (pe_cmpR (Own.op_ownC O_le.F (hr.mono (by decide)) O_le.at_ O_le.fn O_le.b pass0) (pv 4) (pv 5) (nomark _)) (pa_cons (pe_cmpR (Own.op_ownC O_gt.F (hr.mono (by decide)) O_gt.at_ O_gt.fn O_gt.b pass0) (pv 4) (pv 5) (nomark _)) (pa_cons (pe_cmpR (Own.op_ownC O_ge.F (hr.mono (by decide)) O_ge.at_ O_ge.fn O_ge.b pass0) (pv 4) (pv 5) (nomark _)) (pa_cons (pe_cmpR (Own.op_eqL O_eq.F (hr.mono (by decide)) O_eq.at_ O_eq.fn T_Ratio.nI O_eq.b pass0) (pv 4) (pv 5) (nomark _)) (pa_cons (pe_cmpR (Own.op_neL O_eq.F (hr.mono (by decide)) O_eq.at_ hne hO O_eq.fn T_Ratio.nI O_eq.b pass0) (pv 4) (pv 5) (nomark _)) pa_nil))))))))
      (pss_cons (ps_if (pt_cmpR op_ne (pe_callB (Own.call_repr hg hr.units) (by rfl) zr (by decide +kernel) (pa_cons (pv 6) pa_nil)) (pe_callB (Own.call_repr hg hr.units) (by rfl) zr (by decide +kernel) (pa_cons (pe_lst (pa_cons (pe_cmpR op_lt (pv 2) (pv 3) (nomark _)) (pa_cons (pe_cmpR op_le (pv 2) (pv 3) (nomark _)) (pa_cons (pe_cmpR op_gt (pv 2) (pv 3) (nomark _)) (pa_cons (pe_cmpR op_ge (pv 2) (pv 3) (nomark _)) (pa_cons (pe_cmpR op_eq (pv 2) (pv 3) (nomark _)) (pa_cons (pe_cmpR op_ne (pv 2) (pv 3) (nomark _)) pa_nil))))))) pa_nil)) (nomark _)) (pss_one (ps_ret pe_bl)) pss_nil)
      (pss_cons (ps_set (i := 7) nd rfl (Or.inl rfl) (pe_lst (pa_cons (pe_cmpR (OpR.or (Own.op_ownC O_lt.F (hr.mono (by decide)) O_lt.at_ O_lt.fn O_lt.b pass0) (Own.op_reflC O_gt.F (hr.mono (by decide)) O_gt.at_ O_gt.fn T_Ratio.sI O_gt.b pass0 PySem.F.slot_int_lt PySem.F.entry_int_lt PySem.F.args_int_lt_2 Own.int_lt_dec ⟨by decide, by decide⟩)) (pv 5) (pv 4) (nomark _)) (pa_cons (pe_cmpR (OpR.or (Own.op_ownC O_le.F (hr.mono (by decide)) O_le.at_ O_le.fn O_le.b pass0) (Own.op_reflC O_ge.F (hr.mono (by decide)) O_ge.at_ O_ge.fn T_Ratio.sI O_ge.b pass0 PySem.F.slot_int_le PySem.F.entry_int_le PySem.F.args_int_le_2 Own.int_le_dec ⟨by decide, by decide⟩)) (pv 5) (pv 4) (nomark _)) (pa_cons (pe_cmpR (OpR.or (Own.op_ownC O_gt.F (hr.mono (by decide)) O_gt.at_ O_gt.fn O_gt.b pass0) (Own.op_reflC O_lt.F (hr.mono (by decide)) O_lt.at_ O_lt.fn T_Ratio.sI O_lt.b pass0 PySem.F.slot_int_gt PySem.F.entry_int_gt PySem.F.args_int_gt_2 Own.int_gt_dec ⟨by decide, by decide⟩)) (pv 5) (pv 4) (nomark _)) (pa_cons (pe_cmpR (OpR.or (Own.op_ownC O_ge.F (hr.mono (by decide)) O_ge.at_ O_ge.fn O_ge.b pass0) (Own.op_reflC O_le.F (hr.mono (by decide)) O_le.at_ O_le.fn T_Ratio.sI O_le.b pass0 PySem.F.slot_int_ge PySem.F.entry_int_ge PySem.F.args_int_ge_2 Own.int_ge_dec ⟨by decide, by decide⟩)) (pv 5) (pv 4) (nomark _)) (pa_cons (pe_cmpR (OpR.or (Own.op_eqL O_eq.F (hr.mono (by decide)) O_eq.at_ O_eq.fn T_Ratio.nI O_eq.b pass0) (Own.op_eqR O_eq.F (hr.mono (by decide)) O_eq.at_ O_eq.fn T_Ratio.sI O_eq.b pass0)) (pv 5) (pv 4) (nomark _)) (pa_cons (pe_cmpR (OpR.or (Own.op_neL O_eq.F (hr.mono (by decide)) O_eq.at_ hne hO O_eq.fn T_Ratio.nI O_eq.b pass0) (Own.op_neR O_eq.F (hr.mono (by decide)) O_eq.at_ hne hO O_eq.fn T_Ratio.sI O_eq.b pass0)) (pv 5) (pv 4) (nomark _)) pa_nil))))))))
      (pss_one (ps_ret (pe_cmpR op_eq (pe_callB (Own.call_repr hg hr.units) (by rfl) zr (by decide +kernel) (pa_cons (pv 7) pa_nil)) (pe_callB (Own.call_repr hg hr.units) (by rfl) zr (by decide +kernel) (pa_cons (pe_lst (pa_cons (pe_cmpR op_gt (pv 2) (pv 3) (nomark _)) (pa_cons (pe_cmpR op_ge (pv 2) (pv 3) (nomark _)) (pa_cons (pe_cmpR op_lt (pv 2) (pv 3) (nomark _)) (pa_cons (pe_cmpR op_le (pv 2) (pv 3) (nomark _)) (pa_cons (pe_cmpR op_eq (pv 2) (pv 3) (nomark _)) (pa_cons (pe_cmpR op_ne (pv 2) (pv 3) (nomark _)) pa_nil))))))) pa_nil)) (nomark _)))))))), ?_⟩
    refine ⟨_, rfl, t1, _, _, _, rfl, rfl, SqT.of h1, rfl, _, rfl, t2, _, _, _, rfl, rfl, SqT.of h2, rfl, _, _, rfl, rfl, (z4 yp).1.mul (z4 yq).2, _, rfl, t2, _, _, _, rfl, rfl, SqT.of h2, rfl, _, rfl, t1, _, _, _, rfl, rfl, SqT.of h1, rfl, _, _, rfl, rfl, (z4 yq).1.mul (z4 yp).2, _, _, rfl, ?_⟩
    refine ⟨_, rfl, t1, _, _, _, rfl, rfl, SqT.of h1, rfl, _, rfl, t1, _, _, _, rfl, rfl, SqT.of h1, rfl, ?_⟩
    intro a dx hx hdx hnx
    refine ⟨a, dx, p.num, (p.den : Int), rfl, upd_same, den_ne p, (z4 yp).2, fun H1 hR hk => ⟨rfl, ?_⟩⟩
    have s1 := mk_same hx hdx hk
    have hp := asQ (den_ne p) (Rat.num_divInt_den p) hR
    refine ⟨_, rfl, t2, q, rfl, s1 _ _ h2, zq, fun u H2 s2 hq => ⟨_, _, rfl, ?_⟩⟩
    have hp := hp.same s2
    refine ⟨_, rfl, _, rfl, cmpL T_Ratio hp hq yp yq (dec_sub1 _ _) fun A0 sA0 => ?_⟩
    have hpA0 := hp.same sA0
    have hqA0 := hq.same sA0
    refine ⟨_, rfl, _, rfl, cmpL T_Ratio hpA0 hqA0 yp yq (dec_sub2 _ _) fun A1 sA1 => ?_⟩
    have hpA1 := hpA0.same sA1
    have hqA1 := hqA0.same sA1
    refine ⟨_, rfl, _, rfl, cmpL T_Ratio hpA1 hqA1 yp yq (dec_sub3 _ _) fun A2 sA2 => ?_⟩
    have hpA2 := hpA1.same sA2
    have hqA2 := hqA1.same sA2
    refine ⟨_, rfl, _, rfl, cmpL T_Ratio hpA2 hqA2 yp yq (dec_sub4 _ _) fun A3 sA3 => ?_⟩
    have hpA3 := hpA2.same sA3
    have hqA3 := hqA2.same sA3
    refine ⟨_, rfl, _, rfl, eqLq hpA3 hqA3 fun A4 sA4 => ?_⟩
    rw [q_cross]
    have hpA4 := hpA3.same sA4
    have hqA4 := hqA3.same sA4
    refine ⟨_, rfl, _, rfl, eqLq hpA4 hqA4 fun A5 sA5 => ?_⟩
    rw [q_cross]
    have hpA5 := hpA4.same sA5
    have hqA5 := hqA4.same sA5
    refine ⟨(by decide : 6 ≤ sizeLine), fun l hl => ?_⟩
    refine ⟨_, rfl, l, _, rfl, .lst (SqL.of upd_same) dp6, rfl, rfl, dep6, show6 .., ?_⟩
    refine ⟨_, rfl, _, rfl, _, _, rfl, rfl, _, rfl, _, rfl, _, _, rfl, rfl, _, rfl, _, rfl, _, _, rfl, rfl, _, rfl, _, rfl, _, _, rfl, rfl, _, rfl, _, rfl, rfl, _, rfl, _, rfl, rfl, (by decide : 6 ≤ sizeLine), fun m hm => ⟨m, _, rfl, .lst (SqL.of upd_same) dp6, rfl, rfl, dep6, show6 .., ?_⟩⟩
    refine ⟨rfl, _, rfl, iteFb (by rw [decide_eq_true rfl]; rfl) ?_⟩
    refine ⟨_, rfl, _, rfl, cmpB T_Ratio ((hpA5.same (same_new hl)).same (same_new hm)) ((hqA5.same (same_new hl)).same (same_new hm)) yp yq (dec_sub1 _ _) (dec_sub3 _ _) fun B0 sB0 => ?_⟩
    have hpB0 := ((hpA5.same (same_new hl)).same (same_new hm)).same sB0
    have hqB0 := ((hqA5.same (same_new hl)).same (same_new hm)).same sB0
    refine ⟨_, rfl, _, rfl, cmpB T_Ratio hpB0 hqB0 yp yq (dec_sub2 _ _) (dec_sub4 _ _) fun B1 sB1 => ?_⟩
    have hpB1 := hpB0.same sB1
    have hqB1 := hqB0.same sB1
    refine ⟨_, rfl, _, rfl, cmpB T_Ratio hpB1 hqB1 yp yq (dec_sub3 _ _) (dec_sub1 _ _) fun B2 sB2 => ?_⟩
    have hpB2 := hpB1.same sB2
    have hqB2 := hqB1.same sB2
    refine ⟨_, rfl, _, rfl, cmpB T_Ratio hpB2 hqB2 yp yq (dec_sub4 _ _) (dec_sub2 _ _) fun B3 sB3 => ?_⟩
    have hpB3 := hpB2.same sB3
    have hqB3 := hqB2.same sB3
    refine ⟨_, rfl, _, rfl, eqBq hpB3 hqB3 fun B4 sB4 => ?_⟩
    rw [q_cross]
    have hpB4 := hpB3.same sB4
    have hqB4 := hqB3.same sB4
    refine ⟨_, rfl, _, rfl, eqBq hpB4 hqB4 fun B5 sB5 => ?_⟩
    rw [q_cross]
    have hpB5 := hpB4.same sB5
    have hqB5 := hqB4.same sB5
    refine ⟨(by decide : 6 ≤ sizeLine), fun l2 hl2 => ?_⟩
    refine ⟨_, rfl, l2, _, rfl, .lst (SqL.of upd_same) dp6, rfl, rfl, dep6, show6 .., ?_⟩
    refine ⟨_, rfl, _, rfl, _, _, rfl, rfl, _, rfl, _, rfl, _, _, rfl, rfl, _, rfl, _, rfl, _, _, rfl, rfl, _, rfl, _, rfl, _, _, rfl, rfl, _, rfl, _, rfl, rfl, _, rfl, _, rfl, rfl, (by decide : 6 ≤ sizeLine), fun m2 hm2 => ⟨m2, _, rfl, .lst (SqL.of upd_same) dp6, rfl, rfl, dep6, show6 .., ?_⟩⟩
    refine ⟨rfl, ?_⟩
    exact rt_self (k _ ((s1).trans ((s2).trans ((sA0).trans ((sA1).trans ((sA2).trans ((sA3).trans ((sA4).trans ((sA5).trans ((same_new hl).trans ((same_new hm).trans ((sB0).trans ((sB1).trans ((sB2).trans ((sB3).trans ((sB4).trans ((sB5).trans ((same_new hl2).trans (same_new hm2)))))))))))))))))))
end
end Toy
set_option maxRecDepth 100000
set_option maxHeartbeats 4000000
set_option exponentiation.threshold 3000
namespace Toy
open PySem L2
open Rat (divInt)
theorem qmod_add (p q : Rat) : qmod p q + q * ((p / q).floor : Rat) = p := by
  unfold qmod
  grind
theorem fl_lt (a : Rat) : a < (a.floor : Rat) + 1 := by
  have h := Rat.floor_lt_iff.mp (Int.lt_succ a.floor)
  rw [Rat.intCast_add] at h
  exact h
theorem qmod_pos {p q : Rat} (h : 0 < q) : 0 ≤ qmod p q ∧ qmod p q < q := by
  have h0 : q ≠ 0 := by grind
  have e := Rat.div_mul_cancel (a := p) h0
  have h1 := Rat.mul_le_mul_of_nonneg_right (Rat.floor_le (p / q)) (Rat.le_of_lt h)
  have h2 := Rat.mul_lt_mul_of_pos_right (fl_lt (p / q)) h
  unfold qmod
  generalize ((p / q).floor : Rat) = f at *
  constructor <;> grind
theorem qmod_neg {p q : Rat} (h : q < 0) : qmod p q ≤ 0 ∧ q < qmod p q := by
  have h0 : q ≠ 0 := by grind
  have hn : 0 < -q := by grind
  have e := Rat.div_mul_cancel (a := p) h0
  have h1 := Rat.mul_le_mul_of_nonneg_right (Rat.floor_le (p / q)) (Rat.le_of_lt hn)
  have h2 := Rat.mul_lt_mul_of_pos_right (fl_lt (p / q)) hn
  unfold qmod
  generalize ((p / q).floor : Rat) = f at *
  constructor <;> grind
theorem sq_mod {p q : Rat} (zp : Sq 120 p) (zq : Sq 120 q) (h : q ≠ 0) : Sq 490 (qmod p q) := by
  have zf : Sq 241 ((p / q).floor : Rat) := Sq.int (floor_sz zp zq h) (by decide)
  exact (zp.sub (zf.mul zq)).mono (by decide)
theorem RatQ.extN {C : Addr} {H H' : Hp} {a : Addr} {q : Rat} (h : RatQ C H a q) (e : LamX.ExtN H H') : RatQ C H' a q := let ⟨dx, h⟩ := h; ⟨dx, e _ _ h fun _ z => nomatch z⟩
theorem NumQ.extN {C : Addr} {H H' : Hp} {v : V} {q : Rat} (h : NumQ C H v q) (e : LamX.ExtN H H') : NumQ C H' v q := by
  cases h with
  | int => exact .int _
  | rat h => exact .rat (h.extN e)
theorem rt_q {Q : VK} {p : Rat} {H : Hp} (h : Q (.bl true) H) : Q (.bl (decide (p = p))) H := by
  rw [decide_eq_true rfl]
  exact h
theorem extN_same {H H' : Hp} (s : Same H H') : LamX.ExtN H H' := fun b o e _ => s b o e
theorem rat_over (n d : Int) : (ratF n d).lookup ("over" : Str) = none := by
  unfold ratF
  rw [lookup_putF, if_neg (by decide +kernel), lookup_putF, if_neg (by decide +kernel)]
  rfl
section
variable {P : Program} {w : World} {K : PySem.W.Frag} {mg : Str → Option Value} {base : Heap} {C CN CB CF Pt c : Addr}
section
variable {H : Hp} {a x : Addr} {u v : V} {p q : Rat} {Q : VK} {E : XK}
theorem eq0 (hq : NumQ C H u q) (k : ∀ H', Same H H' → Q (.bl (decide (q = 0))) H') : rEq u (.int 0) H Q ∨ Own.rEqL C (spEqQ C) E (fun b => b) u (.int 0) H Q := by
  rcases hq.cases with ⟨i, rfl, rfl⟩ | ⟨b, rfl, hb⟩
  · refine .inl ⟨rfl, ?_⟩
    have e : decide (V.int i = V.int 0) = decide ((i : Rat) = 0) := by
      rw [vdec]
      exact decide_eq_decide.mpr Rat.intCast_eq_zero_iff.symm
    have z := k H (Same.refl H)
    rw [← e] at z
    exact z
  · exact .inr (eqLq hb (.int 0) fun H' s => k H' s)
theorem gt0 (T : RatT K mg C) (hq : NumQ C H u q) (zq : Sq 490 q) (k : ∀ H', Same H H' → Q (.bl (decide (0 < q))) H') : rI0 (fun i j => .bl (decide (j < i))) u (.int 0) H Q ∨ Own.rOwnC K C (spCmp C fun z => decide (0 < z)) E u (.int 0) H Q := by
  rcases hq.cases with ⟨i, rfl, rfl⟩ | ⟨b, rfl, hb⟩
  · refine .inl ⟨i, 0, rfl, rfl, ?_⟩
    have e : decide ((0 : Int) < i) = decide (0 < (i : Rat)) := decide_eq_decide.mpr Rat.intCast_pos.symm
    have z := k H (Same.refl H)
    rw [← e] at z
    exact z
  · exact .inr (cmpL T hb (.int 0) zq (Sq.int (by decide) (by decide)) (q_gt _ _) k)
theorem lt0 (T : RatT K mg C) (hq : NumQ C H u q) (zq : Sq 490 q) (k : ∀ H', Same H H' → Q (.bl (decide (q < 0))) H') : rI0 (fun i j => .bl (decide (i < j))) u (.int 0) H Q ∨ Own.rOwnC K C (spCmp C fun z => decide (z < 0)) E u (.int 0) H Q := by
  rcases hq.cases with ⟨i, rfl, rfl⟩ | ⟨b, rfl, hb⟩
  · refine .inl ⟨i, 0, rfl, rfl, ?_⟩
    have e : decide (i < (0 : Int)) = decide ((i : Rat) < 0) := decide_eq_decide.mpr Rat.intCast_neg_iff.symm
    have z := k H (Same.refl H)
    rw [← e] at z
    exact z
  · exact .inr (cmpL T hb (.int 0) zq (Sq.int (by decide) (by decide)) (q_lt _ _) k)
theorem mulWY {f : Int} (zf : f.natAbs < 2 ^ 241) (hq : NumQ C H u q) (zq : Sq 120 q) (k : ∀ v H', Same H H' → NumQ C H' v (q * (f : Rat)) → Q v H') : rI CMulW (fun i j => .int (i * j)) (.int f) u H Q ∨ Own.rReflB C (spBin C GT fun p q => p * q) E (.int f) u H Q := by
  have zq4 : Sq 490 q := zq.mono (by decide)
  have zf4 : Sq 490 (f : Rat) := Sq.int (Nat.lt_of_lt_of_le zf (Nat.pow_le_pow_right (by decide) (by decide))) (by decide)
  rcases hq.cases with ⟨i, rfl, rfl⟩ | ⟨b, rfl, hb⟩
  · refine .inl ⟨f, i, rfl, rfl, Sz.mul (show Sz f from zf4.n (by decide)) (show Sz i from zq4.n (by decide)), k _ H (Same.refl H) ?_⟩
    have z := NumQ.int (C := C) (H := H) (f * i)
    rw [Rat.intCast_mul, Rat.mul_comm] at z
    exact z
  · obtain ⟨dx, fs, hi⟩ := hb.ins
    exact .inr ⟨f, b, dx, fs, rfl, rfl, hi, b, _, q, _, rfl, hb, .int f, ⟨zq4, zf4⟩, True.intro, fun x H' s r => k _ H' s (.rat r)⟩
theorem addVR (hv : NumQ C H v p) (hx : RatQ C H x q) (zp : Sq 490 p) (zq : Sq 490 q) (k : ∀ y H', Same H H' → RatQ C H' y (q + p) → Q (.ref y) H') : Own.rOwnB C (spBin C GT fun p q => p + q) E v (.ref x) H Q ∨ Own.rReflB C (spBin C GT fun p q => p + q) E v (.ref x) H Q := by
  obtain ⟨dx, fs, hi⟩ := hx.ins
  rcases hv.cases with ⟨i, rfl, rfl⟩ | ⟨b, rfl, hb⟩
  · exact .inr ⟨i, x, dx, fs, rfl, rfl, hi, x, _, q, _, rfl, hx, .int i, ⟨zq, zp⟩, True.intro, k⟩
  · obtain ⟨dy, gs, hj⟩ := hb.ins
    refine .inl ⟨b, dy, gs, rfl, hj, .inr ⟨x, dx, fs, rfl, hi⟩, b, _, p, q, rfl, hb, .rat hx, ⟨zp, zq⟩, True.intro, fun y H' s r => ?_⟩
    have r2 : RatQ C H' y (p + q) := r
    rw [Rat.add_comm] at r2
    exact k y H' s r2
end
abbrev sRest : Stmt := top 31
abbrev LQ : Str := (PyProof.Rows.envOfC "_law_rest_right" (defScope sRest) 0 0 .none).qual ++ "<lambda>"
def spRest (K : PySem.W.Frag) (Pt : Addr) : Sp := fun vs H Q _ => ∃ t1 t2 p q, vs = [.ref t1, .ref t2] ∧ H t1 = some (.tup [.int p.num, .int (p.den : Int)]) ∧ H t2 = some (.tup [.int q.num, .int (q.den : Int)]) ∧ (Sq 120 p ∧ Sq 120 q) ∧ LamX.Tabs [(Pt, LQ)] H ∧
  ∀ H', LamX.ExtN H H' → LamX.Tabs [(Pt, LQ)] H' → Q (.bl true) H'
theorem scRe : FnScope ["_law_one", "_law_other", "_law_whole", "_law_rest", "_law_mine", "_law_yours"] ["_law_one", "_law_other"] (defScope sRest) := ⟨rfl, rfl, rfl, by decide +kernel, rfl, by decide +kernel, by decide +kernel⟩
theorem ok_rest {f g f1 f2 g1 g2 g3 g4 g5 a1 a2 a3 a4 a5 a6 a7 : Addr} {fd gd fd1 fd2 gd1 gd2 gd3 gd4 gd5 ad1 ad2 ad3 ad4 ad5 ad6 ad7 : FuncData} (F : Fun K "_law_rest_right" "_law_rest_right" sRest f fd) (hcF : fd.code = .ref c) (TB : LamX.TabB base mg c Pt) (T : Bl mg) (T_Ratio : RatT K mg C)
    (hne : PySem.W.findIn K (.ref C) "__ne__" = some (some (.builtin "object.__ne__"))) (hO : PySem.W.subIn K (.ref C) (.type "object") = some true)
    (FH : Fun K "_law_heard" "_law_heard" sHeard g gd) (mgH : mg "_law_heard" = some (.ref g)) (bH : Binds K gd ["_law_ask"] []) (hB : mg "BadRatio" = some (.ref CB)) (hN : mg "NoDivisor" = some (.ref CN)) (hF : mg "FifthError" = some (.ref CF)) (eB : PySem.W.exmOne K (.ref CN) (.ref CB) = some false) (eN : PySem.W.exmOne K (.ref CN) (.ref CN) = some true)
    (BA : BinF K C .Add) (BM : BinF K C .Mult) (BF : BinF K C .FloorDiv) (BMo : BinF K C .Mod)
    (O_lt : Opr P w K mg base 3 C "__lt__" g1 gd1 ["self", "other"] (spCmp C fun z => decide (z < 0))) (O_le : Opr P w K mg base 3 C "__le__" g2 gd2 ["self", "other"] (spCmp C fun z => decide (z ≤ 0))) (O_gt : Opr P w K mg base 3 C "__gt__" g3 gd3 ["self", "other"] (spCmp C fun z => decide (0 < z))) (O_ge : Opr P w K mg base 3 C "__ge__" g4 gd4 ["self", "other"] (spCmp C fun z => decide (0 ≤ z)))
    (O_eq : Opr P w K mg base 3 C "__eq__" g5 gd5 ["self", "other"] (spEqQ C)) (O_fdiv : Opr P w K mg base 3 C "__floordiv__" a1 ad1 ["self", "other"] (spQuo C)) (O_mod : Opr P w K mg base 6 C "__mod__" a2 ad2 ["self", "other"] (spMod C))
    (O_add : Opr P w K mg base 4 C "__add__" a3 ad3 ["self", "other"] (spBin C GT fun p q => p + q)) (O_radd : Opr P w K mg base 5 C "__radd__" a4 ad4 ["self", "other"] (spBin C GT fun p q => p + q)) (O_mul : Opr P w K mg base 4 C "__mul__" a5 ad5 ["self", "other"] (spBin C GT fun p q => p * q)) (O_rmul : Opr P w K mg base 5 C "__rmul__" a6 ad6 ["self", "other"] (spBin C GT fun p q => p * q))
    (D_Ratio_over : Dot P w K mg base 4 C "over" a7 ad7 ["self", "number"] (spBin C (fun _ q => q ≠ 0) fun p q => p / q)) (I0 : FnOk P w K mg base (L2.CX P w) 4 a7 ad7 ["self", "number"] (spOver0 C CN))
    (M_Ratio : Mak P w K mg base 2 "Ratio" C f1 fd1 ["self", "top", "bottom"] (spRInit C)) (C__law_number : Cal P w K mg base 4 "_law_number" f2 fd2 ["_law_pair_here"] (spNumber C)) :
    FnOk P w K mg base CX0 7 f fd ["_law_one", "_law_other"] (spRest K Pt) := by
  have mOv := D_Ratio_over.m
  have bOv := D_Ratio_over.b
  have kH := FH.kp
  obtain ⟨oc, od, kV, doc, pm, an, cdv, ct, osl, egd, lk, hcg⟩ := FH.ex
  subst egd
  refine Own.okC F hcF scRe (fun vs H Q E h => ?_) (fun A outer s H vs Q E hr h => ?_)
  · obtain ⟨t1, t2, p, q, rfl, _⟩ := h
    rfl
  · obtain ⟨t1, t2, p, q, rfl, h1, h2, ⟨zp, zq⟩, hT, k⟩ := h
    have nd := scRe.nd
    have yp : Sq 490 p := zp.mono (by decide)
    have yq : Sq 490 q := zq.mono (by decide)
    refine ⟨_, pss_cons (ps_asg (pe_tup (pa_cons (pe_make M_Ratio.M M_Ratio.F (hr.mono (by decide)) (by rfl) M_Ratio.mgC M_Ratio.b .nil pass0 (pa_cons (pe_ix ix_tup (pv 0) pe_int (fun _ _ => rfl)) (pa_cons (pe_ix ix_tup (pv 0) pe_int (fun _ _ => rfl)) pa_nil))) (pa_cons (pe_call C__law_number.F (hr.mono (by decide)) (by rfl) C__law_number.mgf C__law_number.kp C__law_number.b .nil pass0 (pa_cons (pv 1) pa_nil)) pa_nil))) (pg_tup (by rfl) (pgs_cons (pg_name (i := 4) nd rfl (Or.inr rfl)) (pgs_cons (pg_name (i := 5) nd rfl (Or.inr rfl)) pgs_nil))))
      (pss_cons (ps_if (pt_cmpR (OpR.or op_eq (Own.op_eqL O_eq.F (hr.mono (by decide)) O_eq.at_ O_eq.fn T_Ratio.nI O_eq.b pass0)) (pv 5) pe_int (nomark _)) (pss_one (ps_ret (pe_cmpR (op_eqD hr.units) (LamX.pe_lamcall (T := [(Pt, LQ)]) (TT := TTdiv CN) (t := fun E => tMeth C "over" (spOver0 C CN) [] E (tVar 4) (tCons (tVar 5) tNil)) (by rfl) mgH kH lk hcg bH scHd (by rfl) (.inl rfl) (heard_gives hB hN hF eB eN) TB (by rfl) (List.mem_cons_self ..) (fun z hz _ => by rw [List.mem_singleton.mp hz]; rfl) hr (LamX.lamS_by (by rfl)) (by rfl) (fun _ _ _ _ _ => rfl) (fun A outer s H E f c' hr2 => pe_meth (pv 4) T_Ratio.cl mOv I0 hr2 bOv .nil (passes_call (takes_of rfl rfl rfl rfl) fun _ _ _ _ h => h) (pa_cons (pv 5) pa_nil))) (pe_tup (pa_cons pe_str (pa_cons pe_non pa_nil))) (nomark _)))) pss_nil)
      (pss_cons (ps_par (i := 2) (j := 3) (by rfl) nd rfl rfl (by decide) rfl rfl (pa_cons (pe_op (op_B BF O_fdiv.F (hr.mono (by decide)) O_fdiv.at_ O_fdiv.fn O_fdiv.b pass0) (pv 4) (pv 5)) (pa_cons (pe_op (op_B BMo O_mod.F (hr.mono (by decide)) O_mod.at_ O_mod.fn O_mod.b pass0) (pv 4) (pv 5)) pa_nil)) (by rfl))
      (pss_cons (ps_if (PW.pt (pw_or (pt_not (pt_val (pe_callB call_isi (by rfl) T.isinstance (by decide +kernel) (pa_cons (pv 2) (pa_cons (pe_bltn (v := .ty "int") (u := .type "int") (by rfl) T.int (by decide +kernel) rfl) pa_nil))))) (pw_or (pt_cmpR (Own.op_neL O_eq.F (hr.mono (by decide)) O_eq.at_ hne hO O_eq.fn T_Ratio.nI O_eq.b pass0) (pe_op (OpR.or (op_B BA O_add.F (hr.mono (by decide)) O_add.at_ O_add.fn O_add.b pass0) (op_R BA O_radd.F (hr.mono (by decide)) O_radd.at_ O_radd.fn O_add.at_ T_Ratio.sI O_radd.b pass0 PySem.F.fills_int_add PySem.F.slot_int_add PySem.F.entry_int_add PySem.F.args_int_add_2 Own.int_add_dec)) (pe_op (OpR.or op_mulW (op_R BM O_rmul.F (hr.mono (by decide)) O_rmul.at_ O_rmul.fn O_mul.at_ T_Ratio.sI O_rmul.b pass0 PySem.F.fills_int_mul PySem.F.slot_int_mul PySem.F.entry_int_mul PySem.F.args_int_mul_2 Own.int_mul_dec)) (pv 2) (pv 5)) (pv 3)) (pv 4) (nomark _)) (pw_or1 (pt_not (pt_val (pe_callB call_isi (by rfl) T.isinstance (by decide +kernel) (pa_cons (pv 3) (pa_cons (Own.pe_gref (by rfl) T_Ratio.mgC) pa_nil))))))))) (pss_one (ps_ret pe_bl)) pss_nil)
      (pss_cons (ps_if (PW.pt (pw_or (PW.pt (pw_and (pt_cmpR (OpR.or op_gt (Own.op_ownC O_gt.F (hr.mono (by decide)) O_gt.at_ O_gt.fn O_gt.b pass0)) (pv 5) pe_int (nomark _)) (pw_and1 (PW.pt (pw_or (pt_cmpR (Own.op_ownC O_lt.F (hr.mono (by decide)) O_lt.at_ O_lt.fn O_lt.b pass0) (pv 3) pe_int (nomark _)) (pw_or1 (pt_cmpR (Own.op_ownC O_ge.F (hr.mono (by decide)) O_ge.at_ O_ge.fn O_ge.b pass0) (pv 3) (pv 5) (nomark _)))))))) (pw_or1 (PW.pt (pw_and (pt_cmpR (OpR.or op_lt (Own.op_ownC O_lt.F (hr.mono (by decide)) O_lt.at_ O_lt.fn O_lt.b pass0)) (pv 5) pe_int (nomark _)) (pw_and1 (PW.pt (pw_or (pt_cmpR (Own.op_ownC O_gt.F (hr.mono (by decide)) O_gt.at_ O_gt.fn O_gt.b pass0) (pv 3) pe_int (nomark _)) (pw_or1 (pt_cmpR (Own.op_ownC O_le.F (hr.mono (by decide)) O_le.at_ O_le.fn O_le.b pass0) (pv 3) (pv 5) (nomark _))))))))))) (pss_one (ps_ret pe_bl)) pss_nil)
      (pss_one (ps_ret (pe_cmpR (Own.op_eqL O_eq.F (hr.mono (by decide)) O_eq.at_ O_eq.fn T_Ratio.nI O_eq.b pass0) (pe_op (op_B BM O_mul.F (hr.mono (by decide)) O_mul.at_ O_mul.fn O_mul.b pass0) (pe_meth (pv 4) T_Ratio.cl D_Ratio_over.m D_Ratio_over.F (hr.mono (by decide)) D_Ratio_over.b .nil pass0 (pa_cons (pv 5) pa_nil)) (pv 5)) (pv 4) (nomark _)))))))), ?_⟩
    refine ⟨_, rfl, t1, _, _, _, rfl, rfl, SqT.of h1, rfl, _, rfl, t1, _, _, _, rfl, rfl, SqT.of h1, rfl, ?_⟩
    intro a dx hx hdx hnx
    refine ⟨a, dx, p.num, (p.den : Int), rfl, upd_same, den_ne p, (z4 yp).2, fun H1 hR hk => ⟨rfl, ?_⟩⟩
    have s1 := mk_same hx hdx hk
    have hp := asQ (den_ne p) (Rat.num_divInt_den p) hR
    refine ⟨_, rfl, t2, q, rfl, s1 _ _ h2, zq, fun u H2 s2 hq => ⟨(by decide : 2 ≤ sizeLine), fun e0 he0 => ⟨_, _, rfl, SqT.of upd_same, rfl, _, _, rfl, _, _, rfl, rfl, ?_⟩⟩⟩
    have s3 := (s1.trans s2).trans (same_new (o := .tup [.ref a, u]) he0)
    have hp := (hp.same s2).same (same_new (o := .tup [.ref a, u]) he0)
    have hq := hq.same (same_new (o := .tup [.ref a, u]) he0)
    have hT3 : LamX.Tabs [(Pt, LQ)] _ := hT.ext s3
    refine ⟨_, rfl, eq0 hq fun H4 s4 => ⟨_, rfl, ?_⟩⟩
    have hp := hp.same s4
    have hq := hq.same s4
    have s4 := s3.trans s4
    obtain ⟨da, hia⟩ := id hp
    by_cases h0 : q = 0
    · refine iteTb (decide_eq_true h0) ?_
      refine ⟨hT.ext s4, fun H5 e5 T5 => ?_⟩
      have hp5 := hp.extN e5
      have hq5 := hq.extN e5
      rw [h0] at hq5
      obtain ⟨db, hib⟩ := id hp5
      refine ⟨_, rfl, a, db, _, rfl, hib, rat_over _ _, _, rfl, a, u, p, rfl, hp5, hq5, yp, fun H6 s6 => ⟨rfl, fun pr hpr => ?_⟩⟩
      refine ⟨(by decide : 2 ≤ sizeLine), fun e1 he1 => ⟨_, _, .tup (SqT.of (same_new he1 _ _ upd_same)) (.cons (.str _) (.cons .non .nil)), .tup (SqT.of upd_same) (.cons (.str _) (.cons .non .nil)), by decide +kernel, by decide +kernel, ?_⟩⟩
      rw [show PyData.eqv (.tuple [.str "divisor", .none]) (.tuple [.str "divisor", .none]) = true by decide +kernel]
      have s7 := s6.trans ((same_new (o := .tup [.str "divisor", .non]) hpr).trans (same_new (o := .tup [.str "divisor", .non]) he1))
      exact k _ ((extN_same s4).trans (e5.trans (extN_same s7))) (T5.ext s7)
    · refine iteFb (decide_eq_false h0) ?_
      refine ⟨_, rfl, _, rfl, a, da, _, rfl, hia, hq.ri, _, _, p, q, rfl, .rat hp, hq, ⟨yp, yq⟩, h0, fun H5 s5 => ?_⟩
      have hp := hp.same s5
      have hq := hq.same s5
      have s5 := s4.trans s5
      obtain ⟨da, hia⟩ := id hp
      refine ⟨_, rfl, _, rfl, a, da, _, rfl, hia, hq.ri, a, _, p, q, rfl, hp, hq, ⟨yp, yq⟩, ⟨h0, zp, zq⟩, fun x H6 s6 hx => ⟨_, _, rfl, ?_⟩⟩
      have hp := hp.same s6
      have hq := hq.same s6
      have s6 := s5.trans s6
      have zx := sq_mod zp zq h0
      have zf := floor_sz zp zq h0
      refine ⟨_, rfl, _, _, _, _, true, rfl, .ty _, .base (.int _), kit_ty (by decide +kernel), _, rfl, iteF ?_⟩
      refine ⟨_, rfl, _, rfl, mulWY zf hq zq fun v H7 s7 hv => ?_⟩
      have hx := hx.same s7
      have hp := hp.same s7
      have hq := hq.same s7
      have s7 := s6.trans s7
      have zv : Sq 490 (q * ((p / q).floor : Rat)) := (zq.mul (Sq.int zf (by decide))).mono (by decide)
      refine ⟨_, rfl, addVR hv hx zv zx fun y H8 s8 hy => ?_⟩
      rw [qmod_add] at hy
      have hx := hx.same s8
      have hp := hp.same s8
      have hq := hq.same s8
      have s8 := s7.trans s8
      refine ⟨_, rfl, eqLq hy (.rat hp) fun H9 s9 => ⟨_, rfl, ?_⟩⟩
      have hx := hx.same s9
      have hp := hp.same s9
      have hq := hq.same s9
      have s9 := s8.trans s9
      obtain ⟨dx2, hix⟩ := id hx
      refine iteFb (by rw [decide_eq_true rfl]; rfl) ⟨_, rfl, _, _, _, _, true, rfl, .own _, T_Ratio.ty hix, T_Ratio.kS, _, rfl, iteF ?_⟩
      have zr0 : Sq 490 ((0 : Int) : Rat) := Sq.int (by decide) (by decide)
      refine ⟨_, rfl, gt0 T_Ratio hq yq fun H10 s10 => ⟨_, rfl, ?_⟩⟩
      have hx := hx.same s10
      have hp := hp.same s10
      have hq := hq.same s10
      have s10 := s9.trans s10
      by_cases hpos : 0 < q
      · obtain ⟨m1, m2⟩ := qmod_pos (p := p) hpos
        refine iteTb (decide_eq_true hpos) ⟨_, rfl, cmpL T_Ratio hx (.int 0) zx zr0 (q_lt _ _) fun H11 s11 => ⟨_, rfl, iteFb (decide_eq_false (Rat.not_lt.mpr m1)) ?_⟩⟩
        have hx := hx.same s11
        have hp := hp.same s11
        have hq := hq.same s11
        have s11 := s10.trans s11
        refine ⟨_, rfl, _, rfl, cmpL T_Ratio hx hq zx yq (q_ge _ _) fun H12 s12 => ⟨_, rfl, iteFb (decide_eq_false (Rat.not_le.mpr m2)) ?_⟩⟩
        have hx := hx.same s12
        have hp := hp.same s12
        have hq := hq.same s12
        have s12 := s11.trans s12
        refine ⟨_, rfl, lt0 T_Ratio hq yq fun H13 s13 => ⟨_, rfl, iteFb (decide_eq_false (Rat.not_lt.mpr (Rat.le_of_lt hpos))) (iteF ?_)⟩⟩
        have hx := hx.same s13
        have hp := hp.same s13
        have hq := hq.same s13
        have s13 := s12.trans s13
        have sZ := s13
        obtain ⟨dz, hiz⟩ := id hp
        refine ⟨_, rfl, a, dz, _, rfl, hiz, rat_over _ _, _, rfl, a, u, p, q, rfl, hp, hq, ⟨yp, yq⟩, h0, fun z Hn sn hz => ?_⟩
        have hp := hp.same sn
        have hq := hq.same sn
        obtain ⟨dz2, hiz2⟩ := id hz
        refine ⟨_, rfl, z, dz2, _, rfl, hiz2, hq.ri, z, _, _, q, rfl, hz, hq, ⟨(zp.div zq h0).mono (by decide), yq⟩, True.intro, fun y Hm sm hy => ?_⟩
        have hy : RatQ C Hm y (p / q * q) := hy
        rw [Rat.div_mul_cancel h0] at hy
        refine ⟨_, rfl, eqLq hy (.rat (hp.same sm)) fun Hk sk => ?_⟩
        have sf := sZ.trans (sn.trans (sm.trans sk))
        exact rt_q (k _ (extN_same sf) (hT.ext sf))
      · have hneg : q < 0 := by
          have h := Rat.not_lt.mp hpos
          exact Rat.lt_iff_le_and_ne.mpr ⟨h, h0⟩
        obtain ⟨m1, m2⟩ := qmod_neg (p := p) hneg
        refine iteFb (decide_eq_false hpos) (iteF ⟨_, rfl, lt0 T_Ratio hq yq fun H11 s11 => ⟨_, rfl, iteTb (decide_eq_true hneg) ?_⟩⟩)
        have hx := hx.same s11
        have hp := hp.same s11
        have hq := hq.same s11
        have s11 := s10.trans s11
        refine ⟨_, rfl, cmpL T_Ratio hx (.int 0) zx zr0 (q_gt _ _) fun H12 s12 => ⟨_, rfl, iteFb (decide_eq_false (Rat.not_lt.mpr m1)) ?_⟩⟩
        have hx := hx.same s12
        have hp := hp.same s12
        have hq := hq.same s12
        have s12 := s11.trans s12
        refine ⟨_, rfl, _, rfl, cmpL T_Ratio hx hq zx yq (q_le _ _) fun H13 s13 => ⟨_, rfl, iteFb (decide_eq_false (Rat.not_le.mpr m2)) ?_⟩⟩
        have hx := hx.same s13
        have hp := hp.same s13
        have hq := hq.same s13
        have s13 := s12.trans s13
        have sZ := s13
        obtain ⟨dz, hiz⟩ := id hp
        refine ⟨_, rfl, a, dz, _, rfl, hiz, rat_over _ _, _, rfl, a, u, p, q, rfl, hp, hq, ⟨yp, yq⟩, h0, fun z Hn sn hz => ?_⟩
        have hp := hp.same sn
        have hq := hq.same sn
        obtain ⟨dz2, hiz2⟩ := id hz
        refine ⟨_, rfl, z, dz2, _, rfl, hiz2, hq.ri, z, _, _, q, rfl, hz, hq, ⟨(zp.div zq h0).mono (by decide), yq⟩, True.intro, fun y Hm sm hy => ?_⟩
        have hy : RatQ C Hm y (p / q * q) := hy
        rw [Rat.div_mul_cancel h0] at hy
        refine ⟨_, rfl, eqLq hy (.rat (hp.same sm)) fun Hk sk => ?_⟩
        have sf := sZ.trans (sn.trans (sm.trans sk))
        exact rt_q (k _ (extN_same sf) (hT.ext sf))
end
end Toy
set_option maxRecDepth 100000
set_option maxHeartbeats 4000000
set_option exponentiation.threshold 3000
namespace Toy
open PySem L2
open Rat (divInt)
theorem neB {x y : Bool} (h : x = y) : (!decide (V.bl x = V.bl y)) = false := by
  subst h
  rw [decide_eq_true rfl]
  rfl
theorem neg_lt {a b c : Rat} (h : c < ((0 : Int) : Rat)) : a < b ↔ b * c < a * c := by
  have h0 : ((0 : Int) : Rat) = 0 := rfl
  have hn : 0 < -c := by grind
  have e := Rat.mul_lt_mul_right (a := a) (b := b) hn
  rw [← e]
  constructor <;> intro z <;> grind
theorem abs_cases (a : Rat) : (0 ≤ a ∧ a.abs = a) ∨ (a < 0 ∧ a.abs = -a) := by
  by_cases h : 0 ≤ a
  · exact .inl ⟨h, Rat.abs_of_nonneg h⟩
  · have h2 := Rat.not_le.mp h
    exact .inr ⟨h2, Rat.abs_of_nonpos (Rat.le_of_lt h2)⟩
theorem abs_tri (a b : Rat) : (a + b).abs ≤ a.abs + b.abs := by
  rcases abs_cases a with ⟨h1, e1⟩ | ⟨h1, e1⟩ <;> rcases abs_cases b with ⟨h2, e2⟩ | ⟨h2, e2⟩ <;> rcases abs_cases (a + b) with ⟨h3, e3⟩ | ⟨h3, e3⟩ <;> rw [e1, e2, e3] <;> grind
theorem abs_mul (a b : Rat) : (a * b).abs = a.abs * b.abs := by
  have nn : ∀ x y : Rat, 0 ≤ x → 0 ≤ y → 0 ≤ x * y := fun x y h1 h2 => Rat.mul_nonneg h1 h2
  rcases abs_cases a with ⟨h1, e1⟩ | ⟨h1, e1⟩ <;> rcases abs_cases b with ⟨h2, e2⟩ | ⟨h2, e2⟩ <;> rw [e1, e2]
  · exact Rat.abs_of_nonneg (nn _ _ h1 h2)
  · rw [Rat.abs_of_nonpos (by have := nn a (-b) h1 (by grind); grind)]; grind
  · rw [Rat.abs_of_nonpos (by have := nn (-a) b (by grind) h2; grind)]; grind
  · rw [Rat.abs_of_nonneg (by have := nn (-a) (-b) (by grind) (by grind); grind)]; grind
theorem rt_t {Q : VK} {p q : Rat} {H : Hp} (e : p = q) (h : Q (.bl true) H) : Q (.bl (decide (p = q))) H := by
  rw [decide_eq_true e]
  exact h
section
variable {P : Program} {w : World} {K : PySem.W.Frag} {mg : Str → Option Value} {base : Heap} {C : Addr}
section
variable {H : Hp} {x y : Addr} {p q : Rat} {Q : VK} {E : XK} {f : Rat → Rat → Rat}
theorem binQ (hx : RatQ C H x p) (hy : RatQ C H y q) (zp : Sq 490 p) (zq : Sq 490 q) (k : ∀ z H', Same H H' → RatQ C H' z (f p q) → Q (.ref z) H') : Own.rOwnB C (spBin C GT f) E (.ref x) (.ref y) H Q := by
  obtain ⟨dx, fs, hi⟩ := hx.ins
  obtain ⟨dy, gs, hj⟩ := hy.ins
  exact ⟨x, dx, fs, rfl, hi, .inr ⟨y, dy, gs, rfl, hj⟩, x, _, p, q, rfl, hx, .rat hy, ⟨zp, zq⟩, True.intro, k⟩
theorem negQ (hx : RatQ C H x p) (zp : Sq 490 p) (k : ∀ z H', Same H H' → RatQ C H' z (-p) → Q (.ref z) H') : Own.rNeg C (spUn C fun p => -p) E (.ref x) H Q := by
  obtain ⟨dx, fs, hi⟩ := hx.ins
  exact ⟨x, dx, fs, rfl, hi, x, p, rfl, hx, zp, k⟩
theorem absQ (hx : RatQ C H x p) (zp : Sq 490 p) (k : ∀ z H', Same H H' → RatQ C H' z p.abs → Q (.ref z) H') : Own.rAbs C (spUn C Rat.abs) E [.ref x] H Q := by
  obtain ⟨dx, fs, hi⟩ := hx.ins
  exact ⟨x, dx, fs, rfl, hi, x, p, rfl, hx, zp, k⟩
end
def spSums : Sp := fun vs H Q _ => ∃ t1 t2 t3 a b c, vs = [.ref t1, .ref t2, .ref t3] ∧ H t1 = some (.tup [.int a.num, .int (a.den : Int)]) ∧ H t2 = some (.tup [.int b.num, .int (b.den : Int)]) ∧ H t3 = some (.tup [.int c.num, .int (c.den : Int)]) ∧ (Sq 120 a ∧ Sq 120 b ∧ Sq 120 c) ∧ ∀ H', Same H H' → Q (.bl true) H'
abbrev sSums : Stmt := top 32
theorem scSu : FnScope ["_law_one", "_law_other", "_law_third", "_law_a", "_law_b", "_law_c"] ["_law_one", "_law_other", "_law_third"] (defScope sSums) := ⟨rfl, rfl, rfl, by decide +kernel, rfl, by decide +kernel, by decide +kernel⟩
theorem ok_sums {f f1 g1 g2 g3 g5 a1 a3 a5 a6 a8 : Addr} {fd fd1 gd1 gd2 gd3 gd5 ad1 ad3 ad5 ad6 ad8 : FuncData} (F : Fun K "_law_sums_right" "_law_sums_right" sSums f fd) (T : Bl mg) (T_Ratio : RatT K mg C)
    (hne : PySem.W.findIn K (.ref C) "__ne__" = some (some (.builtin "object.__ne__"))) (hO : PySem.W.subIn K (.ref C) (.type "object") = some true)
    (BA : BinF K C .Add) (BS : BinF K C .Sub) (BM : BinF K C .Mult)
    (O_lt : Opr P w K mg base 3 C "__lt__" g1 gd1 ["self", "other"] (spCmp C fun z => decide (z < 0))) (O_le : Opr P w K mg base 3 C "__le__" g2 gd2 ["self", "other"] (spCmp C fun z => decide (z ≤ 0))) (O_gt : Opr P w K mg base 3 C "__gt__" g3 gd3 ["self", "other"] (spCmp C fun z => decide (0 < z)))
    (O_eq : Opr P w K mg base 3 C "__eq__" g5 gd5 ["self", "other"] (spEqQ C)) (O_add : Opr P w K mg base 4 C "__add__" a3 ad3 ["self", "other"] (spBin C GT fun p q => p + q)) (O_sub : Opr P w K mg base 4 C "__sub__" a1 ad1 ["self", "other"] (spBin C GT fun p q => p - q)) (O_mul : Opr P w K mg base 4 C "__mul__" a5 ad5 ["self", "other"] (spBin C GT fun p q => p * q))
    (O_neg : Opr P w K mg base 4 C "__neg__" a6 ad6 ["self"] (spUn C fun p => -p)) (O_abs : Opr P w K mg base 4 C "__abs__" a8 ad8 ["self"] (spUn C Rat.abs)) (M_Ratio : Mak P w K mg base 2 "Ratio" C f1 fd1 ["self", "top", "bottom"] (spRInit C)) :
    FnOk P w K mg base CX0 6 f fd ["_law_one", "_law_other", "_law_third"] spSums := by
  refine F.ok scSu (fun vs H Q E h => ?_) (fun cdv A outer s H vs Q E hr h => ?_)
  · obtain ⟨t1, t2, t3, a, b, c, rfl, _⟩ := h
    rfl
  · obtain ⟨t1, t2, t3, a, b, c, rfl, h1, h2, h3, ⟨za, zb, zc⟩, k⟩ := h
    have nd := scSu.nd
    refine ⟨_, pss_cons (ps_par3 (i := 3) (j := 4) (l := 5) (by rfl) nd rfl rfl rfl (by decide) (by decide) (by decide) rfl rfl rfl (pa_cons (pe_make M_Ratio.M M_Ratio.F (hr.mono (by decide)) (by rfl) M_Ratio.mgC M_Ratio.b .nil pass0 (pa_cons (pe_ix ix_tup (pv 0) pe_int (fun _ _ => rfl)) (pa_cons (pe_ix ix_tup (pv 0) pe_int (fun _ _ => rfl)) pa_nil))) (pa_cons (pe_make M_Ratio.M M_Ratio.F (hr.mono (by decide)) (by rfl) M_Ratio.mgC M_Ratio.b .nil pass0 (pa_cons (pe_ix ix_tup (pv 1) pe_int (fun _ _ => rfl)) (pa_cons (pe_ix ix_tup (pv 1) pe_int (fun _ _ => rfl)) pa_nil))) (pa_cons (pe_make M_Ratio.M M_Ratio.F (hr.mono (by decide)) (by rfl) M_Ratio.mgC M_Ratio.b .nil pass0 (pa_cons (pe_ix ix_tup (pv 2) pe_int (fun _ _ => rfl)) (pa_cons (pe_ix ix_tup (pv 2) pe_int (fun _ _ => rfl)) pa_nil))) pa_nil))) (by rfl))
      (pss_cons (ps_if (PW.pt (pw_or (pt_cmpR op_ne (pe_cmpR (Own.op_ownC O_lt.F (hr.mono (by decide)) O_lt.at_ O_lt.fn O_lt.b pass0) (pv 3) (pv 4) (nomark _)) (pe_cmpR (Own.op_ownC O_lt.F (hr.mono (by decide)) O_lt.at_ O_lt.fn O_lt.b pass0) (pe_op (op_B BA O_add.F (hr.mono (by decide)) O_add.at_ O_add.fn O_add.b pass0) (pv 3) (pv 5)) (pe_op (op_B BA O_add.F (hr.mono (by decide)) O_add.at_ O_add.fn O_add.b pass0) (pv 4) (pv 5)) (nomark _)) (nomark _)) (pw_or (pt_cmpR op_ne (pe_cmpR (Own.op_ownC O_lt.F (hr.mono (by decide)) O_lt.at_ O_lt.fn O_lt.b pass0) (pv 3) (pv 4) (nomark _)) (pe_cmpR (Own.op_ownC O_lt.F (hr.mono (by decide)) O_lt.at_ O_lt.fn O_lt.b pass0) (pe_un (Own.un_ownNeg O_neg.F (hr.mono (by decide)) O_neg.at_ O_neg.fn O_neg.b pass0) (pv 4)) (pe_un (Own.un_ownNeg O_neg.F (hr.mono (by decide)) O_neg.at_ O_neg.fn O_neg.b pass0) (pv 3)) (nomark _)) (nomark _)) (pw_or (pt_cmpR (Own.op_neL O_eq.F (hr.mono (by decide)) O_eq.at_ hne hO O_eq.fn T_Ratio.nI O_eq.b pass0) (pe_op (op_B BS O_sub.F (hr.mono (by decide)) O_sub.at_ O_sub.fn O_sub.b pass0) (pv 3) (pv 4)) (pe_un (Own.un_ownNeg O_neg.F (hr.mono (by decide)) O_neg.at_ O_neg.fn O_neg.b pass0) (pe_op (op_B BS O_sub.F (hr.mono (by decide)) O_sub.at_ O_sub.fn O_sub.b pass0) (pv 4) (pv 3))) (nomark _)) (pw_or1 (pt_cmpR (Own.op_neL O_eq.F (hr.mono (by decide)) O_eq.at_ hne hO O_eq.fn T_Ratio.nI O_eq.b pass0) (pe_op (op_B BM O_mul.F (hr.mono (by decide)) O_mul.at_ O_mul.fn O_mul.b pass0) (pe_op (op_B BA O_add.F (hr.mono (by decide)) O_add.at_ O_add.fn O_add.b pass0) (pv 3) (pv 4)) (pv 5)) (pe_op (op_B BA O_add.F (hr.mono (by decide)) O_add.at_ O_add.fn O_add.b pass0) (pe_op (op_B BM O_mul.F (hr.mono (by decide)) O_mul.at_ O_mul.fn O_mul.b pass0) (pv 3) (pv 5)) (pe_op (op_B BM O_mul.F (hr.mono (by decide)) O_mul.at_ O_mul.fn O_mul.b pass0) (pv 4) (pv 5))) (nomark _))))))) (pss_one (ps_ret pe_bl)) pss_nil)
      (pss_cons (ps_if (PW.pt (pw_or (PW.pt (pw_and (pt_cmpR (Own.op_ownC O_gt.F (hr.mono (by decide)) O_gt.at_ O_gt.fn O_gt.b pass0) (pv 5) pe_int (nomark _)) (pw_and1 (pt_cmpR op_ne (pe_cmpR (Own.op_ownC O_lt.F (hr.mono (by decide)) O_lt.at_ O_lt.fn O_lt.b pass0) (pv 3) (pv 4) (nomark _)) (pe_cmpR (Own.op_ownC O_lt.F (hr.mono (by decide)) O_lt.at_ O_lt.fn O_lt.b pass0) (pe_op (op_B BM O_mul.F (hr.mono (by decide)) O_mul.at_ O_mul.fn O_mul.b pass0) (pv 3) (pv 5)) (pe_op (op_B BM O_mul.F (hr.mono (by decide)) O_mul.at_ O_mul.fn O_mul.b pass0) (pv 4) (pv 5)) (nomark _)) (nomark _))))) (pw_or1 (PW.pt (pw_and (pt_cmpR (Own.op_ownC O_lt.F (hr.mono (by decide)) O_lt.at_ O_lt.fn O_lt.b pass0) (pv 5) pe_int (nomark _)) (pw_and1 (pt_cmpR op_ne (pe_cmpR (Own.op_ownC O_lt.F (hr.mono (by decide)) O_lt.at_ O_lt.fn O_lt.b pass0) (pv 3) (pv 4) (nomark _)) (pe_cmpR (Own.op_ownC O_lt.F (hr.mono (by decide)) O_lt.at_ O_lt.fn O_lt.b pass0) (pe_op (op_B BM O_mul.F (hr.mono (by decide)) O_mul.at_ O_mul.fn O_mul.b pass0) (pv 4) (pv 5)) (pe_op (op_B BM O_mul.F (hr.mono (by decide)) O_mul.at_ O_mul.fn O_mul.b pass0) (pv 3) (pv 5)) (nomark _)) (nomark _)))))))) (pss_one (ps_ret pe_bl)) pss_nil)
      (pss_one (ps_ret (pe_and (pe_cmpR (Own.op_ownC O_le.F (hr.mono (by decide)) O_le.at_ O_le.fn O_le.b pass0) (pe_callB (Own.call_ownAbs O_abs.F (hr.mono (by decide)) O_abs.at_ O_abs.fn O_abs.b pass0) (by rfl) T.abs (by decide +kernel) (pa_cons (pe_op (op_B BA O_add.F (hr.mono (by decide)) O_add.at_ O_add.fn O_add.b pass0) (pv 3) (pv 4)) pa_nil)) (pe_op (op_B BA O_add.F (hr.mono (by decide)) O_add.at_ O_add.fn O_add.b pass0) (pe_callB (Own.call_ownAbs O_abs.F (hr.mono (by decide)) O_abs.at_ O_abs.fn O_abs.b pass0) (by rfl) T.abs (by decide +kernel) (pa_cons (pv 3) pa_nil)) (pe_callB (Own.call_ownAbs O_abs.F (hr.mono (by decide)) O_abs.at_ O_abs.fn O_abs.b pass0) (by rfl) T.abs (by decide +kernel) (pa_cons (pv 4) pa_nil))) (nomark _)) (pe_one (pe_cmpR (Own.op_eqL O_eq.F (hr.mono (by decide)) O_eq.at_ O_eq.fn T_Ratio.nI O_eq.b pass0) (pe_callB (Own.call_ownAbs O_abs.F (hr.mono (by decide)) O_abs.at_ O_abs.fn O_abs.b pass0) (by rfl) T.abs (by decide +kernel) (pa_cons (pe_op (op_B BM O_mul.F (hr.mono (by decide)) O_mul.at_ O_mul.fn O_mul.b pass0) (pv 3) (pv 4)) pa_nil)) (pe_op (op_B BM O_mul.F (hr.mono (by decide)) O_mul.at_ O_mul.fn O_mul.b pass0) (pe_callB (Own.call_ownAbs O_abs.F (hr.mono (by decide)) O_abs.at_ O_abs.fn O_abs.b pass0) (by rfl) T.abs (by decide +kernel) (pa_cons (pv 3) pa_nil)) (pe_callB (Own.call_ownAbs O_abs.F (hr.mono (by decide)) O_abs.at_ O_abs.fn O_abs.b pass0) (by rfl) T.abs (by decide +kernel) (pa_cons (pv 4) pa_nil))) (nomark _)))))))), ?_⟩
    have zr0 : Sq 490 ((0 : Int) : Rat) := Sq.int (by decide) (by decide)
    refine ⟨_, rfl, t1, _, _, _, rfl, rfl, SqT.of h1, rfl, _, rfl, t1, _, _, _, rfl, rfl, SqT.of h1, rfl, ?_⟩
    intro x dx hx hdx hnx
    refine ⟨x, dx, a.num, (a.den : Int), rfl, upd_same, den_ne a, (za.mono (by decide)).2, fun H1 hR hk => ⟨rfl, ?_⟩⟩
    have s1 := mk_same hx hdx hk
    have ha := asQ (den_ne a) (Rat.num_divInt_den a) hR
    refine ⟨_, rfl, t2, _, _, _, rfl, rfl, SqT.of (s1 _ _ h2), rfl, _, rfl, t2, _, _, _, rfl, rfl, SqT.of (s1 _ _ h2), rfl, ?_⟩
    intro y dy hy hdy hny
    refine ⟨y, dy, b.num, (b.den : Int), rfl, upd_same, den_ne b, (zb.mono (by decide)).2, fun H2 hR hk => ⟨rfl, ?_⟩⟩
    have s2 := mk_same hy hdy hk
    have hb := asQ (den_ne b) (Rat.num_divInt_den b) hR
    have h3' := s2 _ _ (s1 _ _ h3)
    refine ⟨_, rfl, t3, _, _, _, rfl, rfl, SqT.of h3', rfl, _, rfl, t3, _, _, _, rfl, rfl, SqT.of h3', rfl, ?_⟩
    intro z dz hz hdz hnz
    refine ⟨z, dz, c.num, (c.den : Int), rfl, upd_same, den_ne c, (zc.mono (by decide)).2, fun H3 hR hk => ⟨rfl, _, _, _, rfl, ?_⟩⟩
    have s3 := mk_same hz hdz hk
    have hc := asQ (den_ne c) (Rat.num_divInt_den c) hR
    have ha := (ha.same s2).same s3
    have hb := hb.same s3
    have S := (s1.trans s2).trans s3
    have S0 : Same H3 H3 := Same.refl H3
    refine ⟨_, rfl, _, rfl, cmpL T_Ratio (ha.same S0) (.rat (hb.same S0)) (za.mono (by decide)) (zb.mono (by decide)) (q_lt _ _) fun H1 t1 => ?_⟩
    have S1 := S0.trans t1
    refine ⟨_, rfl, _, rfl, binQ (ha.same S1) (hc.same S1) (za.mono (by decide)) (zc.mono (by decide)) fun x2 H2 t2 h2 => ?_⟩
    have S2 := S1.trans t2
    refine ⟨_, rfl, _, rfl, binQ (hb.same S2) (hc.same S2) (zb.mono (by decide)) (zc.mono (by decide)) fun x3 H3 t3 h3 => ?_⟩
    have S3 := S2.trans t3
    refine cmpL T_Ratio (h2.same (t3)) (.rat h3) ((za.add zc).mono (by decide)) ((zb.add zc).mono (by decide)) (q_lt _ _) fun H4 t4 => ?_
    have S4 := S3.trans t4
    refine ⟨rfl, _, rfl, iteFb (neB (decide_eq_decide.mpr (show a < b ↔ (a + c) < (b + c) from ⟨fun h => by grind, fun h => by grind⟩))) ?_⟩
    refine ⟨_, rfl, _, rfl, cmpL T_Ratio (ha.same S4) (.rat (hb.same S4)) (za.mono (by decide)) (zb.mono (by decide)) (q_lt _ _) fun H5 t5 => ?_⟩
    have S5 := S4.trans t5
    refine ⟨_, rfl, negQ (hb.same S5) (zb.mono (by decide)) fun x6 H6 t6 h6 => ?_⟩
    have S6 := S5.trans t6
    refine ⟨_, rfl, negQ (ha.same S6) (za.mono (by decide)) fun x7 H7 t7 h7 => ?_⟩
    have S7 := S6.trans t7
    refine cmpL T_Ratio (h6.same (t7)) (.rat h7) (zb.neg.mono (by decide)) (za.neg.mono (by decide)) (q_lt _ _) fun H8 t8 => ?_
    have S8 := S7.trans t8
    refine ⟨rfl, _, rfl, iteFb (neB (decide_eq_decide.mpr (show a < b ↔ (-b) < (-a) from ⟨fun h => by grind, fun h => by grind⟩))) ?_⟩
    refine ⟨_, rfl, _, rfl, binQ (ha.same S8) (hb.same S8) (za.mono (by decide)) (zb.mono (by decide)) fun x9 H9 t9 h9 => ?_⟩
    have S9 := S8.trans t9
    refine ⟨_, rfl, _, rfl, binQ (hb.same S9) (ha.same S9) (zb.mono (by decide)) (za.mono (by decide)) fun x10 H10 t10 h10 => ?_⟩
    have S10 := S9.trans t10
    refine negQ h10 ((zb.sub za).mono (by decide)) fun x11 H11 t11 h11 => ?_
    have S11 := S10.trans t11
    refine eqLq (h9.same (t10.trans (t11))) (.rat h11) fun H12 t12 => ?_
    have S12 := S11.trans t12
    refine ⟨_, rfl, iteFb (by rw [decide_eq_true (show (a - b) = (-(b - a)) from by grind)]; rfl) ?_⟩
    refine ⟨_, rfl, _, rfl, binQ (ha.same S12) (hb.same S12) (za.mono (by decide)) (zb.mono (by decide)) fun x13 H13 t13 h13 => ?_⟩
    have S13 := S12.trans t13
    refine ⟨_, rfl, binQ h13 (hc.same S13) ((za.add zb).mono (by decide)) (zc.mono (by decide)) fun x14 H14 t14 h14 => ?_⟩
    have S14 := S13.trans t14
    refine ⟨_, rfl, _, rfl, binQ (ha.same S14) (hc.same S14) (za.mono (by decide)) (zc.mono (by decide)) fun x15 H15 t15 h15 => ?_⟩
    have S15 := S14.trans t15
    refine ⟨_, rfl, _, rfl, binQ (hb.same S15) (hc.same S15) (zb.mono (by decide)) (zc.mono (by decide)) fun x16 H16 t16 h16 => ?_⟩
    have S16 := S15.trans t16
    refine binQ (h15.same (t16)) h16 ((za.mul zc).mono (by decide)) ((zb.mul zc).mono (by decide)) fun x17 H17 t17 h17 => ?_
    have S17 := S16.trans t17
    refine eqLq (h14.same (t15.trans (t16.trans (t17)))) (.rat h17) fun H18 t18 => ?_
    have S18 := S17.trans t18
    refine ⟨_, rfl, iteFb (by rw [decide_eq_true (show ((a + b) * c) = ((a * c) + (b * c)) from by grind)]; rfl) ?_⟩
    refine ⟨_, rfl, cmpL T_Ratio (hc.same S18) (.int 0) (zc.mono (by decide)) zr0 (q_gt _ _) fun H19 t19 => ?_⟩
    have S19 := S18.trans t19
    by_cases hp : ((0 : Int) : Rat) < c
    · refine ⟨_, rfl, iteTb (decide_eq_true hp) ?_⟩
      refine ⟨_, rfl, _, rfl, cmpL T_Ratio (ha.same S19) (.rat (hb.same S19)) (za.mono (by decide)) (zb.mono (by decide)) (q_lt _ _) fun H20 t20 => ?_⟩
      have S20 := S19.trans t20
      refine ⟨_, rfl, _, rfl, binQ (ha.same S20) (hc.same S20) (za.mono (by decide)) (zc.mono (by decide)) fun x21 H21 t21 h21 => ?_⟩
      have S21 := S20.trans t21
      refine ⟨_, rfl, _, rfl, binQ (hb.same S21) (hc.same S21) (zb.mono (by decide)) (zc.mono (by decide)) fun x22 H22 t22 h22 => ?_⟩
      have S22 := S21.trans t22
      refine cmpL T_Ratio (h21.same (t22)) (.rat h22) ((za.mul zc).mono (by decide)) ((zb.mul zc).mono (by decide)) (q_lt _ _) fun H23 t23 => ?_
      have S23 := S22.trans t23
      refine ⟨rfl, _, rfl, iteFb (neB (decide_eq_decide.mpr (show a < b ↔ (a * c) < (b * c) from (Rat.mul_lt_mul_right hp).symm))) ?_⟩
      refine ⟨_, rfl, cmpL T_Ratio (hc.same S23) (.int 0) (zc.mono (by decide)) zr0 (q_lt _ _) fun H24 t24 => ?_⟩
      have S24 := S23.trans t24
      refine ⟨_, rfl, iteFb (decide_eq_false (Rat.not_lt.mpr (Rat.le_of_lt hp))) (iteF ?_)⟩
      refine ⟨_, rfl, _, rfl, binQ (ha.same S24) (hb.same S24) (za.mono (by decide)) (zb.mono (by decide)) fun x25 H25 t25 h25 => ?_⟩
      have S25 := S24.trans t25
      refine absQ h25 ((za.add zb).mono (by decide)) fun x26 H26 t26 h26 => ?_
      have S26 := S25.trans t26
      refine ⟨_, rfl, absQ (ha.same S26) (za.mono (by decide)) fun x27 H27 t27 h27 => ?_⟩
      have S27 := S26.trans t27
      refine ⟨_, rfl, absQ (hb.same S27) (zb.mono (by decide)) fun x28 H28 t28 h28 => ?_⟩
      have S28 := S27.trans t28
      refine binQ (h27.same (t28)) h28 (za.abs.mono (by decide)) (zb.abs.mono (by decide)) fun x29 H29 t29 h29 => ?_
      have S29 := S28.trans t29
      refine cmpL T_Ratio (h26.same (t27.trans (t28.trans (t29)))) (.rat h29) ((za.add zb).abs.mono (by decide)) ((za.abs.add zb.abs).mono (by decide)) (q_le _ _) fun H30 t30 => ?_
      have S30 := S29.trans t30
      refine ⟨_, rfl, iteTb (decide_eq_true (abs_tri a b)) ?_⟩
      refine ⟨_, rfl, _, rfl, binQ (ha.same S30) (hb.same S30) (za.mono (by decide)) (zb.mono (by decide)) fun x31 H31 t31 h31 => ?_⟩
      have S31 := S30.trans t31
      refine absQ h31 ((za.mul zb).mono (by decide)) fun x32 H32 t32 h32 => ?_
      have S32 := S31.trans t32
      refine ⟨_, rfl, absQ (ha.same S32) (za.mono (by decide)) fun x33 H33 t33 h33 => ?_⟩
      have S33 := S32.trans t33
      refine ⟨_, rfl, absQ (hb.same S33) (zb.mono (by decide)) fun x34 H34 t34 h34 => ?_⟩
      have S34 := S33.trans t34
      refine binQ (h33.same (t34)) h34 (za.abs.mono (by decide)) (zb.abs.mono (by decide)) fun x35 H35 t35 h35 => ?_
      have S35 := S34.trans t35
      refine eqLq (h32.same (t33.trans (t34.trans (t35)))) (.rat h35) fun H36 t36 => ?_
      have S36 := S35.trans t36
      have fin := k _ (S.trans S36)
      exact rt_t (abs_mul a b) fin
    · refine ⟨_, rfl, iteFb (decide_eq_false hp) (iteF ?_)⟩
      refine ⟨_, rfl, cmpL T_Ratio (hc.same S19) (.int 0) (zc.mono (by decide)) zr0 (q_lt _ _) fun H20 t20 => ?_⟩
      have S20 := S19.trans t20
      by_cases hn : c < ((0 : Int) : Rat)
      · refine ⟨_, rfl, iteTb (decide_eq_true hn) ?_⟩
        refine ⟨_, rfl, _, rfl, cmpL T_Ratio (ha.same S20) (.rat (hb.same S20)) (za.mono (by decide)) (zb.mono (by decide)) (q_lt _ _) fun H21 t21 => ?_⟩
        have S21 := S20.trans t21
        refine ⟨_, rfl, _, rfl, binQ (hb.same S21) (hc.same S21) (zb.mono (by decide)) (zc.mono (by decide)) fun x22 H22 t22 h22 => ?_⟩
        have S22 := S21.trans t22
        refine ⟨_, rfl, _, rfl, binQ (ha.same S22) (hc.same S22) (za.mono (by decide)) (zc.mono (by decide)) fun x23 H23 t23 h23 => ?_⟩
        have S23 := S22.trans t23
        refine cmpL T_Ratio (h22.same (t23)) (.rat h23) ((zb.mul zc).mono (by decide)) ((za.mul zc).mono (by decide)) (q_lt _ _) fun H24 t24 => ?_
        have S24 := S23.trans t24
        refine ⟨rfl, _, rfl, iteFb (neB (decide_eq_decide.mpr (show a < b ↔ (b * c) < (a * c) from neg_lt hn))) ?_⟩
        refine ⟨_, rfl, _, rfl, binQ (ha.same S24) (hb.same S24) (za.mono (by decide)) (zb.mono (by decide)) fun x25 H25 t25 h25 => ?_⟩
        have S25 := S24.trans t25
        refine absQ h25 ((za.add zb).mono (by decide)) fun x26 H26 t26 h26 => ?_
        have S26 := S25.trans t26
        refine ⟨_, rfl, absQ (ha.same S26) (za.mono (by decide)) fun x27 H27 t27 h27 => ?_⟩
        have S27 := S26.trans t27
        refine ⟨_, rfl, absQ (hb.same S27) (zb.mono (by decide)) fun x28 H28 t28 h28 => ?_⟩
        have S28 := S27.trans t28
        refine binQ (h27.same (t28)) h28 (za.abs.mono (by decide)) (zb.abs.mono (by decide)) fun x29 H29 t29 h29 => ?_
        have S29 := S28.trans t29
        refine cmpL T_Ratio (h26.same (t27.trans (t28.trans (t29)))) (.rat h29) ((za.add zb).abs.mono (by decide)) ((za.abs.add zb.abs).mono (by decide)) (q_le _ _) fun H30 t30 => ?_
        have S30 := S29.trans t30
        refine ⟨_, rfl, iteTb (decide_eq_true (abs_tri a b)) ?_⟩
        refine ⟨_, rfl, _, rfl, binQ (ha.same S30) (hb.same S30) (za.mono (by decide)) (zb.mono (by decide)) fun x31 H31 t31 h31 => ?_⟩
        have S31 := S30.trans t31
        refine absQ h31 ((za.mul zb).mono (by decide)) fun x32 H32 t32 h32 => ?_
        have S32 := S31.trans t32
        refine ⟨_, rfl, absQ (ha.same S32) (za.mono (by decide)) fun x33 H33 t33 h33 => ?_⟩
        have S33 := S32.trans t33
        refine ⟨_, rfl, absQ (hb.same S33) (zb.mono (by decide)) fun x34 H34 t34 h34 => ?_⟩
        have S34 := S33.trans t34
        refine binQ (h33.same (t34)) h34 (za.abs.mono (by decide)) (zb.abs.mono (by decide)) fun x35 H35 t35 h35 => ?_
        have S35 := S34.trans t35
        refine eqLq (h32.same (t33.trans (t34.trans (t35)))) (.rat h35) fun H36 t36 => ?_
        have S36 := S35.trans t36
        have fin := k _ (S.trans S36)
        exact rt_t (abs_mul a b) fin
      · refine ⟨_, rfl, iteFb (decide_eq_false hn) (iteF ?_)⟩
        refine ⟨_, rfl, _, rfl, binQ (ha.same S20) (hb.same S20) (za.mono (by decide)) (zb.mono (by decide)) fun x21 H21 t21 h21 => ?_⟩
        have S21 := S20.trans t21
        refine absQ h21 ((za.add zb).mono (by decide)) fun x22 H22 t22 h22 => ?_
        have S22 := S21.trans t22
        refine ⟨_, rfl, absQ (ha.same S22) (za.mono (by decide)) fun x23 H23 t23 h23 => ?_⟩
        have S23 := S22.trans t23
        refine ⟨_, rfl, absQ (hb.same S23) (zb.mono (by decide)) fun x24 H24 t24 h24 => ?_⟩
        have S24 := S23.trans t24
        refine binQ (h23.same (t24)) h24 (za.abs.mono (by decide)) (zb.abs.mono (by decide)) fun x25 H25 t25 h25 => ?_
        have S25 := S24.trans t25
        refine cmpL T_Ratio (h22.same (t23.trans (t24.trans (t25)))) (.rat h25) ((za.add zb).abs.mono (by decide)) ((za.abs.add zb.abs).mono (by decide)) (q_le _ _) fun H26 t26 => ?_
        have S26 := S25.trans t26
        refine ⟨_, rfl, iteTb (decide_eq_true (abs_tri a b)) ?_⟩
        refine ⟨_, rfl, _, rfl, binQ (ha.same S26) (hb.same S26) (za.mono (by decide)) (zb.mono (by decide)) fun x27 H27 t27 h27 => ?_⟩
        have S27 := S26.trans t27
        refine absQ h27 ((za.mul zb).mono (by decide)) fun x28 H28 t28 h28 => ?_
        have S28 := S27.trans t28
        refine ⟨_, rfl, absQ (ha.same S28) (za.mono (by decide)) fun x29 H29 t29 h29 => ?_⟩
        have S29 := S28.trans t29
        refine ⟨_, rfl, absQ (hb.same S29) (zb.mono (by decide)) fun x30 H30 t30 h30 => ?_⟩
        have S30 := S29.trans t30
        refine binQ (h29.same (t30)) h30 (za.abs.mono (by decide)) (zb.abs.mono (by decide)) fun x31 H31 t31 h31 => ?_
        have S31 := S30.trans t31
        refine eqLq (h28.same (t29.trans (t30.trans (t31)))) (.rat h31) fun H32 t32 => ?_
        have S32 := S31.trans t32
        have fin := k _ (S.trans S32)
        exact rt_t (abs_mul a b) fin
end
end Toy
set_option maxRecDepth 100000
set_option maxHeartbeats 4000000
set_option exponentiation.threshold 3000
namespace Toy
open PySem L2
open LamX (Tabs TabS ExtN CodeO)
theorem codeO_lst {c : Addr} {q : Str} {xs : List V} : CodeO c q ≠ .lst xs := fun z => by
  unfold CodeO at z
  cases z
theorem tabs_but {T : List (Addr × Str)} {H H' : Hp} {p : Addr} {xs : List V} (t : Tabs T H) (hp : H p = some (.lst xs)) (e : But p H H') : Tabs T H' := fun r hr => by
  obtain ⟨ps, h1, h2, h3⟩ := t r hr
  refine ⟨ps, e _ _ h1 (fun z => ?_), h2, fun pos cv hc => ?_⟩
  · rw [z, hp] at h1
    cases h1
  · obtain ⟨c, e1, e2⟩ := h3 pos cv hc
    refine ⟨c, e1, e _ _ e2 fun z => ?_⟩
    rw [z, hp] at e2
    exact codeO_lst (Option.some.inj e2).symm
theorem Pen.at_ {H : Hp} {p c : Addr} {k : Nat} (h : Pen H p c k) : ∃ xs, H p = some (.lst xs) := let ⟨_, _, _, W, _⟩ := h; ⟨_, W.hp⟩
theorem Pen.extN {H H' : Hp} {p c : Addr} {k : Nat} (h : Pen H p c k) (e : ExtN H H') : Pen H' p c k := by
  obtain ⟨ns, b, l, W, hk⟩ := h
  exact ⟨ns, b, l, ⟨e _ _ W.hp (fun _ z => nomatch z), e _ _ W.hc (fun _ z => nomatch z), W.ln, W.b0⟩, hk⟩
theorem TupQ.extN {H H' : Hp} {v : V} {q : Rat} {B : Nat} (h : TupQ H v q B) (e : ExtN H H') : TupQ H' v q B := let ⟨t, h1, h2, r⟩ := h; ⟨t, h1, e _ _ h2 (fun _ z => nomatch z), r⟩
theorem sq_of {q : Rat} (h1 : q.num.natAbs ≤ 10 ^ 35) (h2 : q.den ≤ 10 ^ 35) : Sq 120 q := ⟨Nat.lt_of_le_of_lt h1 (by decide +kernel), Nat.lt_of_le_of_lt h2 (by decide +kernel)⟩
/-- the row as it stands -/
structure RowF (Pt : Addr) (H : Hp) (p c l : Addr) (us : List V) (n : Nat) : Prop where
  lst : H l = some (.lst us)
  pen : Pen H p c n
  els : ∀ v ∈ us, ∃ q, TupQ H v q (10 ^ 35)
  tabs : Tabs [(Pt, LQ)] H
theorem RowF.ext {Pt : Addr} {H H' : Hp} {p c l : Addr} {us : List V} {n : Nat} (r : RowF Pt H p c l us n) (e : ExtN H H') (t : Tabs [(Pt, LQ)] H') : RowF Pt H' p c l us n :=
  ⟨e _ _ r.lst (fun _ z => nomatch z), r.pen.extN e, fun v hv => let ⟨q, h⟩ := r.els v hv; ⟨q, h.extN e⟩, t⟩
section
variable {P : Program} {w : World} {K : PySem.W.Frag} {mg : Str → Option Value} {base : Heap} {Pt : Addr}
structure CalG (P : Program) (w : World) (K : PySem.W.Frag) (mg : Str → Option Value) (base : Heap) (k : Nat) (x : Str) (f : Addr) (fd : FuncData) (ps : List Str) (sp : Sp) : Prop where
  F : Own.FnG P w K mg base CX0 k f fd ps sp
  mgf : mg x = some (.ref f)
  kp : PySem.W.keepIn K (.ref f) = true
  b : Binds K fd ps []
def spLaw (K : PySem.W.Frag) (Pt : Addr) : Sp := fun vs H Q _ => ∃ (a : Addr) (ns : List Int), vs = [.ref a] ∧ SqL K H a (ns.map V.int) ∧ ns.length ≤ 63 ∧ H Pt = some (.tbl #[]) ∧ ∀ H', Q (.bl true) H'
abbrev sLaw : Stmt := top 33
theorem scL : FnScope ["_law_script", "_law_pen_here", "_law_turn", "_law_row_here", "_law_one", "_law_other"] ["_law_script"] (defScope sLaw) := ⟨rfl, rfl, rfl, by decide +kernel, rfl, by decide +kernel, by decide +kernel⟩
theorem ok_law {f f1 f2 f3 f4 f5 : Addr} {fd fd1 fd2 fd3 fd4 fd5 : FuncData} (F : Fun K "law" "law" sLaw f fd) (T : Bl mg) (C__law_pen : Cal P w K mg base 1 "_law_pen" f1 fd1 ["_law_script"] (spPen K)) (C__law_row : Cal P w K mg base 5 "_law_row" f2 fd2 ["_law_pen_here"] spRow)
    (G_order : CalG P w K mg base 5 "_law_order_right" f3 fd3 ["_law_one", "_law_other"] spOrder) (C__law_rest_right : Cal P w K mg base 7 "_law_rest_right" f4 fd4 ["_law_one", "_law_other"] (spRest K Pt)) (C__law_sums_right : Cal P w K mg base 6 "_law_sums_right" f5 fd5 ["_law_one", "_law_other", "_law_third"] spSums) :
    Own.FnG P w K mg base CX0 8 f fd ["_law_script"] (spLaw K Pt) := by
  refine Own.okG F scL (fun vs H Q E h => ?_) (fun cdv A outer s H vs Q E hg hr h => ?_)
  · obtain ⟨a, ns, rfl, _⟩ := h
    rfl
  · obtain ⟨a, ns, rfl, hS, hl, hPt, q⟩ := h
    have nd := scL.nd
    refine ⟨_, pss_cons (ps_set (i := 1) nd rfl (Or.inl rfl) (pe_call C__law_pen.F (hr.mono (by decide)) (by rfl) C__law_pen.mgf C__law_pen.kp C__law_pen.b .nil pass0 (pa_cons (pv 0) pa_nil)))
      (pss_cons (ps_for PassesOwn.never rfl (pi_range1 (by rfl) T.range (pa_cons pe_int pa_nil)) (pg_name (i := 2) nd rfl (Or.inl rfl)) (pss_cons (ps_set (i := 3) nd rfl (Or.inl rfl) (pe_call C__law_row.F (hr.mono (by decide)) (by rfl) C__law_row.mgf C__law_row.kp C__law_row.b .nil pass0 (pa_cons (pv 1) pa_nil)))
      (pss_one (ps_for PassesOwn.never rfl (pi_list (pv 3)) (pg_name (i := 4) nd rfl (Or.inl rfl)) (pss_cons (ps_for PassesOwn.never rfl (pi_list (pv 3)) (pg_name (i := 5) nd rfl (Or.inl rfl)) (pss_one (ps_if (PW.pt (pw_or (pt_not (pt_val (Own.pe_callG G_order.F hg (hr.mono (by decide)) (by rfl) G_order.mgf G_order.kp G_order.b pass0 (pa_cons (pv 4) (pa_cons (pv 5) pa_nil))))) (pw_or1 (pt_not (pt_val (pe_call C__law_rest_right.F (hr.mono (by decide)) (by rfl) C__law_rest_right.mgf C__law_rest_right.kp C__law_rest_right.b .nil pass0 (pa_cons (pv 4) (pa_cons (pv 5) pa_nil)))))))) (pss_one (ps_ret pe_bl)) pss_nil)))
      (pss_one (ps_if (PW.pt (pw_or (pt_not (pt_val (pe_call C__law_sums_right.F (hr.mono (by decide)) (by rfl) C__law_sums_right.mgf C__law_sums_right.kp C__law_sums_right.b .nil pass0 (pa_cons (pv 4) (pa_cons (pe_ix ix_list (pv 3) pe_int (fun _ _ => rfl)) (pa_cons (pe_ix ix_list (pv 3) (pe_un un_neg pe_int) (fun _ _ => rfl)) pa_nil)))))) (pw_or1 (pt_not (pt_val (pe_call C__law_sums_right.F (hr.mono (by decide)) (by rfl) C__law_sums_right.mgf C__law_sums_right.kp C__law_sums_right.b .nil pass0 (pa_cons (pe_ix ix_list (pv 3) pe_int (fun _ _ => rfl)) (pa_cons (pv 4) (pa_cons (pe_ix ix_list (pv 3) pe_int (fun _ _ => rfl)) pa_nil))))))))) (pss_one (ps_ret pe_bl)) pss_nil)))))))
      (pss_one (ps_ret pe_bl))), ?_⟩
    have hT0 : Tabs [(Pt, LQ)] H := fun r hr => by
      rw [List.mem_singleton.mp hr]
      exact TabS.nil hPt
    refine ⟨_, rfl, a, ns, rfl, hS, hl, fun p c H0 s0 hp0 hP0 => ?_⟩
    refine ⟨3, rfl, by decide, by decide, ?_⟩
    refine for_range (lo := 0) (n := 3) (fun i σ H' => ∃ x2 x3 x4 x5, σ = [some (.ref a), some (.ref p), x2, x3, x4, x5] ∧ Pen H' p c (50 * i) ∧ Tabs [(Pt, LQ)] H') ⟨_, _, _, _, rfl, hP0, hT0.ext s0⟩ ?_ ?_
    · rintro i σ H1 hi ⟨x2, x3, x4, x5, rfl, hP1, hT1⟩
      refine ⟨_, rfl, p, c, _, rfl, hP1, by omega, fun l us H2 hlen hl2 hels hP2 hB2 => ?_⟩
      obtain ⟨xs, hpx⟩ := hP1.at_
      have R2 : RowF Pt H2 p c l us (50 * (i + 1)) := ⟨hl2, hP2.mono (by omega), hels, tabs_but hT1 hpx hB2⟩
      obtain ⟨u0, u1, u2, u3, u4, rfl⟩ : ∃ u0 u1 u2 u3 u4, us = [u0, u1, u2, u3, u4] := by
        match us, hlen with
        | [a, b, c, d, e], _ => exact ⟨a, b, c, d, e, rfl⟩
      refine ⟨_, rfl, l, rfl, ⟨_, SqL.of R2.lst⟩, ?_⟩
      refine for_list (xs := [u0, u1, u2, u3, u4]) (K := K) (a := l) (fun j σ H' => ∃ y2 y4 y5, σ = [some (.ref a), some (.ref p), y2, some (.ref l), y4, y5] ∧ RowF Pt H' p c l [u0, u1, u2, u3, u4] (50 * (i + 1))) ?_ ?_ ?_ ?_
      · exact ⟨_, _, _, rfl, R2⟩
      · rintro j σ H3 _ ⟨y2, y4, y5, rfl, R⟩
        exact SqL.of R.lst
      · rintro j x σ H3 hx ⟨y2, y4, y5, rfl, R⟩
        obtain ⟨qx, t1, rfl, h1, b1, b2⟩ := R.els x (List.mem_of_getElem? hx)
        have zx := sq_of b1 b2
        refine ⟨_, rfl, l, rfl, ⟨_, SqL.of R.lst⟩, ?_⟩
        refine for_list (xs := [u0, u1, u2, u3, u4]) (K := K) (a := l) (fun j σ H' => ∃ y2 y5, σ = [some (.ref a), some (.ref p), y2, some (.ref l), some (.ref t1), y5] ∧ RowF Pt H' p c l [u0, u1, u2, u3, u4] (50 * (i + 1)) ∧ H' t1 = some (.tup [.int qx.num, .int (qx.den : Int)])) ?_ ?_ ?_ ?_
        · exact ⟨_, _, rfl, R, h1⟩
        · rintro j σ H4 _ ⟨y2, y5, rfl, R, _⟩
          exact SqL.of R.lst
        · rintro j y σ H4 hy ⟨y2, y5, rfl, R4, h14⟩
          obtain ⟨qy, t2, rfl, h2, c1, c2⟩ := R4.els y (List.mem_of_getElem? hy)
          have zy := sq_of c1 c2
          refine ⟨_, rfl, _, rfl, t1, t2, qx, qy, rfl, h14, h2, ⟨zx, zy⟩, fun H5 s5 => ⟨_, rfl, iteF ?_⟩⟩
          have R5 := R4.ext (extN_same s5) (R4.tabs.ext s5)
          refine ⟨_, rfl, _, rfl, t1, t2, qx, qy, rfl, s5 _ _ h14, s5 _ _ h2, ⟨zx, zy⟩, R5.tabs, fun H6 e6 T6 => ⟨_, rfl, iteF ?_⟩⟩
          exact ⟨_, _, rfl, R5.ext e6 T6, e6 _ _ (s5 _ _ h14) (fun _ z => nomatch z)⟩
        · rintro σ H4 ⟨y2, y5, rfl, R4, h14⟩
          obtain ⟨q0, s0', rfl, e0, d1, d2⟩ := R4.els u0 (by simp)
          obtain ⟨q1, s1', rfl, e1, d3, d4⟩ := R4.els u1 (by simp)
          obtain ⟨q2, s2', rfl, e2, d5, d6⟩ := R4.els u2 (by simp)
          obtain ⟨q4, s4', rfl, e4, d7, d8⟩ := R4.els u4 (by simp)
          refine ⟨_, rfl, _, rfl, l, _, _, _, rfl, rfl, SqL.of R4.lst, rfl, _, rfl, _, rfl, l, _, _, _, rfl, rfl, SqL.of R4.lst, rfl, t1, s0', s4', qx, q0, q4, rfl, h14, e0, e4, ⟨zx, sq_of d1 d2, sq_of d7 d8⟩, fun H5 s5 => ⟨_, rfl, iteF ?_⟩⟩
          have R5 := R4.ext (extN_same s5) (R4.tabs.ext s5)
          refine ⟨_, rfl, l, _, _, _, rfl, rfl, SqL.of R5.lst, rfl, _, rfl, _, rfl, l, _, _, _, rfl, rfl, SqL.of R5.lst, rfl, s1', t1, s2', q1, qx, q2, rfl, s5 _ _ e1, s5 _ _ h14, s5 _ _ e2, ⟨sq_of d3 d4, zx, sq_of d5 d6⟩, fun H6 s6 => ⟨_, rfl, iteF ?_⟩⟩
          exact ⟨_, _, _, rfl, R5.ext (extN_same s6) (R5.tabs.ext s6)⟩
      · rintro σ H3 ⟨y2, y4, y5, rfl, R⟩
        exact ⟨_, _, _, _, rfl, R.pen, R.tabs⟩
    · rintro σ H1 ⟨x2, x3, x4, x5, rfl, hP1, hT1⟩
      exact q H1
end
end Toy
set_option maxRecDepth 100000
set_option maxHeartbeats 4000000
namespace Toy
open PySem L2
/-! ### the end -/
theorem all_mk {l : PySem.W.OpenLaw} {w : World} {K : PySem.W.Frag} {h : Heap} {mg : Str → Option Value} {fa CR CN CB CF gAdd gSub gMult gFloorDiv gMod cR Pt f0 f1 p1 f2 f3 f4 dT4 f5 f6 f7 f8 f9 f10 p10 f11 f12 f13 f14 f15 f16 f17 f18 f19 f20 f21 f22 f23 f24 f25 f26 f27 f28 f29 f30 f31 f32 f33 f34 : Addr} (X : K.In h) (G : h.Ns mainGlobals mg) (hfa : mg "law" = some (.ref fa))
    {o1Add o2Add : Option Value}
    {o1Sub o2Sub : Option Value}
    {o1Mult o2Mult : Option Value}
    {o1FloorDiv o2FloorDiv : Option Value}
    {o1Mod o2Mod : Option Value}
    {od0 an0 : Option Addr} {sl0 : Array (Option Value)} {oc0 kV0 dc0 pm0 cd0 ct0 : Value}
    {rest1 : List Value}
    {od1 an1 : Option Addr} {sl1 : Array (Option Value)} {oc1 kV1 dc1 pm1 cd1 ct1 : Value}
    {od2 an2 : Option Addr} {sl2 : Array (Option Value)} {oc2 kV2 dc2 pm2 cd2 ct2 : Value}
    {od3 an3 : Option Addr} {sl3 : Array (Option Value)} {oc3 kV3 dc3 pm3 cd3 ct3 : Value}
    {od4 an4 : Option Addr} {sl4 : Array (Option Value)} {oc4 kV4 dc4 pm4 cd4 ct4 : Value}
    {doc4 : Value} {dod4 : Option Addr} {dn4 : Nat} {dsl4 : Array (Option Value)} {dtk4 : Tok}
    {od5 an5 : Option Addr} {sl5 : Array (Option Value)} {oc5 kV5 dc5 pm5 cd5 ct5 : Value}
    {od6 an6 : Option Addr} {sl6 : Array (Option Value)} {oc6 kV6 dc6 pm6 cd6 ct6 : Value}
    {od7 an7 : Option Addr} {sl7 : Array (Option Value)} {oc7 kV7 dc7 pm7 cd7 ct7 : Value}
    {od8 an8 : Option Addr} {sl8 : Array (Option Value)} {oc8 kV8 dc8 pm8 cd8 ct8 : Value}
    {od9 an9 : Option Addr} {sl9 : Array (Option Value)} {oc9 kV9 dc9 pm9 cd9 ct9 : Value}
    {rest10 : List Value}
    {od10 an10 : Option Addr} {sl10 : Array (Option Value)} {oc10 kV10 dc10 pm10 cd10 ct10 : Value}
    {od11 an11 : Option Addr} {sl11 : Array (Option Value)} {oc11 kV11 dc11 pm11 cd11 ct11 : Value}
    {od12 an12 : Option Addr} {sl12 : Array (Option Value)} {oc12 kV12 dc12 pm12 cd12 ct12 : Value}
    {od13 an13 : Option Addr} {sl13 : Array (Option Value)} {oc13 kV13 dc13 pm13 cd13 ct13 : Value}
    {od14 an14 : Option Addr} {sl14 : Array (Option Value)} {oc14 kV14 dc14 pm14 cd14 ct14 : Value}
    {od15 an15 : Option Addr} {sl15 : Array (Option Value)} {oc15 kV15 dc15 pm15 cd15 ct15 : Value}
    {od16 an16 : Option Addr} {sl16 : Array (Option Value)} {oc16 kV16 dc16 pm16 cd16 ct16 : Value}
    {od17 an17 : Option Addr} {sl17 : Array (Option Value)} {oc17 kV17 dc17 pm17 cd17 ct17 : Value}
    {od18 an18 : Option Addr} {sl18 : Array (Option Value)} {oc18 kV18 dc18 pm18 cd18 ct18 : Value}
    {od19 an19 : Option Addr} {sl19 : Array (Option Value)} {oc19 kV19 dc19 pm19 cd19 ct19 : Value}
    {od20 an20 : Option Addr} {sl20 : Array (Option Value)} {oc20 kV20 dc20 pm20 cd20 ct20 : Value}
    {od21 an21 : Option Addr} {sl21 : Array (Option Value)} {oc21 kV21 dc21 pm21 cd21 ct21 : Value}
    {od22 an22 : Option Addr} {sl22 : Array (Option Value)} {oc22 kV22 dc22 pm22 cd22 ct22 : Value}
    {od23 an23 : Option Addr} {sl23 : Array (Option Value)} {oc23 kV23 dc23 pm23 cd23 ct23 : Value}
    {od24 an24 : Option Addr} {sl24 : Array (Option Value)} {oc24 kV24 dc24 pm24 cd24 ct24 : Value}
    {od25 an25 : Option Addr} {sl25 : Array (Option Value)} {oc25 kV25 dc25 pm25 cd25 ct25 : Value}
    {od26 an26 : Option Addr} {sl26 : Array (Option Value)} {oc26 kV26 dc26 pm26 cd26 ct26 : Value}
    {od27 an27 : Option Addr} {sl27 : Array (Option Value)} {oc27 kV27 dc27 pm27 cd27 ct27 : Value}
    {od28 an28 : Option Addr} {sl28 : Array (Option Value)} {oc28 kV28 dc28 pm28 cd28 ct28 : Value}
    {od29 an29 : Option Addr} {sl29 : Array (Option Value)} {oc29 kV29 dc29 pm29 cd29 ct29 : Value}
    {od30 an30 : Option Addr} {sl30 : Array (Option Value)} {oc30 kV30 dc30 pm30 cd30 ct30 : Value}
    {od31 an31 : Option Addr} {sl31 : Array (Option Value)} {oc31 kV31 dc31 pm31 cd31 ct31 : Value}
    {od32 an32 : Option Addr} {sl32 : Array (Option Value)} {oc32 kV32 dc32 pm32 ct32 : Value}
    {od33 an33 : Option Addr} {sl33 : Array (Option Value)} {oc33 kV33 dc33 pm33 cd33 ct33 : Value}
    {od34 an34 : Option Addr} {sl34 : Array (Option Value)} {oc34 kV34 dc34 pm34 cd34 ct34 : Value}
    (aCR : PySem.W.nsIn K mainGlobals "Ratio" = some (some (.ref CR)))
    (pgCR : PySem.W.plainGet K CR Str.empty = true)
    (hdCR : PySem.W.hasDictIn K CR = true)
    (poCR : PySem.W.plainOver K CR = true)
    (saCR : PySem.W.findIn K (.ref CR) "__setattr__" = some (some (.builtin "object.__setattr__")))
    (rdCR : PySem.W.readsIn K CR (.type "type") = true)
    (gaCR : PySem.W.specialIn K (.ref CR) "__getattribute__" = some (some (.builtin "type.__getattribute__")))
    (caCR : PySem.W.findIn K (.ref CR) "__class__" = some (some (.builtin "object.__class__")))
    (cmCR : PySem.W.mroIn K CR (.type "object") = some true)
    (sICR : PySem.W.subIn K (.ref CR) (.type "int") = some false)
    (nICR : PySem.W.notFirst K CR (.type "int") = true)
    (nCCR : PySem.W.notFirst K CR (.ref CR) = true)
    (kICR : PySem.W.kitOne K (.ref CR) (.type "int") = some false)
    (kBCR : PySem.W.kitOne K (.ref CR) (.type "bool") = some false)
    (iKCR : PySem.W.kitOne K (.type "int") (.ref CR) = some false)
    (kSCR : PySem.W.kitOne K (.ref CR) (.ref CR) = some true)
    (n_topCR : PySem.W.findIn K (.ref CR) "top" = some none)
    (n_bottomCR : PySem.W.findIn K (.ref CR) "bottom" = some none)
    (mkCR : PySem.W.makesIn K CR = true)
    (kcCR : PySem.W.keepIn K (.ref CR) = true)
    (neR : PySem.W.findIn K (.ref CR) "__ne__" = some (some (.builtin "object.__ne__")))
    (sO : PySem.W.subIn K (.ref CR) (.type "object") = some true)
    (sIR : PySem.W.subIn K (.type "int") (.ref CR) = some false)
    (sf : PySem.W.selfFirst K CR = true)
    (cn : PySem.W.specialIn K (.builtin "object.__class__") "__get__" = some (some (.builtin "getset_descriptor.__get__")))
    (ct : PySem.W.takesIn K (.builtin "object.__class__") = some true)
    (z_int : PySem.W.nsIn K mainGlobals "int" = some none)
    (z_len : PySem.W.nsIn K mainGlobals "len" = some none)
    (z_abs : PySem.W.nsIn K mainGlobals "abs" = some none)
    (z_list : PySem.W.nsIn K mainGlobals "list" = some none)
    (z_range : PySem.W.nsIn K mainGlobals "range" = some none)
    (z_isinstance : PySem.W.nsIn K mainGlobals "isinstance" = some none)
    (z_bool : PySem.W.nsIn K mainGlobals "bool" = some none)
    (z_repr : PySem.W.nsIn K mainGlobals "repr" = some none)
    (z_gcd : PySem.W.nsIn K mainGlobals "gcd" = some (some (.builtin "math.gcd")))
    (aN : PySem.W.nsIn K mainGlobals "NoDivisor" = some (some (.ref CN)))
    (aB : PySem.W.nsIn K mainGlobals "BadRatio" = some (some (.ref CB)))
    (aF : PySem.W.nsIn K mainGlobals "FifthError" = some (some (.ref CF)))
    (xN : PySem.W.excIn K CN [.type "ValueError", .type "Exception", .type "BaseException", .type "object"] "ValueError.__new__" = true)
    (kN : PySem.W.keepIn K (.ref CN) = true)
    (bN : PySem.W.subIn K (.ref CN) (.type "BaseException") = some true)
    (tN : PySem.W.typeIn K (.ref CN) = some (.type "type"))
    (eNB : PySem.W.exmOne K (.ref CN) (.ref CB) = some false)
    (eNN : PySem.W.exmOne K (.ref CN) (.ref CN) = some true)
    (i1Add : PySem.W.findIn K (.type "int") "__add__" = some o1Add)
    (i2Add : PySem.W.findIn K (.type "int") "__radd__" = some o2Add)
    (rAdd : PySem.W.findIn K (.ref CR) "__radd__" = some (some (.ref gAdd)))
    (i1Sub : PySem.W.findIn K (.type "int") "__sub__" = some o1Sub)
    (i2Sub : PySem.W.findIn K (.type "int") "__rsub__" = some o2Sub)
    (rSub : PySem.W.findIn K (.ref CR) "__rsub__" = some (some (.ref gSub)))
    (i1Mult : PySem.W.findIn K (.type "int") "__mul__" = some o1Mult)
    (i2Mult : PySem.W.findIn K (.type "int") "__rmul__" = some o2Mult)
    (rMult : PySem.W.findIn K (.ref CR) "__rmul__" = some (some (.ref gMult)))
    (i1FloorDiv : PySem.W.findIn K (.type "int") "__floordiv__" = some o1FloorDiv)
    (i2FloorDiv : PySem.W.findIn K (.type "int") "__rfloordiv__" = some o2FloorDiv)
    (rFloorDiv : PySem.W.findIn K (.ref CR) "__rfloordiv__" = some (some (.ref gFloorDiv)))
    (i1Mod : PySem.W.findIn K (.type "int") "__mod__" = some o1Mod)
    (i2Mod : PySem.W.findIn K (.type "int") "__rmod__" = some o2Mod)
    (rMod : PySem.W.findIn K (.ref CR) "__rmod__" = some (some (.ref gMod)))
    (tab : PySem.W.tabIn K "_law_rest_right" = some (cR, Pt))
    (chd : PySem.W.codeHdIn K cR Pt = true)
    (outP : K.lookup Pt = none)
    (eP : h.get? Pt = some (PySem.W.tabObj #[]))
    (a0 : PySem.W.nsIn K mainGlobals "is_int" = some (some (.ref f0)))
    (l0 : K.lookup f0 = some ⟨oc0, od0, .func (PySem.W.fnOf "is_int" "is_int" (defArgs sIsInt) (defBody sIsInt) (defScope sIsInt) .none kV0 dc0 pm0 an0 cd0 ct0), sl0⟩)
    (c0 : PySem.W.codeIn K cd0 "is_int" = true)
    (k0 : PySem.W.keepIn K (.ref f0) = true)
    (a1 : PySem.W.findCls K (.ref CR) (.type "type") "is_number" = some (.get (.builtin "staticmethod.__get__") (.ref p1) .none (.ref CR)))
    (r1 : PySem.W.recIn K p1 "staticmethod" = some (.ref f1 :: rest1))
    (l1 : K.lookup f1 = some ⟨oc1, od1, .func (PySem.W.fnOf "is_number" "Ratio.is_number" (defArgs sIsNum) (defBody sIsNum) (defScope sIsNum) .none kV1 dc1 pm1 an1 cd1 ct1), sl1⟩)
    (c1 : PySem.W.codeIn K cd1 "Ratio.is_number" = true)
    (k1 : PySem.W.keepIn K (.ref f1) = true)
    (a2 : PySem.W.nsIn K mainGlobals "parts_of" = some (some (.ref f2)))
    (l2 : K.lookup f2 = some ⟨oc2, od2, .func (PySem.W.fnOf "parts_of" "parts_of" (defArgs sParts) (defBody sParts) (defScope sParts) .none kV2 dc2 pm2 an2 cd2 ct2), sl2⟩)
    (c2 : PySem.W.codeIn K cd2 "parts_of" = true)
    (k2 : PySem.W.keepIn K (.ref f2) = true)
    (a3 : PySem.W.nsIn K mainGlobals "_lead" = some (some (.ref f3)))
    (l3 : K.lookup f3 = some ⟨oc3, od3, .func (PySem.W.fnOf "_lead" "_lead" (defArgs sLead) (defBody sLead) (defScope sLead) .none kV3 dc3 pm3 an3 cd3 ct3), sl3⟩)
    (c3 : PySem.W.codeIn K cd3 "_lead" = true)
    (k3 : PySem.W.keepIn K (.ref f3) = true)
    (a4 : PySem.W.findIn K (.ref CR) "__init__" = some (some (.ref f4)))
    (i4 : PySem.W.isFn K (.ref f4) = true)
    (l4 : K.lookup f4 = some ⟨oc4, od4, .func (PySem.W.fnOf "__init__" "Ratio.__init__" (defArgs sRInit) (defBody sRInit) (defScope sRInit) (.ref dT4) kV4 dc4 pm4 an4 cd4 ct4), sl4⟩)
    (c4 : PySem.W.codeIn K cd4 "Ratio.__init__" = true)
    (k4 : PySem.W.keepIn K (.ref f4) = true)
    (d4 : K.lookup dT4 = some ⟨doc4, dod4, .seq #[.int 1 dtk4] dn4, dsl4⟩)
    (a5 : PySem.W.findIn K (.ref CR) "__lt__" = some (some (.ref f5)))
    (i5 : PySem.W.isFn K (.ref f5) = true)
    (l5 : K.lookup f5 = some ⟨oc5, od5, .func (PySem.W.fnOf "__lt__" "Ratio.__lt__" (defArgs sLt) (defBody sLt) (defScope sLt) .none kV5 dc5 pm5 an5 cd5 ct5), sl5⟩)
    (c5 : PySem.W.codeIn K cd5 "Ratio.__lt__" = true)
    (k5 : PySem.W.keepIn K (.ref f5) = true)
    (a6 : PySem.W.findIn K (.ref CR) "__le__" = some (some (.ref f6)))
    (i6 : PySem.W.isFn K (.ref f6) = true)
    (l6 : K.lookup f6 = some ⟨oc6, od6, .func (PySem.W.fnOf "__le__" "Ratio.__le__" (defArgs sLeq) (defBody sLeq) (defScope sLeq) .none kV6 dc6 pm6 an6 cd6 ct6), sl6⟩)
    (c6 : PySem.W.codeIn K cd6 "Ratio.__le__" = true)
    (k6 : PySem.W.keepIn K (.ref f6) = true)
    (a7 : PySem.W.findIn K (.ref CR) "__gt__" = some (some (.ref f7)))
    (i7 : PySem.W.isFn K (.ref f7) = true)
    (l7 : K.lookup f7 = some ⟨oc7, od7, .func (PySem.W.fnOf "__gt__" "Ratio.__gt__" (defArgs sGt) (defBody sGt) (defScope sGt) .none kV7 dc7 pm7 an7 cd7 ct7), sl7⟩)
    (c7 : PySem.W.codeIn K cd7 "Ratio.__gt__" = true)
    (k7 : PySem.W.keepIn K (.ref f7) = true)
    (a8 : PySem.W.findIn K (.ref CR) "__ge__" = some (some (.ref f8)))
    (i8 : PySem.W.isFn K (.ref f8) = true)
    (l8 : K.lookup f8 = some ⟨oc8, od8, .func (PySem.W.fnOf "__ge__" "Ratio.__ge__" (defArgs sGe) (defBody sGe) (defScope sGe) .none kV8 dc8 pm8 an8 cd8 ct8), sl8⟩)
    (c8 : PySem.W.codeIn K cd8 "Ratio.__ge__" = true)
    (k8 : PySem.W.keepIn K (.ref f8) = true)
    (a9 : PySem.W.findIn K (.ref CR) "__eq__" = some (some (.ref f9)))
    (i9 : PySem.W.isFn K (.ref f9) = true)
    (l9 : K.lookup f9 = some ⟨oc9, od9, .func (PySem.W.fnOf "__eq__" "Ratio.__eq__" (defArgs sEq) (defBody sEq) (defScope sEq) .none kV9 dc9 pm9 an9 cd9 ct9), sl9⟩)
    (c9 : PySem.W.codeIn K cd9 "Ratio.__eq__" = true)
    (k9 : PySem.W.keepIn K (.ref f9) = true)
    (a10 : PySem.W.findCls K (.ref CR) (.type "type") "of" = some (.get (.builtin "staticmethod.__get__") (.ref p10) .none (.ref CR)))
    (r10 : PySem.W.recIn K p10 "staticmethod" = some (.ref f10 :: rest10))
    (l10 : K.lookup f10 = some ⟨oc10, od10, .func (PySem.W.fnOf "of" "Ratio.of" (defArgs sOf) (defBody sOf) (defScope sOf) .none kV10 dc10 pm10 an10 cd10 ct10), sl10⟩)
    (c10 : PySem.W.codeIn K cd10 "Ratio.of" = true)
    (k10 : PySem.W.keepIn K (.ref f10) = true)
    (a11 : PySem.W.findIn K (.ref CR) "over" = some (some (.ref f11)))
    (i11 : PySem.W.isFn K (.ref f11) = true)
    (l11 : K.lookup f11 = some ⟨oc11, od11, .func (PySem.W.fnOf "over" "Ratio.over" (defArgs sOver) (defBody sOver) (defScope sOver) .none kV11 dc11 pm11 an11 cd11 ct11), sl11⟩)
    (c11 : PySem.W.codeIn K cd11 "Ratio.over" = true)
    (k11 : PySem.W.keepIn K (.ref f11) = true)
    (a12 : PySem.W.findIn K (.ref CR) "__add__" = some (some (.ref f12)))
    (i12 : PySem.W.isFn K (.ref f12) = true)
    (l12 : K.lookup f12 = some ⟨oc12, od12, .func (PySem.W.fnOf "__add__" "Ratio.__add__" (defArgs sAdd) (defBody sAdd) (defScope sAdd) .none kV12 dc12 pm12 an12 cd12 ct12), sl12⟩)
    (c12 : PySem.W.codeIn K cd12 "Ratio.__add__" = true)
    (k12 : PySem.W.keepIn K (.ref f12) = true)
    (a13 : PySem.W.findIn K (.ref CR) "__sub__" = some (some (.ref f13)))
    (i13 : PySem.W.isFn K (.ref f13) = true)
    (l13 : K.lookup f13 = some ⟨oc13, od13, .func (PySem.W.fnOf "__sub__" "Ratio.__sub__" (defArgs sSub) (defBody sSub) (defScope sSub) .none kV13 dc13 pm13 an13 cd13 ct13), sl13⟩)
    (c13 : PySem.W.codeIn K cd13 "Ratio.__sub__" = true)
    (k13 : PySem.W.keepIn K (.ref f13) = true)
    (a14 : PySem.W.findIn K (.ref CR) "__mul__" = some (some (.ref f14)))
    (i14 : PySem.W.isFn K (.ref f14) = true)
    (l14 : K.lookup f14 = some ⟨oc14, od14, .func (PySem.W.fnOf "__mul__" "Ratio.__mul__" (defArgs sMul) (defBody sMul) (defScope sMul) .none kV14 dc14 pm14 an14 cd14 ct14), sl14⟩)
    (c14 : PySem.W.codeIn K cd14 "Ratio.__mul__" = true)
    (k14 : PySem.W.keepIn K (.ref f14) = true)
    (a15 : PySem.W.findIn K (.ref CR) "__radd__" = some (some (.ref f15)))
    (i15 : PySem.W.isFn K (.ref f15) = true)
    (l15 : K.lookup f15 = some ⟨oc15, od15, .func (PySem.W.fnOf "__radd__" "Ratio.__radd__" (defArgs sRAdd) (defBody sRAdd) (defScope sRAdd) .none kV15 dc15 pm15 an15 cd15 ct15), sl15⟩)
    (c15 : PySem.W.codeIn K cd15 "Ratio.__radd__" = true)
    (k15 : PySem.W.keepIn K (.ref f15) = true)
    (a16 : PySem.W.findIn K (.ref CR) "__rmul__" = some (some (.ref f16)))
    (i16 : PySem.W.isFn K (.ref f16) = true)
    (l16 : K.lookup f16 = some ⟨oc16, od16, .func (PySem.W.fnOf "__rmul__" "Ratio.__rmul__" (defArgs sRMul) (defBody sRMul) (defScope sRMul) .none kV16 dc16 pm16 an16 cd16 ct16), sl16⟩)
    (c16 : PySem.W.codeIn K cd16 "Ratio.__rmul__" = true)
    (k16 : PySem.W.keepIn K (.ref f16) = true)
    (a17 : PySem.W.nsIn K mainGlobals "_quotient" = some (some (.ref f17)))
    (l17 : K.lookup f17 = some ⟨oc17, od17, .func (PySem.W.fnOf "_quotient" "_quotient" (defArgs sQuo) (defBody sQuo) (defScope sQuo) .none kV17 dc17 pm17 an17 cd17 ct17), sl17⟩)
    (c17 : PySem.W.codeIn K cd17 "_quotient" = true)
    (k17 : PySem.W.keepIn K (.ref f17) = true)
    (a18 : PySem.W.findIn K (.ref CR) "__floordiv__" = some (some (.ref f18)))
    (i18 : PySem.W.isFn K (.ref f18) = true)
    (l18 : K.lookup f18 = some ⟨oc18, od18, .func (PySem.W.fnOf "__floordiv__" "Ratio.__floordiv__" (defArgs sFDiv) (defBody sFDiv) (defScope sFDiv) .none kV18 dc18 pm18 an18 cd18 ct18), sl18⟩)
    (c18 : PySem.W.codeIn K cd18 "Ratio.__floordiv__" = true)
    (k18 : PySem.W.keepIn K (.ref f18) = true)
    (a19 : PySem.W.findIn K (.ref CR) "__mod__" = some (some (.ref f19)))
    (i19 : PySem.W.isFn K (.ref f19) = true)
    (l19 : K.lookup f19 = some ⟨oc19, od19, .func (PySem.W.fnOf "__mod__" "Ratio.__mod__" (defArgs sMod) (defBody sMod) (defScope sMod) .none kV19 dc19 pm19 an19 cd19 ct19), sl19⟩)
    (c19 : PySem.W.codeIn K cd19 "Ratio.__mod__" = true)
    (k19 : PySem.W.keepIn K (.ref f19) = true)
    (a20 : PySem.W.findIn K (.ref CR) "__neg__" = some (some (.ref f20)))
    (i20 : PySem.W.isFn K (.ref f20) = true)
    (l20 : K.lookup f20 = some ⟨oc20, od20, .func (PySem.W.fnOf "__neg__" "Ratio.__neg__" (defArgs sNeg) (defBody sNeg) (defScope sNeg) .none kV20 dc20 pm20 an20 cd20 ct20), sl20⟩)
    (c20 : PySem.W.codeIn K cd20 "Ratio.__neg__" = true)
    (k20 : PySem.W.keepIn K (.ref f20) = true)
    (a21 : PySem.W.findIn K (.ref CR) "__abs__" = some (some (.ref f21)))
    (i21 : PySem.W.isFn K (.ref f21) = true)
    (l21 : K.lookup f21 = some ⟨oc21, od21, .func (PySem.W.fnOf "__abs__" "Ratio.__abs__" (defArgs sAbs) (defBody sAbs) (defScope sAbs) .none kV21 dc21 pm21 an21 cd21 ct21), sl21⟩)
    (c21 : PySem.W.codeIn K cd21 "Ratio.__abs__" = true)
    (k21 : PySem.W.keepIn K (.ref f21) = true)
    (a22 : PySem.W.nsIn K mainGlobals "_law_pen" = some (some (.ref f22)))
    (l22 : K.lookup f22 = some ⟨oc22, od22, .func (PySem.W.fnOf "_law_pen" "_law_pen" (defArgs sPen) (defBody sPen) (defScope sPen) .none kV22 dc22 pm22 an22 cd22 ct22), sl22⟩)
    (c22 : PySem.W.codeIn K cd22 "_law_pen" = true)
    (k22 : PySem.W.keepIn K (.ref f22) = true)
    (a23 : PySem.W.nsIn K mainGlobals "_law_draw" = some (some (.ref f23)))
    (l23 : K.lookup f23 = some ⟨oc23, od23, .func (PySem.W.fnOf "_law_draw" "_law_draw" (defArgs sDraw) (defBody sDraw) (defScope sDraw) .none kV23 dc23 pm23 an23 cd23 ct23), sl23⟩)
    (c23 : PySem.W.codeIn K cd23 "_law_draw" = true)
    (k23 : PySem.W.keepIn K (.ref f23) = true)
    (a24 : PySem.W.nsIn K mainGlobals "_law_pick" = some (some (.ref f24)))
    (l24 : K.lookup f24 = some ⟨oc24, od24, .func (PySem.W.fnOf "_law_pick" "_law_pick" (defArgs sPick) (defBody sPick) (defScope sPick) .none kV24 dc24 pm24 an24 cd24 ct24), sl24⟩)
    (c24 : PySem.W.codeIn K cd24 "_law_pick" = true)
    (k24 : PySem.W.keepIn K (.ref f24) = true)
    (a25 : PySem.W.nsIn K mainGlobals "_law_integer" = some (some (.ref f25)))
    (l25 : K.lookup f25 = some ⟨oc25, od25, .func (PySem.W.fnOf "_law_integer" "_law_integer" (defArgs sInteger) (defBody sInteger) (defScope sInteger) .none kV25 dc25 pm25 an25 cd25 ct25), sl25⟩)
    (c25 : PySem.W.codeIn K cd25 "_law_integer" = true)
    (k25 : PySem.W.keepIn K (.ref f25) = true)
    (a26 : PySem.W.nsIn K mainGlobals "_law_pair" = some (some (.ref f26)))
    (l26 : K.lookup f26 = some ⟨oc26, od26, .func (PySem.W.fnOf "_law_pair" "_law_pair" (defArgs sPair) (defBody sPair) (defScope sPair) .none kV26 dc26 pm26 an26 cd26 ct26), sl26⟩)
    (c26 : PySem.W.codeIn K cd26 "_law_pair" = true)
    (k26 : PySem.W.keepIn K (.ref f26) = true)
    (a27 : PySem.W.nsIn K mainGlobals "_law_lowest" = some (some (.ref f27)))
    (l27 : K.lookup f27 = some ⟨oc27, od27, .func (PySem.W.fnOf "_law_lowest" "_law_lowest" (defArgs sLowest) (defBody sLowest) (defScope sLowest) .none kV27 dc27 pm27 an27 cd27 ct27), sl27⟩)
    (c27 : PySem.W.codeIn K cd27 "_law_lowest" = true)
    (k27 : PySem.W.keepIn K (.ref f27) = true)
    (a28 : PySem.W.nsIn K mainGlobals "_law_row" = some (some (.ref f28)))
    (l28 : K.lookup f28 = some ⟨oc28, od28, .func (PySem.W.fnOf "_law_row" "_law_row" (defArgs sRow) (defBody sRow) (defScope sRow) .none kV28 dc28 pm28 an28 cd28 ct28), sl28⟩)
    (c28 : PySem.W.codeIn K cd28 "_law_row" = true)
    (k28 : PySem.W.keepIn K (.ref f28) = true)
    (a29 : PySem.W.nsIn K mainGlobals "_law_number" = some (some (.ref f29)))
    (l29 : K.lookup f29 = some ⟨oc29, od29, .func (PySem.W.fnOf "_law_number" "_law_number" (defArgs sNumber) (defBody sNumber) (defScope sNumber) .none kV29 dc29 pm29 an29 cd29 ct29), sl29⟩)
    (c29 : PySem.W.codeIn K cd29 "_law_number" = true)
    (k29 : PySem.W.keepIn K (.ref f29) = true)
    (a30 : PySem.W.nsIn K mainGlobals "_law_order_right" = some (some (.ref f30)))
    (l30 : K.lookup f30 = some ⟨oc30, od30, .func (PySem.W.fnOf "_law_order_right" "_law_order_right" (defArgs sOrder) (defBody sOrder) (defScope sOrder) .none kV30 dc30 pm30 an30 cd30 ct30), sl30⟩)
    (c30 : PySem.W.codeIn K cd30 "_law_order_right" = true)
    (k30 : PySem.W.keepIn K (.ref f30) = true)
    (a31 : PySem.W.nsIn K mainGlobals "_law_heard" = some (some (.ref f31)))
    (l31 : K.lookup f31 = some ⟨oc31, od31, .func (PySem.W.fnOf "_law_heard" "_law_heard" (defArgs sHeard) (defBody sHeard) (defScope sHeard) .none kV31 dc31 pm31 an31 cd31 ct31), sl31⟩)
    (c31 : PySem.W.codeIn K cd31 "_law_heard" = true)
    (k31 : PySem.W.keepIn K (.ref f31) = true)
    (a32 : PySem.W.nsIn K mainGlobals "_law_rest_right" = some (some (.ref f32)))
    (l32 : K.lookup f32 = some ⟨oc32, od32, .func (PySem.W.fnOf "_law_rest_right" "_law_rest_right" (defArgs sRest) (defBody sRest) (defScope sRest) .none kV32 dc32 pm32 an32 (.ref cR) ct32), sl32⟩)
    (c32 : PySem.W.codeIn K (.ref cR) "_law_rest_right" = true)
    (k32 : PySem.W.keepIn K (.ref f32) = true)
    (a33 : PySem.W.nsIn K mainGlobals "_law_sums_right" = some (some (.ref f33)))
    (l33 : K.lookup f33 = some ⟨oc33, od33, .func (PySem.W.fnOf "_law_sums_right" "_law_sums_right" (defArgs sSums) (defBody sSums) (defScope sSums) .none kV33 dc33 pm33 an33 cd33 ct33), sl33⟩)
    (c33 : PySem.W.codeIn K cd33 "_law_sums_right" = true)
    (k33 : PySem.W.keepIn K (.ref f33) = true)
    (a34 : PySem.W.nsIn K mainGlobals "law" = some (some (.ref f34)))
    (l34 : K.lookup f34 = some ⟨oc34, od34, .func (PySem.W.fnOf "law" "law" (defArgs sLaw) (defBody sLaw) (defScope sLaw) .none kV34 dc34 pm34 an34 cd34 ct34), sl34⟩)
    (c34 : PySem.W.codeIn K cd34 "law" = true)
    (k34 : PySem.W.keepIn K (.ref f34) = true) :
    ∃ tabs, Own.LawG l w K 8 63 "_law_script" mg fa h tabs := by
  have e := hfa.symm.trans (PySem.W.mg_of X G a34)
  cases e
  have T : Bl mg := ⟨PySem.W.mg_none_of X G z_int, PySem.W.mg_none_of X G z_len, PySem.W.mg_none_of X G z_abs, PySem.W.mg_none_of X G z_list, PySem.W.mg_none_of X G z_range, PySem.W.mg_none_of X G z_isinstance, PySem.W.mg_none_of X G z_bool, PySem.W.mg_of X G z_gcd⟩
  have T_Ratio : RatT K mg CR := ⟨⟨⟨pgCR, hdCR, poCR, saCR⟩, PySem.W.mg_of X G aCR, ⟨rdCR, gaCR⟩, caCR, cn, ct, cmCR, kICR, kBCR, kSCR, iKCR, sICR, nICR, nCCR⟩, n_topCR, n_bottomCR⟩
  have TN : ExT K mg "NoDivisor" CN := ⟨PySem.W.mg_of X G aN, xN, kN, bN, tN⟩
  have BA : BinF K CR .Add := ⟨sf, ⟨_, rAdd, .inr ⟨_, rfl⟩⟩, ⟨_, i1Add⟩, ⟨_, i2Add⟩, sIR⟩
  have BS : BinF K CR .Sub := ⟨sf, ⟨_, rSub, .inr ⟨_, rfl⟩⟩, ⟨_, i1Sub⟩, ⟨_, i2Sub⟩, sIR⟩
  have BM : BinF K CR .Mult := ⟨sf, ⟨_, rMult, .inr ⟨_, rfl⟩⟩, ⟨_, i1Mult⟩, ⟨_, i2Mult⟩, sIR⟩
  have BF : BinF K CR .FloorDiv := ⟨sf, ⟨_, rFloorDiv, .inr ⟨_, rfl⟩⟩, ⟨_, i1FloorDiv⟩, ⟨_, i2FloorDiv⟩, sIR⟩
  have BMo : BinF K CR .Mod := ⟨sf, ⟨_, rMod, .inr ⟨_, rfl⟩⟩, ⟨_, i1Mod⟩, ⟨_, i2Mod⟩, sIR⟩
  have F0 := fun_mk (st := sIsInt) l0 c0 k0
  have b0 := F0.binds (ps := ["value"]) fun _ _ _ _ _ _ us hl => match us, hl with | [_], _ => rfl
  have F1 := fun_mk (st := sIsNum) l1 c1 k1
  have b1 := F1.binds (ps := ["value"]) fun _ _ _ _ _ _ us hl => match us, hl with | [_], _ => rfl
  have F2 := fun_mk (st := sParts) l2 c2 k2
  have b2 := F2.binds (ps := ["number"]) fun _ _ _ _ _ _ us hl => match us, hl with | [_], _ => rfl
  have F3 := fun_mk (st := sLead) l3 c3 k3
  have b3 := F3.binds (ps := ["one", "other"]) fun _ _ _ _ _ _ us hl => match us, hl with | [_, _], _ => rfl
  have F4 : FunD K "__init__" "Ratio.__init__" (defArgs sRInit) (defBody sRInit) (defScope sRInit) [.int 1] [] f4 _ := ⟨⟨_, _, _, _, _, _, _, _, _, _, rfl, l4, c4, .inr ⟨(fun z => nomatch z), _, _, [_], _, rfl, d4, rfl, .cons ⟨_, rfl⟩ .nil⟩, .inl rfl⟩, k4⟩
  obtain ⟨ds4, hds4, b4⟩ := F4.binds1 (ps := ["self", "top", "bottom"]) 3 1 (fun z => nomatch z) rfl fun _ _ _ _ _ _ _ us its hu hi => match us, hu, its, hi with | [_, _, _], _, [_], _ => ⟨_, rfl, rfl⟩
  cases hds4
  obtain ⟨dv4, hdv4, bd4⟩ := F4.binds1 (ps := ["self", "top", "bottom"]) 2 0 (fun z => nomatch z) rfl fun _ _ _ _ _ _ _ us its hu hi => match us, hu, its, hi with | [_, _], _, [_], _ => ⟨_, rfl, rfl⟩
  have F5 := fun_mk (st := sLt) l5 c5 k5
  have b5 := F5.binds (ps := ["self", "other"]) fun _ _ _ _ _ _ us hl => match us, hl with | [_, _], _ => rfl
  have F6 := fun_mk (st := sLeq) l6 c6 k6
  have b6 := F6.binds (ps := ["self", "other"]) fun _ _ _ _ _ _ us hl => match us, hl with | [_, _], _ => rfl
  have F7 := fun_mk (st := sGt) l7 c7 k7
  have b7 := F7.binds (ps := ["self", "other"]) fun _ _ _ _ _ _ us hl => match us, hl with | [_, _], _ => rfl
  have F8 := fun_mk (st := sGe) l8 c8 k8
  have b8 := F8.binds (ps := ["self", "other"]) fun _ _ _ _ _ _ us hl => match us, hl with | [_, _], _ => rfl
  have F9 := fun_mk (st := sEq) l9 c9 k9
  have b9 := F9.binds (ps := ["self", "other"]) fun _ _ _ _ _ _ us hl => match us, hl with | [_, _], _ => rfl
  have F10 := fun_mk (st := sOf) l10 c10 k10
  have b10 := F10.binds (ps := ["number"]) fun _ _ _ _ _ _ us hl => match us, hl with | [_], _ => rfl
  have F11 := fun_mk (st := sOver) l11 c11 k11
  have b11 := F11.binds (ps := ["self", "number"]) fun _ _ _ _ _ _ us hl => match us, hl with | [_, _], _ => rfl
  have F12 := fun_mk (st := sAdd) l12 c12 k12
  have b12 := F12.binds (ps := ["self", "other"]) fun _ _ _ _ _ _ us hl => match us, hl with | [_, _], _ => rfl
  have F13 := fun_mk (st := sSub) l13 c13 k13
  have b13 := F13.binds (ps := ["self", "other"]) fun _ _ _ _ _ _ us hl => match us, hl with | [_, _], _ => rfl
  have F14 := fun_mk (st := sMul) l14 c14 k14
  have b14 := F14.binds (ps := ["self", "other"]) fun _ _ _ _ _ _ us hl => match us, hl with | [_, _], _ => rfl
  have F15 := fun_mk (st := sRAdd) l15 c15 k15
  have b15 := F15.binds (ps := ["self", "other"]) fun _ _ _ _ _ _ us hl => match us, hl with | [_, _], _ => rfl
  have F16 := fun_mk (st := sRMul) l16 c16 k16
  have b16 := F16.binds (ps := ["self", "other"]) fun _ _ _ _ _ _ us hl => match us, hl with | [_, _], _ => rfl
  have F17 := fun_mk (st := sQuo) l17 c17 k17
  have b17 := F17.binds (ps := ["one", "other"]) fun _ _ _ _ _ _ us hl => match us, hl with | [_, _], _ => rfl
  have F18 := fun_mk (st := sFDiv) l18 c18 k18
  have b18 := F18.binds (ps := ["self", "other"]) fun _ _ _ _ _ _ us hl => match us, hl with | [_, _], _ => rfl
  have F19 := fun_mk (st := sMod) l19 c19 k19
  have b19 := F19.binds (ps := ["self", "other"]) fun _ _ _ _ _ _ us hl => match us, hl with | [_, _], _ => rfl
  have F20 := fun_mk (st := sNeg) l20 c20 k20
  have b20 := F20.binds (ps := ["self"]) fun _ _ _ _ _ _ us hl => match us, hl with | [_], _ => rfl
  have F21 := fun_mk (st := sAbs) l21 c21 k21
  have b21 := F21.binds (ps := ["self"]) fun _ _ _ _ _ _ us hl => match us, hl with | [_], _ => rfl
  have F22 := fun_mk (st := sPen) l22 c22 k22
  have b22 := F22.binds (ps := ["_law_script"]) fun _ _ _ _ _ _ us hl => match us, hl with | [_], _ => rfl
  have F23 := fun_mk (st := sDraw) l23 c23 k23
  have b23 := F23.binds (ps := ["_law_pen_here", "_law_many"]) fun _ _ _ _ _ _ us hl => match us, hl with | [_, _], _ => rfl
  have F24 := fun_mk (st := sPick) l24 c24 k24
  have b24 := F24.binds (ps := ["_law_pen_here", "_law_some"]) fun _ _ _ _ _ _ us hl => match us, hl with | [_, _], _ => rfl
  have F25 := fun_mk (st := sInteger) l25 c25 k25
  have b25 := F25.binds (ps := ["_law_pen_here"]) fun _ _ _ _ _ _ us hl => match us, hl with | [_], _ => rfl
  have F26 := fun_mk (st := sPair) l26 c26 k26
  have b26 := F26.binds (ps := ["_law_pen_here"]) fun _ _ _ _ _ _ us hl => match us, hl with | [_], _ => rfl
  have F27 := fun_mk (st := sLowest) l27 c27 k27
  have b27 := F27.binds (ps := ["_law_top", "_law_bottom"]) fun _ _ _ _ _ _ us hl => match us, hl with | [_, _], _ => rfl
  have F28 := fun_mk (st := sRow) l28 c28 k28
  have b28 := F28.binds (ps := ["_law_pen_here"]) fun _ _ _ _ _ _ us hl => match us, hl with | [_], _ => rfl
  have F29 := fun_mk (st := sNumber) l29 c29 k29
  have b29 := F29.binds (ps := ["_law_pair_here"]) fun _ _ _ _ _ _ us hl => match us, hl with | [_], _ => rfl
  have F30 := fun_mk (st := sOrder) l30 c30 k30
  have b30 := F30.binds (ps := ["_law_one", "_law_other"]) fun _ _ _ _ _ _ us hl => match us, hl with | [_, _], _ => rfl
  have F31 := fun_mk (st := sHeard) l31 c31 k31
  have b31 := F31.binds (ps := ["_law_ask"]) fun _ _ _ _ _ _ us hl => match us, hl with | [_], _ => rfl
  have F32 := fun_mk (st := sRest) l32 c32 k32
  have b32 := F32.binds (ps := ["_law_one", "_law_other"]) fun _ _ _ _ _ _ us hl => match us, hl with | [_, _], _ => rfl
  have F33 := fun_mk (st := sSums) l33 c33 k33
  have b33 := F33.binds (ps := ["_law_one", "_law_other", "_law_third"]) fun _ _ _ _ _ _ us hl => match us, hl with | [_, _, _], _ => rfl
  have F34 := fun_mk (st := sLaw) l34 c34 k34
  have b34 := F34.binds (ps := ["_law_script"]) fun _ _ _ _ _ _ us hl => match us, hl with | [_], _ => rfl
  refine ⟨[(cR, Pt)], fun z hz => ?_, fun z hz => ?_, PySem.W.fnOf "law" "law" (defArgs sLaw) (defBody sLaw) (defScope sLaw) .none kV34 dc34 pm34 an34 cd34 ct34, spLaw K Pt, fun s v => .of_eq rfl, fun H a ns hl hT hS => ⟨a, ns, rfl, hS, hl, hT (cR, Pt) (List.mem_cons_self ..), fun _ => rfl⟩, fun base _ _ TB => ?_⟩
  · rw [List.mem_singleton.mp hz]
    exact ⟨PySem.W.codeHd_of_K X chd, eP⟩
  · rw [List.mem_singleton.mp hz]
    exact outP
  have C_is_int : Cal l.prog w K mg base 1 "is_int" f0 _ ["value"] (spIsInt K) := ⟨(ok_isint F0 T), PySem.W.mg_of X G a0, k0, b0⟩
  have S_Ratio_is_number : Sta l.prog w K mg base 2 CR "is_number" p1 f1 _ ["value"] (spIsNum K CR) := ⟨⟨a1, ⟨_, r1⟩, k1⟩, (ok_isnum F1 T T_Ratio C_is_int), b1⟩
  have C_parts_of : Cal l.prog w K mg base 1 "parts_of" f2 _ ["number"] (spParts CR) := ⟨(ok_parts F2 T T_Ratio), PySem.W.mg_of X G a2, k2, b2⟩
  have C__lead : Cal l.prog w K mg base 2 "_lead" f3 _ ["one", "other"] (spLead CR) := ⟨(ok_lead F3 C_parts_of), PySem.W.mg_of X G a3, k3, b3⟩
  have M_Ratio : Mak l.prog w K mg base 2 "Ratio" CR f4 _ ["self", "top", "bottom"] (spRInit CR) := ⟨⟨mkCR, a4, i4, kcCR⟩, (ok_rinit F4 T T_Ratio C_is_int), PySem.W.mg_of X G aCR, b4⟩
  have O_lt : Opr l.prog w K mg base 3 CR "__lt__" f5 _ ["self", "other"] (spCmp CR fun z => decide (z < 0)) := ⟨a5, i5, (ok_lt F5 T_Ratio S_Ratio_is_number C__lead), b5⟩
  have O_le : Opr l.prog w K mg base 3 CR "__le__" f6 _ ["self", "other"] (spCmp CR fun z => decide (z ≤ 0)) := ⟨a6, i6, (ok_le F6 T_Ratio S_Ratio_is_number C__lead), b6⟩
  have O_gt : Opr l.prog w K mg base 3 CR "__gt__" f7 _ ["self", "other"] (spCmp CR fun z => decide (0 < z)) := ⟨a7, i7, (ok_gt F7 T_Ratio S_Ratio_is_number C__lead), b7⟩
  have O_ge : Opr l.prog w K mg base 3 CR "__ge__" f8 _ ["self", "other"] (spCmp CR fun z => decide (0 ≤ z)) := ⟨a8, i8, (ok_ge F8 T_Ratio S_Ratio_is_number C__lead), b8⟩
  have O_eq : Opr l.prog w K mg base 3 CR "__eq__" f9 _ ["self", "other"] (spEqQ CR) := ⟨a9, i9, (ok_eq F9 T_Ratio S_Ratio_is_number C_parts_of), b9⟩
  have S_Ratio_of : Sta l.prog w K mg base 4 CR "of" p10 f10 _ ["number"] (spOfQ CR) := ⟨⟨a10, ⟨_, r10⟩, k10⟩, (ok_of F10 T T_Ratio C_is_int M_Ratio hdv4 bd4), b10⟩
  have D_Ratio_over : Dot l.prog w K mg base 4 CR "over" f11 _ ["self", "number"] (spBin CR (fun _ q => q ≠ 0) fun p q => p / q) := ⟨⟨a11, i11, k11⟩, (ok_over F11 T_Ratio C_parts_of M_Ratio), b11⟩
  have O_add : Opr l.prog w K mg base 4 CR "__add__" f12 _ ["self", "other"] (spBin CR GT fun p q => p + q) := ⟨a12, i12, (ok_add F12 T_Ratio S_Ratio_is_number C_parts_of M_Ratio), b12⟩
  have O_sub : Opr l.prog w K mg base 4 CR "__sub__" f13 _ ["self", "other"] (spBin CR GT fun p q => p - q) := ⟨a13, i13, (ok_sub F13 T_Ratio S_Ratio_is_number C_parts_of M_Ratio), b13⟩
  have O_mul : Opr l.prog w K mg base 4 CR "__mul__" f14 _ ["self", "other"] (spBin CR GT fun p q => p * q) := ⟨a14, i14, (ok_mul F14 T_Ratio S_Ratio_is_number C_parts_of M_Ratio), b14⟩
  have O_radd : Opr l.prog w K mg base 5 CR "__radd__" f15 _ ["self", "other"] (spBin CR GT fun p q => p + q) := ⟨a15, i15, (ok_radd F15 BA O_add), b15⟩
  have O_rmul : Opr l.prog w K mg base 5 CR "__rmul__" f16 _ ["self", "other"] (spBin CR GT fun p q => p * q) := ⟨a16, i16, (ok_rmul F16 BM O_mul), b16⟩
  have C__quotient : Cal l.prog w K mg base 2 "_quotient" f17 _ ["one", "other"] (spQuo CR) := ⟨(ok_quo F17 C_parts_of), PySem.W.mg_of X G a17, k17, b17⟩
  have O_fdiv : Opr l.prog w K mg base 3 CR "__floordiv__" f18 _ ["self", "other"] (spQuo CR) := ⟨a18, i18, (ok_fdiv F18 T_Ratio S_Ratio_is_number C__quotient), b18⟩
  have O_mod : Opr l.prog w K mg base 6 CR "__mod__" f19 _ ["self", "other"] (spMod CR) := ⟨a19, i19, (ok_mod F19 T_Ratio S_Ratio_is_number C__quotient S_Ratio_of BM BS O_mul O_rmul O_sub), b19⟩
  have O_neg : Opr l.prog w K mg base 4 CR "__neg__" f20 _ ["self"] (spUn CR fun p => -p) := ⟨a20, i20, (ok_neg F20 T_Ratio M_Ratio), b20⟩
  have O_abs : Opr l.prog w K mg base 4 CR "__abs__" f21 _ ["self"] (spUn CR Rat.abs) := ⟨a21, i21, (ok_abs F21 T T_Ratio M_Ratio), b21⟩
  have C__law_pen : Cal l.prog w K mg base 1 "_law_pen" f22 _ ["_law_script"] (spPen K) := ⟨(ok_pen F22 T), PySem.W.mg_of X G a22, k22, b22⟩
  have C__law_draw : Cal l.prog w K mg base 1 "_law_draw" f23 _ ["_law_pen_here", "_law_many"] spDraw := ⟨(ok_draw F23 T), PySem.W.mg_of X G a23, k23, b23⟩
  have C__law_pick : Cal l.prog w K mg base 2 "_law_pick" f24 _ ["_law_pen_here", "_law_some"] spPick := ⟨(ok_pick F24 T C__law_draw), PySem.W.mg_of X G a24, k24, b24⟩
  have C__law_integer : Cal l.prog w K mg base 3 "_law_integer" f25 _ ["_law_pen_here"] spInteger := ⟨(ok_integer F25 C__law_draw C__law_pick), PySem.W.mg_of X G a25, k25, b25⟩
  have C__law_pair : Cal l.prog w K mg base 4 "_law_pair" f26 _ ["_law_pen_here"] spPair := ⟨(ok_pair F26 C__law_integer), PySem.W.mg_of X G a26, k26, b26⟩
  have C__law_lowest : Cal l.prog w K mg base 1 "_law_lowest" f27 _ ["_law_top", "_law_bottom"] spLowest := ⟨(ok_lowest F27 T), PySem.W.mg_of X G a27, k27, b27⟩
  have C__law_row : Cal l.prog w K mg base 5 "_law_row" f28 _ ["_law_pen_here"] spRow := ⟨(ok_row F28 T C__law_draw C__law_pick C__law_pair C__law_lowest), PySem.W.mg_of X G a28, k28, b28⟩
  have C__law_number : Cal l.prog w K mg base 4 "_law_number" f29 _ ["_law_pair_here"] (spNumber CR) := ⟨(ok_number F29 M_Ratio), PySem.W.mg_of X G a29, k29, b29⟩
  have G_order : CalG l.prog w K mg base 5 "_law_order_right" f30 _ ["_law_one", "_law_other"] spOrder := ⟨(ok_order F30 T (PySem.W.mg_none_of X G z_repr) T_Ratio neR sO O_lt O_le O_gt O_ge O_eq M_Ratio C__law_number), PySem.W.mg_of X G a30, k30, b30⟩
  have I4 : FnOk l.prog w K mg base (L2.CX l.prog w) 2 f4 _ ["self", "top", "bottom"] (spRInit0 CN) := ok_rinit0 F4 T TN C_is_int
  have I0 : FnOk l.prog w K mg base (L2.CX l.prog w) 4 f11 _ ["self", "number"] (spOver0 CR CN) := ok_over0 F11 T_Ratio C_parts_of M_Ratio.M I4 M_Ratio.b
  have C__law_rest_right : Cal l.prog w K mg base 7 "_law_rest_right" f32 _ ["_law_one", "_law_other"] (spRest K Pt) := ⟨(ok_rest F32 rfl (TB (cR, Pt) (List.mem_cons_self ..)) T T_Ratio neR sO F31 (PySem.W.mg_of X G a31) b31 (PySem.W.mg_of X G aB) TN.mgC (PySem.W.mg_of X G aF) eNB eNN BA BM BF BMo O_lt O_le O_gt O_ge O_eq O_fdiv O_mod O_add O_radd O_mul O_rmul D_Ratio_over I0 M_Ratio C__law_number), PySem.W.mg_of X G a32, k32, b32⟩
  have C__law_sums_right : Cal l.prog w K mg base 6 "_law_sums_right" f33 _ ["_law_one", "_law_other", "_law_third"] spSums := ⟨(ok_sums F33 T T_Ratio neR sO BA BS BM O_lt O_le O_gt O_eq O_add O_sub O_mul O_neg O_abs M_Ratio), PySem.W.mg_of X G a33, k33, b33⟩
  exact ok_law F34 T C__law_pen C__law_row G_order C__law_rest_right C__law_sums_right
theorem walk {l : PySem.W.OpenLaw} {q : Program} {loose : List Str} {XP : (Str → Option Value) → Heap → Prop} {YP : World → Heap → Prop} {d : DefRec} {K : Params → PySem.W.Frag} (hn : l.most = some 63) (hdf : d.params.defaults = [])
    (hY : ∀ (w : World) (h : Heap), YP w h → (K w.params).In h)
    (F : ∀ (w : World) (mg : Str → Option Value) (fa : Addr) (h : Heap), YP w h → (K w.params).In h → h.Ns mainGlobals mg → mg d.name = some (.ref fa) → ∃ tabs, Own.LawG l w (K w.params) 8 63 "_law_script" mg fa h tabs) :
    PySem.W.WalkO q loose XP YP l.row.toRowW d [] (fun f vs => PySem.call f vs) :=
  Own.walk_ofG hn (by decide) hdf ⟨rfl, by decide, by decide⟩ hY F
end Toy
open PySem PySem.W PyProof.Rows
set_option maxRecDepth 100000 in
set_option maxHeartbeats 0 in
theorem PySem.Challenge.cw_anyfifth_k04_whole_ratios_in_order_holds : PySem.Challenge.rw_anyfifth_k04_whole_ratios_in_order.Holds := by
  w_on; o_law; k_head; (case hw => w_witness2)
  k_fill
  refine Toy.walk (l := PySem.Challenge.rw_anyfifth_k04_whole_ratios_in_order) rfl rfl (fun w h Y => PySem.W.km_in_of Y) ?F
  case F =>
    intro w mg fa h Y KX G hmg
    have hT := PySem.W.km_tabs_of Y
    refine' Toy.all_mk KX G hmg ?h_aCR ?h_pgCR ?h_hdCR ?h_poCR ?h_saCR ?h_rdCR ?h_gaCR ?h_caCR ?h_cmCR ?h_sICR ?h_nICR ?h_nCCR ?h_kICR ?h_kBCR ?h_iKCR ?h_kSCR ?h_n_topCR ?h_n_bottomCR ?h_mkCR ?h_kcCR ?h_neR ?h_sO ?h_sIR ?h_sf ?h_cn ?h_ct ?h_z_int ?h_z_len ?h_z_abs ?h_z_list ?h_z_range ?h_z_isinstance ?h_z_bool ?h_z_repr ?h_z_gcd ?h_aN ?h_aB ?h_aF ?h_xN ?h_kN ?h_bN ?h_tN ?h_eNB ?h_eNN ?h_i1Add ?h_i2Add ?h_rAdd ?h_i1Sub ?h_i2Sub ?h_rSub ?h_i1Mult ?h_i2Mult ?h_rMult ?h_i1FloorDiv ?h_i2FloorDiv ?h_rFloorDiv ?h_i1Mod ?h_i2Mod ?h_rMod ?h_tab ?h_chd ?h_outP ?h_eP ?h_a0 ?h_l0 ?h_c0 ?h_k0 ?h_a1 ?h_r1 ?h_l1 ?h_c1 ?h_k1 ?h_a2 ?h_l2 ?h_c2 ?h_k2 ?h_a3 ?h_l3 ?h_c3 ?h_k3 ?h_a4 ?h_i4 ?h_l4 ?h_c4 ?h_k4 ?h_d4 ?h_a5 ?h_i5 ?h_l5 ?h_c5 ?h_k5 ?h_a6 ?h_i6 ?h_l6 ?h_c6 ?h_k6 ?h_a7 ?h_i7 ?h_l7 ?h_c7 ?h_k7 ?h_a8 ?h_i8 ?h_l8 ?h_c8 ?h_k8 ?h_a9 ?h_i9 ?h_l9 ?h_c9 ?h_k9 ?h_a10 ?h_r10 ?h_l10 ?h_c10 ?h_k10 ?h_a11 ?h_i11 ?h_l11 ?h_c11 ?h_k11 ?h_a12 ?h_i12 ?h_l12 ?h_c12 ?h_k12 ?h_a13 ?h_i13 ?h_l13 ?h_c13 ?h_k13 ?h_a14 ?h_i14 ?h_l14 ?h_c14 ?h_k14 ?h_a15 ?h_i15 ?h_l15 ?h_c15 ?h_k15 ?h_a16 ?h_i16 ?h_l16 ?h_c16 ?h_k16 ?h_a17 ?h_l17 ?h_c17 ?h_k17 ?h_a18 ?h_i18 ?h_l18 ?h_c18 ?h_k18 ?h_a19 ?h_i19 ?h_l19 ?h_c19 ?h_k19 ?h_a20 ?h_i20 ?h_l20 ?h_c20 ?h_k20 ?h_a21 ?h_i21 ?h_l21 ?h_c21 ?h_k21 ?h_a22 ?h_l22 ?h_c22 ?h_k22 ?h_a23 ?h_l23 ?h_c23 ?h_k23 ?h_a24 ?h_l24 ?h_c24 ?h_k24 ?h_a25 ?h_l25 ?h_c25 ?h_k25 ?h_a26 ?h_l26 ?h_c26 ?h_k26 ?h_a27 ?h_l27 ?h_c27 ?h_k27 ?h_a28 ?h_l28 ?h_c28 ?h_k28 ?h_a29 ?h_l29 ?h_c29 ?h_k29 ?h_a30 ?h_l30 ?h_c30 ?h_k30 ?h_a31 ?h_l31 ?h_c31 ?h_k31 ?h_a32 ?h_l32 ?h_c32 ?h_k32 ?h_a33 ?h_l33 ?h_c33 ?h_k33 ?h_a34 ?h_l34 ?h_c34 ?h_k34
    (case h_aCR => k_is)
    (case h_pgCR => k_is)
    (case h_hdCR => k_is)
    (case h_poCR => k_is)
    (case h_saCR => k_is)
    (case h_rdCR => k_is)
    (case h_gaCR => k_is)
    (case h_caCR => k_is)
    (case h_cmCR => k_is)
    (case h_sICR => k_is)
    (case h_nICR => k_is)
    (case h_nCCR => k_is)
    (case h_kICR => kit_is)
    (case h_kBCR => kit_is)
    (case h_iKCR => kit_is)
    (case h_kSCR => kit_is)
    (case h_n_topCR => k_is)
    (case h_n_bottomCR => k_is)
    (case h_mkCR => k_is)
    (case h_kcCR => k_is)
    (case h_neR => k_is)
    (case h_sO => k_is)
    (case h_sIR => k_is)
    (case h_sf => k_is)
    (case h_cn => k_is)
    (case h_ct => k_is)
    (case h_z_int => k_is)
    (case h_z_len => k_is)
    (case h_z_abs => k_is)
    (case h_z_list => k_is)
    (case h_z_range => k_is)
    (case h_z_isinstance => k_is)
    (case h_z_bool => k_is)
    (case h_z_repr => k_is)
    (case h_z_gcd => k_is)
    (case h_aN => k_is)
    (case h_aB => k_is)
    (case h_aF => k_is)
    (case h_xN => k_exc)
    (case h_kN => k_is)
    (case h_bN => k_is)
    (case h_tN => k_is)
    (case h_eNB => rfl)
    (case h_eNN => rfl)
    (case h_i1Add => k_is)
    (case h_i2Add => k_is)
    (case h_rAdd => k_is)
    (case h_i1Sub => k_is)
    (case h_i2Sub => k_is)
    (case h_rSub => k_is)
    (case h_i1Mult => k_is)
    (case h_i2Mult => k_is)
    (case h_rMult => k_is)
    (case h_i1FloorDiv => k_is)
    (case h_i2FloorDiv => k_is)
    (case h_rFloorDiv => k_is)
    (case h_i1Mod => k_is)
    (case h_i2Mod => k_is)
    (case h_rMod => k_is)
    (case h_tab => rfl)
    (case h_chd => rfl)
    (case h_outP => rfl)
    (case h_eP => exact hT _ (by decide))
    (case h_a0 => k_is)
    (case h_l0 => k_is)
    (case h_c0 => k_is)
    (case h_k0 => k_is)
    (case h_a1 => k_is)
    (case h_r1 => k_is)
    (case h_l1 => k_is)
    (case h_c1 => k_is)
    (case h_k1 => k_is)
    (case h_a2 => k_is)
    (case h_l2 => k_is)
    (case h_c2 => k_is)
    (case h_k2 => k_is)
    (case h_a3 => k_is)
    (case h_l3 => k_is)
    (case h_c3 => k_is)
    (case h_k3 => k_is)
    (case h_a4 => k_is)
    (case h_i4 => k_is)
    (case h_l4 => k_is)
    (case h_c4 => k_is)
    (case h_k4 => k_is)
    (case h_d4 => k_is)
    (case h_a5 => k_is)
    (case h_i5 => k_is)
    (case h_l5 => k_is)
    (case h_c5 => k_is)
    (case h_k5 => k_is)
    (case h_a6 => k_is)
    (case h_i6 => k_is)
    (case h_l6 => k_is)
    (case h_c6 => k_is)
    (case h_k6 => k_is)
    (case h_a7 => k_is)
    (case h_i7 => k_is)
    (case h_l7 => k_is)
    (case h_c7 => k_is)
    (case h_k7 => k_is)
    (case h_a8 => k_is)
    (case h_i8 => k_is)
    (case h_l8 => k_is)
    (case h_c8 => k_is)
    (case h_k8 => k_is)
    (case h_a9 => k_is)
    (case h_i9 => k_is)
    (case h_l9 => k_is)
    (case h_c9 => k_is)
    (case h_k9 => k_is)
    (case h_a10 => k_is)
    (case h_r10 => k_is)
    (case h_l10 => k_is)
    (case h_c10 => k_is)
    (case h_k10 => k_is)
    (case h_a11 => k_is)
    (case h_i11 => k_is)
    (case h_l11 => k_is)
    (case h_c11 => k_is)
    (case h_k11 => k_is)
    (case h_a12 => k_is)
    (case h_i12 => k_is)
    (case h_l12 => k_is)
    (case h_c12 => k_is)
    (case h_k12 => k_is)
    (case h_a13 => k_is)
    (case h_i13 => k_is)
    (case h_l13 => k_is)
    (case h_c13 => k_is)
    (case h_k13 => k_is)
    (case h_a14 => k_is)
    (case h_i14 => k_is)
    (case h_l14 => k_is)
    (case h_c14 => k_is)
    (case h_k14 => k_is)
    (case h_a15 => k_is)
    (case h_i15 => k_is)
    (case h_l15 => k_is)
    (case h_c15 => k_is)
    (case h_k15 => k_is)
    (case h_a16 => k_is)
    (case h_i16 => k_is)
    (case h_l16 => k_is)
    (case h_c16 => k_is)
    (case h_k16 => k_is)
    (case h_a17 => k_is)
    (case h_l17 => k_is)
    (case h_c17 => k_is)
    (case h_k17 => k_is)
    (case h_a18 => k_is)
    (case h_i18 => k_is)
    (case h_l18 => k_is)
    (case h_c18 => k_is)
    (case h_k18 => k_is)
    (case h_a19 => k_is)
    (case h_i19 => k_is)
    (case h_l19 => k_is)
    (case h_c19 => k_is)
    (case h_k19 => k_is)
    (case h_a20 => k_is)
    (case h_i20 => k_is)
    (case h_l20 => k_is)
    (case h_c20 => k_is)
    (case h_k20 => k_is)
    (case h_a21 => k_is)
    (case h_i21 => k_is)
    (case h_l21 => k_is)
    (case h_c21 => k_is)
    (case h_k21 => k_is)
    (case h_a22 => k_is)
    (case h_l22 => k_is)
    (case h_c22 => k_is)
    (case h_k22 => k_is)
    (case h_a23 => k_is)
    (case h_l23 => k_is)
    (case h_c23 => k_is)
    (case h_k23 => k_is)
    (case h_a24 => k_is)
    (case h_l24 => k_is)
    (case h_c24 => k_is)
    (case h_k24 => k_is)
    (case h_a25 => k_is)
    (case h_l25 => k_is)
    (case h_c25 => k_is)
    (case h_k25 => k_is)
    (case h_a26 => k_is)
    (case h_l26 => k_is)
    (case h_c26 => k_is)
    (case h_k26 => k_is)
    (case h_a27 => k_is)
    (case h_l27 => k_is)
    (case h_c27 => k_is)
    (case h_k27 => k_is)
    (case h_a28 => k_is)
    (case h_l28 => k_is)
    (case h_c28 => k_is)
    (case h_k28 => k_is)
    (case h_a29 => k_is)
    (case h_l29 => k_is)
    (case h_c29 => k_is)
    (case h_k29 => k_is)
    (case h_a30 => k_is)
    (case h_l30 => k_is)
    (case h_c30 => k_is)
    (case h_k30 => k_is)
    (case h_a31 => k_is)
    (case h_l31 => k_is)
    (case h_c31 => k_is)
    (case h_k31 => k_is)
    (case h_a32 => k_is)
    (case h_l32 => k_is)
    (case h_c32 => k_is)
    (case h_k32 => k_is)
    (case h_a33 => k_is)
    (case h_l33 => k_is)
    (case h_c33 => k_is)
    (case h_k33 => k_is)
    (case h_a34 => k_is)
    (case h_l34 => k_is)
    (case h_c34 => k_is)
    (case h_k34 => k_is)
