import PyProof.Rows.All
import Wide.All
import OpenK.AllK
import Wide.FinOn
import HandS.ForMost
import HandS.Wide
import HandS.Gcd
import HandS.Codes
import HandS.IsInst
import HandS.ClsMeth
import HandS.Property
import HandS.OwnEq
import HandS.Defaults
import KE.KEqSeq
import KE.KOpsOwn
import PyProof.InstEq
import HandS.Star
import HandS.Style
import HandS.RaiseMore
import HandS.Exc
import HandS.TryMany
import HandS.EndTab
import HandS.List
import PyProof.ReprRoads
import KE.RegKIsAll
import KE.KNestM
import PySem.Challenge.RW_anyfifth_k63_keys_hit_first
set_option Elab.async false
set_option maxRecDepth 100000
set_option maxHeartbeats 4000000
/-! Rules of our own: static methods, comparisons by the text's own operators. -/
namespace Own
open PySem PySem.Spec PyProof.Rows L2
open AutoSeq1 (wpAny_loadPart')

section
variable {X : Cx} {pins : List (Addr × Obj)} {σ : L2.St} {H : Hp} {s : Shared} {C p f : Addr} {mc : Value} {m : Str} {A : Around} {E : Value → Shared → Prop}
/-- C.m is a static method: its record at p, its def at f -/
structure SMet (K : PySem.W.Frag) (C : Addr) (mc : Value) (m : Str) (p f : Addr) : Prop where
  at_ : PySem.W.findCls K (.ref C) mc m = some (.get (.builtin "staticmethod.__get__") (.ref p) .none (.ref C))
  rc : ∃ rest, PySem.W.recIn K p "staticmethod" = some (.ref f :: rest)
  kp : PySem.W.keepIn K (.ref f) = true
theorem getsm_ok {b : Bool} {Q : Value → Shared → Prop} (I : Inv X pins σ H s) (r : ClX.CRead X.K C mc) (k : SMet X.K C mc m p f) (h : ∀ s', Inv X pins σ H s' → Q (.ref f) s') : wpAny (model X.prog X.w) A (getAttr (.ref C) m b) Q E s := by
  obtain ⟨rest, hp⟩ := k.rc
  refine PySem.W.cls_bind I.kIn r.rd k.at_ ?_
  refine wpAny_call (PySem.W.sm_get (s := { s with toks := s.toks + 1 }) I.kIn hp (PySem.W.handed_on rfl ?_))
  exact h _ (I.tok _)
def tSMeth (C : Addr) (sp : Sp) (E : XK) (ta : TE) (t : TA) : TE := fun σ H Q => ta σ H fun x H1 => x = .ref C ∧ t σ H1 fun vs H2 => sp (vs ++ []) H2 Q E
end
section
variable {X : Cx} {CX : CXT} {k : Nat} {C p f : Addr} {mc : Value} {sp : Sp} {E : XK} {o e : Expr} {es : List Expr} {m : Str} {pos apos : Pos} {ta : TE} {t : TA} {pl : Sem Bool} {fd : FuncData} {ps : List Str}
theorem pe_smeth (r : ClX.CRead X.K C mc) (c : SMet X.K C mc m p f) (F : FnOk X.prog X.w X.K X.mg X.base CX k f fd ps sp) (hr : Room k X.A) (hb : Binds X.K fd ps []) (hx : Passes CX X E) (he : PE X o ta) (ha : PA X (e :: es) t)
    (hst : starEach (e :: es) X.env = (false, eval e X.env) :: starEach es X.env := by rfl) (hpl : (backTo pos (starEach es X.env)).any (·.1) = false := by rfl)
    (ht : eval (.Call (.Attribute o m apos) (e :: es) [] pos) X.env = (do
      let ov ← eval o X.env
      standAt apos.atName
      let (f, first) ← holding [ov] (getMethod ov m pl)
      callWith pos f first (backTo pos (starEach (e :: es) X.env)) (backToKw pos (keywordEach [] X.env))) := by rfl) :
    PE X (.Call (.Attribute o m apos) (e :: es) [] pos) (tSMeth C sp E ta t) := by
  refine ⟨fun pins s σ H Q I h => ?_⟩
  refine PySem.W.methodCall_KW (pl := pl) (thn (he.run pins s σ H _ I h) fun u s1 ⟨x, H1, I1, rx, ex, q⟩ => ?_) ht
  subst ex
  obtain rfl : u = Value.ref C := rx
  refine PySem.W.method_cls I1.kIn r.ga (getsm_ok I1 r c fun s2 I2 => ?_)
  refine PySem.W.callWith_K (first := []) (h₀ := X.base) I.ok.mod.kin c.kp (thn (ha.run pos pins s2 σ H1 _ I2 q) fun us s3 ⟨vs, H2, I3, rv, q2⟩ => ⟨I3.kIn, ?_⟩) hst hpl
  exact run_fn F hr hb .nil hx I3 rv q2
end

theorem pe_gref {X : Cx} {x : Str} {a : Addr} {pos : Pos} (hg : Gl X x) (hm : X.mg x = some (.ref a)) (hd : (x == ("__debug__" : Str)) = false := by decide) : PE X (.Name x pos) (tC (.ref a)) := pe_glob hg hm rfl hd
/-! ### calls with keywords alone -/
def tMethK0 (C : Addr) (m : Str) (n : Nat) (sp : Sp) (gV : List V → List V → List V) (E : XK) (ta : TE) (tk : TA) : TE := fun σ H Q => ta σ H fun x H1 => ∃ a dx fs, x = .ref a ∧ H1 a = some (.ins C dx fs) ∧ fs.lookup m = none ∧
  tk σ H1 fun zs H2 => zs.length = n ∧ sp (gV [x] zs) H2 Q E
section
variable {X : Cx} {CX : CXT} {k : Nat} {C p f : Addr} {sp : Sp} {E : XK} {o : Expr} {m : Str} {pos apos : Pos} {ta : TE} {tk : TA} {pl : Sem Bool} {fd : FuncData} {ps ks : List Str} {kws : List Keyword}
  {g : List Value → List Value → List Value} {gV : List V → List V → List V}
theorem pe_methK0 (he : PE X o ta) (c : Cls X.K C) (hm : Meth X.K C m f) (F : FnOk X.prog X.w X.K X.mg X.base CX k f fd ps sp) (hr : Room k X.A) (hb : KBn X.K fd ps 1 ks g gV) (hx : Passes CX X E) (hkw : PK X kws tk)
    (hall : (backToKw pos (keywordEach kws X.env)).all (·.1.isSome) = true := by rfl) (hks : (backToKw pos (keywordEach kws X.env)).filterMap (·.1) = ks := by rfl)
    (hpl : ((backTo pos (starEach [] X.env)).any (·.1) || (backToKw pos (keywordEach kws X.env)).any (·.1.isNone)) = false := by rfl)
    (ht : eval (.Call (.Attribute o m apos) [] kws pos) X.env = (do
      let ov ← eval o X.env
      standAt apos.atName
      let (f, first) ← holding [ov] (getMethod ov m pl)
      callWith pos f first (backTo pos (starEach [] X.env)) (backToKw pos (keywordEach kws X.env))) := by rfl) :
    PE X (.Call (.Attribute o m apos) [] kws pos) (tMethK0 C m ks.length sp gV E ta tk) := by
  refine ⟨fun pins s σ H Q I h => ?_⟩
  refine PySem.W.methodCall_KW (pl := pl) (thn (he.run pins s σ H _ I h) fun u s1 ⟨x, H1, I1, rx, a, dx, fs, ex, ea, l, q⟩ => ?_) ht
  subst ex
  obtain rfl : u = Value.ref a := rx
  refine getmeth_ok I1 ea c hm l ?_
  refine PySem.W.callWith_KW0 (first := [.ref a]) (h₀ := X.base) I.ok.mod.kin hm.kp hall (thn (hkw.run pos pins s1 σ H1 _ I1 q) fun ws s2 ⟨zs, H2, I2, rz, hl, q2⟩ => ⟨I2.kIn, ?_⟩) hpl
  rw [hks]
  exact run_fnN (us := [.ref a]) (vs := [.ref a]) F hr hb hx I2 (.cons rfl .nil) rz rfl hl q2
end
/-! ### comparisons by own operators -/
section
variable {X : Cx} {CX : CXT} {k : Nat} {C f : Addr} {fd : FuncData} {ps : List Str} {sp : Sp} {E : XK} {op : CmpOp}
/-- the left one is an instance with the operator -/
def rOwnC (K : PySem.W.Frag) (C : Addr) (sp : Sp) (E : XK) : R2 := fun x y H Q => ∃ a dx fs t, x = .ref a ∧ H a = some (.ins C dx fs) ∧ TyX K H y t ∧ PySem.W.notFirst K C t = true ∧ sp [x, y] H (fun v H' => (∃ b, v = .bl b) ∧ Q v H') E
theorem op_ownC (F : FnOk X.prog X.w X.K X.mg X.base CX k f fd ps sp) (hr : Room k X.A) (hs : PySem.W.findIn X.K (.ref C) (cmpInfo op).2.1 = some (some (.ref f))) (hf : PySem.W.isFn X.K (.ref f) = true) (hb : Binds X.K fd ps []) (hx : Passes CX X E)
    (hop : ∀ a b, compareOp op a b = richCompare op a b := by intros; rfl) : OpR X (compareOp op) (rOwnC X.K C sp E) := by
  intro pins s σ H x y u v Q I rx ry h
  obtain ⟨a, dx, fs, t, rfl, ha, ty, nf, hsp⟩ := h
  cases rx
  obtain ⟨mA, J, _⟩ := ins_get I.hok ha
  obtain ⟨od, J, _⟩ := J.look
  obtain ⟨m, hF⟩ := I.fr
  obtain ⟨Pk, Z, pk, _⟩ := kit_of I ry ty
  rw [hop]
  refine PySem.W.cmp_K (op := op) (tb := t) hr.units0 hF I.ok.mod.kin J (Z.ty _ _ I.kIn pk) nf hs hf ?_
  have r2 : Vals [V.ref a, y] [Value.ref a, v] := .cons rfl (.cons ry .nil)
  refine wpAny_mono (run_fn F hr hb .nil hx I r2 hsp) (fun w s' q => ?_) fun _ _ e => e
  obtain ⟨v', H', I', rv, ⟨b, rfl⟩, q⟩ := q
  cases rv
  exact ⟨.bl b, H', I', rfl, q⟩

/-- an int on the left, an instance with the reflected operator on the right -/
def rReflC (C : Addr) (sp : Sp) (E : XK) : R2 := fun x y H Q => ∃ i a dx fs, x = .int i ∧ y = .ref a ∧ H a = some (.ins C dx fs) ∧ sp [y, x] H (fun v H' => (∃ b, v = .bl b) ∧ Q v H') E
theorem op_reflC {id : String} {B : Builtin} (F : FnOk X.prog X.w X.K X.mg X.base CX k f fd ps sp) (hr : Room k X.A) (hs : PySem.W.findIn X.K (.ref C) (cmpInfo op).2.2 = some (some (.ref f))) (hf : PySem.W.isFn X.K (.ref f) = true)
    (hsub : PySem.W.subIn X.K (.ref C) (.type "int") = some false) (hb : Binds X.K fd ps []) (hx : Passes CX X E)
    (slot : Slot "int" (cmpInfo op).2.1 id) (entry : entryFor table id = some B) (args : ∀ a b, argsOk id ⟨[a, b], []⟩)
    (dec : ∀ (b : Int) (u : Tok) (l : Addr) (C dx : Addr), Meets (B ⟨[.int b u, .ref l], []⟩) (fun _ R s => s.heap.get? l = some (PySem.W.instObj C dx) ∧ R (.ok (.ret .notImplemented)) s))
    (hne : op ≠ .Eq ∧ op ≠ .NotEq) (hop : ∀ a b, compareOp op a b = richCompare op a b := by intros; rfl) : OpR X (compareOp op) (rReflC C sp E) := by
  intro pins s σ H x y u v Q I rx ry h
  obtain ⟨i, a, dx, fs, rfl, rfl, ha, hsp⟩ := h
  obtain ⟨t, rfl⟩ := rx
  cases ry
  obtain ⟨mA, O, _⟩ := ins_get I.hok ha
  obtain ⟨od, J, _⟩ := O.look
  have ho : s.heap.get? a = some (PySem.W.instObj C dx) := by
    obtain ⟨_, _, _, e, _⟩ := I.hok a _ ha
    exact e
  have KX := I.kIn
  rw [hop]
  have one : wpAny (model X.prog X.w) X.A (tryCompare (.ref a) (cmpInfo op).2.2 (.int i t)) (fun r s' => ∃ v, r = some v ∧ EP X pins σ Q v s') X.xe s := by
    unfold tryCompare
    have r2 : Vals [V.ref a, V.int i] [Value.ref a, Value.int i t] := .cons rfl (.cons ⟨t, rfl⟩ .nil)
    refine wpAny_bind (PySem.W.ifBound_K KX J hs hf (wpAny_mono (run_fn F hr hb .nil hx I r2 hsp) (fun v s' hv => ?_) fun _ _ e => e))
    obtain ⟨v', H', I', rv, ⟨b, rfl⟩, q⟩ := hv
    cases rv
    exact wpAny_pure ⟨_, rfl, .bl b, H', I', rfl, q⟩
  have hT := typeIs_int s i t
  unfold richCompare
  simp only [hT.oneThing_none]
  refine wpAny_holding (wpAny_bind (wpAny_cRoomFor hr.units0 ?_))
  refine wpAny_bind (wpAny_typeOf hT (wpAny_bind (J.type.here ?_)))
  have hne1 : (Value.type "int" != Value.ref C) = true := rfl
  simp only [hne1, if_true]
  refine wpAny_bind ((PySem.W.looks_subIn KX hsub).here ?_)
  simp only [Bool.false_eq_true, if_false, Bool.not_false, if_true]
  refine wpAny_bind (m := tryCompare (.int i t) _ (.ref a)) (wpAny_tryCompare_declines hT slot (call_meets slot hT entry (args _ _) (dec i t a C dx) ⟨ho, rfl, ?_⟩))
  refine wpAny_bind (wpAny_mono one (fun r s' z => ?_) fun _ _ e => e)
  obtain ⟨v, rfl, hq⟩ := z
  exact wpAny_pure hq
end
theorem int_le_dec (b : Int) (u : Tok) (l : Addr) (C dx : Addr) :
    Meets (Builtin.«int.__le__» ⟨[.int b u, .ref l], []⟩) (fun _ R s => s.heap.get? l = some (PySem.W.instObj C dx) ∧ R (.ok (.ret .notImplemented)) s) :=
  .of_wp fun prog w A R s h => by obtain ⟨hp, g, d, tk, os⟩ := s; obtain ⟨hl, h⟩ := h; wp_walk using wpAny_loadPart' hl, wpAny_load hl; exact ⟨_, rfl, h⟩
theorem int_lt_dec (b : Int) (u : Tok) (l : Addr) (C dx : Addr) :
    Meets (Builtin.«int.__lt__» ⟨[.int b u, .ref l], []⟩) (fun _ R s => s.heap.get? l = some (PySem.W.instObj C dx) ∧ R (.ok (.ret .notImplemented)) s) :=
  .of_wp fun prog w A R s h => by obtain ⟨hp, g, d, tk, os⟩ := s; obtain ⟨hl, h⟩ := h; wp_walk using wpAny_loadPart' hl, wpAny_load hl; exact ⟨_, rfl, h⟩
end Own
set_option maxRecDepth 100000
set_option maxHeartbeats 4000000
/-! Rules of our own: arithmetic by the text's own operators, != by its own ==, abs and minus. -/
namespace Own
open PySem PySem.Spec PyProof.Rows L2
open AutoSeq1 (wpAny_loadPart')
theorem relV_back {v : V} {u : Value} {s' : Shared} {Q : Value → Shared → Prop} (r : RelV v u) (q : Q u s') : PySem.W.CmpBack Q u s' := by
  cases v <;> first | (obtain ⟨t, rfl⟩ := r; exact q) | (obtain rfl := r; exact q)
section
variable {X : Cx} {CX : CXT} {k : Nat} {C f : Addr} {fd : FuncData} {ps : List Str} {sp : Sp} {E : XK} {op : Operator}
/-- an own method in the place of an operator: an instance at the left, the same class or an int at the right -/
def rOwnB (C : Addr) (sp : Sp) (E : XK) : R2 := fun x y H Q => ∃ a dx fs, x = .ref a ∧ H a = some (.ins C dx fs) ∧ ((∃ j, y = .int j) ∨ ∃ b dy gs, y = .ref b ∧ H b = some (.ins C dy gs)) ∧ sp [x, y] H Q E
theorem op_ownB {fo ro rc : Option Value} (F : FnOk X.prog X.w X.K X.mg X.base CX k f fd ps sp) (hr : Room k X.A) (hs : PySem.W.findIn X.K (.ref C) (PySem.dunder op.info.2) = some (some (.ref f))) (hf : PySem.W.isFn X.K (.ref f) = true)
    (hc : PySem.W.selfFirst X.K C = true) (hR : PySem.W.findIn X.K (.ref C) (dunderR op.info.2) = some rc) (hp : rc = none ∨ ∃ g : Addr, rc = some (.ref g)) (h1 : PySem.W.findIn X.K (.type "int") (PySem.dunder op.info.2) = some fo)
    (h2 : PySem.W.findIn X.K (.type "int") (dunderR op.info.2) = some ro) (hsub : PySem.W.subIn X.K (.type "int") (.ref C) = some false) (hb : Binds X.K fd ps []) (hx : Passes CX X E) : OpR X (binaryOp op) (rOwnB C sp E) := by
  intro pins s σ H x y u v Q I rx ry h
  obtain ⟨a, dx, fs, rfl, ha, hy, hsp⟩ := h
  cases rx
  obtain ⟨mA, J, _⟩ := ins_get I.hok ha
  obtain ⟨od, J, _⟩ := J.look
  obtain ⟨m, hF⟩ := I.fr
  have r2 : Vals [V.ref a, y] [Value.ref a, v] := .cons rfl (.cons ry .nil)
  have fin : wpAny (model X.prog X.w) X.A (call (.ref f) [.ref a, v]) (PySem.W.CmpBack (EP X pins σ Q)) X.xe s := wpAny_mono (run_fn F hr hb .nil hx I r2 hsp) (fun w s' q => by
    obtain ⟨v', H', I', rv, q⟩ := q
    exact relV_back rv ⟨v', H', I', rv, q⟩) fun _ _ e => e
  rcases hy with ⟨j, rfl⟩ | ⟨b, dy, gs, rfl, hb'⟩
  · obtain ⟨t, rfl⟩ := ry
    exact PySem.W.ksp_binT (T := "int") hF I.ok.mod.kin J rfl hc hs hf hR hp h1 h2 hsub fin
  · cases ry
    obtain ⟨mB, J', _⟩ := ins_get I.hok hb'
    obtain ⟨od', J', _⟩ := J'.look
    exact PySem.W.binop_K hF I.ok.mod.kin J J'.type hc hs hf fin

/-- an int at the left, an instance with the reflected operator at the right -/
def rReflB (C : Addr) (sp : Sp) (E : XK) : R2 := fun x y H Q => ∃ i a dx fs, x = .int i ∧ y = .ref a ∧ H a = some (.ins C dx fs) ∧ sp [y, x] H Q E
theorem op_reflB {f0 : Addr} {id : String} {B : Builtin} (F : FnOk X.prog X.w X.K X.mg X.base CX k f fd ps sp) (hr : Room k X.A) (hs : PySem.W.findIn X.K (.ref C) (dunderR op.info.2) = some (some (.ref f))) (hf : PySem.W.isFn X.K (.ref f) = true)
    (hs0 : PySem.W.findIn X.K (.ref C) (PySem.dunder op.info.2) = some (some (.ref f0))) (hc : PySem.W.selfFirst X.K C = true) (hsub : PySem.W.subIn X.K (.ref C) (.type "int") = some false) (hb : Binds X.K fd ps []) (hx : Passes CX X E)
    (fills : fillsNumberSlot (.type "int") op.info.2 = pure true) (slot : Slot "int" (PySem.dunder op.info.2) id) (entry : entryFor table id = some B) (args : ∀ a b, argsOk id ⟨[a, b], []⟩)
    (dec : ∀ (b : Int) (u : Tok) (l : Addr) (C dx : Addr), Meets (B ⟨[.int b u, .ref l], []⟩) (fun _ R s => s.heap.get? l = some (PySem.W.instObj C dx) ∧ R (.ok (.ret .notImplemented)) s)) : OpR X (binaryOp op) (rReflB C sp E) := by
  intro pins s σ H x y u v Q I rx ry h
  obtain ⟨i, a, dx, fs, rfl, rfl, ha, hsp⟩ := h
  obtain ⟨t, rfl⟩ := rx
  cases ry
  obtain ⟨mA, O, _⟩ := ins_get I.hok ha
  obtain ⟨od, J, _⟩ := O.look
  have ho : s.heap.get? a = some (PySem.W.instObj C dx) := by
    obtain ⟨_, _, _, e, _⟩ := I.hok a _ ha
    exact e
  have KX := I.kIn
  obtain ⟨cd, rest, hcd, hm⟩ := PySem.W.ksp_first hc
  rcases hi : op.info with ⟨sym, nm⟩
  rw [hi] at hs hs0 fills slot
  dsimp only at hs hs0 fills slot
  have one : wpAny (model X.prog X.w) X.A (tryMethod (.ref a) (dunderR nm) (.int i t)) (fun r s' => ∃ v, r = some v ∧ EP X pins σ Q v s') X.xe s := by
    have r2 : Vals [V.ref a, V.int i] [Value.ref a, Value.int i t] := .cons rfl (.cons ⟨t, rfl⟩ .nil)
    refine PySem.W.ksp_try KX J hs hf (wpAny_mono (run_fn F hr hb .nil hx I r2 hsp) (fun v s' hv => ?_) fun _ _ e => e)
    obtain ⟨v', H', I', rv, q⟩ := hv
    exact relV_back rv ⟨v', H', I', rv, q⟩
  have hT := typeIs_int s i t
  have L3 : PySem.W.Looks (model X.prog X.w) s.heap (fillsNumberSlot (.ref C) nm) true := PySem.W.fills_K KX hcd hm hs0
  have hne : (Value.type "int" == Value.ref C) = false := Bool.eq_false_iff.mpr fun q => by cases beq_iff_eq.mp q
  have hpy : numberSlotInPython (.type "int") nm = pure false := rfl
  simp only [binaryOp, hi]
  refine wpAny_holding (wpAny_bind ?_)
  unfold binaryOp1
  refine wpAny_bind (wpAny_typeOf hT (wpAny_bind (J.type.here (wpAny_bind (wpAny_of_eq fills ?_)))))
  simp only [hne, Bool.false_eq_true, if_false]
  refine wpAny_bind (L3.here ?_)
  simp only [Bool.and_self, if_true]
  refine wpAny_bind ((PySem.W.looks_subIn KX hsub).here ?_)
  simp only [Bool.false_eq_true, if_false, pure_bind, Bool.not_false, Bool.and_self, if_true, hpy]
  refine wpAny_bind (wpAny_tryMethod_declines hT slot (call_meets slot hT entry (args _ _) (dec i t a C dx) ⟨ho, rfl, ?_⟩))
  dsimp only
  refine wpAny_bind (wpAny_mono one (fun r s' z => ?_) fun _ _ e => e)
  obtain ⟨v, rfl, hq⟩ := z
  exact wpAny_bind (wpAny_rule (wpAny_pure (wpAny_pure hq)))

/-- minus an instance -/
def rNeg (C : Addr) (sp : Sp) (E : XK) : V → Hp → VK → Prop := fun x H Q => ∃ a dx fs, x = .ref a ∧ H a = some (.ins C dx fs) ∧ sp [x] H Q E
theorem un_ownNeg (F : FnOk X.prog X.w X.K X.mg X.base CX k f fd ps sp) (hr : Room k X.A) (hs : PySem.W.findIn X.K (.ref C) "__neg__" = some (some (.ref f))) (hf : PySem.W.isFn X.K (.ref f) = true) (hb : Binds X.K fd ps []) (hx : Passes CX X E) :
    UnR X (unaryOp .USub) (rNeg C sp E) := by
  intro pins s σ H x v Q I rx h
  obtain ⟨a, dx, fs, rfl, ha, hsp⟩ := h
  cases rx
  obtain ⟨mA, J, _⟩ := ins_get I.hok ha
  obtain ⟨od, J, _⟩ := J.look
  obtain ⟨m, hF⟩ := I.fr
  exact PySem.W.ksp_neg hF I.ok.mod.kin J hs hf (run_fn F hr hb .nil hx I (vs := [.ref a]) (.cons rfl .nil) hsp)

/-- at any place below the body -/
theorem run_fnA {pins : List (Addr × Obj)} {σ : L2.St} {H : Hp} {s : Shared} {Q : VK} {us : List Value} {vs : List V} {A : Around} (F : FnOk X.prog X.w X.K X.mg X.base CX k f fd ps sp) (hr : Room k A) (hA : A.frames = X.A.frames) (hb : Binds X.K fd ps []) (hx : Passes CX X E)
    (I : Inv X pins σ H s) (r : Vals vs us) (h : sp vs H Q E) : wpAny (model X.prog X.w) A (call (.ref f) us) (EP X pins σ Q) X.xe s := by
  have hl : us.length = ps.length := by rw [← r.length]; exact F.len _ _ _ _ h
  have e0 : Env0 X.prog X.w X.K X.mg X.base A X.stack s H := by
    have e := I.env0
    exact ⟨by rw [hA]; exact e.frames, e.mod, e.bs, e.bsz, e.funs, e.frf, e.hok, e.bare⟩
  refine wpAny_call (codeAny_mono (F.run A X.stack s H ⟨us, []⟩ us vs Q E hr e0 (by
    have := hb s us I.kIn (by rw [List.append_nil]; exact hl)
    rwa [List.append_nil] at this) r h) fun r s' hq => ?_)
  cases r with
  | error e => exact hx pins σ H s e s' I hq
  | ok fl =>
    cases fl with
    | ret u => exact I.after hq
    | next => exact False.elim hq
    | brk => exact False.elim hq
    | cont => exact False.elim hq

/-! ### == and != by an own == -/
/-- an own ==: gives a bool -/
def rEqL (C : Addr) (sp : Sp) (E : XK) (g : Bool → Bool) : R2 := fun x y H Q => ∃ a dx fs, x = .ref a ∧ H a = some (.ins C dx fs) ∧ ((∃ j, y = .int j) ∨ ∃ b dy gs, y = .ref b ∧ H b = some (.ins C dy gs)) ∧ sp [x, y] H (fun v H' => ∃ b, v = .bl b ∧ Q (.bl (g b)) H') E
def rEqR (C : Addr) (sp : Sp) (E : XK) (g : Bool → Bool) : R2 := fun x y H Q => ∃ i a dx fs, x = .int i ∧ y = .ref a ∧ H a = some (.ins C dx fs) ∧ sp [y, x] H (fun v H' => ∃ b, v = .bl b ∧ Q (.bl (g b)) H') E
theorem op_eqL (F : FnOk X.prog X.w X.K X.mg X.base CX k f fd ps sp) (hr : Room k X.A) (hs : PySem.W.findIn X.K (.ref C) "__eq__" = some (some (.ref f))) (hf : PySem.W.isFn X.K (.ref f) = true) (hn : PySem.W.notFirst X.K C (.type "int") = true) (hb : Binds X.K fd ps []) (hx : Passes CX X E) :
    OpR X (compareOp .Eq) (rEqL C sp E fun b => b) := by
  intro pins s σ H x y u v Q I rx ry h
  obtain ⟨a, dx, fs, rfl, ha, hy, hsp⟩ := h
  cases rx
  obtain ⟨mA, J, _⟩ := ins_get I.hok ha
  obtain ⟨od, J, _⟩ := J.look
  obtain ⟨m, hF⟩ := I.fr
  have r2 : Vals [V.ref a, y] [Value.ref a, v] := .cons rfl (.cons ry .nil)
  have fin : wpAny (model X.prog X.w) X.A (call (.ref f) [.ref a, v]) (PySem.W.CmpBack (EP X pins σ Q)) X.xe s := wpAny_mono (run_fn F hr hb .nil hx I r2 hsp) (fun w s' q => by
    obtain ⟨v', H', I', rv, b, rfl, q⟩ := q
    cases rv
    exact ⟨.bl b, H', I', rfl, q⟩) fun _ _ e => e
  show wpAny (model X.prog X.w) X.A (richCompare .Eq (.ref a) v) (EP X pins σ Q) X.xe s
  rcases hy with ⟨j, rfl⟩ | ⟨b, dy, gs, rfl, hb'⟩
  · obtain ⟨t, rfl⟩ := ry
    exact PySem.W.cmp_K (op := .Eq) (tb := .type "int") hr.units0 hF I.ok.mod.kin J (PySem.W.Looks.of_pure rfl) hn hs hf fin
  · cases ry
    obtain ⟨mB, J', _⟩ := ins_get I.hok hb'
    obtain ⟨od', J', _⟩ := J'.look
    exact PySem.W.cmp_K (op := .Eq) (tb := .ref C) hr.units0 hF I.ok.mod.kin J J'.type (by simp [PySem.W.notFirst]) hs hf fin
theorem bind_ne (self : Value) : bindSpecial (.builtin "object.__ne__") self = pure (.builtin "object.__ne__", [self]) :=
  (Slot.of (T := "object") (name := "__ne__") (owner := "object") (n := "__ne__") (by rw [typeLookup_type, builtinLookup_eq_fast]; kernel_rfl) (by decide +kernel) (by decide +kernel) (by decide +kernel)
    (.inl (by decide +kernel)) (by rw [isSubtype_type]; kernel_rfl)).bind self
theorem plain_ne : plainId "object.__ne__" = true := by decide +kernel
/-- x.__ne__(y) of an instance without its own one -/
theorem try_ne {pins : List (Addr × Obj)} {σ : L2.St} {H : Hp} {s : Shared} {a dx : Addr} {fs : List (Str × V)} {y : V} {v : Value} {Q : VK} (F : FnOk X.prog X.w X.K X.mg X.base CX k f fd ps sp) (hr : Room (k + 1) X.A) (hs : PySem.W.findIn X.K (.ref C) "__eq__" = some (some (.ref f)))
    (hn : PySem.W.findIn X.K (.ref C) "__ne__" = some (some (.builtin "object.__ne__"))) (hO : PySem.W.subIn X.K (.ref C) (.type "object") = some true) (hf : PySem.W.isFn X.K (.ref f) = true) (hb : Binds X.K fd ps []) (hx : Passes CX X E) (I : Inv X pins σ H s)
    (ha : H a = some (.ins C dx fs)) (ry : RelV y v) (hsp : sp [.ref a, y] H (fun v H' => ∃ b, v = .bl b ∧ Q (.bl (!b)) H') E) :
    wpAny (model X.prog X.w) X.A (tryCompare (.ref a) "__ne__" v) (fun r s' => ∃ w, r = some w ∧ EP X pins σ Q w s') X.xe s := by
  obtain ⟨mA, J, _⟩ := ins_get I.hok ha
  obtain ⟨od, J, _⟩ := J.look
  have KX := I.kIn
  have r2 : Vals [V.ref a, y] [Value.ref a, v] := .cons rfl (.cons ry .nil)
  have inner : wpAny (model X.prog X.w) X.A.in1 (Builtin.«object.__ne__» ⟨[.ref a, v], []⟩) (fun fin s' => ∃ b, fin = .done (.ret (.bool b)) ∧ EP X pins σ Q (.bool b) s') X.xe s := by
    unfold Builtin.«object.__ne__»
    repeat (first | with_reducible refine wpAny_cRoomFor hr.in1.units0 ?_ | ((fail_if_success (with_reducible show wpAny _ _ (callSpecialIfBound? _ _ _) _ _ _)); wp_step))
    refine (PySem.W.ifBound_K KX J hs hf (wpAny_mono (run_fnA F hr.in1 rfl hb hx I r2 hsp) (fun w s' q => ?_) fun _ _ e => e))
    obtain ⟨v', H', I', rv, b, rfl, q⟩ := q
    cases rv
    exact wpAny_bind (wpAny_truthy_bool (wpAny_pure ⟨_, rfl, .bl (!b), H', I', rfl, q⟩))
  unfold tryCompare
  simp only [callSpecialIfBound?, bindSpecialIfBound?]
  refine wpAny_bind (wpAny_holding (wpAny_bind (wpAny_bind (wpAny_bind (J.type.here ((PySem.W.looks_findIn KX hn).here ?_))))))
  refine wpAny_bind (wpAny_askSetting (wpAny_ite ?_))
  have t2 : PySem.W.Looks (model X.prog X.w) s.heap (isInstance (.ref a) (.type "object")) true := J.type.andThen (PySem.W.looks_subIn KX hO)
  have fin : wpAny (model X.prog X.w) X.A (call (.builtin "object.__ne__") ([.ref a] ++ [v]) >>= fun v => pure (some v)) (fun r s' => wpAny (model X.prog X.w) X.A (match (motive := Option Value → Sem (Option Value)) r with
      | some .notImplemented | none => pure none
      | some v => pure (some v)) (fun r s' => ∃ w, r = some w ∧ EP X pins σ Q w s') X.xe s') X.xe s := by
    refine wpAny_bind (wpAny_call (codeAny_call_builtin plain_ne PySem.F.cmpEntry_ne (PySem.W.check_slot PySem.F.cmpKind_ne PySem.F.cmpSplit_ne t2 (PySem.F.cmpArgs_ne _ _) (wpAny_mono inner (fun fin s' q => ?_) fun _ _ e => e))))
    obtain ⟨b, rfl, q⟩ := q
    exact wpAny_pure (wpAny_pure ⟨_, rfl, q⟩)
  split
  · exact wpAny_bind (wpAny_of_eq (bind_ne _) (wpAny_pure (by exact fin)))
  · exact wpAny_tryCatch (wpAny_bind (wpAny_of_eq (bind_ne _) (wpAny_pure (by exact fin))))
end
end Own
set_option maxRecDepth 100000
set_option maxHeartbeats 4000000
namespace Own
open PySem PySem.Spec PyProof.Rows L2
open AutoSeq1 (wpAny_loadPart')
section
variable {X : Cx} {CX : CXT} {k : Nat} {C f : Addr} {fd : FuncData} {ps : List Str} {sp : Sp} {E : XK}
theorem op_neL (F : FnOk X.prog X.w X.K X.mg X.base CX k f fd ps sp) (hr : Room (k + 1) X.A) (hs : PySem.W.findIn X.K (.ref C) "__eq__" = some (some (.ref f))) (hn : PySem.W.findIn X.K (.ref C) "__ne__" = some (some (.builtin "object.__ne__")))
    (hO : PySem.W.subIn X.K (.ref C) (.type "object") = some true) (hf : PySem.W.isFn X.K (.ref f) = true) (hN : PySem.W.notFirst X.K C (.type "int") = true) (hb : Binds X.K fd ps []) (hx : Passes CX X E) : OpR X (compareOp .NotEq) (rEqL C sp E fun b => !b) := by
  intro pins s σ H x y u v Q I rx ry h
  obtain ⟨a, dx, fs, rfl, ha, hy, hsp⟩ := h
  cases rx
  have one := try_ne F hr hs hn hO hf hb hx I ha ry hsp
  obtain ⟨mA, J, _⟩ := ins_get I.hok ha
  obtain ⟨od, J, _⟩ := J.look
  have KX := I.kIn
  have go : ∀ t : Value, PySem.W.Looks (model X.prog X.w) s.heap (typeOf v) t → PySem.W.notFirst X.K C t = true → wpAny (model X.prog X.w) X.A (richCompare .NotEq (.ref a) v) (EP X pins σ Q) X.xe s := fun t hT hn => by
    unfold richCompare
    simp only [oneThing_ref, cmpInfo_NotEq]
    refine wpAny_holding (wpAny_bind (wpAny_cRoomFor hr.units0 ?_))
    refine wpAny_bind (J.type.here (wpAny_bind (hT.here ?_)))
    split
    · rename_i q
      have e : PySem.W.subIn X.K t (.ref C) = some false := by
        rcases Bool.or_eq_true_iff.mp hn with e | e
        · rw [beq_iff_eq.mp e] at q; simp at q
        · exact beq_iff_eq.mp e
      refine wpAny_bind ((PySem.W.looks_subIn KX e).here ?_)
      simp only [Bool.false_eq_true, if_false]
      refine wpAny_bind (wpAny_mono one (fun r s' z => ?_) fun _ _ e => e)
      obtain ⟨v, rfl, hq⟩ := z
      exact wpAny_pure hq
    · refine wpAny_bind (wpAny_pure ?_)
      simp only [Bool.false_eq_true, if_false]
      refine wpAny_bind (wpAny_mono one (fun r s' z => ?_) fun _ _ e => e)
      obtain ⟨v, rfl, hq⟩ := z
      exact wpAny_pure hq
  show wpAny (model X.prog X.w) X.A (richCompare .NotEq (.ref a) v) (EP X pins σ Q) X.xe s
  rcases hy with ⟨j, rfl⟩ | ⟨b, dy, gs, rfl, hb'⟩
  · obtain ⟨t, rfl⟩ := ry
    exact go (.type "int") (PySem.W.Looks.of_pure rfl) hN
  · cases ry
    obtain ⟨mB, J', _⟩ := ins_get I.hok hb'
    obtain ⟨od', J', _⟩ := J'.look
    exact go (.ref C) J'.type (by simp [PySem.W.notFirst])
/-- int == instance, int != instance: the int declines -/
theorem refl_cmp {op : CmpOp} {pins : List (Addr × Obj)} {σ : L2.St} {H : Hp} {s : Shared} {i : Int} {t : Tok} {a dx : Addr} {fs : List (Str × V)} {Q : VK} {id : String} {B : Builtin} (hr : Room k X.A) (I : Inv X pins σ H s) (ha : H a = some (.ins C dx fs))
    (hsub : PySem.W.subIn X.K (.ref C) (.type "int") = some false) (slot : Slot "int" (cmpInfo op).2.1 id) (entry : entryFor table id = some B) (args : ∀ a b, argsOk id ⟨[a, b], []⟩)
    (dec : ∀ (b : Int) (u : Tok) (l : Addr) (C dx : Addr), Meets (B ⟨[.int b u, .ref l], []⟩) (fun _ R s => s.heap.get? l = some (PySem.W.instObj C dx) ∧ R (.ok (.ret .notImplemented)) s))
    (one : wpAny (model X.prog X.w) X.A (tryCompare (.ref a) (cmpInfo op).2.2 (.int i t)) (fun r s' => ∃ v, r = some v ∧ EP X pins σ Q v s') X.xe s) :
    wpAny (model X.prog X.w) X.A (richCompare op (.int i t) (.ref a)) (EP X pins σ Q) X.xe s := by
  obtain ⟨mA, O, _⟩ := ins_get I.hok ha
  obtain ⟨od, J, _⟩ := O.look
  have ho : s.heap.get? a = some (PySem.W.instObj C dx) := by
    obtain ⟨_, _, _, e, _⟩ := I.hok a _ ha
    exact e
  have KX := I.kIn
  have hT := typeIs_int s i t
  unfold richCompare
  simp only [hT.oneThing_none]
  refine wpAny_holding (wpAny_bind (wpAny_cRoomFor hr.units0 ?_))
  refine wpAny_bind (wpAny_typeOf hT (wpAny_bind (J.type.here ?_)))
  have hne1 : (Value.type "int" != Value.ref C) = true := rfl
  simp only [hne1, if_true]
  refine wpAny_bind ((PySem.W.looks_subIn KX hsub).here ?_)
  simp only [Bool.false_eq_true, if_false, Bool.not_false, if_true]
  refine wpAny_bind (m := tryCompare (.int i t) _ (.ref a)) (wpAny_tryCompare_declines hT slot (call_meets slot hT entry (args _ _) (dec i t a C dx) ⟨ho, rfl, ?_⟩))
  refine wpAny_bind (wpAny_mono one (fun r s' z => ?_) fun _ _ e => e)
  obtain ⟨v, rfl, hq⟩ := z
  exact wpAny_pure hq
theorem int_eq_dec (b : Int) (u : Tok) (l : Addr) (C dx : Addr) :
    Meets (Builtin.«int.__eq__» ⟨[.int b u, .ref l], []⟩) (fun _ R s => s.heap.get? l = some (PySem.W.instObj C dx) ∧ R (.ok (.ret .notImplemented)) s) :=
  .of_wp fun prog w A R s h => by obtain ⟨hp, g, d, tk, os⟩ := s; obtain ⟨hl, h⟩ := h; wp_walk using wpAny_loadPart' hl, wpAny_load hl; exact ⟨_, rfl, h⟩
theorem int_ne_dec (b : Int) (u : Tok) (l : Addr) (C dx : Addr) :
    Meets (Builtin.«int.__ne__» ⟨[.int b u, .ref l], []⟩) (fun _ R s => s.heap.get? l = some (PySem.W.instObj C dx) ∧ R (.ok (.ret .notImplemented)) s) :=
  .of_wp fun prog w A R s h => by obtain ⟨hp, g, d, tk, os⟩ := s; obtain ⟨hl, h⟩ := h; wp_walk using wpAny_loadPart' hl, wpAny_load hl; exact ⟨_, rfl, h⟩
theorem int_ge_dec (b : Int) (u : Tok) (l : Addr) (C dx : Addr) :
    Meets (Builtin.«int.__ge__» ⟨[.int b u, .ref l], []⟩) (fun _ R s => s.heap.get? l = some (PySem.W.instObj C dx) ∧ R (.ok (.ret .notImplemented)) s) :=
  .of_wp fun prog w A R s h => by obtain ⟨hp, g, d, tk, os⟩ := s; obtain ⟨hl, h⟩ := h; wp_walk using wpAny_loadPart' hl, wpAny_load hl; exact ⟨_, rfl, h⟩
theorem int_gt_dec (b : Int) (u : Tok) (l : Addr) (C dx : Addr) :
    Meets (Builtin.«int.__gt__» ⟨[.int b u, .ref l], []⟩) (fun _ R s => s.heap.get? l = some (PySem.W.instObj C dx) ∧ R (.ok (.ret .notImplemented)) s) :=
  .of_wp fun prog w A R s h => by obtain ⟨hp, g, d, tk, os⟩ := s; obtain ⟨hl, h⟩ := h; wp_walk using wpAny_loadPart' hl, wpAny_load hl; exact ⟨_, rfl, h⟩
theorem int_add_dec (b : Int) (u : Tok) (l : Addr) (C dx : Addr) :
    Meets (Builtin.«int.__add__» ⟨[.int b u, .ref l], []⟩) (fun _ R s => s.heap.get? l = some (PySem.W.instObj C dx) ∧ R (.ok (.ret .notImplemented)) s) :=
  .of_wp fun prog w A R s h => by obtain ⟨hp, g, d, tk, os⟩ := s; obtain ⟨hl, h⟩ := h; wp_walk using wpAny_loadPart' hl, wpAny_load hl; exact ⟨_, rfl, h⟩
theorem int_sub_dec (b : Int) (u : Tok) (l : Addr) (C dx : Addr) :
    Meets (Builtin.«int.__sub__» ⟨[.int b u, .ref l], []⟩) (fun _ R s => s.heap.get? l = some (PySem.W.instObj C dx) ∧ R (.ok (.ret .notImplemented)) s) :=
  .of_wp fun prog w A R s h => by obtain ⟨hp, g, d, tk, os⟩ := s; obtain ⟨hl, h⟩ := h; wp_walk using wpAny_loadPart' hl, wpAny_load hl; exact ⟨_, rfl, h⟩
theorem int_mul_dec (b : Int) (u : Tok) (l : Addr) (C dx : Addr) :
    Meets (Builtin.«int.__mul__» ⟨[.int b u, .ref l], []⟩) (fun _ R s => s.heap.get? l = some (PySem.W.instObj C dx) ∧ R (.ok (.ret .notImplemented)) s) :=
  .of_wp fun prog w A R s h => by obtain ⟨hp, g, d, tk, os⟩ := s; obtain ⟨hl, h⟩ := h; wp_walk using wpAny_loadPart' hl, wpAny_load hl; exact ⟨_, rfl, h⟩
theorem op_eqR (F : FnOk X.prog X.w X.K X.mg X.base CX k f fd ps sp) (hr : Room k X.A) (hs : PySem.W.findIn X.K (.ref C) "__eq__" = some (some (.ref f))) (hf : PySem.W.isFn X.K (.ref f) = true) (hsub : PySem.W.subIn X.K (.ref C) (.type "int") = some false) (hb : Binds X.K fd ps []) (hx : Passes CX X E) :
    OpR X (compareOp .Eq) (rEqR C sp E fun b => b) := by
  intro pins s σ H x y u v Q I rx ry h
  obtain ⟨i, a, dx, fs, rfl, rfl, ha, hsp⟩ := h
  obtain ⟨t, rfl⟩ := rx
  cases ry
  obtain ⟨mA, O, _⟩ := ins_get I.hok ha
  obtain ⟨od, J, _⟩ := O.look
  refine refl_cmp (op := .Eq) hr I ha hsub PySem.F.slot_int_eq PySem.F.entry_int_eq PySem.F.args_int_eq_2 int_eq_dec ?_
  unfold tryCompare
  have r2 : Vals [V.ref a, V.int i] [Value.ref a, Value.int i t] := .cons rfl (.cons ⟨t, rfl⟩ .nil)
  refine wpAny_bind (PySem.W.ifBound_K I.kIn J hs hf (wpAny_mono (run_fn F hr hb .nil hx I r2 hsp) (fun v s' hv => ?_) fun _ _ e => e))
  obtain ⟨v', H', I', rv, b, rfl, q⟩ := hv
  cases rv
  exact wpAny_pure ⟨_, rfl, .bl b, H', I', rfl, q⟩
theorem op_neR (F : FnOk X.prog X.w X.K X.mg X.base CX k f fd ps sp) (hr : Room (k + 1) X.A) (hs : PySem.W.findIn X.K (.ref C) "__eq__" = some (some (.ref f))) (hn : PySem.W.findIn X.K (.ref C) "__ne__" = some (some (.builtin "object.__ne__")))
    (hO : PySem.W.subIn X.K (.ref C) (.type "object") = some true) (hf : PySem.W.isFn X.K (.ref f) = true) (hsub : PySem.W.subIn X.K (.ref C) (.type "int") = some false) (hb : Binds X.K fd ps []) (hx : Passes CX X E) : OpR X (compareOp .NotEq) (rEqR C sp E fun b => !b) := by
  intro pins s σ H x y u v Q I rx ry h
  obtain ⟨i, a, dx, fs, rfl, rfl, ha, hsp⟩ := h
  obtain ⟨t, rfl⟩ := rx
  cases ry
  exact refl_cmp (op := .NotEq) (hr.mono (Nat.le_succ k)) I ha hsub PySem.F.slot_int_ne PySem.F.entry_int_ne PySem.F.args_int_ne_2 int_ne_dec (try_ne F hr hs hn hO hf hb hx I ha (y := .int i) ⟨t, rfl⟩ hsp)
/-- abs of an instance -/
def rAbs (C : Addr) (sp : Sp) (E : XK) : List V → Hp → VK → Prop := fun xs H Q => ∃ a dx fs, xs = [.ref a] ∧ H a = some (.ins C dx fs) ∧ sp [.ref a] H Q E
theorem call_ownAbs (F : FnOk X.prog X.w X.K X.mg X.base CX k f fd ps sp) (hr : Room (k + 1) X.A) (hs : PySem.W.findIn X.K (.ref C) "__abs__" = some (some (.ref f))) (hf : PySem.W.isFn X.K (.ref f) = true) (hb : Binds X.K fd ps []) (hx : Passes CX X E) :
    CallR X (.builtin "abs") (rAbs C sp E) := by
  intro pins s σ H xs us Q I r h
  obtain ⟨a, dx, fs, rfl, ha, hsp⟩ := h
  obtain ⟨u, rfl, ru⟩ := vals1 r
  obtain rfl : u = Value.ref a := ru
  obtain ⟨mA, J, _⟩ := ins_get I.hok ha
  obtain ⟨od, J, _⟩ := J.look
  have inner : wpAny (model X.prog X.w) X.A.in1 (Builtin.«abs» ⟨[.ref a], []⟩) (fun fin s' => ∃ v, fin = .done (.ret v) ∧ EP X pins σ Q v s') X.xe s := by
    unfold Builtin.«abs»
    repeat (first | ((fail_if_success (with_reducible show wpAny _ _ (callSpecial? _ _ _) _ _ _)); wp_step))
    refine PySem.W.special_fn I.kIn J hs (beq_iff_eq.mp hf) (wpAny_mono (run_fnA F hr.in1 rfl hb hx I (vs := [.ref a]) (.cons rfl .nil) hsp) (fun w s' q => ?_) fun _ _ e => e)
    exact wpAny_pure ⟨_, rfl, q⟩
  refine wpAny_call (codeAny_call_builtin (b := Builtin.«abs») (by decide +kernel) (entryFor_of_tree (by kernel_rfl)) ?_)
  have hchk : checkBuiltinCall "abs" ⟨[.ref a], []⟩ = pure () := by kernel_rfl
  refine wpAny_of_eq hchk (wpAny_mono inner (fun fin s' q => ?_) fun _ _ e => e)
  obtain ⟨v, rfl, q⟩ := q
  exact q
end
end Own
set_option maxRecDepth 100000
set_option maxHeartbeats 4000000
namespace Toy
open PySem L2
def top (i : Nat) : Stmt := PySem.Challenge.pw_anyfifth_k63_keys_hit_first.main.body.getD i (.Pass ⟨0, 0, 0, 0⟩)

structure Bl (mg : Str → Option Value) : Prop where
  int : mg "int" = none
  len : mg "len" = none
  abs : mg "abs" = none
  list : mg "list" = none
  range : mg "range" = none
  isinstance : mg "isinstance" = none
  bool : mg "bool" = none
  gcd : mg "gcd" = some (.builtin "math.gcd")

/-- all but what stands at p is as it was -/
def But (p : Addr) (H H' : Hp) : Prop := ∀ b o, H b = some o → b ≠ p → H' b = some o
theorem But.refl {p : Addr} {H : Hp} : But p H H := fun _ _ h _ => h
theorem But.upd {p : Addr} {H H1 : Hp} {o : HO} (h : But p H H1) : But p H (upd H1 p o) := fun b u e n => by rw [upd_ne n]; exact h b u e n
theorem But.new {p q : Addr} {H H1 : Hp} {o : HO} (h : But p H H1) (hq : H1 q = none) : But p H (L2.upd H1 q o) := fun b u e n => by
  rw [upd_ne (ne_of_none (h b u e n) hq)]; exact h b u e n
theorem But.trans {p : Addr} {H H1 H2 : Hp} (a : But p H H1) (b : But p H1 H2) : But p H H2 := fun c u e n => b c u (a c u e n) n
theorem But.same {p : Addr} {H H' : Hp} (h : Same H H') : But p H H' := fun b o e _ => h b o e

/-- the state of the drawing at p, behind at most k draws -/
structure PenW (H : Hp) (p c : Addr) (ns : List Int) (b l : Int) : Prop where
  hp : H p = some (.lst [.ref c, .int b, .int l])
  hc : H c = some (.lst (ns.map V.int))
  ln : ns.length ≤ 63
  b0 : 0 ≤ b
def Pen (H : Hp) (p c : Addr) (k : Nat) : Prop := ∃ ns b l, PenW H p c ns b l ∧ b ≤ k
theorem PenW.ne {H : Hp} {p c : Addr} {ns : List Int} {b l : Int} (h : PenW H p c ns b l) : c ≠ p := by
  intro e
  have h1 := h.hp
  have h2 := h.hc
  rw [e, h1] at h2
  have h3 := Option.some.inj h2
  injection h3 with h4
  cases ns with
  | nil => cases h4
  | cons a r => injection h4 with h5 h6; cases h5
theorem PenW.put {H : Hp} {p c : Addr} {ns : List Int} {b l b' l' : Int} (h : PenW H p c ns b l) (hb : 0 ≤ b') : PenW (upd H p (.lst [.ref c, .int b', .int l'])) p c ns b' l' :=
  ⟨upd_same, by rw [upd_ne h.ne]; exact h.hc, h.ln, hb⟩
theorem PenW.new {H : Hp} {p c q : Addr} {ns : List Int} {b l : Int} {o : HO} (h : PenW H p c ns b l) (hq : H q = none) : PenW (upd H q o) p c ns b l :=
  ⟨by rw [upd_ne (ne_of_none h.hp hq)]; exact h.hp, by rw [upd_ne (ne_of_none h.hc hq)]; exact h.hc, h.ln, h.b0⟩
theorem Pen.same {H H' : Hp} {p c : Addr} {k : Nat} (h : Pen H p c k) (e : Same H H') : Pen H' p c k := by
  obtain ⟨ns, b, l, h, hk⟩ := h
  exact ⟨ns, b, l, ⟨e _ _ h.hp, e _ _ h.hc, h.ln, h.b0⟩, hk⟩
theorem Pen.mono {H : Hp} {p c : Addr} {k j : Nat} (h : Pen H p c k) (e : k ≤ j) : Pen H p c j := by
  obtain ⟨ns, b, l, h, hk⟩ := h
  exact ⟨ns, b, l, h, by omega⟩
theorem dpInts {K : PySem.W.Frag} {H : Hp} : ∀ ns : List Int, DpAll K H (ns.map V.int) (ns.map PyData.int)
  | [] => .nil
  | n :: r => .cons (.int n) (dpInts r)
theorem shInts (ns : List Int) : SeqAt.shaped (.list (ns.map PyData.int)) = true := PySem.W.ke_shaped_ints ns
theorem eqvNil (ns : List Int) : PyData.eqv (.list (ns.map PyData.int)) (.list []) = decide (ns = []) := by
  cases ns <;> rfl
theorem modB (a : Int) {m : Int} (h : 0 < m) : 0 ≤ a % m ∧ a % m < m := ⟨Int.emod_nonneg _ (by omega), Int.emod_lt_of_pos _ h⟩
theorem wide_m {i m : Int} (h : 0 < m) (hb : m.natAbs < 2 ^ 2000) : CDivW i m := wide_div h hb (by decide) (by decide)

theorem atI_in {α : Type} {xs : List α} {i : Int} (h0 : 0 ≤ i) (h1 : i < (xs.length : Int)) : atI xs i = some (xs[i.toNat]'(by omega)) := by
  have e : i = ((i.toNat : Nat) : Int) := by omega
  exact (congrArg (atI xs) e).trans (atI_nat (List.getElem?_eq_getElem (by omega)))

theorem p0 {j : Int} (h : decide (0 < j) = true) : 0 < j := of_decide_eq_true h
theorem mulB {x y M N : Int} (hx : 0 ≤ x) (hxM : x ≤ M) (hy : 0 ≤ y) (hyN : y ≤ N) : 0 ≤ x * y ∧ x * y ≤ M * N := ⟨Int.mul_nonneg hx hy, Int.mul_le_mul hxM hyN hy (by omega)⟩
abbrev sDraw : Stmt := top 30
def spDraw : Sp := fun vs H Q _ => ∃ (p c : Addr) (m : Int) (k : Nat), vs = [.ref p, .int m] ∧ Pen H p c k ∧ k ≤ 1000000 ∧ 0 < m ∧ m.natAbs < 2 ^ 2000 ∧
  ∀ r H', 0 ≤ r → r < m → Pen H' p c (k + 1) → But p H H' → Q (.int r) H'
section
variable {P : Program} {w : World} {K : PySem.W.Frag} {mg : Str → Option Value} {base : Heap}
theorem scD : FnScope ["_law_pen_here", "_law_many", "_law_digit", "_law_taken", "_law_cell", "_law_great_here", "_law_mixed"] ["_law_pen_here", "_law_many"] (defScope sDraw) :=
  ⟨rfl, rfl, rfl, by decide +kernel, rfl, by decide +kernel, by decide +kernel⟩
theorem ok_draw {f : Addr} {fd : FuncData} (F : Fun K "_law_draw" "_law_draw" sDraw f fd) (T : Bl mg) : FnOk P w K mg base CX0 1 f fd ["_law_pen_here", "_law_many"] spDraw := by
  refine F.ok scD (fun vs H Q E h => ?_) (fun cdv A outer s H vs Q E hr h => ?_)
  · obtain ⟨p, c, m, k, rfl, _⟩ := h
    rfl
  · obtain ⟨p, c, m, k, rfl, ⟨ns, b, l, W, hb⟩, hk, hm, hmb, q⟩ := h
    have nd := scD.nd
    refine ⟨_, pss_cons (ps_if (pt_cmpR op_gt (pe_ix ix_list (pv 0) pe_int (fun _ _ => rfl)) pe_int (nomark _)) (pss_cons (ps_set (i := 2) nd rfl (Or.inl rfl) (pe_op op_mod (pe_callTy call_int1 (by rfl) T.int (by decide +kernel) (pa_cons (pe_ix ix_list (pv 0) pe_int (fun _ _ => rfl)) pa_nil)) (pv 1)))
      (pss_cons (ps_asg (pe_op op_fdivW (pe_callTy call_int1 (by rfl) T.int (by decide +kernel) (pa_cons (pe_ix ix_list (pv 0) pe_int (fun _ _ => rfl)) pa_nil)) (pv 1)) (pg_sub (pv 0) pe_int set_list))
      (pss_one (ps_ret (pv 2))))) pss_nil)
      (pss_cons (ps_set (i := 3) nd rfl (Or.inl rfl) (pe_ix ix_list (pv 0) pe_int (fun _ _ => rfl)))
      (pss_cons (ps_asg (pe_op op_add (pv 3) pe_int) (pg_sub (pv 0) pe_int set_list))
      (pss_cons (ps_set (i := 4) nd rfl (Or.inl rfl) (pe_op op_add (pe_op op_mul pe_int (pv 3)) pe_int))
      (C8.pss_cut (ps_if (pt_cmpR (op_neD hr.units) (pe_ix ix_list (pv 0) pe_int (fun _ _ => rfl)) (pe_lst pa_nil) (nomark _)) (pss_one (ps_set (i := 4) nd rfl (Or.inl rfl) (pe_ix ix_list (pe_ix ix_list (pv 0) pe_int (fun _ _ => rfl)) (pe_op op_mod (pe_callTy call_int1 (by rfl) T.int (by decide +kernel) (pa_cons (pv 3) pa_nil)) (pe_callB call_len (by rfl) T.len (by decide +kernel) (pa_cons (pe_ix ix_list (pv 0) pe_int (fun _ _ => rfl)) pa_nil))) (fun _ _ => rfl)))) pss_nil)
      (pss_cons (ps_if (PW.pt (pw_and (pt_cmpR op_lt (pv 3) (pe_callB call_len (by rfl) T.len (by decide +kernel) (pa_cons (pe_ix ix_list (pv 0) pe_int (fun _ _ => rfl)) pa_nil)) (nomark _)) (pw_and1 (pt_cmpR op_ge (pe_callB call_abs (by rfl) T.abs (by decide +kernel) (pa_cons (pv 4) pa_nil)) (pe_op op_pow pe_int pe_int) (nomark _))))) (pss_cons (ps_set (i := 5) nd rfl (Or.inl rfl) (pe_op op_add (pe_op op_mul pe_int (pe_op op_sub (pe_callB call_abs (by rfl) T.abs (by decide +kernel) (pa_cons (pv 4) pa_nil)) (pe_op op_pow pe_int pe_int))) (pe_callTy call_int1 (by rfl) T.int (by decide +kernel) (pa_cons (pe_cmpR op_lt (pv 4) pe_int (nomark _)) pa_nil))))
      (pss_cons (ps_asg (pe_op op_fdivW (pe_callTy call_int1 (by rfl) T.int (by decide +kernel) (pa_cons (pv 5) pa_nil)) (pv 1)) (pg_sub (pv 0) pe_int set_list))
      (pss_one (ps_ret (pe_op op_mod (pe_callTy call_int1 (by rfl) T.int (by decide +kernel) (pa_cons (pv 5) pa_nil)) (pv 1)))))) pss_nil)
      (pss_cons (ps_set (i := 6) nd rfl (Or.inl rfl) (pe_op op_mod (pe_callTy call_int1 (by rfl) T.int (by decide +kernel) (pa_cons (pe_op op_pow (pe_op op_add (pe_op op_add (pe_op op_mod (pe_callTy call_int1 (by rfl) T.int (by decide +kernel) (pa_cons (pv 4) pa_nil)) pe_int) (pe_op op_mul pe_int (pv 3))) pe_int) pe_int) pa_nil)) pe_int))
      (pss_cons (ps_set (i := 6) nd rfl (Or.inl rfl) (pe_op op_mod (pe_callTy call_int1 (by rfl) T.int (by decide +kernel) (pa_cons (pe_op op_pow (pe_op op_add (pe_op op_add (pe_op op_mul (pv 6) (pe_op op_add (pe_op op_mul pe_int (pv 3)) pe_int)) (pe_op op_mul (pe_op op_mul pe_int (pv 3)) (pv 3))) pe_int) pe_int) pa_nil)) pe_int))
      (pss_one (ps_ret (pe_op op_mod (pe_callTy call_int1 (by rfl) T.int (by decide +kernel) (pa_cons (pe_op op_fdivW (pv 6) pe_int) pa_nil)) (pv 1))))))))))), ?_⟩
    have hp := W.hp
    -- what is left of a great cell
    refine ⟨_, rfl, p, _, _, _, rfl, rfl, SqL.of hp, rfl, _, _, rfl, rfl, _, rfl, ?_⟩
    refine ite2 (fun _ => ?_) (fun _ => ?_)
    · refine ⟨_, rfl, p, _, _, _, rfl, rfl, SqL.of hp, rfl, .inl ⟨_, rfl, _, rfl, _, _, rfl, rfl, hm, ?_⟩⟩
      refine ⟨_, rfl, p, _, _, _, rfl, rfl, SqL.of hp, rfl, .inl ⟨_, rfl, _, rfl, _, _, rfl, rfl, wide_m hm hmb, ?_⟩⟩
      refine ⟨_, rfl, p, _, _, _, rfl, rfl, hp, rfl, ?_⟩
      refine ⟨_, rfl, ?_⟩
      exact q _ _ (modB _ hm).1 (modB _ hm).2 ⟨ns, b, _, W.put W.b0, by omega⟩ (But.refl.upd)
    · -- begun; the count goes up; cell
      refine ⟨_, rfl, p, _, _, _, rfl, rfl, SqL.of hp, rfl, ?_⟩
      refine ⟨_, rfl, _, _, rfl, rfl, ?_⟩
      refine ⟨_, rfl, p, _, _, _, rfl, rfl, hp, rfl, ?_⟩
      refine ⟨_, rfl, _, _, rfl, rfl, .inl ⟨by decide, by decide⟩, _, _, rfl, rfl, ?_⟩
      have W1 : PenW (upd H p (.lst [.ref c, .int (b + 1), .int l])) p c ns (b + 1) l := W.put (by have := W.b0; omega)
      refine ⟨fun σ' H' => ∃ z : Int, σ' = [some (.ref p), some (.int m), none, some (.int b), some (.int z), none, none] ∧ PenW H' p c ns (b + 1) l ∧ But p H H', ?_, ?_⟩
      · -- a cell of the script
        refine ⟨_, rfl, p, _, _, _, rfl, rfl, SqL.of W1.hp, rfl, by decide, fun e he => ?_⟩
        refine ⟨_, _, .lst (SqL.of (W1.new he).hc) (dpInts ns), .lst (SqL.of upd_same) .nil, shInts ns, by decide, _, rfl, ?_⟩
        have W2 := W1.new (o := .lst []) he
        have B2 : But p H (upd (upd H p (.lst [.ref c, .int (b + 1), .int l])) e (.lst [])) := (But.refl.upd).new he
        rw [eqvNil]
        by_cases hn : ns = []
        · rw [decide_eq_true hn]
          refine iteF ?_
          exact ⟨_, rfl, W2, B2⟩
        · rw [decide_eq_false hn]
          refine iteT ?_
          have hl0 : 0 < ns.length := List.length_pos_iff.mpr hn
          have hm0 : (0 : Int) < ((ns.map V.int).length : Int) := by rw [List.length_map]; omega
          refine ⟨_, rfl, p, _, _, _, rfl, rfl, SqL.of W2.hp, rfl, _, rfl, .inl ⟨_, rfl, _, rfl, p, _, _, _, rfl, rfl, SqL.of W2.hp, rfl, _, _, rfl, .inl ⟨_, SqL.of W2.hc, rfl⟩, _, _, rfl, rfl, hm0, ?_⟩⟩
          obtain ⟨z, hz⟩ : ∃ z, (ns.map V.int)[(b % ((ns.map V.int).length : Int)).toNat]'(by have := modB b hm0; omega) = .int z := ⟨_, List.getElem_map ..⟩
          exact ⟨c, _, _, .int z, rfl, rfl, SqL.of W2.hc, by rw [atI_in (modB b hm0).1 (modB b hm0).2, hz], ⟨_, rfl, W2, B2⟩⟩
      · rintro σ' H' ⟨z, rfl, W2, B2⟩
        have hp2 := W2.hp
        have hb1 := W.b0
        have hb2 : b ≤ 1000000 := by omega
        -- a great cell
        refine ⟨_, rfl, _, rfl, p, _, _, _, rfl, rfl, SqL.of hp2, rfl, _, _, rfl, .inl ⟨_, SqL.of W2.hc, rfl⟩, _, _, rfl, rfl, _, rfl, ?_⟩
        refine ite2 (fun _ => ?_) (fun _ => ?_)
        · refine ⟨_, rfl, _, rfl, _, _, rfl, rfl, ⟨by decide, by decide, by decide⟩, _, _, rfl, rfl, _, rfl, ?_⟩
          refine ite2 (fun _ => ?_) (fun _ => ?_)
          · refine ⟨_, rfl, _, rfl, _, _, rfl, rfl, ⟨by decide, by decide, by decide⟩, _, _, rfl, rfl, _, _, rfl, rfl, .inl ⟨by decide, by decide⟩, ?_⟩
            refine ⟨_, rfl, _, _, rfl, rfl, .inr ⟨_, rfl, _, _, rfl, rfl, ?_⟩⟩
            refine ⟨_, rfl, .inl ⟨_, rfl, _, rfl, _, _, rfl, rfl, wide_m hm hmb, ?_⟩⟩
            refine ⟨_, rfl, p, _, _, _, rfl, rfl, hp2, rfl, ?_⟩
            refine ⟨_, rfl, .inl ⟨_, rfl, _, rfl, _, _, rfl, rfl, hm, ?_⟩⟩
            exact q _ _ (modB _ hm).1 (modB _ hm).2 ⟨ns, b + 1, _, W2.put W2.b0, by omega⟩ B2.upd
          · refine ⟨_, rfl, .inl ⟨_, rfl, _, _, rfl, rfl, p0 rfl, _, rfl, _, _, rfl, rfl, .inl ⟨by decide, by decide⟩, _, _, rfl, rfl, _, _, rfl, rfl, _, _, rfl, rfl, ⟨by decide, by decide, ?_⟩, .inl ⟨_, rfl, _, _, rfl, rfl, p0 rfl, ?_⟩⟩⟩
            · have h1 := modB z (m := 2147483563) (by decide)
              omega
            have hx := modB ((z % 2147483563 + 51592 * b + 796) ^ (5 : Int).toNat) (m := 2147483629) (by decide)
            generalize hxe : (z % 2147483563 + 51592 * b + 796) ^ (5 : Int).toNat % 2147483629 = x at hx
            have p1 := mulB hx.1 (show x ≤ 2147483629 by omega) (show 0 ≤ 2 * b + 257 by omega) (show 2 * b + 257 ≤ 2100000 by omega)
            have p2 := mulB (show 0 ≤ 55892 * b by omega) (show 55892 * b ≤ 100000000000 by omega) hb1 hb2
            refine ⟨_, rfl, _, rfl, _, _, rfl, rfl, .inl ⟨by decide, by decide⟩, _, _, rfl, rfl, _, _, rfl, rfl, .inl ?_, _, rfl, _, _, rfl, rfl, .inl ⟨by decide, by decide⟩, _, rfl, _, _, rfl, rfl, .inl ?_, _, _, rfl, rfl, _, _, rfl, rfl, _, _, rfl, rfl, ⟨by decide, by decide, ?_⟩, .inl ⟨_, rfl, _, _, rfl, rfl, p0 rfl, ?_⟩⟩
            · rw [hxe]; omega
            · omega
            · rw [hxe]; omega
            refine ⟨_, rfl, _, _, rfl, rfl, ⟨by decide, by decide⟩, .inl ⟨_, rfl, _, rfl, _, _, rfl, rfl, hm, ?_⟩⟩
            exact q _ _ (modB _ hm).1 (modB _ hm).2 ⟨ns, b + 1, _, W2, by omega⟩ B2
        · refine ⟨_, rfl, .inl ⟨_, rfl, _, _, rfl, rfl, p0 rfl, _, rfl, _, _, rfl, rfl, .inl ⟨by decide, by decide⟩, _, _, rfl, rfl, _, _, rfl, rfl, _, _, rfl, rfl, ⟨by decide, by decide, ?_⟩, .inl ⟨_, rfl, _, _, rfl, rfl, p0 rfl, ?_⟩⟩⟩
          · have h1 := modB z (m := 2147483563) (by decide)
            omega
          have hx := modB ((z % 2147483563 + 51592 * b + 796) ^ (5 : Int).toNat) (m := 2147483629) (by decide)
          generalize hxe : (z % 2147483563 + 51592 * b + 796) ^ (5 : Int).toNat % 2147483629 = x at hx
          have p1 := mulB hx.1 (show x ≤ 2147483629 by omega) (show 0 ≤ 2 * b + 257 by omega) (show 2 * b + 257 ≤ 2100000 by omega)
          have p2 := mulB (show 0 ≤ 55892 * b by omega) (show 55892 * b ≤ 100000000000 by omega) hb1 hb2
          refine ⟨_, rfl, _, rfl, _, _, rfl, rfl, .inl ⟨by decide, by decide⟩, _, _, rfl, rfl, _, _, rfl, rfl, .inl ?_, _, rfl, _, _, rfl, rfl, .inl ⟨by decide, by decide⟩, _, rfl, _, _, rfl, rfl, .inl ?_, _, _, rfl, rfl, _, _, rfl, rfl, _, _, rfl, rfl, ⟨by decide, by decide, ?_⟩, .inl ⟨_, rfl, _, _, rfl, rfl, p0 rfl, ?_⟩⟩
          · rw [hxe]; omega
          · omega
          · rw [hxe]; omega
          refine ⟨_, rfl, _, _, rfl, rfl, ⟨by decide, by decide⟩, .inl ⟨_, rfl, _, rfl, _, _, rfl, rfl, hm, ?_⟩⟩
          exact q _ _ (modB _ hm).1 (modB _ hm).2 ⟨ns, b + 1, _, W2, by omega⟩ B2
end

/-! ### callees -/
structure Cal (P : Program) (w : World) (K : PySem.W.Frag) (mg : Str → Option Value) (base : Heap) (k : Nat) (x : Str) (f : Addr) (fd : FuncData) (ps : List Str) (sp : Sp) : Prop where
  F : FnOk P w K mg base CX0 k f fd ps sp
  mgf : mg x = some (.ref f)
  kp : PySem.W.keepIn K (.ref f) = true
  b : Binds K fd ps []
structure Mak (P : Program) (w : World) (K : PySem.W.Frag) (mg : Str → Option Value) (base : Heap) (k : Nat) (x : Str) (C f : Addr) (fd : FuncData) (ps : List Str) (sp : Sp) : Prop where
  M : Mk K C f
  F : FnOk P w K mg base CX0 k f fd ps sp
  mgC : mg x = some (.ref C)
  b : Binds K fd ps []
structure Sta (P : Program) (w : World) (K : PySem.W.Frag) (mg : Str → Option Value) (base : Heap) (k : Nat) (C : Addr) (m : Str) (p f : Addr) (fd : FuncData) (ps : List Str) (sp : Sp) : Prop where
  s : Own.SMet K C (.type "type") m p f
  F : FnOk P w K mg base CX0 k f fd ps sp
  b : Binds K fd ps []
structure Dot (P : Program) (w : World) (K : PySem.W.Frag) (mg : Str → Option Value) (base : Heap) (k : Nat) (C : Addr) (m : Str) (f : Addr) (fd : FuncData) (ps : List Str) (sp : Sp) : Prop where
  m : Meth K C m f
  F : FnOk P w K mg base CX0 k f fd ps sp
  b : Binds K fd ps []
/-- facts of an own class -/
structure ClT (K : PySem.W.Frag) (mg : Str → Option Value) (C : Addr) (x : Str) : Prop where
  cl : Cls K C
  mgC : mg x = some (.ref C)
  rd : ClX.CRead K C (.type "type")
  ca : PySem.W.findIn K (.ref C) "__class__" = some (some (.builtin "object.__class__"))
  cn : PySem.W.specialIn K (.builtin "object.__class__") "__get__" = some (some (.builtin "getset_descriptor.__get__"))
  ct : PySem.W.takesIn K (.builtin "object.__class__") = some true
  cm : PySem.W.mroIn K C (.type "object") = some true
  kI : PySem.W.kitOne K (.ref C) (.type "int") = some false
  kB : PySem.W.kitOne K (.ref C) (.type "bool") = some false
  kS : PySem.W.kitOne K (.ref C) (.ref C) = some true
  iK : PySem.W.kitOne K (.type "int") (.ref C) = some false
  sI : PySem.W.subIn K (.ref C) (.type "int") = some false
  nI : PySem.W.notFirst K C (.type "int") = true
  nC : PySem.W.notFirst K C (.ref C) = true
theorem ClT.ty {K : PySem.W.Frag} {mg : Str → Option Value} {C a dx : Addr} {x : Str} {H : Hp} {fs : List (Str × V)} (T : ClT K mg C x) (h : H a = some (.ins C dx fs)) : TyX K H (.ref a) (.ref C) :=
  .base (.ins h T.cl T.ca T.cn T.ct T.cm)
structure RatT (K : PySem.W.Frag) (mg : Str → Option Value) (C : Addr) : Prop extends ClT K mg C "Ratio" where
  nT : NoAttr K C "top"
  nB : NoAttr K C "bottom"
structure PieT (K : PySem.W.Frag) (mg : Str → Option Value) (C : Addr) : Prop extends ClT K mg C "Piece" where
  nL : NoAttr K C "left"
  nR : NoAttr K C "right"

/-! ### ratios -/
theorem tb_ne : ¬ (("bottom" : Str) = "top") := by decide +kernel
theorem bt_ne : ¬ (("top" : Str) = "bottom") := by decide +kernel
def ratF (n d : Int) : List (Str × V) := putF "bottom" (.int d) (putF "top" (.int n) [])
theorem ratF_top (n d : Int) : (ratF n d).lookup ("top" : Str) = some (.int n) := by
  unfold ratF
  rw [lookup_putF, if_neg bt_ne, lookup_putF, if_pos rfl]
theorem ratF_bot (n d : Int) : (ratF n d).lookup ("bottom" : Str) = some (.int d) := by
  unfold ratF
  rw [lookup_putF, if_pos rfl]
/-- a Ratio n / d stands at a -/
def RatAt (C : Addr) (H : Hp) (a : Addr) (n d : Int) : Prop := ∃ dx, H a = some (.ins C dx (ratF n d))
theorem RatAt.same {C : Addr} {H H' : Hp} {a : Addr} {n d : Int} (h : RatAt C H a n d) (e : Same H H') : RatAt C H' a n d := let ⟨dx, h⟩ := h; ⟨dx, e _ _ h⟩
theorem RatAt.but {C p : Addr} {H H' : Hp} {a : Addr} {n d : Int} (h : RatAt C H a n d) (e : But p H H') (hp : a ≠ p) : RatAt C H' a n d := let ⟨dx, h⟩ := h; ⟨dx, e _ _ h hp⟩
/-- a number: an int or a Ratio -/
inductive NumAt (C : Addr) (H : Hp) : V → Int → Int → Prop
  | int (i : Int) : NumAt C H (.int i) i 1
  | rat {a : Addr} {n d : Int} (h : RatAt C H a n d) : NumAt C H (.ref a) n d
theorem NumAt.same {C : Addr} {H H' : Hp} {v : V} {n d : Int} (h : NumAt C H v n d) (e : Same H H') : NumAt C H' v n d := by
  cases h with
  | int => exact .int _
  | rat h => exact .rat (h.same e)
theorem same_new {H : Hp} {p : Addr} {o : HO} (h : H p = none) : Same H (upd H p o) := fun b u e => by rw [upd_ne (ne_of_none e h)]; exact e
theorem same_two {H : Hp} {p q : Addr} {o u : HO} (h : H p = none) (h2 : H q = none) (n : p ≠ q) : Same H (upd (upd H p o) q u) := (same_new h).trans (same_new (by rw [upd_ne n.symm]; exact h2))
/-- small enough to reckon with -/
def Sz (z : Int) : Prop := z.natAbs < 2 ^ 8000
theorem Sz.mul {i j : Int} (a : Sz i) (b : Sz j) : CMulW i j := wide_mul a b (by decide) (by decide) (by decide)
theorem Sz.of {z : Int} (h : z.natAbs < 10 ^ 250) : Sz z := Nat.lt_trans h (by decide +kernel)

section
variable {P : Program} {w : World} {K : PySem.W.Frag} {mg : Str → Option Value} {base : Heap} {C : Addr}
def isIntK (K : PySem.W.Frag) (t : Value) (b : Bool) : Prop := ∃ b1 b2, PySem.W.kitOne K t (.type "int") = some b1 ∧ PySem.W.kitOne K t (.type "bool") = some b2 ∧ b = (b1 && !b2)
theorem isIntK_int : isIntK K (.type "int") true := ⟨true, false, kit_ty (by decide +kernel), kit_ty (by decide +kernel), rfl⟩
theorem isIntK_own {x : Str} (T : ClT K mg C x) : isIntK K (.ref C) false := ⟨false, false, T.kI, T.kB, rfl⟩
def spIsInt (K : PySem.W.Frag) : Sp := fun vs H Q _ => ∃ v t b, vs = [v] ∧ TyX K H v t ∧ isIntK K t b ∧ Q (.bl b) H

abbrev sIsInt : Stmt := top 12
theorem scII : FnScope ["value"] ["value"] (defScope sIsInt) := ⟨rfl, rfl, rfl, by decide +kernel, rfl, by decide +kernel, by decide +kernel⟩
theorem ok_isint {f : Addr} {fd : FuncData} (F : Fun K "is_int" "is_int" sIsInt f fd) (T : Bl mg) : FnOk P w K mg base CX0 1 f fd ["value"] (spIsInt K) := by
  refine F.ok scII (fun vs H Q E h => ?_) (fun cdv A outer s H vs Q E hr h => ?_)
  · obtain ⟨v, t, b, rfl, _⟩ := h
    rfl
  · obtain ⟨v, t, b, rfl, ty, ⟨b1, b2, h1, h2, rfl⟩, q⟩ := h
    have nd := scII.nd
    refine ⟨_, pss_one (ps_ret (pe_and (pe_callB call_isi (by rfl) T.isinstance (by decide +kernel) (pa_cons (pv 0) (pa_cons (pe_bltn (v := .ty "int") (u := .type "int") (by rfl) T.int (by decide +kernel) rfl) pa_nil))) (pe_one (pe_not (pe_callB call_isi (by rfl) T.isinstance (by decide +kernel) (pa_cons (pv 0) (pa_cons (pe_bltn (v := .ty "bool") (u := .type "bool") (by rfl) T.bool (by decide +kernel) rfl) pa_nil))))))), ?_⟩
    refine ⟨_, rfl, _, _, t, _, b1, rfl, .ty _, ty, h1, _, rfl, ?_⟩
    cases b1 with
    | true =>
      refine iteT ?_
      exact ⟨_, rfl, _, _, t, _, b2, rfl, .ty _, ty, h2, _, rfl, q⟩
    | false => exact iteF q

def spIsNum (K : PySem.W.Frag) (C : Addr) : Sp := fun vs H Q _ => ∃ v t b c, vs = [v] ∧ TyX K H v t ∧ isIntK K t b ∧ PySem.W.kitOne K t (.ref C) = some c ∧ Q (.bl (b || c)) H
theorem NumAt.spNum {x : Str} {H : Hp} {v : V} {n d : Int} {Q : VK} {E : XK} (T : ClT K mg C x) (h : NumAt C H v n d) (q : Q (.bl true) H) : spIsNum K C [v] H Q E := by
  cases h with
  | int => exact ⟨_, _, _, _, rfl, .base (.int _), isIntK_int, T.iK, q⟩
  | rat h => obtain ⟨dx, h⟩ := h; exact ⟨_, _, _, _, rfl, T.ty h, isIntK_own T, T.kS, q⟩
abbrev sIsNum : Stmt := inClass (top 18) 1
theorem scIN : FnScope ["value"] ["value"] (defScope sIsNum) := ⟨rfl, rfl, rfl, by decide +kernel, rfl, by decide +kernel, by decide +kernel⟩
theorem ok_isnum {f f1 : Addr} {fd fd1 : FuncData} (F : Fun K "is_number" "Ratio.is_number" sIsNum f fd) (T : Bl mg) (T_Ratio : RatT K mg C) (C_is_int : Cal P w K mg base 1 "is_int" f1 fd1 ["value"] (spIsInt K)) :
    FnOk P w K mg base CX0 2 f fd ["value"] (spIsNum K C) := by
  refine F.ok scIN (fun vs H Q E h => ?_) (fun cdv A outer s H vs Q E hr h => ?_)
  · obtain ⟨v, t, b, c, rfl, _⟩ := h
    rfl
  · obtain ⟨v, t, b, c, rfl, ty, hb, hc, q⟩ := h
    have nd := scIN.nd
    refine ⟨_, pss_one (ps_ret (pe_or (pe_call C_is_int.F (hr.mono (by decide)) (by rfl) C_is_int.mgf C_is_int.kp C_is_int.b .nil pass0 (pa_cons (pv 0) pa_nil)) (pe_one (pe_callB call_isi (by rfl) T.isinstance (by decide +kernel) (pa_cons (pv 0) (pa_cons (Own.pe_gref (by rfl) T_Ratio.mgC) pa_nil)))))), ?_⟩
    refine ⟨_, rfl, _, t, b, rfl, ty, hb, _, rfl, ?_⟩
    cases b with
    | true => exact iteT q
    | false =>
      refine iteF ?_
      exact ⟨_, rfl, _, _, t, _, c, rfl, .own _, ty, hc, q⟩

def spParts (C : Addr) : Sp := fun vs H Q _ => ∃ v n d, vs = [v] ∧ NumAt C H v n d ∧ ∀ p, H p = none → Q (.ref p) (upd H p (.tup [.int n, .int d]))
abbrev sParts : Stmt := top 19
theorem scPa : FnScope ["number"] ["number"] (defScope sParts) := ⟨rfl, rfl, rfl, by decide +kernel, rfl, by decide +kernel, by decide +kernel⟩
theorem ok_parts {f : Addr} {fd : FuncData} (F : Fun K "parts_of" "parts_of" sParts f fd) (T : Bl mg) (T_Ratio : RatT K mg C) : FnOk P w K mg base CX0 1 f fd ["number"] (spParts C) := by
  refine F.ok scPa (fun vs H Q E h => ?_) (fun cdv A outer s H vs Q E hr h => ?_)
  · obtain ⟨v, n, d, rfl, _⟩ := h
    rfl
  · obtain ⟨v, n, d, rfl, hn, q⟩ := h
    have nd := scPa.nd
    refine ⟨_, pss_cons (ps_if (pt_val (pe_callB call_isi (by rfl) T.isinstance (by decide +kernel) (pa_cons (pv 0) (pa_cons (Own.pe_gref (by rfl) T_Ratio.mgC) pa_nil)))) (pss_one (ps_ret (pe_tup (pa_cons (pe_fld (pv 0) rfl) (pa_cons (pe_fld (pv 0) rfl) pa_nil))))) pss_nil)
      (pss_one (ps_ret (pe_tup (pa_cons (pv 0) (pa_cons pe_int pa_nil))))), ?_⟩
    cases hn with
    | int =>
      refine ⟨_, rfl, _, _, _, _, false, rfl, .own _, .base (.int _), T_Ratio.iK, _, rfl, iteF ?_⟩
      exact ⟨_, rfl, (by decide : 2 ≤ sizeLine), fun p hp => q p hp⟩
    | rat h =>
      obtain ⟨dx, h⟩ := h
      refine ⟨_, rfl, _, _, _, _, true, rfl, .own _, T_Ratio.ty h, T_Ratio.kS, _, rfl, iteT ?_⟩
      exact ⟨_, rfl, _, C, dx, _, _, rfl, h, T_Ratio.cl, T_Ratio.nT, ratF_top _ _, _, rfl, _, C, dx, _, _, rfl, h, T_Ratio.cl, T_Ratio.nB, ratF_bot _ _, (by decide : 2 ≤ sizeLine), fun p hp => q p hp⟩

def spLead (C : Addr) : Sp := fun vs H Q _ => ∃ v u n d m e, vs = [v, u] ∧ NumAt C H v n d ∧ NumAt C H u m e ∧ (Sz n ∧ Sz d ∧ Sz m ∧ Sz e) ∧ ∀ H', Same H H' → Q (.int (n * e - m * d)) H'
abbrev sLead : Stmt := top 22
theorem scLe : FnScope ["one", "other", "top", "bottom", "other_top", "other_bottom"] ["one", "other"] (defScope sLead) := ⟨rfl, rfl, rfl, by decide +kernel, rfl, by decide +kernel, by decide +kernel⟩
theorem ok_lead {f f1 : Addr} {fd fd1 : FuncData} (F : Fun K "_lead" "_lead" sLead f fd) (C_parts_of : Cal P w K mg base 1 "parts_of" f1 fd1 ["number"] (spParts C)) : FnOk P w K mg base CX0 2 f fd ["one", "other"] (spLead C) := by
  refine F.ok scLe (fun vs H Q E h => ?_) (fun cdv A outer s H vs Q E hr h => ?_)
  · obtain ⟨v, u, n, d, m, e, rfl, _⟩ := h
    rfl
  · obtain ⟨v, u, n, d, m, e, rfl, hv, hu, ⟨z1, z2, z3, z4⟩, q⟩ := h
    have nd := scLe.nd
    refine ⟨_, pss_cons (ps_asg (pe_call C_parts_of.F (hr.mono (by decide)) (by rfl) C_parts_of.mgf C_parts_of.kp C_parts_of.b .nil pass0 (pa_cons (pv 0) pa_nil)) (pg_tup (by rfl) (pgs_cons (pg_name (i := 2) nd rfl (Or.inl rfl)) (pgs_cons (pg_name (i := 3) nd rfl (Or.inl rfl)) pgs_nil))))
      (pss_cons (ps_asg (pe_call C_parts_of.F (hr.mono (by decide)) (by rfl) C_parts_of.mgf C_parts_of.kp C_parts_of.b .nil pass0 (pa_cons (pv 1) pa_nil)) (pg_tup (by rfl) (pgs_cons (pg_name (i := 4) nd rfl (Or.inl rfl)) (pgs_cons (pg_name (i := 5) nd rfl (Or.inl rfl)) pgs_nil))))
      (pss_one (ps_ret (pe_op op_sub (pe_op op_mulW (pv 2) (pv 5)) (pe_op op_mulW (pv 4) (pv 3)))))), ?_⟩
    refine ⟨_, rfl, _, _, _, rfl, hv, fun p hp => ⟨_, _, rfl, SqT.of upd_same, rfl, _, _, rfl, _, _, rfl, rfl, ?_⟩⟩
    have s1 : Same H (upd H p (.tup [.int n, .int d])) := same_new hp
    refine ⟨_, rfl, _, _, _, rfl, hu.same s1, fun p2 hp2 => ⟨_, _, rfl, SqT.of upd_same, rfl, _, _, rfl, _, _, rfl, rfl, ?_⟩⟩
    exact ⟨_, rfl, _, rfl, _, _, rfl, rfl, z1.mul z4, _, rfl, _, rfl, _, _, rfl, rfl, z3.mul z2, _, _, rfl, rfl, q _ (s1.trans (same_new hp2))⟩
end
end Toy
set_option maxRecDepth 100000
set_option maxHeartbeats 4000000
namespace Toy
open PySem L2
/-! ### a ratio made -/
theorem vint_ne {b c : Int} (h : b ≠ c) : ¬ (decide (V.int b = V.int c) = true) := fun e => h (V.int.inj (of_decide_eq_true e))
def CDivZ (_ j : Int) : Prop := j ≠ 0 ∧ j.natAbs.log2 < 9000
theorem op_fdivZ {X : Cx} : OpR X (binaryOp .FloorDiv) (rI CDivZ fun i j => .int (i.fdiv j)) := opI fun i j _ _ _ _ _ hc q => PyProof.Rows.floordiv_int hc.1 q (.inl (PyProof.noPylong_of_log2 hc.2))
def gcdI (t b : Int) : Int := ((Nat.gcd t.natAbs b.natAbs : Nat) : Int)
def lowD (t b : Int) : Int := if 0 < b then gcdI t b else -gcdI t b
def lowT (t b : Int) : Int := t.fdiv (lowD t b)
def lowB (t b : Int) : Int := b.fdiv (lowD t b)
theorem gcdI_pos {t b : Int} (h : b ≠ 0) : 0 < gcdI t b := by
  have h1 : 0 < b.natAbs := by omega
  have h2 := Nat.gcd_pos_of_pos_right t.natAbs h1
  unfold gcdI
  omega
theorem gcdI_neg {t b : Int} (h : b ≠ 0) : -gcdI t b ≠ 0 := by
  have := gcdI_pos (t := t) h
  omega
theorem gcdI_le {t b : Int} (h : b ≠ 0) : (gcdI t b).natAbs ≤ b.natAbs := by
  have h1 : 0 < b.natAbs := by omega
  have h2 := Nat.gcd_le_right t.natAbs h1
  unfold gcdI
  omega
theorem Sz.div {i j : Int} (h : j ≠ 0) (z : Sz j) : CDivZ i j := ⟨h, Nat.lt_trans (PySem.Flt.log2_lt_of (by decide) z) (by decide)⟩
theorem Sz.gcd {t b : Int} (h : b ≠ 0) (z : Sz b) : Sz (gcdI t b) := Nat.lt_of_le_of_lt (gcdI_le h) z
theorem Sz.neg {b : Int} (z : Sz b) : Sz (-b) := by unfold Sz; rw [Int.natAbs_neg]; exact z
theorem lowT_one {t b : Int} (h : 0 < b) (g : gcdI t b = 1) : lowT t b = t := by
  unfold lowT lowD
  rw [if_pos h, g]
  exact Int.fdiv_one t
theorem lowB_one {t b : Int} (h : 0 < b) (g : gcdI t b = 1) : lowB t b = b := by
  unfold lowB lowD
  rw [if_pos h, g]
  exact Int.fdiv_one b
theorem iteNot {b : Bool} {A B : Prop} (h : b = true) (x : B) : if (!b) = true then A else B := by
  subst h
  exact iteF x
theorem NumAt.info {K : PySem.W.Frag} {mg : Str → Option Value} {C : Addr} {x : Str} {H : Hp} {v : V} {n d : Int} (T : ClT K mg C x) (h : NumAt C H v n d) :
    ∃ t b c, TyX K H v t ∧ isIntK K t b ∧ PySem.W.kitOne K t (.ref C) = some c ∧ (b || c) = true := by
  cases h with
  | int => exact ⟨_, _, _, .base (.int _), isIntK_int, T.iK, rfl⟩
  | rat h => obtain ⟨dx, h⟩ := h; exact ⟨_, _, _, T.ty h, isIntK_own T, T.kS, rfl⟩
section
variable {P : Program} {w : World} {K : PySem.W.Frag} {mg : Str → Option Value} {base : Heap} {C : Addr}
def spRInit (C : Addr) : Sp := fun vs H Q _ => ∃ x dx t b, vs = [.ref x, .int t, .int b] ∧ H x = some (.ins C dx []) ∧ b ≠ 0 ∧ Sz b ∧ ∀ H', RatAt C H' x (lowT t b) (lowB t b) → (∀ c o, H c = some o → c ≠ x → H' c = some o) → Q .non H'
theorem spRInit.make {H1 : Hp} {t b : Int} {Q : VK} {E : XK} (hb : b ≠ 0) (hz : Sz b) (q : ∀ x H', H1 x = none → Same H1 H' → RatAt C H' x (lowT t b) (lowB t b) → Q (.ref x) H') :
    ∀ x dx, H1 x = none → H1 dx = none → dx ≠ x → spRInit C [.ref x, .int t, .int b] (upd (upd H1 dx (.own x)) x (.ins C dx [])) (fun v H2 => v = .non ∧ Q (.ref x) H2) E := fun x dx hx hdx hne =>
  ⟨x, dx, t, b, rfl, upd_same, hb, hz, fun H' hR hk => ⟨rfl, q x H' hx (fun c o e => hk c o (by rw [upd_ne (ne_of_none e hx), upd_ne (ne_of_none e hdx)]; exact e) (ne_of_none e hx)) hR⟩⟩
abbrev sRInit : Stmt := inClass (top 18) 0
theorem scRI : FnScope ["self", "top", "bottom", "divisor"] ["self", "top", "bottom"] (defScope sRInit) := ⟨rfl, rfl, rfl, by decide +kernel, rfl, by decide +kernel, by decide +kernel⟩
theorem ok_rinit {f f1 : Addr} {fd fd1 : FuncData} (F : FunD K "__init__" "Ratio.__init__" (defArgs sRInit) (defBody sRInit) (defScope sRInit) [.int 1] [] f fd) (T : Bl mg) (T_Ratio : RatT K mg C) (C_is_int : Cal P w K mg base 1 "is_int" f1 fd1 ["value"] (spIsInt K)) :
    FnOk P w K mg base CX0 2 f fd ["self", "top", "bottom"] (spRInit C) := by
  refine F.ok scRI (fun vs H Q E h => ?_) (fun cdv A outer s H vs Q E hr h => ?_)
  · obtain ⟨x, dx, t, b, rfl, _⟩ := h
    rfl
  · obtain ⟨x, dx, t, b, rfl, hx, hb, hz, q⟩ := h
    have nd := scRI.nd
    refine ⟨_, pss_cons (ps_if (pt_not (pt_val (pe_call C_is_int.F (hr.mono (by decide)) (by rfl) C_is_int.mgf C_is_int.kp C_is_int.b .nil pass0 (pa_cons (pv 1) pa_nil)))) pss_never pss_nil)
      (pss_cons (ps_if (pt_not (pt_val (pe_call C_is_int.F (hr.mono (by decide)) (by rfl) C_is_int.mgf C_is_int.kp C_is_int.b .nil pass0 (pa_cons (pv 2) pa_nil)))) pss_never pss_nil)
      (pss_cons (ps_if (pt_cmpR op_eq (pv 2) pe_int (nomark _)) pss_never pss_nil)
      (pss_cons (ps_set (i := 3) nd rfl (Or.inl rfl) (pe_ifExp (pt_cmpR op_gt (pv 2) pe_int (nomark _)) (pe_callBfun cr_gcd (by rfl) T.gcd (pa_cons (pv 1) (pa_cons (pv 2) pa_nil))) (pe_un un_neg (pe_callBfun cr_gcd (by rfl) T.gcd (pa_cons (pv 1) (pa_cons (pv 2) pa_nil))))))
      (pss_cons (ps_fld (pv 0) (pe_op op_fdivZ (pv 1) (pv 3)) rfl)
      (pss_one (ps_fld (pv 0) (pe_op op_fdivZ (pv 2) (pv 3)) rfl)))))), ?_⟩
    refine ⟨_, rfl, _, _, true, rfl, .base (.int _), isIntK_int, _, rfl, iteF ?_⟩
    refine ⟨_, rfl, _, _, true, rfl, .base (.int _), isIntK_int, _, rfl, iteF ?_⟩
    refine ⟨_, rfl, rfl, _, rfl, ?_⟩
    refine ite2 (fun e => absurd e (vint_ne hb)) (fun _ => ?_)
    refine ⟨_, rfl, _, _, rfl, rfl, _, rfl, ?_⟩
    have fin : ∀ z : Int, z = lowD t b → Q .non (upd (upd H x (.ins C dx (putF "top" (.int (t.fdiv z)) []))) x (.ins C dx (putF "bottom" (.int (b.fdiv z)) (putF "top" (.int (t.fdiv z)) [])))) := fun z e =>
      q _ ⟨dx, by rw [e]; exact upd_same⟩ fun c o h n => by rw [upd_ne n, upd_ne n]; exact h
    refine ite2 (fun hp => ?_) (fun hp => ?_)
    · have hp1 : 0 < b := of_decide_eq_true hp
      refine ⟨_, rfl, _, rfl, _, _, rfl, ?_⟩
      refine ⟨_, rfl, _, rfl, _, _, rfl, rfl, (Sz.gcd hb hz).div (by have := gcdI_pos (t := t) hb; exact Int.ne_of_gt this), _, rfl, x, C, dx, _, rfl, hx, T_Ratio.cl, T_Ratio.nT, (by decide : 0 < 1000), ?_⟩
      refine ⟨_, rfl, _, rfl, _, _, rfl, rfl, (Sz.gcd hb hz).div (by have := gcdI_pos (t := t) hb; exact Int.ne_of_gt this), _, rfl, x, C, dx, _, rfl, upd_same, T_Ratio.cl, T_Ratio.nB, (by decide : 1 < 1000), ?_⟩
      exact fin _ (by unfold lowD; rw [if_pos hp1]; rfl)
    · have hp1 : ¬ 0 < b := fun e => hp (decide_eq_true e)
      refine ⟨_, rfl, _, rfl, _, _, rfl, _, rfl, ?_⟩
      refine ⟨_, rfl, _, rfl, _, _, rfl, rfl, (Sz.gcd hb hz).neg.div (gcdI_neg hb), _, rfl, x, C, dx, _, rfl, hx, T_Ratio.cl, T_Ratio.nT, (by decide : 0 < 1000), ?_⟩
      refine ⟨_, rfl, _, rfl, _, _, rfl, rfl, (Sz.gcd hb hz).neg.div (gcdI_neg hb), _, rfl, x, C, dx, _, rfl, upd_same, T_Ratio.cl, T_Ratio.nB, (by decide : 1 < 1000), ?_⟩
      exact fin _ (by unfold lowD; rw [if_neg hp1]; rfl)

end
end Toy
set_option maxHeartbeats 1000000
/-! The first number on some keys (pure arithmetic). -/
namespace KF
theorem mod_uniq {x s t r : Int} (h : x = s * t + r) (h0 : 0 ≤ r) (h1 : r < s) : x % s = r := by
  rw [h, Int.add_comm, Int.add_mul_emod_self_left, Int.emod_eq_of_lt h0 h1]
theorem div_uniq {x s t r : Int} (h : x = s * t + r) (h0 : 0 ≤ r) (h1 : r < s) : x / s = t := by
  rw [h, Int.add_comm, Int.add_mul_ediv_left _ _ (by omega), Int.ediv_eq_zero_of_lt h0 h1]
  omega
/-- the least integer that is not below x / s -/
def cl (x s : Int) : Int := -(-x / s)
theorem cl_ge {x s : Int} (hs : 0 < s) : x ≤ cl x s * s := by
  unfold cl
  have h := Int.ediv_mul_le (-x) (show s ≠ 0 by omega)
  rw [Int.neg_mul]
  omega
theorem cl_le {x s k : Int} (hs : 0 < s) (h : x ≤ k * s) : cl x s ≤ k := by
  unfold cl
  have h2 : -k ≤ -x / s := (Int.le_ediv_iff_mul_le hs).mpr (by rw [Int.neg_mul]; omega)
  omega
/-- k steps lead to one of the keys from lo to hi -/
def Hit (lo hi s b k : Int) : Prop := ∃ m, lo ≤ k * s - m * b ∧ k * s - m * b ≤ hi
structure Fst (lo hi s b k : Int) : Prop where
  k0 : 0 ≤ k
  hit : Hit lo hi s b k
  least : ∀ j, 0 ≤ j → Hit lo hi s b j → k ≤ j
/-- what is asked at each level -/
structure Lv (lo hi s b : Int) : Prop where
  l0 : 0 < lo
  lh : lo ≤ hi
  hb : hi < b
  s0 : 0 < s
  sb : s < b
  g : Int.gcd s b = 1
theorem Fst.lt {lo hi s b k : Int} (hb : 0 < b) (h : Fst lo hi s b k) : k < b := by
  refine Int.lt_of_not_ge fun hk => ?_
  obtain ⟨m, h1, h2⟩ := h.hit
  have e : (k - b) * s - (m - s) * b = k * s - m * b := by grind
  have := h.least (k - b) (by omega) ⟨m - s, by omega, by omega⟩
  omega
theorem m_nonneg {lo hi s b k m : Int} (v : Lv lo hi s b) (k0 : 0 ≤ k) (h : k * s - m * b ≤ hi) : 0 ≤ m := by
  refine Int.le_of_not_gt fun hm => ?_
  have h1 := Int.mul_nonneg k0 (Int.le_of_lt v.s0)
  have h2 : m * b ≤ -1 * b := Int.mul_le_mul_of_nonneg_right (by omega) (by have := v.s0; have := v.sb; omega)
  have := v.hb
  omega
theorem base {lo hi s b : Int} (v : Lv lo hi s b) (h : lo ≤ hi / s * s) : Fst lo hi s b (cl lo s) := by
  have h1 := cl_ge (x := lo) v.s0
  have h2 := cl_le v.s0 h
  have h3 := Int.mul_le_mul_of_nonneg_right h2 (Int.le_of_lt v.s0)
  have h4 := Int.ediv_mul_le hi (show s ≠ 0 by have := v.s0; omega)
  have k0 : 0 ≤ cl lo s := by
    refine Int.le_of_not_gt fun hn => ?_
    have := Int.mul_le_mul_of_nonneg_right (show cl lo s ≤ -1 by omega) (Int.le_of_lt v.s0)
    have := v.l0; have := v.s0
    omega
  refine ⟨k0, ⟨0, by omega, by omega⟩, fun j j0 ⟨m, g1, g2⟩ => cl_le v.s0 ?_⟩
  have hm := m_nonneg v j0 g2
  have := Int.mul_nonneg hm (show 0 ≤ b by have := v.s0; have := v.sb; omega)
  omega
/-- a level and the next one -/
theorem parts {lo hi s b : Int} (v : Lv lo hi s b) (h : hi / s * s < lo) : ∃ q rl rh t, hi = s * q + rh ∧ lo = s * q + rl ∧ 0 < rl ∧ rl ≤ rh ∧ rh < s ∧ -hi % s = s - rh ∧ -lo % s = s - rl ∧ b = s * t + b % s := by
  have s0 := v.s0
  have e := Int.mul_ediv_add_emod hi s
  have r0 := Int.emod_nonneg hi (show s ≠ 0 by omega)
  have r1 := Int.emod_lt_of_pos hi s0
  have e2 := Int.mul_ediv_add_emod b s
  rw [Int.mul_comm] at h
  have lh := v.lh
  refine ⟨hi / s, lo - s * (hi / s), hi % s, b / s, by omega, by omega, by omega, by omega, r1, mod_uniq (t := -(hi / s) - 1) ?_ (by omega) (by omega), mod_uniq (t := -(hi / s) - 1) ?_ (by omega) (by omega), by omega⟩
  · have e3 : s * (-(hi / s) - 1) = -(s * (hi / s)) - s := by grind
    omega
  · have e3 : s * (-(hi / s) - 1) = -(s * (hi / s)) - s := by grind
    omega
theorem next {lo hi s b : Int} (v : Lv lo hi s b) (h : hi / s * s < lo) : Lv (-hi % s) (-lo % s) (b % s) s := by
  obtain ⟨q, rl, rh, t, e1, e2, h1, h2, h3, e3, e4, e5⟩ := parts v h
  have s0 := v.s0
  have m0 := Int.emod_nonneg b (show s ≠ 0 by omega)
  have m1 := Int.emod_lt_of_pos b s0
  have g := v.g
  have g2 : Int.gcd (b % s) s = 1 := by
    have sb := v.sb
    rw [← g]
    obtain ⟨n, rfl⟩ := Int.eq_ofNat_of_zero_le (show 0 ≤ b by omega)
    obtain ⟨m, rfl⟩ := Int.eq_ofNat_of_zero_le (show 0 ≤ s by omega)
    have e : ((n : Int) % (m : Int)) = ((n % m : Nat) : Int) := rfl
    rw [e]
    show Nat.gcd (n % m) m = Nat.gcd m n
    exact (Nat.gcd_rec m n).symm
  refine ⟨by omega, by omega, by omega, ?_, m1, g2⟩
  rcases Int.lt_or_eq_of_le m0 with e | e
  · exact e
  · rw [← e, Int.gcd_zero_left] at g2
    omega
theorem hit_next {lo hi s b m : Int} (v : Lv lo hi s b) (h : hi / s * s < lo) : Hit (-hi % s) (-lo % s) (b % s) s m ↔ ∃ k, lo ≤ k * s - m * b ∧ k * s - m * b ≤ hi := by
  obtain ⟨q, rl, rh, t, e1, e2, h1, h2, h3, e3, e4, e5⟩ := parts v h
  rw [e3, e4]
  generalize b % s = s' at e5
  constructor
  · rintro ⟨j, g1, g2⟩
    refine ⟨j + m * t + q + 1, ?_, ?_⟩
    · have e : (j + m * t + q + 1) * s - m * b = s * q + s - (m * s' - j * s) := by rw [e5]; grind
      omega
    · have e : (j + m * t + q + 1) * s - m * b = s * q + s - (m * s' - j * s) := by rw [e5]; grind
      omega
  · rintro ⟨k, g1, g2⟩
    refine ⟨k - m * t - q - 1, ?_, ?_⟩
    · have e : m * s' - (k - m * t - q - 1) * s = s * q + s - (k * s - m * b) := by rw [e5]; grind
      omega
    · have e : m * s' - (k - m * t - q - 1) * s = s * q + s - (k * s - m * b) := by rw [e5]; grind
      omega
theorem back {lo hi s b m : Int} (v : Lv lo hi s b) (h : hi / s * s < lo) (f : Fst (-hi % s) (-lo % s) (b % s) s m) : Fst lo hi s b (cl (lo + m * b) s) := by
  obtain ⟨k1, g1, g2⟩ := (hit_next v h).mp f.hit
  have s0 := v.s0
  have b0 : 0 ≤ b := by have := v.sb; omega
  have h1 := cl_ge (x := lo + m * b) s0
  have h2 := cl_le (x := lo + m * b) (k := k1) s0 (by omega)
  have h3 := Int.mul_le_mul_of_nonneg_right h2 (Int.le_of_lt s0)
  have mb := Int.mul_nonneg f.k0 b0
  have k0 : 0 ≤ cl (lo + m * b) s := by
    refine Int.le_of_not_gt fun hn => ?_
    have := Int.mul_le_mul_of_nonneg_right (show cl (lo + m * b) s ≤ -1 by omega) (Int.le_of_lt s0)
    have := v.l0
    omega
  refine ⟨k0, ⟨m, by omega, by omega⟩, fun j j0 ⟨m2, g3, g4⟩ => cl_le s0 ?_⟩
  have hm := m_nonneg v j0 g4
  have := f.least m2 hm ((hit_next v h).mpr ⟨j, g3, g4⟩)
  have := Int.mul_le_mul_of_nonneg_right this b0
  omega
/-- note j is on one of the keys from lo to hi -/
theorem on_iff {lo hi t b j : Int} (h0 : 0 ≤ lo) (h1 : hi < b) (b0 : 0 < b) : (lo ≤ j * t % b ∧ j * t % b ≤ hi) ↔ Hit lo hi t b j := by
  have e := Int.mul_ediv_add_emod (j * t) b
  constructor
  · rintro ⟨g1, g2⟩
    refine ⟨j * t / b, ?_, ?_⟩ <;> rw [Int.mul_comm (j * t / b)] <;> omega
  · rintro ⟨m, g1, g2⟩
    have := mod_uniq (x := j * t) (s := b) (t := m) (r := j * t - m * b) (by rw [Int.mul_comm b]; omega) (by omega) (by omega)
    omega
structure First (lo hi t b st n : Int) : Prop where
  ge : st ≤ n
  on : Hit lo hi t b n
  least : ∀ j, st ≤ j → Hit lo hi t b j → n ≤ j
theorem first_here {lo hi t b st : Int} (h0 : 0 ≤ lo) (lh : lo ≤ hi) (h1 : hi < b) (h : (lo - st * t % b) % b = 0 ∨ (hi - st * t % b) % b < (lo - st * t % b) % b) : First lo hi t b st st := by
  have b0 : 0 < b := by omega
  have k0 := Int.emod_nonneg (st * t) (show b ≠ 0 by omega)
  have k1 := Int.emod_lt_of_pos (st * t) b0
  refine ⟨Int.le_refl _, (on_iff h0 h1 b0).mp ?_, fun j hj _ => hj⟩
  generalize st * t % b = key at *
  by_cases g1 : key < lo
  · rw [Int.emod_eq_of_lt (by omega) (show lo - key < b by omega), Int.emod_eq_of_lt (by omega) (show hi - key < b by omega)] at h
    omega
  · by_cases g2 : hi < key
    · rw [mod_uniq (x := lo - key) (t := -1) (r := lo - key + b) (by omega) (by omega) (by omega), mod_uniq (x := hi - key) (t := -1) (r := hi - key + b) (by omega) (by omega) (by omega)] at h
      omega
    · omega
theorem first_far {lo hi t b st : Int} (h0 : 0 ≤ lo) (lh : lo ≤ hi) (h1 : hi < b) (t0 : 0 < t) (tb : t < b) (g : Int.gcd t b = 1) (n0 : (lo - st * t % b) % b ≠ 0) (h : (lo - st * t % b) % b ≤ (hi - st * t % b) % b) :
    Lv ((lo - st * t % b) % b) ((hi - st * t % b) % b) t b ∧ ∀ k, Fst ((lo - st * t % b) % b) ((hi - st * t % b) % b) t b k → First lo hi t b st (st + k) := by
  have b0 : 0 < b := by omega
  have k0 := Int.emod_nonneg (st * t) (show b ≠ 0 by omega)
  have k1 := Int.emod_lt_of_pos (st * t) b0
  have e := Int.mul_ediv_add_emod (st * t) b
  have x0 := Int.emod_nonneg (lo - st * t % b) (show b ≠ 0 by omega)
  have y1 := Int.emod_lt_of_pos (hi - st * t % b) b0
  generalize st * t % b = key at *
  generalize hq : st * t / b = qq at *
  obtain ⟨c, e1, e2⟩ : ∃ c, (lo - key) % b = lo - key + c * b ∧ (hi - key) % b = hi - key + c * b := by
    by_cases g1 : key < lo
    · exact ⟨0, by rw [Int.emod_eq_of_lt (by omega) (show lo - key < b by omega)]; omega, by rw [Int.emod_eq_of_lt (by omega) (show hi - key < b by omega)]; omega⟩
    · by_cases g2 : hi < key
      · exact ⟨1, by rw [mod_uniq (x := lo - key) (t := -1) (r := lo - key + b) (by omega) (by omega) (by omega)]; omega, by rw [mod_uniq (x := hi - key) (t := -1) (r := hi - key + b) (by omega) (by omega) (by omega)]; omega⟩
      · exfalso
        by_cases g3 : key = lo
        · rw [g3, Int.sub_self, Int.zero_emod] at n0
          exact n0 rfl
        · rw [mod_uniq (x := lo - key) (t := -1) (r := lo - key + b) (by omega) (by omega) (by omega), Int.emod_eq_of_lt (by omega) (show hi - key < b by omega)] at h
          omega
  have hit : ∀ k, Hit ((lo - key) % b) ((hi - key) % b) t b k ↔ Hit lo hi t b (st + k) := fun k => by
    rw [e1, e2]
    constructor
    · rintro ⟨m, g1, g2⟩
      have e3 : (st + k) * t - (m + qq + c) * b = k * t - m * b + key - c * b := by grind
      exact ⟨m + qq + c, by omega, by omega⟩
    · rintro ⟨m, g1, g2⟩
      have e3 : k * t - (m - qq - c) * b = (st + k) * t - m * b - key + c * b := by grind
      exact ⟨m - qq - c, by omega, by omega⟩
  refine ⟨⟨by omega, h, y1, t0, tb, g⟩, fun k f => ⟨by have := f.k0; omega, (hit k).mp f.hit, fun j hj hh => ?_⟩⟩
  have := f.least (j - st) (by omega) ((hit _).mpr (by rw [show st + (j - st) = j by omega]; exact hh))
  omega
/-! the levels that were passed, the last one first -/
abbrev Qd := Int × Int × Int × Int
def nxt (r : Qd) : Qd := (-r.2.1 % r.2.2.1, -r.1 % r.2.2.1, r.2.2.2 % r.2.2.1, r.2.2.1)
def Ok (r : Qd) : Prop := Lv r.1 r.2.1 r.2.2.1 r.2.2.2
def Ch (q0 : Qd) : List Qd → Qd → Prop
  | [], q => q = q0
  | r :: rs, q => q = nxt r ∧ Ok r ∧ r.2.1 / r.2.2.1 * r.2.2.1 < r.1 ∧ Ch q0 rs r
/-- the product of step and bottom halves -/
theorem half {lo hi s b : Int} (v : Lv lo hi s b) : 2 * (b % s * s) ≤ s * b := by
  have s0 := v.s0
  have sb := v.sb
  have e := Int.mul_ediv_add_emod b s
  have r1 := Int.emod_lt_of_pos b s0
  have q1 : 1 ≤ b / s := (Int.le_ediv_iff_mul_le s0).mpr (by omega)
  have q2 := Int.mul_le_mul_of_nonneg_left q1 (Int.le_of_lt s0)
  have h : 2 * (b % s) ≤ b := by omega
  have := Int.mul_le_mul_of_nonneg_right h (Int.le_of_lt s0)
  have e2 : 2 * (b % s) * s = 2 * (b % s * s) := by grind
  have e3 : b * s = s * b := by grind
  omega
theorem ch_len {q0 : Qd} : ∀ (rs : List Qd) (q : Qd), Ch q0 rs q → 2 ^ rs.length * (q.2.2.1 * q.2.2.2) ≤ q0.2.2.1 * q0.2.2.2
  | [], q, h => by
    have h : q = q0 := h
    subst h
    show 1 * _ ≤ _
    omega
  | r :: rs, q, h => by
    obtain ⟨rfl, ok, hp, hc⟩ := h
    have ih := ch_len rs r hc
    have h2 := half ok
    show 2 ^ (rs.length + 1) * (r.2.2.2 % r.2.2.1 * r.2.2.1) ≤ _
    have e : (2 : Int) ^ (rs.length + 1) * (r.2.2.2 % r.2.2.1 * r.2.2.1) = 2 ^ rs.length * (2 * (r.2.2.2 % r.2.2.1 * r.2.2.1)) := by rw [Int.pow_succ]; grind
    have h3 := Int.mul_le_mul_of_nonneg_left h2 (show (0 : Int) ≤ 2 ^ rs.length from Int.le_of_lt (Int.pow_pos (by decide)))
    omega
theorem ch_le {q0 : Qd} : ∀ (rs : List Qd) (q : Qd), Ch q0 rs q → q.2.2.2 ≤ q0.2.2.2
  | [], q, h => by
    have h : q = q0 := h
    subst h
    exact Int.le_refl _
  | r :: rs, q, h => by
    obtain ⟨rfl, ok, hp, hc⟩ := h
    have ih := ch_le rs r hc
    have : r.2.2.1 < r.2.2.2 := ok.sb
    show r.2.2.1 ≤ _
    omega
end KF
set_option maxRecDepth 100000
set_option maxHeartbeats 4000000
/-! x(*y, e, ..): a starred argument first, others behind it. -/
namespace Own
open PySem PySem.Spec PyProof.Rows L2 StX
theorem args_sf {M : Model} {A : Around} {E : Value → Shared → Prop} {s : Shared} {f : Value} {x : Sem Value} {y : Bool × Sem Value} {rest : List (Bool × Sem Value)} {Q : Args → Shared → Prop}
    (h : wpAny M A (spliced ((true, x) :: y :: rest)) (fun vs s' => Q ⟨vs, []⟩ s') E s) : wpAny M A (evalArgs f true ((true, x) :: y :: rest) []) Q E s := by
  unfold evalArgs
  show wpAny M A (spliced ((true, x) :: y :: rest) >>= _) Q E s
  refine wpAny_bind (wpAny_mono h (fun vs s' q => ?_) fun _ _ x => x)
  exact wpAny_holding (wpAny_bind (wpAny_pure (wpAny_bind (wpAny_pure (wpAny_pure q)))))
section
variable {X : Cx} {CX : CXT} {k : Nat} {f : Addr} {sp : Sp} {E : XK} {x : Str} {e e2 : Expr} {es : List Expr} {te : TE} {t : TA} {p sp_ pos : Pos}
theorem pe_callSF (F : FnR X.prog X.w X.K X.mg X.base CX k f sp) (hr : Room k X.A) (hk : PySem.W.keepIn X.K (.ref f) = true) (hg : Gl X x) (hm : X.mg x = some (.ref f)) (hx : Passes CX X E) (he : PE X e te) (ha : PA X (e2 :: es) t) (hd : (x == ("__debug__" : Str)) = false := by decide)
    (hst : starEach (.Starred e sp_ :: e2 :: es) X.env = (true, eval e X.env) :: (false, eval e2 X.env) :: starEach es X.env := by rfl) (hs2 : starEach (.Starred e sp_ :: e2 :: es) X.env = (true, eval e X.env) :: starEach (e2 :: es) X.env := by rfl) :
    PE X (.Call (.Name x p) (.Starred e sp_ :: e2 :: es) [] pos) (fun σ H Q => te σ H fun y H1 => ∃ a xs, y = V.ref a ∧ (SqT X.K H1 a xs ∨ SqL X.K H1 a xs) ∧ t σ H1 fun ys H2 => sp (xs ++ ys) H2 Q E) := by
  refine ⟨fun pins s σ H Q I h => ?_⟩
  refine wpAny_Call_Name_kw (ld_glob I hg hm ?_ hd)
  have go : wpAny (model X.prog X.w) X.A (spliced (backTo pos (starEach (.Starred e sp_ :: e2 :: es) X.env))) (fun vs s1 => X.K.In s1.heap ∧ wpAny (model X.prog X.w) X.A (call (.ref f) ([] ++ vs)) (EP X pins σ Q) X.xe s1) X.xe s := by
    refine PySem.W.items_star (thn (he.run pins s σ H _ I h) fun v s1 z => ?_) hs2
    obtain ⟨y, H1, I1, ry, a, xs, ey, hxs, q⟩ := z
    subst ey
    obtain rfl : v = Value.ref a := ry
    refine star_any I1 hxs fun us s2 I2 rv => ?_
    refine thn (ha.run pos pins s2 σ H1 _ I2 q) fun ws s3 z => ?_
    obtain ⟨vs, H3, I3, r3, q3⟩ := z
    exact ⟨I3.kIn, wpAny_call (run_fnR F hr hx I3 (rv.append r3) q3)⟩
  rw [hst] at go ⊢
  exact PySem.W.ks_call rfl (PySem.W.keeps_K hk) (args_sf go)
end
/-! f(k = v, ..) with keywords alone -/
def tCallK0 (n : Nat) (sp : Sp) (gV : List V → List V → List V) (E : XK) (tk : TA) : TE := fun σ H Q => tk σ H fun zs H1 => zs.length = n ∧ sp (gV [] zs) H1 Q E
section
variable {X : Cx} {CX : CXT} {k : Nat} {f : Addr} {fd : FuncData} {sp : Sp} {E : XK} {x : Str} {p pos : Pos} {ps ks : List Str} {kws : List Keyword} {tk : TA} {g : List Value → List Value → List Value} {gV : List V → List V → List V}
theorem pe_callK0 (F : FnOk X.prog X.w X.K X.mg X.base CX k f fd ps sp) (hr : Room k X.A) (hg : Gl X x) (hm : X.mg x = some (.ref f)) (hk : PySem.W.keepIn X.K (.ref f) = true) (hb : KBn X.K fd ps 0 ks g gV) (hx : Passes CX X E) (hkw : PK X kws tk)
    (hall : (backToKw pos (keywordEach kws X.env)).all (·.1.isSome) = true := by rfl) (hks : (backToKw pos (keywordEach kws X.env)).filterMap (·.1) = ks := by rfl)
    (hdb : (x == ("__debug__" : Str)) = false := by decide) (hpl : ((backTo pos (starEach [] X.env)).any (·.1) || (backToKw pos (keywordEach kws X.env)).any (·.1.isNone)) = false := by rfl) :
    PE X (.Call (.Name x p) [] kws pos) (tCallK0 ks.length sp gV E tk) := by
  refine ⟨fun pins s σ H Q I h => ?_⟩
  refine wpAny_Call_Name_kw (ld_glob I hg hm ?_ hdb)
  refine PySem.W.callWith_KW0 (first := []) (h₀ := X.base) I.ok.mod.kin hk hall (thn (hkw.run pos pins s σ H _ I h) fun ws s2 ⟨zs, H2, I2, rz, hl, q2⟩ => ⟨I2.kIn, ?_⟩) hpl
  rw [hks]
  exact run_fnN (us := []) (vs := []) F hr hb hx I2 .nil rz rfl hl q2
end
end Own
set_option maxRecDepth 100000
set_option maxHeartbeats 4000000
set_option exponentiation.threshold 3000
namespace Toy
open PySem L2 KF
theorem iteTb {b : Bool} {A B : Prop} (h : b = true) (x : A) : if b = true then A else B := by
  subst h
  exact iteT x
theorem iteFb {b : Bool} {A B : Prop} (h : b = false) (x : B) : if b = true then A else B := by
  subst h
  exact iteF x
theorem qtrue {Q : VK} {H : Hp} {b : Bool} (h : b = true) (q : Q (.bl true) H) : Q (.bl b) H := by subst h; exact q
theorem and2 {a b : Bool} (h : a = true) (g : b = true) : (a && b) = true := by rw [h, g]; rfl
theorem vdec (a b : Int) : decide (V.int a = V.int b) = decide (a = b) := by
  by_cases h : a = b
  · rw [decide_eq_true h, decide_eq_true (congrArg V.int h)]
  · rw [decide_eq_false h, decide_eq_false fun e => h (V.int.inj e)]
theorem Sz.divW {i j : Int} (h0 : 0 < j) (z : Sz j) : CDivW i j := wide_div h0 z (by decide) (by decide)
theorem Sz.le {i j : Int} (h0 : 0 ≤ i) (h : i ≤ j) (z : Sz j) : Sz i := Nat.lt_of_le_of_lt (by omega) z
/-- below 2 ^ 140: what forty figures come to -/
def Bg (z : Int) : Prop := z.natAbs < 2 ^ 140
theorem Bg.sz {z : Int} (h : Bg z) : Sz z := Nat.lt_of_lt_of_le h (Nat.pow_le_pow_right (by decide) (by decide))
theorem Bg.le {i j : Int} (h0 : 0 ≤ i) (h : i ≤ j) (z : Bg j) : Bg i := Nat.lt_of_le_of_lt (by omega) z
theorem same_set {H H' : Hp} {p : Addr} {o : HO} (s : Same H H') (h : H p = none) : Same H (upd H' p o) := fun b u e => by rw [upd_ne (ne_of_none e h)]; exact s b u e
section
variable {P : Program} {w : World} {K : PySem.W.Frag} {mg : Str → Option Value} {base : Heap} {C : Addr}
def spShort : Sp := fun vs H Q _ => ∃ i : Int, vs = [.int i] ∧ i.natAbs < 10 ^ 40 ∧ Q (.bl true) H
abbrev sShort : Stmt := top 13
theorem scSh : FnScope ["value"] ["value"] (defScope sShort) := ⟨rfl, rfl, rfl, by decide +kernel, rfl, by decide +kernel, by decide +kernel⟩
theorem ok_short {f f1 : Addr} {fd fd1 : FuncData} (F : Fun K "is_short" "is_short" sShort f fd) (T : Bl mg) (C_is_int : Cal P w K mg base 1 "is_int" f1 fd1 ["value"] (spIsInt K)) : FnOk P w K mg base CX0 2 f fd ["value"] spShort := by
  refine F.ok scSh (fun vs H Q E h => ?_) (fun cdv A outer s H vs Q E hr h => ?_)
  · obtain ⟨i, rfl, _⟩ := h
    rfl
  · obtain ⟨i, rfl, hi, q⟩ := h
    have nd := scSh.nd
    refine ⟨_, pss_one (ps_ret (pe_and (pe_call C_is_int.F (hr.mono (by decide)) (by rfl) C_is_int.mgf C_is_int.kp C_is_int.b .nil pass0 (pa_cons (pv 0) pa_nil)) (pe_one (pe_cmpR op_lt (pe_callB call_abs (by rfl) T.abs (by decide +kernel) (pa_cons (pv 0) pa_nil)) (pe_op op_pow pe_int pe_int) (nomark _))))), ?_⟩
    refine ⟨_, rfl, _, _, true, rfl, .base (.int _), isIntK_int, _, rfl, iteT ?_⟩
    refine ⟨_, rfl, _, rfl, _, _, rfl, rfl, ⟨by decide, by decide, by decide⟩, _, _, rfl, rfl, ?_⟩
    have e : decide ((if i < 0 then -i else i) < (10 : Int) ^ (40 : Int).toNat) = true := decide_eq_true (by
      rw [show (10 : Int) ^ (40 : Int).toNat = ((10 ^ 40 : Nat) : Int) by decide +kernel]
      split <;> omega)
    exact qtrue e q
def spFromTo : Sp := fun vs H Q _ => ∃ v lo hi : Int, vs = [.int v, .int lo, .int hi] ∧ lo ≤ v ∧ v ≤ hi ∧ Q (.bl true) H
abbrev sFromTo : Stmt := top 16
theorem scFT : FnScope ["value", "low", "high"] ["value", "low", "high"] (defScope sFromTo) := ⟨rfl, rfl, rfl, by decide +kernel, rfl, by decide +kernel, by decide +kernel⟩
theorem ok_fromto {f f1 : Addr} {fd fd1 : FuncData} (F : Fun K "is_from_to" "is_from_to" sFromTo f fd) (C_is_int : Cal P w K mg base 1 "is_int" f1 fd1 ["value"] (spIsInt K)) : FnOk P w K mg base CX0 2 f fd ["value", "low", "high"] spFromTo := by
  refine F.ok scFT (fun vs H Q E h => ?_) (fun cdv A outer s H vs Q E hr h => ?_)
  · obtain ⟨v, lo, hi, rfl, _⟩ := h
    rfl
  · obtain ⟨v, lo, hi, rfl, h1, h2, q⟩ := h
    have nd := scFT.nd
    refine ⟨_, pss_one (ps_ret (pe_and (pe_call C_is_int.F (hr.mono (by decide)) (by rfl) C_is_int.mgf C_is_int.kp C_is_int.b .nil pass0 (pa_cons (pv 0) pa_nil)) (pe_one (pe_chain op_le op_le (pv 1) (pv 0) (pv 2))))), ?_⟩
    refine ⟨_, rfl, _, _, true, rfl, .base (.int _), isIntK_int, _, rfl, iteT ?_⟩
    refine ⟨_, rfl, _, rfl, _, _, rfl, rfl, _, rfl, iteTb (decide_eq_true h1) ⟨_, rfl, _, _, rfl, rfl, ?_⟩⟩
    exact qtrue (decide_eq_true h2) q
/-- a fifth of two ints -/
structure FifAt (C : Addr) (H : Hp) (a : Addr) (t b : Int) : Prop where
  at_ : RatAt C H a t b
  t0 : 0 < t
  tb : t < b
theorem FifAt.same {H H' : Hp} {a : Addr} {t b : Int} (h : FifAt C H a t b) (s : Same H H') : FifAt C H' a t b := ⟨h.at_.same s, h.t0, h.tb⟩
def spIsFifth (C : Addr) : Sp := fun vs H Q _ => ∃ a t b, vs = [.ref a] ∧ FifAt C H a t b ∧ Q (.bl true) H
abbrev sIsFifth : Stmt := inClass (top 18) 2
theorem scIF : FnScope ["value"] ["value"] (defScope sIsFifth) := ⟨rfl, rfl, rfl, by decide +kernel, rfl, by decide +kernel, by decide +kernel⟩
theorem ok_isfifth {f : Addr} {fd : FuncData} (F : Fun K "is_fifth" "Ratio.is_fifth" sIsFifth f fd) (T : Bl mg) (T_Ratio : RatT K mg C) : FnOk P w K mg base CX0 1 f fd ["value"] (spIsFifth C) := by
  refine F.ok scIF (fun vs H Q E h => ?_) (fun cdv A outer s H vs Q E hr h => ?_)
  · obtain ⟨a, t, b, rfl, _⟩ := h
    rfl
  · obtain ⟨a, t, b, rfl, ⟨⟨dx, h⟩, t0, tb⟩, k⟩ := h
    have nd := scIF.nd
    refine ⟨_, pss_one (ps_ret (pe_and (pe_callB call_isi (by rfl) T.isinstance (by decide +kernel) (pa_cons (pv 0) (pa_cons (Own.pe_gref (by rfl) T_Ratio.mgC) pa_nil))) (pe_one (pe_chain op_lt op_lt pe_int (pe_fld (pv 0) rfl) (pe_fld (pv 0) rfl))))), ?_⟩
    refine ⟨_, rfl, _, _, _, _, true, rfl, .own _, T_Ratio.ty h, T_Ratio.kS, _, rfl, iteT ?_⟩
    refine ⟨_, rfl, _, C, dx, _, _, rfl, h, T_Ratio.cl, T_Ratio.nT, ratF_top _ _, _, _, rfl, rfl, _, rfl, iteTb (decide_eq_true t0) ⟨_, rfl, _, C, dx, _, _, rfl, h, T_Ratio.cl, T_Ratio.nB, ratF_bot _ _, _, _, rfl, rfl, ?_⟩⟩
    exact qtrue (decide_eq_true tb) k
def spShortF (C : Addr) : Sp := fun vs H Q _ => ∃ a t b, vs = [.ref a] ∧ FifAt C H a t b ∧ b.natAbs < 10 ^ 40 ∧ Q (.bl true) H
abbrev sShortF : Stmt := top 20
theorem scSF : FnScope ["value"] ["value"] (defScope sShortF) := ⟨rfl, rfl, rfl, by decide +kernel, rfl, by decide +kernel, by decide +kernel⟩
theorem ok_shortf {f p1 f1 f2 : Addr} {fd fd1 fd2 : FuncData} (F : Fun K "is_short_fifth" "is_short_fifth" sShortF f fd) (T_Ratio : RatT K mg C) (S_Ratio_is_fifth : Sta P w K mg base 1 C "is_fifth" p1 f1 fd1 ["value"] (spIsFifth C)) (C_is_short : Cal P w K mg base 2 "is_short" f2 fd2 ["value"] spShort) :
    FnOk P w K mg base CX0 3 f fd ["value"] (spShortF C) := by
  refine F.ok scSF (fun vs H Q E h => ?_) (fun cdv A outer s H vs Q E hr h => ?_)
  · obtain ⟨a, t, b, rfl, _⟩ := h
    rfl
  · obtain ⟨a, t, b, rfl, h, hb, k⟩ := h
    have nd := scSF.nd
    refine ⟨_, pss_one (ps_ret (pe_and (Own.pe_smeth T_Ratio.rd S_Ratio_is_fifth.s S_Ratio_is_fifth.F (hr.mono (by decide)) S_Ratio_is_fifth.b pass0 (Own.pe_gref (by rfl) T_Ratio.mgC) (pa_cons (pv 0) pa_nil)) (pe_one (pe_call C_is_short.F (hr.mono (by decide)) (by rfl) C_is_short.mgf C_is_short.kp C_is_short.b .nil pass0 (pa_cons (pe_fld (pv 0) rfl) pa_nil))))), ?_⟩
    obtain ⟨dx, hh⟩ := h.at_
    refine ⟨rfl, _, rfl, a, t, b, rfl, h, _, rfl, iteT ?_⟩
    exact ⟨_, rfl, _, C, dx, _, _, rfl, hh, T_Ratio.cl, T_Ratio.nB, ratF_bot _ _, b, rfl, hb, k⟩
def spCheck (K : PySem.W.Frag) : Sp := fun vs H Q _ => ∃ l i, vs = [.ref l] ∧ SqL K H l [.int i] ∧ i.natAbs < 10 ^ 40 ∧ Q .non H
abbrev sCheck : Stmt := top 26
theorem scCk : FnScope ["numbers", "value"] ["numbers"] (defScope sCheck) := ⟨rfl, rfl, rfl, by decide +kernel, rfl, by decide +kernel, by decide +kernel⟩
theorem ok_check {f f1 : Addr} {fd fd1 : FuncData} (F : Fun K "_check_numbers" "_check_numbers" sCheck f fd) (C_is_short : Cal P w K mg base 2 "is_short" f1 fd1 ["value"] spShort) : FnOk P w K mg base CX0 3 f fd ["numbers"] (spCheck K) := by
  refine F.ok scCk (fun vs H Q E h => ?_) (fun cdv A outer s H vs Q E hr h => ?_)
  · obtain ⟨l, i, rfl, _⟩ := h
    rfl
  · obtain ⟨l, i, rfl, hl, hi, q⟩ := h
    have nd := scCk.nd
    refine ⟨_, pss_one (ps_for PassesOwn.never rfl (pi_list (pv 0)) (pg_name (i := 1) nd rfl (Or.inl rfl)) (pss_one (ps_if (pt_not (pt_val (pe_call C_is_short.F (hr.mono (by decide)) (by rfl) C_is_short.mgf C_is_short.kp C_is_short.b .nil pass0 (pa_cons (pv 1) pa_nil)))) pss_never pss_nil))), ?_⟩
    refine ⟨_, rfl, l, rfl, ⟨_, hl⟩, for_list (xs := [V.int i]) (fun _ σ H' => H' = H ∧ ∃ x, σ = [some (.ref l), x]) ⟨rfl, _, rfl⟩ ?_ ?_ ?_⟩
    · rintro i' σ H' _ ⟨rfl, _⟩
      exact hl
    · rintro i' x σ H' hx ⟨rfl, y, rfl⟩
      obtain rfl : x = .int i := by
        cases i' with
        | zero => exact (Option.some.inj hx).symm
        | succ n => cases hx
      exact ⟨_, rfl, i, rfl, hi, _, rfl, iteNot rfl ⟨rfl, _, rfl⟩⟩
    · rintro σ H' ⟨rfl, y, rfl⟩
      exact q
end
end Toy
set_option maxRecDepth 100000
set_option maxHeartbeats 4000000
set_option exponentiation.threshold 3000
namespace Toy
open PySem L2 KF
/-- the tuples that stand for the levels -/
inductive Rw (H : Hp) : List V → List Qd → Prop
  | nil : Rw H [] []
  | cons {a : Addr} {l h s b : Int} {vs : List V} {rs : List Qd} : H a = some (.tup [.int l, .int s, .int b]) → Rw H vs rs → Rw H (.ref a :: vs) ((l, h, s, b) :: rs)
theorem Rw.same {H H' : Hp} (s : ∀ a o, H a = some (.tup o) → H' a = some (.tup o)) : ∀ {vs : List V} {rs : List Qd}, Rw H vs rs → Rw H' vs rs
  | _, _, .nil => .nil
  | _, _, .cons h r => .cons (s _ _ h) (r.same s)
theorem Rw.len {H : Hp} : ∀ {vs : List V} {rs : List Qd}, Rw H vs rs → vs.length = rs.length
  | _, _, .nil => rfl
  | _, _, .cons _ r => congrArg (· + 1) r.len
theorem Rw.get {H : Hp} : ∀ {vs : List V} {rs : List Qd} {i : Nat} {x : V}, Rw H vs rs → vs[i]? = some x → ∃ a l h s b, x = .ref a ∧ H a = some (.tup [.int l, .int s, .int b]) ∧ rs.drop i = (l, h, s, b) :: rs.drop (i + 1)
  | _, _, i, _, .nil, hx => by cases i <;> cases hx
  | _, _, 0, _, .cons (l := l) (h := h) (s := s) (b := b) e _, hx => ⟨_, l, h, s, b, (Option.some.inj hx).symm, e, rfl⟩
  | _, _, i + 1, _, .cons _ r, hx => r.get (i := i) hx
theorem len400 {n : Nat} {x : Int} (h1 : 1 ≤ x) {X : Int} (h : 2 ^ n * x ≤ X) (hX : X < 2 ^ 400) : n < 400 := by
  refine Nat.lt_of_not_le fun hn => ?_
  have h2 : (2 : Int) ^ 400 ≤ 2 ^ n := by
    have := Nat.pow_le_pow_right (show 0 < 2 by decide) hn
    have e : ∀ k : Nat, ((2 ^ k : Nat) : Int) = (2 : Int) ^ k := fun k => by rw [Int.natCast_pow]; rfl
    rw [← e, ← e]
    omega
  have h3 := Int.mul_le_mul_of_nonneg_left h1 (show (0 : Int) ≤ 2 ^ n from Int.le_of_lt (Int.pow_pos (by decide)))
  omega
section
variable {P : Program} {w : World} {K : PySem.W.Frag} {mg : Str → Option Value} {base : Heap} {C : Addr}
def spSteps : Sp := fun vs H Q _ => ∃ lo hi s b : Int, vs = [.int lo, .int hi, .int s, .int b] ∧ Lv lo hi s b ∧ Bg b ∧ ∀ k H', Same H H' → Fst lo hi s b k → Q (.int k) H'
abbrev sSteps : Stmt := top 27
theorem scSt : FnScope ["low", "high", "step", "bottom", "passed", "steps"] ["low", "high", "step", "bottom"] (defScope sSteps) := ⟨rfl, rfl, rfl, by decide +kernel, rfl, by decide +kernel, by decide +kernel⟩
structure Wh (H : Hp) (lo hi s b : Int) (p : Addr) (lo' hi' s' b' : Int) (vs : List V) (rs : List Qd) (H' : Hp) : Prop where
  v : Lv lo' hi' s' b'
  c : Ch (lo, hi, s, b) rs (lo', hi', s', b')
  hp : H' p = some (.lst vs)
  r : Rw H' vs.reverse rs
  s : Same H H'
  le : b' ≤ b
theorem Wh.len {H : Hp} {lo hi s b : Int} {p : Addr} {lo' hi' s' b' : Int} {vs : List V} {rs : List Qd} {H' : Hp} (h : Wh H lo hi s b p lo' hi' s' b' vs rs H') (v : Lv lo hi s b) (hb : Bg b) : vs.length < 400 := by
  have h1 := ch_len rs _ h.c
  have e : vs.length = rs.length := by rw [← h.r.len, List.length_reverse]
  rw [e]
  have s0 := h.v.s0
  have sb := h.v.sb
  have m1 := Int.mul_le_mul (show 1 ≤ s' by omega) (show 1 ≤ b' by omega) (by decide) (by omega)
  have hB : b < 2 ^ 140 := by
    have : b.natAbs < 2 ^ 140 := hb
    omega
  have m2 := Int.mul_le_mul (show s ≤ 2 ^ 140 by have := v.sb; omega) (show b ≤ 2 ^ 140 by omega) (by have := v.s0; have := v.sb; omega) (by decide)
  refine len400 (x := s' * b') (X := s * b) (by omega) h1 (Int.lt_of_le_of_lt m2 (by decide +kernel))
theorem ok_steps {f : Addr} {fd : FuncData} (F : Fun K "_steps_to" "_steps_to" sSteps f fd) (T : Bl mg) : FnOk P w K mg base CX0 1 f fd ["low", "high", "step", "bottom"] spSteps := by
  refine F.ok scSt (fun vs H Q E h => ?_) (fun cdv A outer s0 H vs Q E hr h => ?_)
  · obtain ⟨lo, hi, s, b, rfl, _⟩ := h
    rfl
  · obtain ⟨lo, hi, s, b, rfl, v, hb, q⟩ := h
    have nd := scSt.nd
    refine ⟨_, pss_cons (ps_set (i := 4) nd rfl (Or.inl rfl) (pe_lst pa_nil))
      (pss_cons (ps_while PassesOwn.never (pt_cmpR op_lt (pe_op op_mulW (pe_op op_fdivW (pv 1) (pv 2)) (pv 2)) (pv 0) (nomark _)) (pss_cons (ps_expr (pe_bm PySem.F.plainAttrs_list PySem.F.slot_list_append PySem.F.type_list_append mt_append (pv 4) (pa_cons (pe_tup (pa_cons (pv 0) (pa_cons (pv 2) (pa_cons (pv 3) pa_nil)))) pa_nil)))
      (pss_one (ps_asg (pe_tup (pa_cons (pe_op op_mod (pe_un un_neg (pv 1)) (pv 2)) (pa_cons (pe_op op_mod (pe_un un_neg (pv 0)) (pv 2)) (pa_cons (pe_op op_mod (pv 3) (pv 2)) (pa_cons (pv 2) pa_nil))))) (pg_tup (by rfl) (pgs_cons (pg_name (i := 0) nd rfl (Or.inl rfl)) (pgs_cons (pg_name (i := 1) nd rfl (Or.inl rfl)) (pgs_cons (pg_name (i := 2) nd rfl (Or.inl rfl)) (pgs_cons (pg_name (i := 3) nd rfl (Or.inl rfl)) pgs_nil)))))))))
      (pss_cons (ps_set (i := 5) nd rfl (Or.inl rfl) (pe_un un_neg (pe_op op_fdivW (pe_un un_neg (pv 0)) (pv 2))))
      (pss_cons (ps_for PassesOwn.never rfl (pi_list (pe_revL (pv 4))) (pg_tup (by rfl) (pgs_cons (pg_name (i := 0) nd rfl (Or.inl rfl)) (pgs_cons (pg_name (i := 2) nd rfl (Or.inl rfl)) (pgs_cons (pg_name (i := 3) nd rfl (Or.inl rfl)) pgs_nil)))) (pss_one (ps_set (i := 5) nd rfl (Or.inl rfl) (pe_un un_neg (pe_op op_fdivW (pe_un un_neg (pe_op op_add (pv 0) (pe_op op_mulW (pv 5) (pv 3)))) (pv 2))))))
      (pss_one (ps_ret (pv 5)))))), ?_⟩
    refine ⟨by decide, fun p hp => ?_⟩
    have sz : ∀ {i : Int}, 0 ≤ i → i ≤ b → Sz i := fun h0 h1 => Sz.le h0 h1 hb.sz
    refine while_by (fun σ H' => ∃ lo' hi' s' b' vs rs, σ = [some (.int lo'), some (.int hi'), some (.int s'), some (.int b'), some (.ref p), none] ∧ Wh H lo hi s b p lo' hi' s' b' vs rs H') (fun σ _ => match σ with | [_, _, some (.int s), _, _, _] => s.toNat | _ => 0)
      ⟨lo, hi, s, b, [], [], rfl, v, rfl, upd_same, .nil, same_new hp, by omega⟩ ?_ ?_
    · rintro σ H' ⟨lo', hi', s', b', vs, rs, rfl, W⟩
      have s0 := W.v.s0
      have sb := W.v.sb
      have l0 := W.v.l0
      have lh := W.v.lh
      have h9 := W.v.hb
      have le := W.le
      have zs := sz (i := s') (by omega) (by omega)
      have q0 := Int.ediv_nonneg (a := hi') (b := s') (by omega) (by omega)
      have q1 := Int.ediv_le_self (a := hi') s' (by omega)
      refine ⟨_, rfl, _, rfl, _, _, rfl, rfl, Sz.divW s0 zs, _, rfl, _, _, rfl, rfl, (sz q0 (by omega)).mul zs, _, rfl, _, _, rfl, rfl, _, rfl, ?_⟩
      by_cases hc : hi' / s' * s' < lo'
      · refine iteTb (decide_eq_true hc) ?_
        have hl := W.len v hb
        refine ⟨_, rfl, .inl ⟨rfl, _, SqL.of W.hp⟩, _, rfl, _, rfl, _, rfl, (by decide : 3 ≤ sizeLine), fun t ht => ?_⟩
        have tp : t ≠ p := fun e => by rw [e, W.hp] at ht; cases ht
        refine ⟨p, _, _, rfl, rfl, by rw [upd_ne tp.symm]; exact W.hp, Nat.lt_trans hl (by decide), ?_⟩
        refine ⟨_, rfl, _, rfl, _, rfl, _, _, rfl, rfl, s0, _, rfl, _, rfl, _, rfl, _, _, rfl, rfl, s0, _, rfl, _, rfl, _, _, rfl, rfl, s0, _, rfl, (by decide : 4 ≤ sizeLine), fun e he => ⟨_, _, rfl, SqT.of upd_same, rfl, _, _, rfl, _, _, rfl, _, _, rfl, _, _, rfl, rfl, ?_⟩⟩
        have nv := next W.v hc
        have pe : p ≠ e := fun z => by rw [← z, upd_same] at he; cases he
        have te : t ≠ e := fun z => by rw [← z, upd_ne tp, upd_same] at he; cases he
        refine ⟨⟨_, _, _, _, vs ++ [.ref t], (lo', hi', s', b') :: rs, rfl, nv, ⟨rfl, W.v, hc, W.c⟩, by rw [upd_ne pe]; exact upd_same, ?_, ?_, by omega⟩, ?_⟩
        · rw [List.reverse_append]
          refine .cons (by rw [upd_ne te, upd_ne tp, upd_same]) (W.r.same fun a o ha => ?_)
          have ap : a ≠ p := fun z => by rw [z, W.hp] at ha; cases ha
          have at_ : a ≠ t := fun z => by rw [z, ht] at ha; cases ha
          have ae : a ≠ e := fun z => by rw [← z, upd_ne ap, upd_ne at_, ha] at he; cases he
          rw [upd_ne ae, upd_ne ap, upd_ne at_]
          exact ha
        · intro a o ha
          have h2 := W.s a o ha
          have ap : a ≠ p := fun z => by rw [z, hp] at ha; cases ha
          have at_ : a ≠ t := fun z => by rw [z, ht] at h2; cases h2
          have ae : a ≠ e := fun z => by rw [← z, upd_ne ap, upd_ne at_, h2] at he; cases he
          rw [upd_ne ae, upd_ne ap, upd_ne at_]
          exact h2
        · have := Int.emod_lt_of_pos b' s0
          have := nv.s0
          show (b' % s').toNat < s'.toNat
          omega
      · refine iteFb (decide_eq_false hc) ?_
        have fb := KF.base W.v (by omega)
        refine ⟨_, rfl, _, rfl, _, rfl, _, _, rfl, rfl, Sz.divW s0 zs, _, rfl, ?_⟩
        refine ⟨_, rfl, p, _, rfl, SqL.of W.hp, fun p2 hp2 => ?_⟩
        have pp : p ≠ p2 := fun z => by rw [← z, W.hp] at hp2; cases hp2
        have s2_ : Same H' (upd H' p2 (.lst vs.reverse)) := same_new hp2
        refine ⟨p2, rfl, ⟨_, SqL.of upd_same⟩, for_list (xs := vs.reverse) (fun i σ H2 => H2 = upd H' p2 (.lst vs.reverse) ∧ ∃ (cur : Qd) (l s2 b2 k : Int), σ = [some (.int l), some (.int hi'), some (.int s2), some (.int b2), some (.ref p), some (.int k)] ∧ Ch (lo, hi, s, b) (rs.drop i) cur ∧ Fst cur.1 cur.2.1 cur.2.2.1 cur.2.2.2 k ∧ 0 < cur.2.2.2) ⟨rfl, (lo', hi', s', b'), _, _, _, _, rfl, W.c, fb, by show 0 < b'; omega⟩ ?_ ?_ ?_⟩
        · rintro i σ H2 _ ⟨rfl, _⟩
          exact SqL.of upd_same
        · rintro i x σ H2 hx ⟨rfl, cur, l, s2, b2, k, rfl, hc, hf, c0⟩
          have W2 : Rw (upd H' p2 (.lst vs.reverse)) vs.reverse rs := W.r.same fun a o ha => s2_ _ _ ha
          obtain ⟨a, l3, h3, s3, b3, rfl, ha, hd⟩ := W2.get hx
          rw [hd] at hc
          obtain ⟨rfl, ok, hps, hc⟩ := hc
          have ok : Lv l3 h3 s3 b3 := ok
          have nb := KF.back (m := k) ok hps hf
          have kl : k < s3 := hf.lt c0
          have k0 := hf.k0
          have bl : b3 ≤ b := ch_le _ _ hc
          have e1 := ok.s0
          have e2 := ok.sb
          refine ⟨a, _, rfl, SqT.of ha, rfl, _, _, rfl, _, _, rfl, _, _, rfl, rfl, ?_⟩
          refine ⟨_, rfl, _, rfl, _, rfl, _, _, rfl, rfl, (sz k0 (by omega)).mul (sz (by omega) bl), _, _, rfl, rfl, _, rfl, _, rfl, _, _, rfl, rfl, Sz.divW e1 (sz (by omega) (by omega)), _, rfl, ?_⟩
          exact ⟨rfl, (l3, h3, s3, b3), _, _, _, _, rfl, hc, nb, by show 0 < b3; omega⟩
        · rintro σ H2 ⟨rfl, cur, l, s2, b2, k, rfl, hc, hf, c0⟩
          rw [W.r.len, List.drop_length] at hc
          obtain rfl : cur = (lo, hi, s, b) := hc
          exact ⟨_, rfl, q _ _ (W.s.trans s2_) hf⟩
    · rintro σ H' R R' hR ⟨x1, y1, x2, y2, x3, x4, y3, y4, y5, x6, y6, x7, x8, y7, y8, y9, x10, y10, x11, x12, y11, y12, x13, y13, r⟩
      exact ⟨x1, y1, x2, y2, x3, x4, y3, y4, y5, x6, y6, x7, x8, y7, y8, y9, x10, y10, x11, x12, y11, y12, x13, y13, hR _ _ r⟩
end
end Toy
set_option maxRecDepth 100000
set_option maxHeartbeats 4000000
set_option exponentiation.threshold 3000
namespace Toy
open PySem L2 KF
section
variable {P : Program} {w : World} {K : PySem.W.Frag} {mg : Str → Option Value} {base : Heap} {C : Addr}
theorem Bg.of {z : Int} (h : z.natAbs < 10 ^ 42) : Bg z := Nat.lt_trans h (by decide +kernel)
def spFirst (C : Addr) : Sp := fun vs H Q _ => ∃ a t b lo hi st, vs = [.ref a, .int lo, .int hi, .int st] ∧ FifAt C H a t b ∧ Int.gcd t b = 1 ∧ b.natAbs < 10 ^ 40 ∧ 0 ≤ lo ∧ lo ≤ hi ∧ hi < b ∧ st.natAbs < 10 ^ 40 ∧ ∀ n H', Same H H' → First lo hi t b st n → Q (.int n) H'
abbrev sFirst : Stmt := top 25
theorem scFi : FnScope ["fifth", "low", "high", "start", "key", "nearer", "further"] ["fifth", "low", "high", "start"] (defScope sFirst) := ⟨rfl, rfl, rfl, by decide +kernel, rfl, by decide +kernel, by decide +kernel⟩
theorem ok_first {f f1 f2 f3 f4 : Addr} {fd fd1 fd2 fd3 fd4 : FuncData} (F : FunD K "first_in" "first_in" (defArgs sFirst) (defBody sFirst) (defScope sFirst) [.int 0] [] f fd) (T_Ratio : RatT K mg C) (C_is_short_fifth : Cal P w K mg base 3 "is_short_fifth" f1 fd1 ["value"] (spShortF C)) (C_is_from_to : Cal P w K mg base 2 "is_from_to" f2 fd2 ["value", "low", "high"] spFromTo)
    (C__check_numbers : Cal P w K mg base 3 "_check_numbers" f3 fd3 ["numbers"] (spCheck K)) (C__steps_to : Cal P w K mg base 1 "_steps_to" f4 fd4 ["low", "high", "step", "bottom"] spSteps) : FnOk P w K mg base CX0 4 f fd ["fifth", "low", "high", "start"] (spFirst C) := by
  refine F.ok scFi (fun vs H Q E h => ?_) (fun cdv A outer s0 H vs Q E hr h => ?_)
  · obtain ⟨a, t, b, lo, hi, st, rfl, _⟩ := h
    rfl
  · obtain ⟨a, t, b, lo, hi, st, rfl, hf, g, hb, l0, lh, hh, zs, q⟩ := h
    have nd := scFi.nd
    refine ⟨_, pss_cons (ps_if (pt_not (pt_val (pe_call C_is_short_fifth.F (hr.mono (by decide)) (by rfl) C_is_short_fifth.mgf C_is_short_fifth.kp C_is_short_fifth.b .nil pass0 (pa_cons (pv 0) pa_nil)))) pss_never pss_nil)
      (pss_cons (ps_if (pt_not (pt_val (pe_call C_is_from_to.F (hr.mono (by decide)) (by rfl) C_is_from_to.mgf C_is_from_to.kp C_is_from_to.b .nil pass0 (pa_cons (pv 1) (pa_cons pe_int (pa_cons (pe_op op_sub (pe_fld (pv 0) rfl) pe_int) pa_nil)))))) pss_never pss_nil)
      (pss_cons (ps_if (pt_not (pt_val (pe_call C_is_from_to.F (hr.mono (by decide)) (by rfl) C_is_from_to.mgf C_is_from_to.kp C_is_from_to.b .nil pass0 (pa_cons (pv 2) (pa_cons (pv 1) (pa_cons (pe_op op_sub (pe_fld (pv 0) rfl) pe_int) pa_nil)))))) pss_never pss_nil)
      (pss_cons (ps_expr (pe_call C__check_numbers.F (hr.mono (by decide)) (by rfl) C__check_numbers.mgf C__check_numbers.kp C__check_numbers.b .nil pass0 (pa_cons (pe_lst (pa_cons (pv 3) pa_nil)) pa_nil)))
      (pss_cons (ps_set (i := 4) nd rfl (Or.inl rfl) (pe_op op_mod (pe_op op_mulW (pv 3) (pe_fld (pv 0) rfl)) (pe_fld (pv 0) rfl)))
      (pss_cons (ps_par (i := 5) (j := 6) (by rfl) nd rfl rfl (by decide) rfl rfl (pa_cons (pe_op op_mod (pe_op op_sub (pv 1) (pv 4)) (pe_fld (pv 0) rfl)) (pa_cons (pe_op op_mod (pe_op op_sub (pv 2) (pv 4)) (pe_fld (pv 0) rfl)) pa_nil)) (by rfl))
      (pss_cons (ps_if (PW.pt (pw_or (pt_cmpR op_eq (pv 5) pe_int (nomark _)) (pw_or1 (pt_cmpR op_lt (pv 6) (pv 5) (nomark _))))) (pss_one (ps_ret (pv 3))) pss_nil)
      (pss_one (ps_ret (pe_op op_add (pv 3) (pe_call C__steps_to.F (hr.mono (by decide)) (by rfl) C__steps_to.mgf C__steps_to.kp C__steps_to.b .nil pass0 (pa_cons (pv 5) (pa_cons (pv 6) (pa_cons (pe_fld (pv 0) rfl) (pa_cons (pe_fld (pv 0) rfl) pa_nil)))))))))))))), ?_⟩
    obtain ⟨dx, h⟩ := id hf.at_
    have t0 := hf.t0
    have tb := hf.tb
    have top : ∀ {H' : Hp}, Same H H' → H' a = some (.ins C dx (ratF t b)) := fun s => s _ _ h
    refine ⟨_, rfl, a, t, b, rfl, hf, hb, _, rfl, iteNot rfl ?_⟩
    refine ⟨_, rfl, _, rfl, _, C, dx, _, _, rfl, h, T_Ratio.cl, T_Ratio.nB, ratF_bot _ _, _, _, rfl, rfl, lo, 0, b - 1, rfl, l0, by omega, _, rfl, iteNot rfl ?_⟩
    refine ⟨_, rfl, _, rfl, _, rfl, _, C, dx, _, _, rfl, h, T_Ratio.cl, T_Ratio.nB, ratF_bot _ _, _, _, rfl, rfl, hi, lo, b - 1, rfl, lh, by omega, _, rfl, iteNot rfl ?_⟩
    refine ⟨_, rfl, (by decide : 1 ≤ sizeLine), fun l hl => ⟨l, st, rfl, SqL.of upd_same, zs, ?_⟩⟩
    have s1 : Same H (upd H l (.lst [.int st])) := same_new hl
    have b0 : 0 < b := by omega
    have zb : Bg b := Bg.of (by omega)
    refine ⟨_, rfl, _, rfl, _, C, dx, _, _, rfl, top s1, T_Ratio.cl, T_Ratio.nT, ratF_top _ _, _, _, rfl, rfl, (Bg.of (show st.natAbs < 10 ^ 42 by omega)).sz.mul (Sz.le (by omega) (Int.le_of_lt tb) zb.sz), _, rfl, _, C, dx, _, _, rfl, top s1, T_Ratio.cl, T_Ratio.nB, ratF_bot _ _, _, _, rfl, rfl, b0, ?_⟩
    refine ⟨_, rfl, _, rfl, _, _, rfl, rfl, _, rfl, _, C, dx, _, _, rfl, top s1, T_Ratio.cl, T_Ratio.nB, ratF_bot _ _, _, _, rfl, rfl, b0, _, rfl, _, rfl, _, _, rfl, rfl, _, rfl, _, C, dx, _, _, rfl, top s1, T_Ratio.cl, T_Ratio.nB, ratF_bot _ _, _, _, rfl, rfl, b0, _, _, rfl, ?_⟩
    refine ⟨_, rfl, rfl, ?_⟩
    rw [vdec]
    by_cases e1 : (lo - st * t % b) % b = 0
    · refine ⟨_, rfl, iteTb (decide_eq_true e1) (iteTb rfl ⟨_, rfl, q _ _ s1 (first_here l0 lh hh (.inl e1))⟩)⟩
    · refine ⟨_, rfl, iteFb (decide_eq_false e1) ?_⟩
      refine ⟨_, rfl, _, rfl, _, _, rfl, rfl, _, rfl, ?_⟩
      by_cases e2 : (hi - st * t % b) % b < (lo - st * t % b) % b
      · refine iteTb (decide_eq_true e2) ⟨_, rfl, q _ _ s1 (first_here l0 lh hh (.inr e2))⟩
      · refine iteFb (decide_eq_false e2) ?_
        obtain ⟨lv, go⟩ := first_far l0 lh hh t0 tb g e1 (by omega)
        refine ⟨_, rfl, _, rfl, _, rfl, _, rfl, _, C, dx, _, _, rfl, top s1, T_Ratio.cl, T_Ratio.nT, ratF_top _ _, _, rfl, _, C, dx, _, _, rfl, top s1, T_Ratio.cl, T_Ratio.nB, ratF_bot _ _, _, _, _, _, rfl, lv, zb, fun k H' s2 hk => ?_⟩
        exact ⟨_, _, rfl, rfl, q _ _ (s1.trans s2) (go k hk)⟩
end
end Toy
set_option maxRecDepth 100000
set_option maxHeartbeats 4000000
set_option exponentiation.threshold 3000
namespace Toy
open PySem L2 KF
theorem cm {i j : Int} (h : i.natAbs ≤ 1000000000) : CMul i j := .inl ⟨by omega, by omega⟩
theorem gcd_step {x y : Int} (hx : 0 ≤ x) (hy : 0 < y) : gcdI y (x % y) = gcdI x y := by
  obtain ⟨n, rfl⟩ := Int.eq_ofNat_of_zero_le hx
  obtain ⟨m, rfl⟩ := Int.eq_ofNat_of_zero_le (show 0 ≤ y by omega)
  unfold gcdI
  have e : ((n : Int) % (m : Int)) = ((n % m : Nat) : Int) := rfl
  rw [e, Int.natAbs_natCast, Int.natAbs_natCast, Int.natAbs_natCast, Nat.gcd_comm n m, Nat.gcd_rec m n, Nat.gcd_comm m]
theorem gcd_zero {x : Int} (hx : 0 ≤ x) : gcdI x 0 = x := by
  unfold gcdI
  show ((Nat.gcd x.natAbs 0 : Nat) : Int) = x
  rw [Nat.gcd_zero_right]
  omega
theorem Pen.ne_none {H : Hp} {p c a : Addr} {k : Nat} (h : Pen H p c k) (e : H a = none) : a ≠ p := by
  obtain ⟨_, _, _, W, _⟩ := h
  exact (ne_of_none W.hp e).symm
theorem small_i {z : Int} (h : z.natAbs ≤ 1000000000) : z.natAbs < 2 ^ 2000 := Nat.lt_of_le_of_lt h (by decide +kernel)
theorem small_len {n : Nat} (h : n ≤ 1000000000) : (n : Int).natAbs < 2 ^ 2000 := Nat.lt_of_le_of_lt (show (n : Int).natAbs ≤ 1000000000 by omega) (by decide +kernel)
theorem small_n {z : Int} (h : z.natAbs < 10 ^ 42) : z.natAbs < 2 ^ 2000 := Nat.lt_trans h (by decide +kernel)
section
variable {P : Program} {w : World} {K : PySem.W.Frag} {mg : Str → Option Value} {base : Heap} {C : Addr}
def spPen (K : PySem.W.Frag) : Sp := fun vs H Q _ => ∃ (a : Addr) (ns : List Int), vs = [.ref a] ∧ SqL K H a (ns.map V.int) ∧ ns.length ≤ 63 ∧ ∀ p c H', Same H H' → H p = none → Pen H' p c 0 → Q (.ref p) H'
abbrev sPen : Stmt := top 29
theorem scPe : FnScope ["_law_script"] ["_law_script"] (defScope sPen) := ⟨rfl, rfl, rfl, by decide +kernel, rfl, by decide +kernel, by decide +kernel⟩
theorem cutV_ints (ns : List Int) (lo hi : Option Int) : ∃ ms : List Int, cutV (ns.map V.int) lo hi = ms.map V.int ∧ ms.length ≤ ns.length := by
  refine ⟨(ns.drop (HT.sIx (ns.map V.int).length 0 lo)).take (HT.sIx (ns.map V.int).length (ns.map V.int).length hi - HT.sIx (ns.map V.int).length 0 lo), ?_, ?_⟩
  · unfold cutV
    rw [← List.map_drop, ← List.map_take]
  · rw [List.length_take, List.length_drop]
    omega
theorem ok_pen {f : Addr} {fd : FuncData} (F : Fun K "_law_pen" "_law_pen" sPen f fd) (T : Bl mg) : FnOk P w K mg base CX0 1 f fd ["_law_script"] (spPen K) := by
  refine F.ok scPe (fun vs H Q E h => ?_) (fun cdv A outer s H vs Q E hr h => ?_)
  · obtain ⟨a, ns, rfl, _⟩ := h
    rfl
  · obtain ⟨a, ns, rfl, hS, hl, q⟩ := h
    have nd := scPe.nd
    refine ⟨_, pss_one (ps_ret (pe_lst (pa_cons (pe_callTy call_list_of (by rfl) T.list (by decide +kernel) (pa_cons (pe_slice sl_list (pv 0) po_none (po_some pe_int)) pa_nil)) (pa_cons pe_int (pa_cons pe_int pa_nil))))), ?_⟩
    obtain ⟨ms, e, hm⟩ := cutV_ints ns none (some 63)
    refine ⟨_, rfl, _, rfl, a, _, rfl, hS, fun c1 h1 => ⟨c1, _, rfl, .inl (SqL.of upd_same), fun c2 h2 => ⟨(by decide : 3 ≤ sizeLine), fun p hp => ?_⟩⟩⟩
    have s1 : Same H (upd H c1 (.lst (cutV (ns.map V.int) none (some 63)))) := same_new h1
    have s2 := s1.trans (same_new (o := .lst (cutV (ns.map V.int) none (some 63))) h2)
    have s3 := s2.trans (same_new (o := .lst [.ref c2, .int 0, .int 0]) hp)
    refine q p c2 _ s3 (s2.free hp) ⟨ms, 0, 0, ⟨upd_same, ?_, by omega, by decide⟩, by decide⟩
    have n2 : c2 ≠ p := by
      intro e2
      rw [← e2, upd_same] at hp
      cases hp
    rw [upd_ne n2, upd_same, e]
/-- .. one of a list of ints -/
def spPick : Sp := fun vs H Q _ => ∃ p c s, ∃ (xs : List Int) (k : Nat), vs = [.ref p, .ref s] ∧ Pen H p c k ∧ k ≤ 1000000 ∧ H s = some (.lst (xs.map V.int)) ∧ s ≠ p ∧ 0 < xs.length ∧ xs.length ≤ 1000 ∧ ∀ v H', v ∈ xs → Pen H' p c (k + 1) → But p H H' → Q (.int v) H'
abbrev sPick : Stmt := top 31
theorem scPk : FnScope ["_law_pen_here", "_law_some"] ["_law_pen_here", "_law_some"] (defScope sPick) := ⟨rfl, rfl, rfl, by decide +kernel, rfl, by decide +kernel, by decide +kernel⟩
theorem ok_pick {f f1 : Addr} {fd fd1 : FuncData} (F : Fun K "_law_pick" "_law_pick" sPick f fd) (T : Bl mg) (C__law_draw : Cal P w K mg base 1 "_law_draw" f1 fd1 ["_law_pen_here", "_law_many"] spDraw) : FnOk P w K mg base CX0 2 f fd ["_law_pen_here", "_law_some"] spPick := by
  refine F.ok scPk (fun vs H Q E h => ?_) (fun cdv A outer s H vs Q E hr h => ?_)
  · obtain ⟨p, c, l, xs, k, rfl, _⟩ := h
    rfl
  · obtain ⟨p, c, l, xs, k, rfl, hP, hk, hl, hne, h0, h1, q⟩ := h
    have nd := scPk.nd
    have hlen : (xs.map V.int).length = xs.length := List.length_map ..
    refine ⟨_, pss_one (ps_ret (pe_ix ix_list (pv 1) (pe_call C__law_draw.F (hr.mono (by decide)) (by rfl) C__law_draw.mgf C__law_draw.kp C__law_draw.b .nil pass0 (pa_cons (pv 0) (pa_cons (pe_callB call_len (by rfl) T.len (by decide +kernel) (pa_cons (pv 1) pa_nil)) pa_nil))) (fun _ _ => rfl))), ?_⟩
    refine ⟨_, rfl, _, rfl, _, rfl, _, _, rfl, .inl ⟨_, SqL.of hl, rfl⟩, p, c, _, k, rfl, hP, hk, by omega, small_len (by omega), fun r H' r0 r1 hP' hB => ?_⟩
    refine ⟨l, _, r, _, rfl, rfl, SqL.of (hB _ _ hl hne), atI_in r0 r1, ?_⟩
    obtain ⟨z, hz⟩ : ∃ z, (xs.map V.int)[r.toNat]'(by omega) = .int z ∧ z ∈ xs := ⟨_, List.getElem_map .., List.getElem_mem _⟩
    rw [hz.1]
    exact q _ H' hz.2 hP' hB
/-- a number below a great one -/
def spGreat : Sp := fun vs H Q _ => ∃ p c k m, vs = [.ref p, .int m] ∧ Pen H p c k ∧ k ≤ 900000 ∧ 0 < m ∧ ∀ z H', 0 ≤ z → z < m → Pen H' p c (k + 5) → But p H H' → Q (.int z) H'
abbrev sGreat : Stmt := top 32
theorem scGr : FnScope ["_law_pen_here", "_law_most", "_law_found", "_law_turn"] ["_law_pen_here", "_law_most"] (defScope sGreat) := ⟨rfl, rfl, rfl, by decide +kernel, rfl, by decide +kernel, by decide +kernel⟩
theorem ok_great {f f1 : Addr} {fd fd1 : FuncData} (F : Fun K "_law_great" "_law_great" sGreat f fd) (T : Bl mg) (C__law_draw : Cal P w K mg base 1 "_law_draw" f1 fd1 ["_law_pen_here", "_law_many"] spDraw) : FnOk P w K mg base CX0 2 f fd ["_law_pen_here", "_law_most"] spGreat := by
  refine F.ok scGr (fun vs H Q E h => ?_) (fun cdv A outer s H vs Q E hr h => ?_)
  · obtain ⟨p, c, k, m, rfl, _⟩ := h
    rfl
  · obtain ⟨p, c, k, m, rfl, hP, hk, m0, q⟩ := h
    have nd := scGr.nd
    refine ⟨_, pss_cons (ps_set (i := 2) nd rfl (Or.inl rfl) pe_int)
      (pss_cons (ps_for PassesOwn.never rfl (pi_range1 (by rfl) T.range (pa_cons pe_int pa_nil)) (pg_name (i := 3) nd rfl (Or.inl rfl)) (pss_one (ps_set (i := 2) nd rfl (Or.inl rfl) (pe_op op_add (pe_op op_mulW (pv 2) (pe_op op_pow pe_int pe_int)) (pe_call C__law_draw.F (hr.mono (by decide)) (by rfl) C__law_draw.mgf C__law_draw.kp C__law_draw.b .nil pass0 (pa_cons (pv 0) (pa_cons (pe_op op_pow pe_int pe_int) pa_nil)))))))
      (pss_one (ps_ret (pe_op op_mod (pe_callTy call_int1 (by rfl) T.int (by decide +kernel) (pa_cons (pv 2) pa_nil)) (pv 1))))), ?_⟩
    refine ⟨5, rfl, by decide, by decide, for_range (lo := 0) (n := 5) (fun i σ H' => ∃ (z : Int) (y : Option V), σ = [some (.ref p), some (.int m), some (.int z), y] ∧ 0 ≤ z ∧ z < 10 ^ (8 * i) ∧ Pen H' p c (k + i) ∧ But p H H') ⟨_, _, rfl, by decide, by decide, hP, .refl⟩ ?_ ?_⟩
    · rintro i σ H' hi ⟨z, y, rfl, z0, z1, P1, B1⟩
      have zs : Sz z := by
        refine Sz.le z0 (Int.le_of_lt z1) (Sz.of ?_)
        have : (10 : Int) ^ (8 * i) ≤ 10 ^ 40 := by
          rcases (show i = 0 ∨ i = 1 ∨ i = 2 ∨ i = 3 ∨ i = 4 by omega) with rfl | rfl | rfl | rfl | rfl <;> decide +kernel
        have h0 : (0 : Int) ≤ 10 ^ (8 * i) := Int.le_of_lt (Int.pow_pos (by decide))
        have : ((10 : Int) ^ (8 * i)).natAbs ≤ 10 ^ 40 := by omega
        exact Nat.lt_of_le_of_lt this (by decide +kernel)
      refine ⟨_, rfl, _, _, rfl, rfl, ⟨by decide, by decide, by decide⟩, _, _, rfl, rfl, zs.mul (Sz.of (by decide +kernel)), _, rfl, _, _, rfl, rfl, ⟨by decide, by decide, by decide⟩, p, c, _, k + i, rfl, P1, by omega, by decide, by decide +kernel, fun r H1 r0 r1 P2 B2 => ?_⟩
      refine ⟨_, _, rfl, rfl, _, _, rfl, ?_, ?_, P2, B1.trans B2⟩
      · show 0 ≤ z * 100000000 + r
        omega
      · show z * 100000000 + r < 10 ^ (8 * (i + 1))
        have e : (10 : Int) ^ (8 * (i + 1)) = 10 ^ (8 * i) * 100000000 := by rw [show 8 * (i + 1) = 8 * i + 8 by omega, Int.pow_add]; rfl
        rw [e]
        have r2 : r < 100000000 := r1
        have := Int.mul_le_mul_of_nonneg_right (show z + 1 ≤ 10 ^ (8 * i) by omega) (show (0 : Int) ≤ 100000000 by decide)
        omega
    · rintro σ H' ⟨z, y, rfl, z0, z1, P1, B1⟩
      refine ⟨_, rfl, .inl ⟨_, rfl, _, rfl, _, _, rfl, rfl, m0, ?_⟩⟩
      have := modB z m0
      exact q _ _ this.1 this.2 P1 B1
def spCommon : Sp := fun vs H Q _ => ∃ x y, vs = [.int x, .int y] ∧ Q (.int (gcdI x y)) H
abbrev sCommon : Stmt := top 33
theorem scCo : FnScope ["_law_one", "_law_two"] ["_law_one", "_law_two"] (defScope sCommon) := ⟨rfl, rfl, rfl, by decide +kernel, rfl, by decide +kernel, by decide +kernel⟩
theorem ok_common {f : Addr} {fd : FuncData} (F : Fun K "_law_common" "_law_common" sCommon f fd) (T : Bl mg) : FnOk P w K mg base CX0 1 f fd ["_law_one", "_law_two"] spCommon := by
  refine F.ok scCo (fun vs H Q E h => ?_) (fun cdv A outer s H vs Q E hr h => ?_)
  · obtain ⟨x, y, rfl, _⟩ := h
    rfl
  · obtain ⟨x, y, rfl, q⟩ := h
    have nd := scCo.nd
    refine ⟨_, pss_cons (ps_par (i := 0) (j := 1) (by rfl) nd rfl rfl (by decide) rfl rfl (pa_cons (pe_callB call_abs (by rfl) T.abs (by decide +kernel) (pa_cons (pv 0) pa_nil)) (pa_cons (pe_callB call_abs (by rfl) T.abs (by decide +kernel) (pa_cons (pv 1) pa_nil)) pa_nil)) (by rfl))
      (pss_cons (ps_while PassesOwn.never (pt_cmpR op_ne (pv 1) pe_int (nomark _)) (pss_one (ps_par (i := 0) (j := 1) (by rfl) nd rfl rfl (by decide) rfl rfl (pa_cons (pv 1) (pa_cons (pe_op op_mod (pe_callTy call_int1 (by rfl) T.int (by decide +kernel) (pa_cons (pv 0) pa_nil)) (pv 1)) pa_nil)) (by rfl))))
      (pss_one (ps_ret (pv 0)))), ?_⟩
    refine ⟨_, rfl, _, rfl, _, rfl, _, rfl, _, _, rfl, ?_⟩
    have hg : gcdI (if x < 0 then -x else x) (if y < 0 then -y else y) = gcdI x y := by
      unfold gcdI
      rw [show (if x < 0 then -x else x).natAbs = x.natAbs by split <;> omega, show (if y < 0 then -y else y).natAbs = y.natAbs by split <;> omega]
    refine while_by (fun σ H' => ∃ u v : Int, σ = [some (.int u), some (.int v)] ∧ 0 ≤ u ∧ 0 ≤ v ∧ gcdI u v = gcdI x y ∧ H' = H) (fun σ _ => match σ with | [_, some (.int v)] => v.toNat | _ => 0) ⟨_, _, rfl, by split <;> omega, by split <;> omega, hg, rfl⟩ ?_ ?_
    · rintro σ H' ⟨u, v, rfl, u0, v0, g, rfl⟩
      refine ⟨_, rfl, rfl, _, rfl, ?_⟩
      by_cases hv : v = 0
      · refine iteFb (by rw [vdec, decide_eq_true hv]; rfl) ⟨_, rfl, ?_⟩
        subst hv
        rw [gcd_zero u0] at g
        rw [g]
        exact q
      · refine iteTb (by rw [vdec, decide_eq_false hv]; rfl) ⟨_, rfl, _, rfl, .inl ⟨_, rfl, _, rfl, _, _, rfl, rfl, (by omega : 0 < v), _, _, rfl, ⟨_, _, rfl, v0, (modB u (by omega)).1, (gcd_step u0 (by omega)).trans g, rfl⟩, ?_⟩⟩
        have h1 := modB u (show 0 < v by omega)
        show (u % v).toNat < v.toNat
        omega
    · rintro σ H' R R' hR ⟨v, e, sc, k, e2, r⟩
      exact ⟨v, e, sc, k, e2, hR _ _ r⟩
end
end Toy
set_option maxRecDepth 100000
set_option maxHeartbeats 4000000
set_option exponentiation.threshold 3000
namespace Toy
open PySem L2 KF
theorem cop {t b : Int} (t0 : 0 < t) (tb : t < b) : 0 < t / gcdI t b ∧ t / gcdI t b < b / gcdI t b ∧ b / gcdI t b ≤ b ∧ Int.gcd (t / gcdI t b) (b / gcdI t b) = 1 ∧ 0 < gcdI t b := by
  obtain ⟨n, rfl⟩ := Int.eq_ofNat_of_zero_le (show 0 ≤ t by omega)
  obtain ⟨m, rfl⟩ := Int.eq_ofNat_of_zero_le (show 0 ≤ b by omega)
  have hg : 0 < Nat.gcd n m := Nat.gcd_pos_of_pos_left m (by omega)
  have e : gcdI (n : Int) (m : Int) = ((Nat.gcd n m : Nat) : Int) := rfl
  rw [e]
  generalize hG : Nat.gcd n m = g at *
  obtain ⟨x, hx⟩ := hG ▸ Nat.gcd_dvd_left n m
  obtain ⟨y, hy⟩ := hG ▸ Nat.gcd_dvd_right n m
  have ex : ((n : Int) / (g : Int)) = ((x : Nat) : Int) := by rw [hx]; show (((g * x) / g : Nat) : Int) = _; rw [Nat.mul_div_cancel_left x hg]
  have ey : ((m : Int) / (g : Int)) = ((y : Nat) : Int) := by rw [hy]; show (((g * y) / g : Nat) : Int) = _; rw [Nat.mul_div_cancel_left y hg]
  rw [ex, ey]
  have x0 : 0 < x := by
    rcases Nat.eq_zero_or_pos x with h | h
    · rw [h] at hx; omega
    · exact h
  have xy : x < y := by
    refine Nat.lt_of_not_le fun h => ?_
    have := Nat.mul_le_mul_left g h
    omega
  have ym : y ≤ m := by
    rw [hy]
    exact Nat.le_mul_of_pos_left y hg
  refine ⟨by omega, by omega, by omega, ?_, by omega⟩
  show Nat.gcd x y = 1
  have h1 : g * Nat.gcd x y = g * 1 := by rw [← Nat.gcd_mul_left, ← hx, ← hy, hG]; omega
  exact Nat.eq_of_mul_eq_mul_left hg h1
section
variable {P : Program} {w : World} {K : PySem.W.Frag} {mg : Str → Option Value} {base : Heap} {C : Addr}
/-- a fraction in lowest terms between 0 and 1 -/
structure Rt (t b : Int) : Prop where
  t0 : 0 < t
  tb : t < b
  g : Int.gcd t b = 1
def spRate : Sp := fun vs H Q _ => ∃ p c k m, vs = [.ref p, .int m] ∧ Pen H p c k ∧ k ≤ 900000 ∧ 2 ≤ m ∧ m ≤ 1000 ∧ ∀ x t b H', Rt t b → b ≤ m → H' x = some (.tup [.int t, .int b]) → Pen H' p c (k + 2) → But p H H' → Q (.ref x) H'
abbrev sRate : Stmt := top 34
theorem scRa : FnScope ["_law_pen_here", "_law_most", "_law_bottom", "_law_top", "_law_shared"] ["_law_pen_here", "_law_most"] (defScope sRate) := ⟨rfl, rfl, rfl, by decide +kernel, rfl, by decide +kernel, by decide +kernel⟩
theorem ok_rate {f f1 f2 : Addr} {fd fd1 fd2 : FuncData} (F : Fun K "_law_rate" "_law_rate" sRate f fd) (C__law_draw : Cal P w K mg base 1 "_law_draw" f1 fd1 ["_law_pen_here", "_law_many"] spDraw) (C__law_common : Cal P w K mg base 1 "_law_common" f2 fd2 ["_law_one", "_law_two"] spCommon) : FnOk P w K mg base CX0 2 f fd ["_law_pen_here", "_law_most"] spRate := by
  refine F.ok scRa (fun vs H Q E h => ?_) (fun cdv A outer s H vs Q E hr h => ?_)
  · obtain ⟨p, c, k, m, rfl, _⟩ := h
    rfl
  · obtain ⟨p, c, k, m, rfl, hP, hk, m0, m1, q⟩ := h
    have nd := scRa.nd
    refine ⟨_, pss_cons (ps_set (i := 2) nd rfl (Or.inl rfl) (pe_op op_add pe_int (pe_call C__law_draw.F (hr.mono (by decide)) (by rfl) C__law_draw.mgf C__law_draw.kp C__law_draw.b .nil pass0 (pa_cons (pv 0) (pa_cons (pe_op op_sub (pv 1) pe_int) pa_nil)))))
      (pss_cons (ps_set (i := 3) nd rfl (Or.inl rfl) (pe_op op_add pe_int (pe_call C__law_draw.F (hr.mono (by decide)) (by rfl) C__law_draw.mgf C__law_draw.kp C__law_draw.b .nil pass0 (pa_cons (pv 0) (pa_cons (pe_op op_sub (pv 2) pe_int) pa_nil)))))
      (pss_cons (ps_set (i := 4) nd rfl (Or.inl rfl) (pe_call C__law_common.F (hr.mono (by decide)) (by rfl) C__law_common.mgf C__law_common.kp C__law_common.b .nil pass0 (pa_cons (pv 3) (pa_cons (pv 2) pa_nil))))
      (pss_one (ps_ret (pe_tup (pa_cons (pe_op op_fdivW (pv 3) (pv 4)) (pa_cons (pe_op op_fdivW (pv 2) (pv 4)) pa_nil))))))), ?_⟩
    refine ⟨_, rfl, _, rfl, _, _, rfl, rfl, p, c, m - 1, k, rfl, hP, by omega, by omega, small_i (by omega), fun r H1 r0 r1 P1 B1 => ?_⟩
    refine ⟨_, _, rfl, rfl, _, rfl, _, rfl, _, _, rfl, rfl, p, c, 2 + r - 1, k + 1, rfl, P1, by omega, by omega, small_i (by omega), fun r2 H2 r20 r21 P2 B2 => ?_⟩
    obtain ⟨c1, c2, c3, c4, c5⟩ := cop (t := 1 + r2) (b := 2 + r) (by omega) (by omega)
    have zg : Sz (gcdI (1 + r2) (2 + r)) := Sz.gcd (by omega) (Sz.of (Nat.lt_of_le_of_lt (show (2 + r).natAbs ≤ 10000 by omega) (by decide +kernel)))
    refine ⟨_, _, rfl, rfl, _, rfl, _, rfl, _, _, rfl, _, rfl, _, rfl, _, _, rfl, rfl, zg.divW c5, _, rfl, _, rfl, _, _, rfl, rfl, zg.divW c5, (by decide : 2 ≤ sizeLine), fun x hx => ?_⟩
    exact q x _ _ _ ⟨c1, c2, c4⟩ (by omega) upd_same (P2.same (same_new hx)) ((B1.trans B2).new hx)
def spBegun : Sp := fun vs H Q _ => ∃ p c k, vs = [.ref p] ∧ Pen H p c k ∧ k ≤ 800000 ∧ ∀ z H', z.natAbs < 10 ^ 40 → Pen H' p c (k + 9) → But p H H' → Q (.int z) H'
abbrev sBegun : Stmt := top 35
theorem scBg : FnScope ["_law_pen_here", "_law_far"] ["_law_pen_here"] (defScope sBegun) := ⟨rfl, rfl, rfl, by decide +kernel, rfl, by decide +kernel, by decide +kernel⟩
theorem ok_begun {f f1 f2 f3 : Addr} {fd fd1 fd2 fd3 : FuncData} (F : Fun K "_law_begun" "_law_begun" sBegun f fd) (C__law_draw : Cal P w K mg base 1 "_law_draw" f1 fd1 ["_law_pen_here", "_law_many"] spDraw) (C__law_pick : Cal P w K mg base 2 "_law_pick" f2 fd2 ["_law_pen_here", "_law_some"] spPick) (C__law_great : Cal P w K mg base 2 "_law_great" f3 fd3 ["_law_pen_here", "_law_most"] spGreat) :
    FnOk P w K mg base CX0 3 f fd ["_law_pen_here"] spBegun := by
  refine F.ok scBg (fun vs H Q E h => ?_) (fun cdv A outer s H vs Q E hr h => ?_)
  · obtain ⟨p, c, k, rfl, _⟩ := h
    rfl
  · obtain ⟨p, c, k, rfl, hP, hk, q⟩ := h
    have nd := scBg.nd
    refine ⟨_, pss_cons (ps_set (i := 1) nd rfl (Or.inl rfl) (pe_op op_sub (pe_op op_sub (pe_op op_pow pe_int pe_int) pe_int) (pe_call C__law_draw.F (hr.mono (by decide)) (by rfl) C__law_draw.mgf C__law_draw.kp C__law_draw.b .nil pass0 (pa_cons (pv 0) (pa_cons (pe_op op_pow pe_int pe_int) pa_nil)))))
      (pss_one (ps_ret (pe_call C__law_pick.F (hr.mono (by decide)) (by rfl) C__law_pick.mgf C__law_pick.kp C__law_pick.b .nil pass0 (pa_cons (pv 0) (pa_cons (pe_lst (pa_cons pe_int (pa_cons (pe_call C__law_draw.F (hr.mono (by decide)) (by rfl) C__law_draw.mgf C__law_draw.kp C__law_draw.b .nil pass0 (pa_cons (pv 0) (pa_cons pe_int pa_nil))) (pa_cons (pe_op op_sub pe_int (pe_call C__law_draw.F (hr.mono (by decide)) (by rfl) C__law_draw.mgf C__law_draw.kp C__law_draw.b .nil pass0 (pa_cons (pv 0) (pa_cons pe_int pa_nil)))) (pa_cons (pv 1) (pa_cons (pe_op op_sub pe_int (pv 1)) (pa_cons (pe_call C__law_great.F (hr.mono (by decide)) (by rfl) C__law_great.mgf C__law_great.kp C__law_great.b .nil pass0 (pa_cons (pv 0) (pa_cons (pe_op op_pow pe_int pe_int) pa_nil))) pa_nil))))))) pa_nil))))), ?_⟩
    refine ⟨_, _, rfl, rfl, ⟨by decide, by decide, by decide⟩, _, _, rfl, rfl, _, rfl, _, _, rfl, rfl, ⟨by decide, by decide, by decide⟩, p, c, _, k, rfl, hP, by omega, by decide, by decide +kernel, fun r1 H1 a0 a1 P1 B1 => ?_⟩
    replace a1 : r1 < 1000000 := a1
    refine ⟨_, _, rfl, rfl, _, rfl, _, rfl, p, c, 50, k + 1, rfl, P1, by omega, by decide, by decide +kernel, fun r2 H2 b0 b1 P2 B2 => ?_⟩
    refine ⟨_, rfl, p, c, 50, k + 2, rfl, P2, by omega, by decide, by decide +kernel, fun r3 H3 c0 c1 P3 B3 => ⟨_, _, rfl, rfl, _, rfl, _, rfl, _, _, rfl, rfl, ?_⟩⟩
    refine ⟨_, rfl, _, _, rfl, rfl, ⟨by decide, by decide, by decide⟩, p, c, k + 3, _, rfl, P3, by omega, by decide, fun g H4 g0 g1 P4 B4 => ⟨(by decide : 6 ≤ sizeLine), fun l hl => ?_⟩⟩
    have g2 : g < 10 ^ 30 := g1
    have e40 : (10 : Int) ^ (40 : Int).toNat = 10 ^ 40 := rfl
    refine ⟨p, c, l, [0, r2, 0 - r3, 10 ^ (40 : Int).toNat - 1 - r1, 0 - (10 ^ (40 : Int).toNat - 1 - r1), g], k + 3 + 5, rfl, P4.same (same_new hl), by omega, upd_same, P4.ne_none hl, (by decide : 0 < 6), (by decide : 6 ≤ 1000), fun v H5 hv P5 B5 => ?_⟩
    refine q v H5 ?_ P5 ((((((B1.trans B2).trans B3).trans B4).new hl)).trans B5)
    simp only [List.mem_cons, List.not_mem_nil, or_false] at hv
    rcases hv with rfl | rfl | rfl | rfl | rfl | rfl
    · decide +kernel
    · omega
    · omega
    · rw [e40]; omega
    · rw [e40]; omega
    · omega
def spRow : Sp := fun vs H Q _ => ∃ p c k b, vs = [.ref p, .int b] ∧ Pen H p c k ∧ k ≤ 800000 ∧ 2 ≤ b ∧ b.natAbs < 10 ^ 40 ∧ ∀ x lo hi H', 0 ≤ lo → lo ≤ hi → hi < b → H' x = some (.tup [.int lo, .int hi]) → Pen H' p c (k + 12) → But p H H' → Q (.ref x) H'
abbrev sRow : Stmt := top 40
theorem scRw : FnScope ["_law_pen_here", "_law_bottom", "_law_foot", "_law_more"] ["_law_pen_here", "_law_bottom"] (defScope sRow) := ⟨rfl, rfl, rfl, by decide +kernel, rfl, by decide +kernel, by decide +kernel⟩
theorem ok_row {f f2 f3 : Addr} {fd fd2 fd3 : FuncData} (F : Fun K "_law_row" "_law_row" sRow f fd) (T : Bl mg) (zm : mg "min" = none) (C__law_pick : Cal P w K mg base 2 "_law_pick" f2 fd2 ["_law_pen_here", "_law_some"] spPick) (C__law_great : Cal P w K mg base 2 "_law_great" f3 fd3 ["_law_pen_here", "_law_most"] spGreat) :
    FnOk P w K mg base CX0 3 f fd ["_law_pen_here", "_law_bottom"] spRow := by
  refine F.ok scRw (fun vs H Q E h => ?_) (fun cdv A outer s H vs Q E hr h => ?_)
  · obtain ⟨p, c, k, b, rfl, _⟩ := h
    rfl
  · obtain ⟨p, c, k, b, rfl, hP, hk, b2, zb, q⟩ := h
    have nd := scRw.nd
    refine ⟨_, pss_cons (ps_set (i := 2) nd rfl (Or.inl rfl) (pe_call C__law_pick.F (hr.mono (by decide)) (by rfl) C__law_pick.mgf C__law_pick.kp C__law_pick.b .nil pass0 (pa_cons (pv 0) (pa_cons (pe_lst (pa_cons pe_int (pa_cons (pe_op op_sub (pv 1) pe_int) (pa_cons (pe_call C__law_great.F (hr.mono (by decide)) (by rfl) C__law_great.mgf C__law_great.kp C__law_great.b .nil pass0 (pa_cons (pv 0) (pa_cons (pv 1) pa_nil))) (pa_cons (pe_call C__law_great.F (hr.mono (by decide)) (by rfl) C__law_great.mgf C__law_great.kp C__law_great.b .nil pass0 (pa_cons (pv 0) (pa_cons (pv 1) pa_nil))) (pa_cons (pe_op op_fdivW (pv 1) pe_int) pa_nil)))))) pa_nil))))
      (pss_cons (ps_set (i := 3) nd rfl (Or.inl rfl) (pe_call C__law_pick.F (hr.mono (by decide)) (by rfl) C__law_pick.mgf C__law_pick.kp C__law_pick.b .nil pass0 (pa_cons (pv 0) (pa_cons (pe_lst (pa_cons pe_int (pa_cons pe_int (pa_cons pe_int (pa_cons pe_int (pa_cons (pe_op op_fdivW (pv 1) pe_int) (pa_cons (pv 1) pa_nil))))))) pa_nil))))
      (pss_one (ps_ret (pe_tup (pa_cons (pv 2) (pa_cons (pe_callB (call_min2 rfl) (by rfl) zm (by decide +kernel) (pa_cons (pe_callTy call_int1 (by rfl) T.int (by decide +kernel) (pa_cons (pe_op op_add (pv 2) (pv 3)) pa_nil)) (pa_cons (pe_callTy call_int1 (by rfl) T.int (by decide +kernel) (pa_cons (pe_op op_sub (pv 1) pe_int) pa_nil)) pa_nil))) pa_nil)))))), ?_⟩
    refine ⟨_, rfl, _, rfl, _, _, rfl, rfl, _, rfl, _, rfl, p, c, k, b, rfl, hP, by omega, by omega, fun g1 H1 a0 a1 P1 B1 => ?_⟩
    refine ⟨_, rfl, _, rfl, p, c, k + 5, b, rfl, P1, by omega, by omega, fun g2 H2 b0 b1 P2 B2 => ?_⟩
    refine ⟨_, rfl, _, _, rfl, rfl, wide_div (by decide) (b := 3) (by decide) (by decide) (by decide), (by decide : 5 ≤ sizeLine), fun l hl => ?_⟩
    refine ⟨p, c, l, [0, b - 1, g1, g2, b / 2], k + 5 + 5, rfl, P2.same (same_new hl), by omega, upd_same, P2.ne_none hl, (by decide : 0 < 5), (by decide : 5 ≤ 1000), fun lo H3 hv P3 B3 => ?_⟩
    have hlo : 0 ≤ lo ∧ lo < b := by
      simp only [List.mem_cons, List.not_mem_nil, or_false] at hv
      omega
    refine ⟨_, rfl, _, rfl, _, _, rfl, rfl, wide_div (by decide) (b := 11) (by decide) (by decide) (by decide), _, rfl, (by decide : 6 ≤ sizeLine), fun l2 hl2 => ?_⟩
    refine ⟨p, c, l2, [0, 0, 1, 3, b / 1000, b], k + 5 + 5 + 1, rfl, P3.same (same_new hl2), by omega, upd_same, P3.ne_none hl2, (by decide : 0 < 6), (by decide : 6 ≤ 1000), fun mo H4 hv2 P4 B4 => ?_⟩
    have hmo : 0 ≤ mo := by
      simp only [List.mem_cons, List.not_mem_nil, or_false] at hv2
      omega
    refine ⟨_, rfl, _, rfl, _, rfl, _, _, rfl, rfl, .inl ⟨_, rfl, _, rfl, _, _, rfl, rfl, .inl ⟨_, rfl, _, _, rfl, (by decide : 2 ≤ sizeLine), fun x hx => ?_⟩⟩⟩
    refine q x lo _ _ hlo.1 ?_ ?_ upd_same (P4.same (same_new hx)) (((((B1.trans B2).new hl).trans B3).new hl2).trans B4 |>.new hx)
    · split <;> omega
    · split <;> omega
def spFarRate : Sp := fun vs H Q _ => ∃ p c k, vs = [.ref p] ∧ Pen H p c k ∧ k ≤ 800000 ∧ ∀ x t b H', Rt t b → b.natAbs < 10 ^ 40 → H' x = some (.tup [.int t, .int b]) → Pen H' p c (k + 12) → But p H H' → Q (.ref x) H'
abbrev sFarRate : Stmt := top 39
theorem scFr : FnScope ["_law_pen_here", "_law_bottom", "_law_far", "_law_top", "_law_shared"] ["_law_pen_here"] (defScope sFarRate) := ⟨rfl, rfl, rfl, by decide +kernel, rfl, by decide +kernel, by decide +kernel⟩
theorem ok_farrate {f f0 f1 f2 f3 : Addr} {fd fd0 fd1 fd2 fd3 : FuncData} (F : Fun K "_law_far_rate" "_law_far_rate" sFarRate f fd) (T : Bl mg) (C__law_draw : Cal P w K mg base 1 "_law_draw" f0 fd0 ["_law_pen_here", "_law_many"] spDraw) (C__law_common : Cal P w K mg base 1 "_law_common" f1 fd1 ["_law_one", "_law_two"] spCommon)
    (C__law_pick : Cal P w K mg base 2 "_law_pick" f2 fd2 ["_law_pen_here", "_law_some"] spPick) (C__law_great : Cal P w K mg base 2 "_law_great" f3 fd3 ["_law_pen_here", "_law_most"] spGreat) : FnOk P w K mg base CX0 3 f fd ["_law_pen_here"] spFarRate := by
  refine F.ok scFr (fun vs H Q E h => ?_) (fun cdv A outer s H vs Q E hr h => ?_)
  · obtain ⟨p, c, k, rfl, _⟩ := h
    rfl
  · obtain ⟨p, c, k, rfl, hP, hk, q⟩ := h
    have nd := scFr.nd
    refine ⟨_, pss_cons (ps_set (i := 1) nd rfl (Or.inl rfl) (pe_op op_add (pe_op op_pow pe_int pe_int) (pe_call C__law_great.F (hr.mono (by decide)) (by rfl) C__law_great.mgf C__law_great.kp C__law_great.b .nil pass0 (pa_cons (pv 0) (pa_cons (pe_op op_mulW pe_int (pe_op op_pow pe_int pe_int)) pa_nil)))))
      (pss_cons (ps_set (i := 2) nd rfl (Or.inl rfl) (pe_op op_add pe_int (pe_call C__law_great.F (hr.mono (by decide)) (by rfl) C__law_great.mgf C__law_great.kp C__law_great.b .nil pass0 (pa_cons (pv 0) (pa_cons (pe_op op_sub (pv 1) pe_int) pa_nil)))))
      (pss_cons (ps_set (i := 3) nd rfl (Or.inl rfl) (pe_call C__law_pick.F (hr.mono (by decide)) (by rfl) C__law_pick.mgf C__law_pick.kp C__law_pick.b .nil pass0 (pa_cons (pv 0) (pa_cons (pe_lst (pa_cons (pv 2) (pa_cons (pv 2) (pa_cons (pv 2) (pa_cons pe_int (pa_cons (pe_op op_sub (pv 1) pe_int) (pa_cons (pe_op op_fdivW (pv 1) pe_int) pa_nil))))))) pa_nil))))
      (C8.pss_cut (ps_if (pt_cmpR op_eq (pe_call C__law_draw.F (hr.mono (by decide)) (by rfl) C__law_draw.mgf C__law_draw.kp C__law_draw.b .nil pass0 (pa_cons (pv 0) (pa_cons pe_int pa_nil))) pe_int (nomark _)) (pss_cons (ps_asg (pe_tup (pa_cons pe_int (pa_cons pe_int pa_nil))) (pg_tup (by rfl) (pgs_cons (pg_name (i := 3) nd rfl (Or.inl rfl)) (pgs_cons (pg_name (i := 1) nd rfl (Or.inl rfl)) pgs_nil))))
      (pss_one (ps_while PassesOwn.never (pt_cmpR op_lt (pv 1) (pe_op op_pow pe_int pe_int) (nomark _)) (pss_one (ps_par (i := 3) (j := 1) (by rfl) nd rfl rfl (by decide) rfl rfl (pa_cons (pv 1) (pa_cons (pe_op op_add (pv 3) (pv 1)) pa_nil)) (by rfl)))))) pss_nil)
      (pss_cons (ps_set (i := 4) nd rfl (Or.inl rfl) (pe_call C__law_common.F (hr.mono (by decide)) (by rfl) C__law_common.mgf C__law_common.kp C__law_common.b .nil pass0 (pa_cons (pv 3) (pa_cons (pv 1) pa_nil))))
      (pss_one (ps_ret (pe_tup (pa_cons (pe_op op_fdivW (pv 3) (pv 4)) (pa_cons (pe_op op_fdivW (pv 1) (pv 4)) pa_nil))))))))), ?_⟩
    refine ⟨_, _, rfl, rfl, ⟨by decide, by decide, by decide⟩, _, rfl, _, _, rfl, rfl, ⟨by decide, by decide, by decide⟩, _, _, rfl, rfl, (Sz.of (by decide +kernel)).mul (Sz.of (by decide +kernel)), p, c, k, _, rfl, hP, by omega, by decide, fun g1 H1 a0 a1 P1 B1 => ?_⟩
    have a2 : g1 < 8 * 10 ^ 39 := a1
    have e39 : (10 : Int) ^ (39 : Int).toNat = 10 ^ 39 := rfl
    refine ⟨_, _, rfl, rfl, _, rfl, _, rfl, _, _, rfl, rfl, p, c, k + 5, _, rfl, P1, by omega, by rw [e39]; omega, fun g2 H2 b0 b1 P2 B2 => ?_⟩
    rw [e39] at b1
    refine ⟨_, _, rfl, rfl, _, rfl, _, rfl, _, rfl, _, rfl, _, rfl, _, _, rfl, rfl, _, rfl, _, _, rfl, rfl, wide_div (by decide) (b := 3) (by decide) (by decide) (by decide), (by decide : 6 ≤ sizeLine), fun l hl => ?_⟩
    refine ⟨p, c, l, [1 + g2, 1 + g2, 1 + g2, 1, 10 ^ (39 : Int).toNat + g1 - 1, (10 ^ (39 : Int).toNat + g1) / 2], k + 5 + 5, rfl, P2.same (same_new hl), by omega, upd_same, P2.ne_none hl, (by decide : 0 < 6), (by decide : 6 ≤ 1000), fun t H3 hv P3 B3 => ?_⟩
    have ht : 0 < t ∧ t < 10 ^ (39 : Int).toNat + g1 := by
      rw [e39] at *
      simp only [List.mem_cons, List.not_mem_nil, or_false] at hv
      omega
    have BB := ((B1.trans B2).new hl).trans B3
    refine ⟨fun σ' H' => ∃ (t b : Int) (y : Option V), σ' = [some (.ref p), some (.int b), y, some (.int t), none] ∧ 0 < t ∧ t < b ∧ b < 10 ^ 40 ∧ Pen H' p c (k + 12) ∧ But p H H', ?_, ?_⟩
    · refine ⟨_, rfl, p, c, 6, k + 11, rfl, P3, by omega, by decide, by decide +kernel, fun r H4 r0 r1 P4 B4 => ⟨rfl, _, rfl, ?_⟩⟩
      refine ite2 (fun _ => ?_) (fun _ => ?_)
      · refine ⟨(by decide : 2 ≤ sizeLine), fun e he => ⟨_, _, rfl, SqT.of upd_same, rfl, _, _, rfl, _, _, rfl, rfl, ?_⟩⟩
        have P4 := P4.same (same_new (o := .tup [.int 1, .int 1]) he)
        have B4 := B4.new (o := .tup [.int 1, .int 1]) he
        refine while_by (fun σ H' => ∃ (t b : Int) (y : Option V), σ = [some (.ref p), some (.int b), y, some (.int t), none] ∧ 0 < t ∧ t ≤ b ∧ (b = 1 ∨ t < b) ∧ b < 10 ^ 40 ∧ H' = upd H4 e (.tup [.int 1, .int 1])) (fun σ _ => match σ with | [_, some (.int b), _, _, _] => (10 ^ 39 - b).toNat | _ => 0) ⟨_, _, _, rfl, by decide, by decide, .inl rfl, by decide, rfl⟩ ?_ ?_
        · rintro σ H' ⟨t, b, y, rfl, h1, h2, h3, h4, rfl⟩
          refine ⟨_, rfl, _, _, rfl, rfl, ⟨by decide, by decide, by decide⟩, _, _, rfl, rfl, _, rfl, ?_⟩
          by_cases hb : b < 10 ^ (39 : Int).toNat
          · refine iteTb (decide_eq_true hb) ⟨_, rfl, _, rfl, _, rfl, _, _, rfl, rfl, _, _, rfl, ⟨_, _, _, rfl, by omega, by omega, .inr (by omega), ?_, rfl⟩, ?_⟩
            · rw [e39] at hb; omega
            · rw [e39] at hb
              show (10 ^ 39 - (t + b)).toNat < (10 ^ 39 - b).toNat
              omega
          · refine iteFb (decide_eq_false hb) ⟨t, b, y, rfl, h1, ?_, h4, P4, BB.trans B4⟩
            rw [e39] at hb
            omega
        · rintro σ H' R R' hR ⟨x1, y1, x2, x3, y2, y3, y4, x4, x5, y5, y6, x6, y7, r⟩
          exact ⟨x1, y1, x2, x3, y2, y3, y4, x4, x5, y5, y6, x6, y7, hR _ _ r⟩
      · exact ⟨t, _, _, rfl, ht.1, ht.2, by rw [e39]; omega, P4, BB.trans B4⟩
    · rintro σ' H' ⟨t, b, y, rfl, t0, tb, b1, P4, B4⟩
      obtain ⟨c1, c2, c3, c4, c5⟩ := cop t0 tb
      have zg : Sz (gcdI t b) := Sz.gcd (by omega) (Sz.of (Nat.lt_of_le_of_lt (show b.natAbs ≤ 10 ^ 40 by omega) (by decide +kernel)))
      refine ⟨_, rfl, _, rfl, _, _, rfl, _, rfl, _, rfl, _, _, rfl, rfl, zg.divW c5, _, rfl, _, rfl, _, _, rfl, rfl, zg.divW c5, (by decide : 2 ≤ sizeLine), fun x hx => ?_⟩
      exact q x _ _ _ ⟨c1, c2, c4⟩ (by omega) upd_same (P4.same (same_new hx)) (B4.new hx)
end
end Toy
set_option maxHeartbeats 1000000
/-! Sums of floors (pure arithmetic). -/
namespace KF
def sm (n : Nat) (f : Nat → Int) : Int := match n with
  | 0 => 0
  | n + 1 => sm n f + f n
theorem sm_congr {f g : Nat → Int} : ∀ {n : Nat}, (∀ i, i < n → f i = g i) → sm n f = sm n g
  | 0, _ => rfl
  | n + 1, h => by
    show sm n f + f n = sm n g + g n
    rw [sm_congr fun i hi => h i (by omega), h n (by omega)]
theorem sm_add {f g : Nat → Int} : ∀ {n : Nat}, sm n (fun i => f i + g i) = sm n f + sm n g
  | 0 => rfl
  | n + 1 => by
    show sm n (fun i => f i + g i) + (f n + g n) = sm n f + f n + (sm n g + g n)
    rw [sm_add]
    omega
theorem sm_zero : ∀ {n : Nat}, sm n (fun _ => 0) = 0
  | 0 => rfl
  | n + 1 => by
    show sm n (fun _ => 0) + 0 = 0
    rw [sm_zero]
    rfl
theorem sm_front {f : Nat → Int} : ∀ {n : Nat}, sm (n + 1) f = f 0 + sm n (fun i => f (i + 1))
  | 0 => by
    show 0 + f 0 = f 0 + 0
    omega
  | n + 1 => by
    show sm (n + 1) f + f (n + 1) = f 0 + (sm n (fun i => f (i + 1)) + f (n + 1))
    rw [sm_front]
    omega
theorem sm_rev {f : Nat → Int} : ∀ {n : Nat}, sm n (fun i => f (n - 1 - i)) = sm n f
  | 0 => rfl
  | n + 1 => by
    rw [sm_front]
    show f n + sm n (fun i => f (n - (i + 1))) = sm n f + f n
    have h : sm n (fun i => f (n - (i + 1))) = sm n f := (sm_congr (g := fun i => f (n - 1 - i)) fun i _ => by
      show f (n - (i + 1)) = f (n - 1 - i)
      rw [show n - (i + 1) = n - 1 - i by omega]).trans sm_rev
    omega
theorem sm_swap {p : Nat → Nat → Int} {m : Nat} : ∀ {n : Nat}, sm n (fun i => sm m (p i)) = sm m (fun j => sm n (fun i => p i j))
  | 0 => by
    show 0 = sm m (fun _ => 0)
    rw [sm_zero]
  | n + 1 => by
    show sm n (fun i => sm m (p i)) + sm m (p n) = sm m (fun j => sm n (fun i => p i j) + p n j)
    rw [sm_swap, ← sm_add]
def one (p : Prop) [Decidable p] : Int := if p then 1 else 0
theorem one_congr {p q : Prop} [Decidable p] [Decidable q] (h : p ↔ q) : one p = one q := by
  unfold one
  by_cases hp : p
  · rw [if_pos hp, if_pos (h.mp hp)]
  · rw [if_neg hp, if_neg fun hq => hp (h.mpr hq)]
theorem sm_count {q : Int} (h0 : 0 ≤ q) : ∀ {n : Nat}, sm n (fun i => one ((i : Int) + 1 ≤ q)) = if q ≤ n then q else n
  | 0 => by
    show 0 = _
    split <;> omega
  | n + 1 => by
    show sm n _ + one ((n : Int) + 1 ≤ q) = _
    rw [sm_count h0]
    unfold one
    split <;> split <;> split <;> omega
/-- the sum of (t * i + e) / b for the i below n -/
def fs (n : Nat) (b t e : Int) : Int := sm n fun i => (t * i + e) / b
theorem div_parts {b t e : Int} (hb : 0 < b) (i : Int) : (t * i + e) / b = t / b * i + e / b + (t % b * i + e % b) / b := by
  have h1 := Int.mul_ediv_add_emod t b
  have h2 := Int.mul_ediv_add_emod e b
  have h3 : t * i + e = (t % b * i + e % b) + b * (t / b * i + e / b) := by
    generalize t / b = q at *
    generalize e / b = z at *
    generalize t % b = r at *
    generalize e % b = s at *
    rw [← h1, ← h2]
    grind
  rw [h3, Int.add_mul_ediv_left _ _ (by omega)]
  omega
theorem tri (n : Nat) : (((n + 1 : Nat) : Int) * (((n + 1 : Nat) : Int) - 1)) / 2 = ((n : Int) * ((n : Int) - 1)) / 2 + n := by
  have e : (((n + 1 : Nat) : Int) * (((n + 1 : Nat) : Int) - 1)) = (n : Int) * ((n : Int) - 1) + n * 2 := by
    rw [show ((n + 1 : Nat) : Int) = (n : Int) + 1 by omega]
    grind
  rw [e, Int.add_mul_ediv_right _ _ (by decide)]
theorem fs_low {b t e : Int} (hb : 0 < b) : ∀ {n : Nat}, fs n b t e = (n : Int) * ((n : Int) - 1) / 2 * (t / b) + (n : Int) * (e / b) + fs n b (t % b) (e % b)
  | 0 => by
    show (0 : Int) = 0 * (0 - 1) / 2 * (t / b) + 0 * (e / b) + 0
    simp
  | n + 1 => by
    show fs n b t e + (t * n + e) / b = _ + _ + (fs n b (t % b) (e % b) + (t % b * n + e % b) / b)
    rw [fs_low hb, div_parts hb, tri, show ((n + 1 : Nat) : Int) * (e / b) = (n : Int) * (e / b) + e / b by rw [show ((n + 1 : Nat) : Int) = (n : Int) + 1 by omega]; grind]
    generalize t / b = q
    generalize (n : Int) * ((n : Int) - 1) / 2 = z
    have e1 : (z + n) * q = z * q + q * n := by grind
    omega
theorem fs_swap {b t e : Int} {n : Nat} (t0 : 0 ≤ t) (tb : t < b) (e0 : 0 ≤ e) (eb : e < b) : fs n b t e = fs ((t * n + e) / b).toNat t b ((t * n + e) % b) := by
  have b0 : 0 < b := by omega
  have tn := Int.mul_nonneg t0 (show (0 : Int) ≤ n by omega)
  have y0 := Int.ediv_nonneg (a := t * n + e) (b := b) (by omega) (by omega)
  have hr0 := Int.emod_nonneg (t * n + e) (show b ≠ 0 by omega)
  have hr1 := Int.emod_lt_of_pos (t * n + e) b0
  have hx := Int.mul_ediv_add_emod (t * n + e) b
  generalize hY : ((t * n + e) / b).toNat = Y
  have hY2 : (t * n + e) / b = (Y : Int) := by omega
  rw [hY2] at hx
  generalize (t * n + e) % b = r at *
  rcases Int.lt_or_eq_of_le t0 with ht | ht
  · -- both count the pairs
    have h1 : fs n b t e = sm n fun i => sm Y fun j => one (b * ((j : Int) + 1) ≤ t * i + e) := by
      refine sm_congr fun i hi => ?_
      have ti := Int.mul_nonneg t0 (show (0 : Int) ≤ i by omega)
      have ti2 := Int.mul_le_mul_of_nonneg_left (show (i : Int) ≤ n by omega) t0
      have q0 := Int.ediv_nonneg (a := t * i + e) (b := b) (by omega) (by omega)
      have q1 : (t * i + e) / b ≤ Y := by rw [← hY2]; exact Int.ediv_le_ediv b0 (by omega)
      show (t * i + e) / b = _
      rw [sm_congr (g := fun j => one ((j : Int) + 1 ≤ (t * i + e) / b)) fun j _ => one_congr (by rw [Int.le_ediv_iff_mul_le b0, Int.mul_comm]), sm_count q0, if_pos q1]
    rw [h1, sm_swap]
    show _ = sm Y fun j => (b * j + r) / t
    rw [← sm_rev (f := fun j => (b * j + r) / t)]
    refine sm_congr fun j hj => ?_
    show sm n (fun i => one (b * ((j : Int) + 1) ≤ t * i + e)) = (b * ((Y - 1 - j : Nat) : Int) + r) / t
    have ej : ((Y - 1 - j : Nat) : Int) = Y - 1 - j := by omega
    rw [ej]
    have bj := Int.mul_nonneg (Int.le_of_lt b0) (show (0 : Int) ≤ (Y : Int) - 1 - j by omega)
    have bj2 := Int.mul_nonneg (Int.le_of_lt b0) (show (0 : Int) ≤ (j : Int) by omega)
    have eX : b * ((Y : Int) - 1 - j) + r = t * n + e - b * ((j : Int) + 1) := by grind
    have bj3 : b * ((j : Int) + 1) = b * j + b := by grind
    have q0 := Int.ediv_nonneg (a := b * ((Y : Int) - 1 - j) + r) (b := t) (by omega) (by omega)
    have q1 : (b * ((Y : Int) - 1 - j) + r) / t ≤ n := by
      refine Int.ediv_le_of_le_mul ht ?_
      have e3 : (n : Int) * t = t * n := Int.mul_comm ..
      omega
    rw [← sm_rev (f := fun i => one (b * ((j : Int) + 1) ≤ t * i + e)), sm_congr (g := fun i => one ((i : Int) + 1 ≤ (b * ((Y : Int) - 1 - j) + r) / t)) fun i hi => one_congr ?_, sm_count q0, if_pos q1]
    rw [Int.le_ediv_iff_mul_le ht]
    have ei : ((n - 1 - i : Nat) : Int) = n - 1 - i := by omega
    rw [ei, eX]
    have e2 : t * ((n : Int) - 1 - i) = t * n - ((i : Int) + 1) * t := by grind
    omega
  · subst ht
    have hx2 : b * Y + r = e := by omega
    have hY0 : Y = 0 := by
      rcases Nat.eq_zero_or_pos Y with h | h
      · exact h
      · have := Int.mul_le_mul_of_nonneg_left (show (1 : Int) ≤ Y by omega) (Int.le_of_lt b0)
        omega
    subst hY0
    show fs n b 0 e = 0
    refine (sm_congr (g := fun _ => 0) fun i _ => ?_).trans sm_zero
    show (0 * i + e) / b = 0
    rw [Int.zero_mul, Int.zero_add]
    exact Int.ediv_eq_zero_of_lt e0 eb
/-- no note is met: the sums are alike -/
theorem fs_none {lo hi t b st : Int} {n : Nat} (h0 : 0 ≤ lo) (lh : lo ≤ hi) (h1 : hi < b) (h : ∀ j, st ≤ j → j < st + n → ¬ Hit lo hi t b j) : fs n b t (st * t - lo) = fs n b t (st * t - hi - 1) := by
  have b0 : 0 < b := by omega
  refine sm_congr fun i hi2 => ?_
  have hn := h (st + i) (by omega) (by omega)
  rw [← on_iff h0 h1 b0] at hn
  have e := Int.mul_ediv_add_emod ((st + i) * t) b
  have r0 := Int.emod_nonneg ((st + i) * t) (show b ≠ 0 by omega)
  have r1 := Int.emod_lt_of_pos ((st + i) * t) b0
  have e2 : t * i + (st * t - lo) = (st + i) * t - lo := by grind
  have e3 : t * i + (st * t - hi - 1) = (st + i) * t - hi - 1 := by grind
  show (t * i + (st * t - lo)) / b = (t * i + (st * t - hi - 1)) / b
  rw [e2, e3]
  generalize (st + i) * t % b = r at *
  generalize (st + i) * t / b = q at *
  by_cases hr : r < lo
  · have e4 : b * (q - 1) = b * q - b := by grind
    rw [div_uniq (t := q - 1) (r := r - lo + b) (by omega) (by omega) (by omega), div_uniq (t := q - 1) (r := r - hi - 1 + b) (by omega) (by omega) (by omega)]
  · rw [div_uniq (t := q) (r := r - lo) (by omega) (by omega) (by omega), div_uniq (t := q) (r := r - hi - 1) (by omega) (by omega) (by omega)]
/-- two notes on one key -/
theorem key_uniq {t b x y foot : Int} (g : Int.gcd t b = 1) (hx : Hit foot foot t b x) (hy : Hit foot foot t b y) (h : x ≤ y) (h2 : y < x + b) : x = y := by
  obtain ⟨m, m1, m2⟩ := hx
  obtain ⟨k, k1, k2⟩ := hy
  have e : (y - x) * t = (k - m) * b := by
    have x1 : x * t - m * b = foot := by omega
    have x2 : y * t - k * b = foot := by omega
    have e1 : (y - x) * t - (k - m) * b = (y * t - k * b) - (x * t - m * b) := by grind
    omega
  have hd : b ∣ (y - x) * t := ⟨k - m, by rw [e, Int.mul_comm]⟩
  have hg : Int.gcd b t = 1 := by rw [Int.gcd_comm]; exact g
  have h3 : b ∣ y - x := by
    have h4 := Int.natAbs_dvd_natAbs.mpr hd
    rw [Int.natAbs_mul] at h4
    have h5 : Nat.Coprime b.natAbs t.natAbs := hg
    exact Int.natAbs_dvd_natAbs.mp (h5.dvd_of_dvd_mul_right h4)
  obtain ⟨c, hc⟩ := h3
  by_cases c0 : c ≤ 0
  · have := Int.mul_le_mul_of_nonneg_left c0 (show 0 ≤ b by omega)
    omega
  · have := Int.mul_le_mul_of_nonneg_left (show 1 ≤ c by omega) (show 0 ≤ b by omega)
    omega
theorem First.key {t b st n foot : Int} (f : First foot foot t b st n) (g : Int.gcd t b = 1) {v : Int} (hv : Hit foot foot t b v) (h1 : st ≤ v) (h2 : v < st + b) : n = v :=
  key_uniq g f.on hv (f.least v h1 hv) (by have := f.ge; omega)
theorem First.mono {t b st n k lo hi : Int} (f : First lo hi t b st n) (g : First lo lo t b st k) (h : lo ≤ hi) : n ≤ k := by
  refine f.least k g.ge ?_
  obtain ⟨m, m1, m2⟩ := g.on
  exact ⟨m, m1, by omega⟩
/-! the greatest common divisor, backwards -/
structure Eu (t b one two mine yours : Int) : Prop where
  o0 : 0 < one
  t0 : 0 ≤ two
  ob : one ≤ b
  tb : two ≤ b
  g : Int.gcd one two = 1
  dm : ∃ x, mine * t - one = x * b
  dy : ∃ x, yours * t - two = x * b
  sg : (mine ≤ 0 ∧ 0 ≤ yours ∧ yours * one - mine * two = b) ∨ (yours ≤ 0 ∧ 0 ≤ mine ∧ mine * two - yours * one = b)
theorem Eu.start {t b : Int} (t0 : 0 < t) (tb : t < b) (g : Int.gcd t b = 1) : Eu t b b t 0 1 :=
  ⟨by omega, by omega, by omega, by omega, by rw [Int.gcd_comm]; exact g, ⟨-1, by omega⟩, ⟨0, by omega⟩, .inl ⟨by omega, by omega, by omega⟩⟩
theorem Eu.step {t b one two mine yours : Int} (h : Eu t b one two mine yours) (n : two ≠ 0) : Eu t b two (one - one / two * two) yours (mine - one / two * yours) := by
  have t0 : 0 < two := by have := h.t0; omega
  have o0 := h.o0
  have e := Int.mul_ediv_add_emod one two
  have r0 := Int.emod_nonneg one n
  have r1 := Int.emod_lt_of_pos one t0
  have q0 := Int.ediv_nonneg (a := one) (b := two) (by omega) (by omega)
  have er : one - one / two * two = one % two := by rw [Int.mul_comm]; omega
  have hg : Int.gcd two (one % two) = 1 := by
    have g := h.g
    clear er e r0 r1 q0
    obtain ⟨k, rfl⟩ := Int.eq_ofNat_of_zero_le (show 0 ≤ one by omega)
    obtain ⟨m, rfl⟩ := Int.eq_ofNat_of_zero_le (show 0 ≤ two by omega)
    rw [← g]
    have e : ((k : Int) % (m : Int)) = ((k % m : Nat) : Int) := rfl
    rw [e]
    show Nat.gcd m (k % m) = Nat.gcd k m
    rw [Nat.gcd_comm m, ← Nat.gcd_rec, Nat.gcd_comm]
  obtain ⟨x, hx⟩ := h.dm
  obtain ⟨y, hy⟩ := h.dy
  have t1 := h.tb
  refine ⟨t0, by omega, t1, by omega, by rw [er]; exact hg, ⟨y, hy⟩, ⟨x - one / two * y, ?_⟩, ?_⟩
  · generalize one / two = q at *
    have e1 : (mine - q * yours) * t - (one - q * two) = (mine * t - one) - q * (yours * t - two) := by grind
    rw [e1, hx, hy]
    grind
  · generalize one / two = q at *
    rcases h.sg with ⟨s1, s2, s3⟩ | ⟨s1, s2, s3⟩
    · refine .inr ⟨?_, s2, ?_⟩
      · have := Int.mul_nonneg q0 s2
        omega
      · rw [← s3]
        grind
    · refine .inl ⟨s1, ?_, ?_⟩
      · have := Int.mul_nonneg q0 (show 0 ≤ -yours by omega)
        have : q * -yours = -(q * yours) := Int.mul_neg ..
        omega
      · rw [← s3]
        grind
theorem Eu.size {t b one two mine yours : Int} (h : Eu t b one two mine yours) : -b ≤ yours ∧ yours ≤ b := by
  have o0 := h.o0
  rcases h.sg with ⟨s1, s2, s3⟩ | ⟨s1, s2, s3⟩
  · have := Int.mul_le_mul_of_nonneg_left (show 1 ≤ one by omega) s2
    have := Int.mul_nonneg (show 0 ≤ -mine by omega) h.t0
    have : -mine * two = -(mine * two) := Int.neg_mul ..
    omega
  · have := Int.mul_le_mul_of_nonneg_left (show 1 ≤ one by omega) (show 0 ≤ -yours by omega)
    have := Int.mul_nonneg s2 h.t0
    have : -yours * one = -(yours * one) := Int.neg_mul ..
    omega
theorem Eu.fin {t b one mine yours : Int} (b0 : 0 < b) (h : Eu t b one 0 mine yours) : ∃ x, mine % b * t - x * b = 1 := by
  have g := h.g
  rw [Int.gcd_zero_right] at g
  have o0 := h.o0
  have o1 : one = 1 := by omega
  obtain ⟨x, hx⟩ := h.dm
  have e := Int.mul_ediv_add_emod mine b
  refine ⟨x - mine / b * t, ?_⟩
  generalize mine / b = q at *
  generalize mine % b = r at *
  have e2 : mine * t = b * q * t + r * t := by rw [← e]; grind
  have e3 : (x - q * t) * b = x * b - b * q * t := by grind
  omega
theorem Eu.ex {t b : Int} (b0 : 0 < b) : ∀ (k : Nat) {one two mine yours : Int}, two.toNat ≤ k → Eu t b one two mine yours → ∃ v x, v * t - x * b = 1
  | 0, _, two, mine, _, hk, h => by
    have e : two = 0 := by have := h.t0; omega
    subst e
    obtain ⟨x, hx⟩ := h.fin b0
    exact ⟨_, x, hx⟩
  | k + 1, one, two, mine, _, hk, h => by
    by_cases e : two = 0
    · subst e
      obtain ⟨x, hx⟩ := h.fin b0
      exact ⟨_, x, hx⟩
    · have N := h.step e
      have n0 := N.o0
      have e1 := Int.mul_ediv_add_emod one two
      have r1 := Int.emod_lt_of_pos one n0
      have e2 : one / two * two = two * (one / two) := Int.mul_comm ..
      exact Eu.ex b0 k (by omega) N
theorem on_ex {t b foot st : Int} (t0 : 0 < t) (tb : t < b) (g : Int.gcd t b = 1) (h0 : 0 ≤ foot) (h1 : foot < b) : ∃ j, st ≤ j ∧ j < st + b ∧ Hit foot foot t b j := by
  have b0 : 0 < b := by omega
  obtain ⟨v, x, hx⟩ := Eu.ex b0 _ (Nat.le_refl _) (.start t0 tb g)
  have e := Int.mul_ediv_add_emod (foot * v - st) b
  have r0 := Int.emod_nonneg (foot * v - st) (show b ≠ 0 by omega)
  have r1 := Int.emod_lt_of_pos (foot * v - st) b0
  refine ⟨st + (foot * v - st) % b, by omega, by omega, ?_⟩
  refine ⟨foot * x - (foot * v - st) / b * t, ?_⟩
  generalize (foot * v - st) / b = q at *
  generalize (foot * v - st) % b = r at *
  have e2 : st + r = foot * v - b * q := by omega
  have e3 : (st + r) * t - (foot * x - q * t) * b = foot * (v * t - x * b) := by rw [e2]; grind
  rw [hx, Int.mul_one] at e3
  omega
theorem First.uniq {lo hi t b st n m : Int} (f : First lo hi t b st n) (g : First lo hi t b st m) : n = m := by
  have := f.least m g.ge g.on
  have := g.least n f.ge f.on
  omega
/-- the note on a key, by the inverse -/
theorem by_inverse {t b v foot st : Int} (b0 : 0 < b) (h0 : 0 ≤ foot) (h1 : foot < b) (hv : ∃ x, v * t - x * b = 1) : Hit foot foot t b (st + (foot * v - st) % b) := by
  obtain ⟨x, hx⟩ := hv
  have e := Int.mul_ediv_add_emod (foot * v - st) b
  refine ⟨foot * x - (foot * v - st) / b * t, ?_⟩
  generalize (foot * v - st) / b = q at *
  generalize (foot * v - st) % b = r at *
  have e2 : st + r = foot * v - b * q := by omega
  have e3 : (st + r) * t - (foot * x - q * t) * b = foot * (v * t - x * b) := by rw [e2]; grind
  rw [hx, Int.mul_one] at e3
  omega
end KF
set_option maxRecDepth 100000
set_option maxHeartbeats 4000000
set_option exponentiation.threshold 3000
namespace Toy
open PySem L2 KF
/-- below 2 ^ 900 -/
def Md (z : Int) : Prop := z.natAbs < 2 ^ 900
theorem Md.sz {z : Int} (h : Md z) : Sz z := Nat.lt_of_lt_of_le h (Nat.pow_le_pow_right (by decide) (by decide))
theorem Md.le {i j : Int} (h : i.natAbs ≤ j.natAbs) (z : Md j) : Md i := Nat.lt_of_le_of_lt h z
theorem Bg.md {z : Int} (h : Bg z) : Md z := Nat.lt_of_lt_of_le h (Nat.pow_le_pow_right (by decide) (by decide))
theorem Md.div {i j : Int} (z : Md i) : Md (i / j) := z.le (Int.natAbs_ediv_le_natAbs _ _)
theorem Bg.mul {i j : Int} (a : Bg i) (b : Bg j) : Md (i * j) := by
  unfold Md
  rw [Int.natAbs_mul]
  have a : i.natAbs < 2 ^ 140 := a
  have b : j.natAbs < 2 ^ 140 := b
  have := Nat.mul_le_mul (Nat.le_of_lt a) (Nat.le_of_lt b)
  exact Nat.lt_of_le_of_lt this (by decide +kernel)
section
variable {P : Program} {w : World} {K : PySem.W.Frag} {mg : Str → Option Value} {base : Heap} {C : Addr}
def spInverse : Sp := fun vs H Q _ => ∃ t b : Int, vs = [.int t, .int b] ∧ Rt t b ∧ Bg b ∧ ∀ v H', Same H H' → 0 ≤ v → v < b → (∃ x, v * t - x * b = 1) → Q (.int v) H'
abbrev sInv : Stmt := top 36
theorem scIv : FnScope ["_law_top", "_law_bottom", "_law_one", "_law_two", "_law_mine", "_law_yours", "_law_rounds"] ["_law_top", "_law_bottom"] (defScope sInv) := ⟨rfl, rfl, rfl, by decide +kernel, rfl, by decide +kernel, by decide +kernel⟩
theorem ok_inverse {f : Addr} {fd : FuncData} (F : Fun K "_law_inverse" "_law_inverse" sInv f fd) (T : Bl mg) : FnOk P w K mg base CX0 1 f fd ["_law_top", "_law_bottom"] spInverse := by
  refine F.ok scIv (fun vs H Q E h => ?_) (fun cdv A outer s0 H vs Q E hr h => ?_)
  · obtain ⟨t, b, rfl, _⟩ := h
    rfl
  · obtain ⟨t, b, rfl, ⟨t0, tb, g⟩, zb, q⟩ := h
    have nd := scIv.nd
    have b0 : 0 < b := by omega
    refine ⟨_, pss_cons (ps_asg (pe_tup (pa_cons (pv 1) (pa_cons (pv 0) (pa_cons pe_int (pa_cons pe_int pa_nil))))) (pg_tup (by rfl) (pgs_cons (pg_name (i := 2) nd rfl (Or.inl rfl)) (pgs_cons (pg_name (i := 3) nd rfl (Or.inl rfl)) (pgs_cons (pg_name (i := 4) nd rfl (Or.inl rfl)) (pgs_cons (pg_name (i := 5) nd rfl (Or.inl rfl)) pgs_nil))))))
      (pss_cons (ps_while PassesOwn.never (pt_cmpR op_ne (pv 3) pe_int (nomark _)) (pss_cons (ps_set (i := 6) nd rfl (Or.inl rfl) (pe_op op_fdivW (pv 2) (pv 3)))
      (pss_cons (ps_par (i := 2) (j := 3) (by rfl) nd rfl rfl (by decide) rfl rfl (pa_cons (pv 3) (pa_cons (pe_op op_sub (pv 2) (pe_op op_mulW (pv 6) (pv 3))) pa_nil)) (by rfl))
      (pss_one (ps_par (i := 4) (j := 5) (by rfl) nd rfl rfl (by decide) rfl rfl (pa_cons (pv 5) (pa_cons (pe_op op_sub (pv 4) (pe_op op_mulW (pv 6) (pv 5))) pa_nil)) (by rfl))))))
      (pss_one (ps_ret (pe_op op_mod (pe_callTy call_int1 (by rfl) T.int (by decide +kernel) (pa_cons (pv 4) pa_nil)) (pv 1))))), ?_⟩
    refine ⟨_, rfl, _, rfl, (by decide : 4 ≤ sizeLine), fun e he => ⟨_, _, rfl, SqT.of upd_same, rfl, _, _, rfl, _, _, rfl, _, _, rfl, _, _, rfl, rfl, ?_⟩⟩
    refine while_by (fun σ H' => ∃ (one two mine yours : Int) (y : Option V), σ = [some (.int t), some (.int b), some (.int one), some (.int two), some (.int mine), some (.int yours), y] ∧ Eu t b one two mine yours ∧ Same H H') (fun σ _ => match σ with | [_, _, _, some (.int two), _, _, _] => two.toNat | _ => 0)
      ⟨_, _, _, _, _, rfl, .start t0 tb g, same_new he⟩ ?_ ?_
    · rintro σ H' ⟨one, two, mine, yours, y, rfl, U, S⟩
      refine ⟨_, rfl, rfl, _, rfl, ?_⟩
      by_cases h2 : two = 0
      · refine iteFb (by rw [vdec, decide_eq_true h2]; rfl) ?_
        subst h2
        refine ⟨_, rfl, .inl ⟨_, rfl, _, rfl, _, _, rfl, rfl, b0, ?_⟩⟩
        have := modB mine b0
        exact q _ _ S this.1 this.2 (U.fin b0)
      · have N := U.step h2
        have u0 := U.o0
        have n0 := N.o0
        have ob := U.ob
        have tb2 := U.tb
        have ys := U.size
        have q0 := Int.ediv_nonneg (a := one) (b := two) (by omega) (by omega)
        have q1 := Int.ediv_le_self (a := one) two (by omega)
        have bz : ∀ {i : Int}, -b ≤ i → i ≤ b → Bg i := fun h1 h2 => Nat.lt_of_le_of_lt (by omega) zb
        refine iteTb (by rw [vdec, decide_eq_false h2]; rfl) ?_
        refine ⟨_, rfl, _, rfl, _, _, rfl, rfl, (bz (by omega) tb2).sz.divW n0, _, rfl, _, rfl, _, rfl, _, rfl, _, _, rfl, rfl, (bz (by omega) (by omega)).sz.mul (bz (by omega) tb2).sz, _, _, rfl, rfl, _, _, rfl, ?_⟩
        refine ⟨_, rfl, _, rfl, _, rfl, _, rfl, _, _, rfl, rfl, (bz (by omega) (by omega)).sz.mul (bz ys.1 ys.2).sz, _, _, rfl, rfl, _, _, rfl, ?_⟩
        refine ⟨⟨_, _, _, _, _, rfl, N, S⟩, ?_⟩
        have e := Int.mul_ediv_add_emod one two
        have r1 := Int.emod_lt_of_pos one n0
        have e2 : one / two * two = two * (one / two) := Int.mul_comm ..
        show (one - one / two * two).toNat < two.toNat
        omega
    · rintro σ H' R R' hR ⟨x1, y1, y2, x2, y3, r⟩
      exact ⟨x1, y1, y2, x2, y3, hR _ _ r⟩
def spFloors : Sp := fun vs H Q _ => ∃ (n : Nat) (b t e : Int), vs = [.int (n : Int), .int b, .int t, .int e] ∧ Rt t b ∧ Bg b ∧ Bg n ∧ Md e ∧ Q (.int (fs n b t e)) H
abbrev sFloors : Stmt := top 37
theorem scFl : FnScope ["_law_many", "_law_bottom", "_law_top", "_law_extra", "_law_found", "_law_far"] ["_law_many", "_law_bottom", "_law_top", "_law_extra"] (defScope sFloors) := ⟨rfl, rfl, rfl, by decide +kernel, rfl, by decide +kernel, by decide +kernel⟩
/-- what holds at each turn -/
structure Fl (n0 : Nat) (b0 t0 e0 : Int) (n : Nat) (b t e found : Int) : Prop where
  bp : 0 < n → 0 < b
  b1 : 0 ≤ b
  zb : b ≤ b0
  tp : 0 ≤ t
  zt : t ≤ b0
  ze : Md e
  zn : n ≤ n0
  eq : found + fs n b t e = fs n0 b0 t0 e0
theorem Fl.step {n0 n : Nat} {b0 t0 e0 b t e found : Int} (h : Fl n0 b0 t0 e0 n b t e found) (B : Bg b0) (hn : 0 < n) :
    ∃ m : Nat, (t % b * n + e % b) / b = (m : Int) ∧ Fl n0 b0 t0 e0 m (t % b) b ((t % b * n + e % b) % b) (found + (n : Int) * ((n : Int) - 1) / 2 * (t / b) + (n : Int) * (e / b)) := by
  have bp := h.bp hn
  have r0 := Int.emod_nonneg t (show b ≠ 0 by omega)
  have r1 := Int.emod_lt_of_pos t bp
  have s0 := Int.emod_nonneg e (show b ≠ 0 by omega)
  have s1 := Int.emod_lt_of_pos e bp
  have tn := Int.mul_nonneg r0 (show (0 : Int) ≤ n by omega)
  have y0 := Int.ediv_nonneg (a := t % b * n + e % b) (b := b) (by omega) (by omega)
  have eq := h.eq
  rw [fs_low bp, fs_swap r0 r1 s0 s1] at eq
  have tn2 := Int.mul_le_mul_of_nonneg_right (show t % b ≤ b - 1 by omega) (show (0 : Int) ≤ n by omega)
  have yn : (t % b * n + e % b) / b < (n : Int) + 1 := by
    refine Int.ediv_lt_of_lt_mul bp ?_
    have e1 : ((n : Int) + 1) * b = (b - 1) * n + n + b := by grind
    omega
  have z0 := Int.emod_nonneg (t % b * n + e % b) (show b ≠ 0 by omega)
  have z1 := Int.emod_lt_of_pos (t % b * n + e % b) bp
  have zb := h.zb
  have zn := h.zn
  have zt := h.zt
  refine ⟨((t % b * n + e % b) / b).toNat, by omega, ⟨fun hm => ?_, by omega, by omega, by omega, by omega, B.md.le (by omega), by omega, by omega⟩⟩
  rcases Int.lt_or_eq_of_le r0 with hh | hh
  · exact hh
  · exfalso
    rw [← hh, Int.zero_mul, Int.zero_add, Int.ediv_eq_zero_of_lt s0 s1] at hm
    exact absurd hm (by decide)
theorem ok_floors {f : Addr} {fd : FuncData} (F : Fun K "_law_floors" "_law_floors" sFloors f fd) (T : Bl mg) : FnOk P w K mg base CX0 1 f fd ["_law_many", "_law_bottom", "_law_top", "_law_extra"] spFloors := by
  refine F.ok scFl (fun vs H Q E h => ?_) (fun cdv A outer s0 H vs Q E hr h => ?_)
  · obtain ⟨n, b, t, e, rfl, _⟩ := h
    rfl
  · obtain ⟨n, b, t, e, rfl, ⟨t0, tb, g⟩, zb, zn, ze, q⟩ := h
    have nd := scFl.nd
    refine ⟨_, pss_cons (ps_set (i := 4) nd rfl (Or.inl rfl) pe_int)
      (pss_cons (ps_while PassesOwn.never (pt_cmpR op_gt (pv 0) pe_int (nomark _)) (pss_cons (ps_set (i := 4) nd rfl (Or.inl rfl) (pe_op op_add (pv 4) (pe_op op_mulW (pe_op op_fdivW (pe_op op_mulW (pv 0) (pe_op op_sub (pv 0) pe_int)) pe_int) (pe_op op_fdivW (pv 2) (pv 1)))))
      (pss_cons (ps_set (i := 4) nd rfl (Or.inl rfl) (pe_op op_add (pv 4) (pe_op op_mulW (pv 0) (pe_op op_fdivW (pv 3) (pv 1)))))
      (pss_cons (ps_par (i := 2) (j := 3) (by rfl) nd rfl rfl (by decide) rfl rfl (pa_cons (pe_op op_mod (pe_callTy call_int1 (by rfl) T.int (by decide +kernel) (pa_cons (pv 2) pa_nil)) (pv 1)) (pa_cons (pe_op op_mod (pe_callTy call_int1 (by rfl) T.int (by decide +kernel) (pa_cons (pv 3) pa_nil)) (pv 1)) pa_nil)) (by rfl))
      (pss_cons (ps_set (i := 5) nd rfl (Or.inl rfl) (pe_op op_add (pe_op op_mulW (pv 2) (pv 0)) (pv 3)))
      (pss_cons (ps_par (i := 0) (j := 3) (by rfl) nd rfl rfl (by decide) rfl rfl (pa_cons (pe_op op_fdivW (pv 5) (pv 1)) (pa_cons (pe_op op_mod (pe_callTy call_int1 (by rfl) T.int (by decide +kernel) (pa_cons (pv 5) pa_nil)) (pv 1)) pa_nil)) (by rfl))
      (pss_one (ps_par (i := 2) (j := 1) (by rfl) nd rfl rfl (by decide) rfl rfl (pa_cons (pv 1) (pa_cons (pv 2) pa_nil)) (by rfl)))))))))
      (pss_one (ps_ret (pv 4)))), ?_⟩
    refine while_by (fun σ H' => ∃ (n' : Nat) (b' t' e' z : Int) (y : Option V), σ = [some (.int (n' : Int)), some (.int b'), some (.int t'), some (.int e'), some (.int z), y] ∧ Fl n b t e n' b' t' e' z ∧ H' = H) (fun σ _ => match σ with | [_, some (.int b), _, _, _, _] => b.toNat | _ => 0)
      ⟨n, b, t, e, 0, _, rfl, ⟨fun _ => by omega, by omega, by omega, by omega, by omega, ze, by omega, by omega⟩, rfl⟩ ?_ ?_
    · rintro σ H' ⟨n', b', t', e', z, y, rfl, W, rfl⟩
      refine ⟨_, rfl, _, _, rfl, rfl, _, rfl, ?_⟩
      by_cases hn : 0 < n'
      · refine iteTb (decide_eq_true (show (n' : Int) > 0 by omega)) ?_
        obtain ⟨m, hm, N⟩ := W.step zb hn
        have bp := W.bp hn
        have b2 := W.zb
        have t2 := W.zt
        have tp := W.tp
        have n2 := W.zn
        have bz : Bg b' := Bg.le (by omega) b2 zb
        have tz : Bg t' := Bg.le tp t2 zb
        have nz : Bg n' := Bg.le (by omega) (show (n' : Int) ≤ n by omega) zn
        have n1z : Bg ((n' : Int) - 1) := Bg.le (by omega) (show (n' : Int) - 1 ≤ n by omega) zn
        have r0 := Int.emod_nonneg t' (show b' ≠ 0 by omega)
        have r1 := Int.emod_lt_of_pos t' bp
        have rz : Bg (t' % b') := Bg.le r0 (by omega) bz
        have nn := nz.mul n1z
        refine ⟨_, rfl, _, rfl, _, rfl, _, _, rfl, rfl, _, _, rfl, rfl, nz.sz.mul n1z.sz, _, _, rfl, rfl, wide_div (by decide) (b := 3) (by decide) (by decide) (by decide), _, rfl, _, rfl, _, _, rfl, rfl, bz.sz.divW bp, _, _, rfl, rfl, nn.div.sz.mul tz.md.div.sz, _, _, rfl, rfl, ?_⟩
        refine ⟨_, rfl, _, rfl, _, rfl, _, rfl, _, _, rfl, rfl, bz.sz.divW bp, _, _, rfl, rfl, nz.sz.mul W.ze.div.sz, _, _, rfl, rfl, ?_⟩
        refine ⟨_, rfl, .inl ⟨_, rfl, _, rfl, _, _, rfl, rfl, bp, _, rfl, .inl ⟨_, rfl, _, rfl, _, _, rfl, rfl, bp, _, _, rfl, ?_⟩⟩⟩
        refine ⟨_, rfl, _, rfl, _, _, rfl, rfl, rz.sz.mul nz.sz, _, rfl, _, _, rfl, rfl, ?_⟩
        refine ⟨_, rfl, _, rfl, _, _, rfl, rfl, bz.sz.divW bp, _, rfl, .inl ⟨_, rfl, _, rfl, _, _, rfl, rfl, bp, _, _, rfl, ?_⟩⟩
        refine ⟨_, rfl, _, rfl, _, _, rfl, ⟨m, _, _, _, _, some (.int (t' % b' * n' + e' % b')), ?_, N, rfl⟩, ?_⟩
        · rw [← hm]
          rfl
        · show (t' % b').toNat < b'.toNat
          omega
      · refine iteFb (decide_eq_false (show ¬ (n' : Int) > 0 by omega)) ⟨_, rfl, ?_⟩
        have e0 : n' = 0 := by omega
        subst e0
        have eq := W.eq
        have eq : z + 0 = fs n b t e := eq
        rw [Int.add_zero] at eq
        rw [eq]
        exact q
    · rintro σ H' R R' hR ⟨x1, y1, x2, x3, y2, y3, x4, y4, r⟩
      exact ⟨x1, y1, x2, x3, y2, y3, x4, y4, hR _ _ r⟩
/-- the notes met in one row: none of them -/
def spMet (K : PySem.W.Frag) : Sp := fun vs H Q _ => ∃ (l x : Addr) (lo hi t b st : Int) (n : Nat), vs = [.ref l, .int t, .int b, .int st, .int (n : Int)] ∧ SqL K H l [.ref x] ∧ SqT K H x [.int lo, .int hi] ∧ Rt t b ∧ Bg b ∧ Bg st ∧ Bg n ∧ 0 ≤ lo ∧ lo ≤ hi ∧ hi < b ∧
  (∀ j, st ≤ j → j < st + n → ¬ Hit lo hi t b j) ∧ Q (.int 0) H
abbrev sMet : Stmt := top 38
theorem scMt : FnScope ["_law_rows", "_law_top", "_law_bottom", "_law_begun_here", "_law_many", "_law_total", "_law_foot", "_law_most"] ["_law_rows", "_law_top", "_law_bottom", "_law_begun_here", "_law_many"] (defScope sMet) := ⟨rfl, rfl, rfl, by decide +kernel, rfl, by decide +kernel, by decide +kernel⟩
theorem ok_met {f f1 : Addr} {fd fd1 : FuncData} (F : Fun K "_law_met" "_law_met" sMet f fd) (C__law_floors : Cal P w K mg base 1 "_law_floors" f1 fd1 ["_law_many", "_law_bottom", "_law_top", "_law_extra"] spFloors) : FnOk P w K mg base CX0 2 f fd ["_law_rows", "_law_top", "_law_bottom", "_law_begun_here", "_law_many"] (spMet K) := by
  refine F.ok scMt (fun vs H Q E h => ?_) (fun cdv A outer s0 H vs Q E hr h => ?_)
  · obtain ⟨l, x, lo, hi, t, b, st, n, rfl, _⟩ := h
    rfl
  · obtain ⟨l, x, lo, hi, t, b, st, n, rfl, hl, hx, rt, zb, zs, zn, l0, lh, hb, hno, q⟩ := h
    have nd := scMt.nd
    refine ⟨_, pss_cons (ps_set (i := 5) nd rfl (Or.inl rfl) pe_int)
      (pss_cons (ps_for PassesOwn.never rfl (pi_list (pv 0)) (pg_tup (by rfl) (pgs_cons (pg_name (i := 6) nd rfl (Or.inl rfl)) (pgs_cons (pg_name (i := 7) nd rfl (Or.inl rfl)) pgs_nil))) (pss_cons (ps_set (i := 5) nd rfl (Or.inl rfl) (pe_op op_add (pv 5) (pe_call C__law_floors.F (hr.mono (by decide)) (by rfl) C__law_floors.mgf C__law_floors.kp C__law_floors.b .nil pass0 (pa_cons (pv 4) (pa_cons (pv 2) (pa_cons (pv 1) (pa_cons (pe_op op_sub (pe_op op_mulW (pv 3) (pv 1)) (pv 6)) pa_nil)))))))
      (pss_one (ps_set (i := 5) nd rfl (Or.inl rfl) (pe_op op_sub (pv 5) (pe_call C__law_floors.F (hr.mono (by decide)) (by rfl) C__law_floors.mgf C__law_floors.kp C__law_floors.b .nil pass0 (pa_cons (pv 4) (pa_cons (pv 2) (pa_cons (pv 1) (pa_cons (pe_op op_sub (pe_op op_sub (pe_op op_mulW (pv 3) (pv 1)) (pv 7)) pe_int) pa_nil))))))))))
      (pss_one (ps_ret (pv 5)))), ?_⟩
    have tz : Bg t := Bg.le (by have := rt.t0; omega) (Int.le_of_lt rt.tb) zb
    have st2 : (st * t).natAbs ≤ 2 ^ 280 := by
      rw [Int.natAbs_mul]
      have a : st.natAbs < 2 ^ 140 := zs
      have c : t.natAbs < 2 ^ 140 := tz
      have := Nat.mul_le_mul (Nat.le_of_lt a) (Nat.le_of_lt c)
      exact Nat.le_trans this (by decide +kernel)
    have hb2 : b < 2 ^ 140 := by
      have : b.natAbs < 2 ^ 140 := zb
      omega
    have big : (2 : Nat) ^ 280 + 2 ^ 141 < 2 ^ 900 := by decide +kernel
    have m1 : Md (st * t - lo) := Nat.lt_of_le_of_lt (show (st * t - lo).natAbs ≤ 2 ^ 280 + 2 ^ 141 by omega) big
    have m2 : Md (st * t - hi - 1) := Nat.lt_of_le_of_lt (show (st * t - hi - 1).natAbs ≤ 2 ^ 280 + 2 ^ 141 by omega) big
    refine ⟨_, rfl, l, rfl, ⟨_, hl⟩, for_list (xs := [V.ref x]) (fun i σ H' => H' = H ∧ ∃ (y z : Option V) (tot : Int), σ = [some (.ref l), some (.int t), some (.int b), some (.int st), some (.int (n : Int)), some (.int tot), y, z] ∧ tot = 0) ⟨rfl, _, _, _, rfl, rfl⟩ ?_ ?_ ?_⟩
    · rintro i σ H' _ ⟨rfl, _⟩
      exact hl
    · rintro i x' σ H' hx' ⟨rfl, y, z, tot, rfl, rfl⟩
      obtain rfl : x' = .ref x := by
        cases i with
        | zero => exact (Option.some.inj hx').symm
        | succ n => cases hx'
      refine ⟨x, _, rfl, hx, rfl, _, _, rfl, _, _, rfl, rfl, ?_⟩
      refine ⟨_, rfl, _, rfl, _, rfl, _, rfl, _, rfl, _, rfl, _, _, rfl, rfl, zs.sz.mul tz.sz, _, rfl, _, _, rfl, rfl, n, b, t, _, rfl, rt, zb, zn, m1, _, _, rfl, rfl, ?_⟩
      refine ⟨_, rfl, _, rfl, _, rfl, _, rfl, _, rfl, _, rfl, _, _, rfl, rfl, zs.sz.mul tz.sz, _, rfl, _, _, rfl, rfl, _, _, rfl, rfl, n, b, t, _, rfl, rt, zb, zn, m2, _, _, rfl, rfl, ?_⟩
      refine ⟨rfl, _, _, _, rfl, ?_⟩
      rw [fs_none l0 lh hb hno]
      omega
    · rintro σ H' ⟨rfl, y, z, tot, rfl, rfl⟩
      exact ⟨_, rfl, q⟩
end
end Toy
set_option maxRecDepth 100000
set_option maxHeartbeats 4000000
set_option exponentiation.threshold 3000
namespace Toy
open PySem L2 KF
theorem Bg.of40 {z : Int} (h : z.natAbs < 10 ^ 40) : Bg z := Nat.lt_trans h (by decide +kernel)
theorem log_of {z : Int} (h : z.natAbs < 2 ^ 1900) : z.natAbs.log2 < 1920 := Nat.lt_trans (PySem.Flt.log2_lt_of (by decide) h) (by decide)
theorem mk_same {H H' : Hp} {x dx C : Addr} {o : HO} (h1 : H x = none) (h2 : H dx = none) (h : ∀ c o', (upd (upd H dx o) x (.ins C dx [])) c = some o' → c ≠ x → H' c = some o') : Same H H' := fun b u e =>
  h b u (by rw [upd_ne (ne_of_none e h1), upd_ne (ne_of_none e h2)]; exact e) (ne_of_none e h1)
section
variable {P : Program} {w : World} {K : PySem.W.Frag} {mg : Str → Option Value} {base : Heap} {C : Addr}
theorem asF {H : Hp} {x : Addr} {t b : Int} (rt : Rt t b) (h : RatAt C H x (lowT t b) (lowB t b)) : FifAt C H x t b := by
  have b0 : 0 < b := by have := rt.t0; have := rt.tb; omega
  have g : gcdI t b = 1 := by
    have h : Nat.gcd t.natAbs b.natAbs = 1 := rt.g
    unfold gcdI
    rw [h]
    rfl
  rw [lowT_one b0 g, lowB_one b0 g] at h
  exact ⟨h, rt.t0, rt.tb⟩
def spRgt : Sp := fun vs H Q _ => ∃ p c k, vs = [.ref p] ∧ Pen H p c k ∧ k ≤ 100000 ∧ ∀ H', Pen H' p c (k + 33) → Q (.bl true) H'
abbrev sSmall : Stmt := top 41
theorem scSm : FnScope ["_law_pen_here", "_law_top", "_law_bottom", "_law_foot", "_law_most", "_law_begun_here", "_law_due", "_law_far"] ["_law_pen_here"] (defScope sSmall) := ⟨rfl, rfl, rfl, by decide +kernel, rfl, by decide +kernel, by decide +kernel⟩
theorem ok_small {f f1 f2 f3 f4 f5 : Addr} {fd fd1 fd2 fd3 fd4 fd5 : FuncData} (F : Fun K "_law_small_right" "_law_small_right" sSmall f fd) (T : Bl mg) (zr : mg "repr" = none) (T_Ratio : RatT K mg C) (C__law_rate : Cal P w K mg base 2 "_law_rate" f1 fd1 ["_law_pen_here", "_law_most"] spRate) (C__law_row : Cal P w K mg base 3 "_law_row" f2 fd2 ["_law_pen_here", "_law_bottom"] spRow)
    (C__law_begun : Cal P w K mg base 3 "_law_begun" f3 fd3 ["_law_pen_here"] spBegun) (C_first_in : Cal P w K mg base 4 "first_in" f4 fd4 ["fifth", "low", "high", "start"] (spFirst C)) (M_Ratio : Mak P w K mg base 2 "Ratio" C f5 fd5 ["self", "top", "bottom"] (spRInit C)) : FnOk P w K mg base CX0 5 f fd ["_law_pen_here"] spRgt := by
  refine F.ok scSm (fun vs H Q E h => ?_) (fun cdv A outer s H vs Q E hr h => ?_)
  · obtain ⟨p, c, k, rfl, _⟩ := h
    rfl
  · obtain ⟨p, c, k, rfl, hP, hk, q⟩ := h
    have nd := scSm.nd
    refine ⟨_, pss_cons (ps_asg (pe_call C__law_rate.F (hr.mono (by decide)) (by rfl) C__law_rate.mgf C__law_rate.kp C__law_rate.b .nil pass0 (pa_cons (pv 0) (pa_cons pe_int pa_nil))) (pg_tup (by rfl) (pgs_cons (pg_name (i := 1) nd rfl (Or.inr rfl)) (pgs_cons (pg_name (i := 2) nd rfl (Or.inr rfl)) pgs_nil))))
      (pss_cons (ps_asg (pe_call C__law_row.F (hr.mono (by decide)) (by rfl) C__law_row.mgf C__law_row.kp C__law_row.b .nil pass0 (pa_cons (pv 0) (pa_cons (pv 2) pa_nil))) (pg_tup (by rfl) (pgs_cons (pg_name (i := 3) nd rfl (Or.inr rfl)) (pgs_cons (pg_name (i := 4) nd rfl (Or.inr rfl)) pgs_nil))))
      (pss_cons (ps_set (i := 5) nd rfl (Or.inr rfl) (pe_call C__law_begun.F (hr.mono (by decide)) (by rfl) C__law_begun.mgf C__law_begun.kp C__law_begun.b .nil pass0 (pa_cons (pv 0) pa_nil)))
      (pss_cons (ps_set (i := 6) nd rfl (Or.inl rfl) (pe_ix ix_list (pe_lc (own := [("_law_far", 7)]) (g := gName 7) rfl nd (pi_range1 (by rfl) T.range (pa_cons (pv 2) pa_nil)) (blkOk_by (N := ["_law_pen_here", "_law_top", "_law_bottom", "_law_foot", "_law_most", "_law_begun_here", "_law_due", "_law_far"]) (sc := defScope (top 41)) (by decide +kernel)) (fun _ _ _ _ _ => pg_name (i := 7) nd rfl (Or.inl rfl)) (fun _ _ _ _ _ => pts_one (pt_chain op_le op_le (pv 3) (pe_op op_mod (pe_callTy call_int1 (by rfl) T.int (by decide +kernel) (pa_cons (pe_op op_mulW (pe_op op_add (pv 5) (pv 7)) (pv 1)) pa_nil)) (pv 2)) (pv 4))) (fun _ _ _ _ _ => (pe_op op_add (pv 5) (pv 7)))) pe_int (fun _ _ => rfl)))
      (pss_one (ps_ret (pe_cmpR op_eq (pe_callB SkE.call_repr_int (by rfl) zr (by decide +kernel) (pa_cons (pe_call C_first_in.F (hr.mono (by decide)) (by rfl) C_first_in.mgf C_first_in.kp C_first_in.b .nil pass0 (pa_cons (pe_make M_Ratio.M M_Ratio.F (hr.mono (by decide)) (by rfl) M_Ratio.mgC M_Ratio.b .nil pass0 (pa_cons (pv 1) (pa_cons (pv 2) pa_nil))) (pa_cons (pv 3) (pa_cons (pv 4) (pa_cons (pv 5) pa_nil))))) pa_nil)) (pe_callB SkE.call_repr_int (by rfl) zr (by decide +kernel) (pa_cons (pv 6) pa_nil)) (nomark _))))))), ?_⟩
    refine ⟨_, rfl, p, c, k, 40, rfl, hP, by omega, by decide, by decide, fun x t b H1 rt bm hx P1 B1 => ⟨x, _, rfl, SqT.of hx, rfl, _, _, rfl, _, _, rfl, rfl, ?_⟩⟩
    have t0 := rt.t0
    have tb := rt.tb
    refine ⟨_, rfl, _, rfl, p, c, k + 2, b, rfl, P1, by omega, by omega, by omega, fun x2 lo hi H2 l0 lh hb hx2 P2 B2 => ⟨x2, _, rfl, SqT.of hx2, rfl, _, _, rfl, _, _, rfl, rfl, ?_⟩⟩
    refine ⟨_, rfl, p, c, k + 2 + 12, rfl, P2, by omega, fun st H3 zs P3 B3 => ?_⟩
    have bb : Bg b := Bg.of40 (by omega)
    have zst : Bg st := Bg.of40 zs
    refine ⟨_, rfl, b, rfl, by omega, by omega, fun D hD => ?_⟩
    refine lc_range (lo := 0) (n := b.toNat) (fun i H' => ∃ acc, H' = upd H3 D (.lst acc) ∧ acc.length ≤ i ∧ ((acc = [] ∧ ∀ j, st ≤ j → j < st + i → ¬ Hit lo hi t b j) ∨ (∃ n rest, acc = .int n :: rest ∧ First lo hi t b st n))) ⟨[], rfl, Nat.le_refl _, .inl ⟨rfl, fun j h1 h2 => by omega⟩⟩ ?_ ?_
    · rintro i H' hi' ⟨acc, rfl, hl, hacc⟩
      refine ⟨rfl, ?_⟩
      have bz : (b.toNat : Int) = b := by omega
      have on := on_iff (j := st + (0 + (i : Int))) (t := t) l0 hb (show 0 < b by omega)
      have zj : Sz (st + (0 + (i : Int))) := Sz.of (Nat.lt_of_le_of_lt (show (st + (0 + (i : Int))).natAbs ≤ 10 ^ 41 by omega) (by decide +kernel))
      have tz : Bg t := Bg.le (by omega) (Int.le_of_lt tb) bb
      refine ⟨_, rfl, _, rfl, _, rfl, _, _, rfl, rfl, _, rfl, _, _, rfl, rfl, zj.mul tz.sz, .inl ⟨_, rfl, _, rfl, _, _, rfl, rfl, (show 0 < b by omega), _, _, rfl, rfl, _, rfl, ?_⟩⟩
      have skip : ¬ Hit lo hi t b (st + (0 + (i : Int))) → ∃ acc', upd H3 D (.lst acc) = upd H3 D (.lst acc') ∧ acc'.length ≤ i + 1 ∧ ((acc' = [] ∧ ∀ j, st ≤ j → j < st + ((i + 1 : Nat) : Int) → ¬ Hit lo hi t b j) ∨ (∃ n rest, acc' = .int n :: rest ∧ First lo hi t b st n)) := fun hn => by
        refine ⟨acc, rfl, by omega, ?_⟩
        rcases hacc with ⟨e, h⟩ | h
        · refine .inl ⟨e, fun j h1 h2 hh => ?_⟩
          by_cases hj : j < st + i
          · exact h j h1 hj hh
          · exact hn ((show j = st + (0 + (i : Int)) by omega) ▸ hh)
        · exact .inr h
      by_cases c1 : lo ≤ (st + (0 + (i : Int))) * t % b
      · refine iteTb (decide_eq_true c1) ⟨_, rfl, _, _, rfl, rfl, _, rfl, ?_⟩
        by_cases c2 : (st + (0 + (i : Int))) * t % b ≤ hi
        · refine iteTb (decide_eq_true c2) ⟨_, rfl, _, rfl, _, _, rfl, rfl, acc, upd_same, Nat.lt_of_le_of_lt hl (Nat.lt_trans (show i < 100 by omega) (by decide)), acc ++ [.int (st + (0 + (i : Int)))], upd_upd .., ?_, ?_⟩
          · rw [List.length_append]
            show acc.length + 1 ≤ i + 1
            omega
          · have hh := on.mp ⟨c1, c2⟩
            rcases hacc with ⟨e, h⟩ | ⟨n, rest, e, h⟩
            · subst e
              refine .inr ⟨_, [], rfl, ⟨by omega, hh, fun j h1 hj => ?_⟩⟩
              refine Int.le_of_not_gt fun hlt => h j h1 (by omega) hj
            · subst e
              exact .inr ⟨n, rest ++ [.int (st + (0 + (i : Int)))], rfl, h⟩
        · exact iteFb (decide_eq_false c2) (skip fun hh => c2 (on.mpr hh).2)
      · exact iteFb (decide_eq_false c1) ⟨_, rfl, iteFb rfl (skip fun hh => c1 (on.mpr hh).1)⟩
    · rintro H' ⟨acc, rfl, hl, hacc⟩
      obtain ⟨j, j0, j1, j2⟩ := on_ex (st := st) t0 tb rt.g l0 (show lo < b by omega)
      have hh : Hit lo hi t b j := by
        obtain ⟨m, m1, m2⟩ := j2
        exact ⟨m, m1, by omega⟩
      obtain ⟨n, rest, rfl, hf⟩ : ∃ n rest, acc = .int n :: rest ∧ First lo hi t b st n := by
        rcases hacc with ⟨e, h⟩ | h
        · exact absurd hh (h j j0 (by omega))
        · exact h
      have s3 : Same H3 (upd H3 D (.lst (.int n :: rest))) := same_new hD
      refine ⟨D, _, 0, _, rfl, rfl, SqL.of upd_same, atI_nat (j := 0) rfl, ?_⟩
      have nz : n.natAbs < 2 ^ 1900 := by
        have h1 := hf.ge
        have h2 := hf.least j j0 hh
        exact Nat.lt_of_le_of_lt (show n.natAbs ≤ 10 ^ 41 by omega) (by decide +kernel)
      refine ⟨_, rfl, _, rfl, ?_⟩
      intro y dy hy1 hdy hne
      refine ⟨y, dy, t, b, rfl, upd_same, by omega, bb.sz, fun H4 hR hk4 => ⟨rfl, ?_⟩⟩
      have s4 := mk_same hy1 hdy hk4
      have hy := asF rt hR
      refine ⟨_, rfl, _, rfl, _, rfl, y, t, b, lo, hi, st, rfl, hy, rt.g, by omega, l0, lh, hb, zs, fun n2 H5 s5 f5 => ?_⟩
      obtain rfl := f5.uniq hf
      refine ⟨_, rfl, log_of nz, _, rfl, _, rfl, log_of nz, rfl, ?_⟩
      exact qtrue (decide_eq_true rfl) (q _ ((((P3.same s3).same s4).same s5).mono (by omega)))
abbrev sFar : Stmt := top 42
theorem scFa : FnScope ["_law_pen_here", "_law_top", "_law_bottom", "_law_foot", "_law_most", "_law_begun_here", "_law_tuned", "_law_found", "_law_alone", "_law_due"] ["_law_pen_here"] (defScope sFar) := ⟨rfl, rfl, rfl, by decide +kernel, rfl, by decide +kernel, by decide +kernel⟩
theorem ok_far {f f1 f2 f3 f4 f5 f6 f7 : Addr} {fd fd1 fd2 fd3 fd4 fd5 fd6 fd7 : FuncData} (F : Fun K "_law_far_right" "_law_far_right" sFar f fd) (T : Bl mg) (T_Ratio : RatT K mg C) (C__law_far_rate : Cal P w K mg base 3 "_law_far_rate" f1 fd1 ["_law_pen_here"] spFarRate) (C__law_row : Cal P w K mg base 3 "_law_row" f2 fd2 ["_law_pen_here", "_law_bottom"] spRow)
    (C__law_begun : Cal P w K mg base 3 "_law_begun" f3 fd3 ["_law_pen_here"] spBegun) (C_first_in : Cal P w K mg base 4 "first_in" f4 fd4 ["fifth", "low", "high", "start"] (spFirst C)) (KB : KBn K fd4 ["fifth", "low", "high", "start"] 0 ["start", "high", "low", "fifth"] (fun _ ws => ws.reverse) (fun _ zs => zs.reverse)) (M_Ratio : Mak P w K mg base 2 "Ratio" C f5 fd5 ["self", "top", "bottom"] (spRInit C))
    (C__law_met : Cal P w K mg base 2 "_law_met" f6 fd6 ["_law_rows", "_law_top", "_law_bottom", "_law_begun_here", "_law_many"] (spMet K)) (C__law_inverse : Cal P w K mg base 1 "_law_inverse" f7 fd7 ["_law_top", "_law_bottom"] spInverse) : FnOk P w K mg base CX0 5 f fd ["_law_pen_here"] spRgt := by
  refine F.ok scFa (fun vs H Q E h => ?_) (fun cdv A outer s H vs Q E hr h => ?_)
  · obtain ⟨p, c, k, rfl, _⟩ := h
    rfl
  · obtain ⟨p, c, k, rfl, hP, hk, q⟩ := h
    have nd := scFa.nd
    refine ⟨_, pss_cons (ps_asg (pe_call C__law_far_rate.F (hr.mono (by decide)) (by rfl) C__law_far_rate.mgf C__law_far_rate.kp C__law_far_rate.b .nil pass0 (pa_cons (pv 0) pa_nil)) (pg_tup (by rfl) (pgs_cons (pg_name (i := 1) nd rfl (Or.inl rfl)) (pgs_cons (pg_name (i := 2) nd rfl (Or.inl rfl)) pgs_nil))))
      (pss_cons (ps_asg (pe_call C__law_row.F (hr.mono (by decide)) (by rfl) C__law_row.mgf C__law_row.kp C__law_row.b .nil pass0 (pa_cons (pv 0) (pa_cons (pv 2) pa_nil))) (pg_tup (by rfl) (pgs_cons (pg_name (i := 3) nd rfl (Or.inl rfl)) (pgs_cons (pg_name (i := 4) nd rfl (Or.inl rfl)) pgs_nil))))
      (pss_cons (ps_set (i := 5) nd rfl (Or.inl rfl) (pe_call C__law_begun.F (hr.mono (by decide)) (by rfl) C__law_begun.mgf C__law_begun.kp C__law_begun.b .nil pass0 (pa_cons (pv 0) pa_nil)))
      (pss_cons (ps_set (i := 6) nd rfl (Or.inl rfl) (pe_make M_Ratio.M M_Ratio.F (hr.mono (by decide)) (by rfl) M_Ratio.mgC M_Ratio.b .nil pass0 (pa_cons (pv 1) (pa_cons (pv 2) pa_nil))))
      (pss_cons (ps_set (i := 7) nd rfl (Or.inl rfl) (pe_call C_first_in.F (hr.mono (by decide)) (by rfl) C_first_in.mgf C_first_in.kp C_first_in.b .nil pass0 (pa_cons (pv 6) (pa_cons (pv 3) (pa_cons (pv 4) (pa_cons (pv 5) pa_nil))))))
      (pss_cons (ps_if (PW.pt (pw_or (pt_not (pt_val (pe_callB call_isi (by rfl) T.isinstance (by decide +kernel) (pa_cons (pv 7) (pa_cons (pe_bltn (v := .ty "int") (u := .type "int") (by rfl) T.int (by decide +kernel) rfl) pa_nil))))) (pw_or (pt_cmpR op_lt (pv 7) (pv 5) (nomark _)) (pw_or1 (pt_not (pt_chain op_le op_le (pv 3) (pe_op op_mod (pe_callTy call_int1 (by rfl) T.int (by decide +kernel) (pa_cons (pe_op op_mulW (pv 7) (pv 1)) pa_nil)) (pv 2)) (pv 4))))))) (pss_one (ps_ret pe_bl)) pss_nil)
      (pss_cons (ps_if (pt_cmpR op_ne (pe_call C__law_met.F (hr.mono (by decide)) (by rfl) C__law_met.mgf C__law_met.kp C__law_met.b .nil pass0 (pa_cons (pe_lst (pa_cons (pe_tup (pa_cons (pv 3) (pa_cons (pv 4) pa_nil))) pa_nil)) (pa_cons (pv 1) (pa_cons (pv 2) (pa_cons (pv 5) (pa_cons (pe_op op_sub (pv 7) (pv 5)) pa_nil)))))) pe_int (nomark _)) (pss_one (ps_ret pe_bl)) pss_nil)
      (pss_cons (ps_set (i := 8) nd rfl (Or.inl rfl) (Own.pe_callK0 C_first_in.F (hr.mono (by decide)) (by rfl) C_first_in.mgf C_first_in.kp KB pass0 (pk_cons (pv 5) (pk_cons (pv 3) (pk_cons (pv 3) (pk_cons (pv 6) pk_nil))))))
      (pss_cons (ps_set (i := 9) nd rfl (Or.inl rfl) (pe_op op_add (pv 5) (pe_op op_mod (pe_callTy call_int1 (by rfl) T.int (by decide +kernel) (pa_cons (pe_op op_sub (pe_op op_mulW (pv 3) (pe_call C__law_inverse.F (hr.mono (by decide)) (by rfl) C__law_inverse.mgf C__law_inverse.kp C__law_inverse.b .nil pass0 (pa_cons (pv 1) (pa_cons (pv 2) pa_nil)))) (pv 5)) pa_nil)) (pv 2))))
      (pss_one (ps_ret (pe_and (pe_cmpR op_eq (pv 8) (pv 9) (nomark _)) (pe_one (pe_cmpR op_le (pv 7) (pv 8) (nomark _)))))))))))))), ?_⟩
    refine ⟨_, rfl, p, c, k, rfl, hP, by omega, fun x t b H1 rt bm hx P1 B1 => ⟨x, _, rfl, SqT.of hx, rfl, _, _, rfl, _, _, rfl, rfl, ?_⟩⟩
    have t0 := rt.t0
    have tb := rt.tb
    have b0 : 0 < b := by omega
    have bb : Bg b := Bg.of40 bm
    have tz : Bg t := Bg.le (by omega) (Int.le_of_lt tb) bb
    refine ⟨_, rfl, _, rfl, p, c, k + 12, b, rfl, P1, by omega, by omega, bm, fun x2 lo hi H2 l0 lh hb hx2 P2 B2 => ⟨x2, _, rfl, SqT.of hx2, rfl, _, _, rfl, _, _, rfl, rfl, ?_⟩⟩
    refine ⟨_, rfl, p, c, k + 12 + 12, rfl, P2, by omega, fun st H3 zs P3 B3 => ?_⟩
    have zst : Bg st := Bg.of40 zs
    refine ⟨_, rfl, _, rfl, ?_⟩
    intro y dy hy1 hdy hne
    refine ⟨y, dy, t, b, rfl, upd_same, by omega, bb.sz, fun H4 hR hk4 => ⟨rfl, ?_⟩⟩
    have s4 := mk_same hy1 hdy hk4
    have hy := asF rt hR
    refine ⟨_, rfl, _, rfl, _, rfl, _, rfl, y, t, b, lo, hi, st, rfl, hy, rt.g, bm, l0, lh, hb, zs, fun n H5 s5 f5 => ?_⟩
    obtain ⟨j, j0, j1, j2⟩ := on_ex (st := st) t0 tb rt.g l0 (show lo < b by omega)
    have hh : Hit lo hi t b j := by
      obtain ⟨m, m1, m2⟩ := j2
      exact ⟨m, m1, by omega⟩
    have ge := f5.ge
    have le := f5.least j j0 hh
    have zn : Bg n := Bg.of (by omega)
    have zd : Bg (n - st) := Bg.of (by omega)
    have on := (on_iff (j := n) (t := t) l0 hb b0).mpr f5.on
    refine ⟨_, rfl, _, _, _, _, true, rfl, .ty _, .base (.int n), kit_ty (by decide +kernel), _, rfl, iteNot rfl ?_⟩
    refine ⟨_, rfl, _, rfl, _, _, rfl, rfl, _, rfl, iteFb (decide_eq_false (by omega)) ?_⟩
    refine ⟨_, rfl, _, rfl, _, rfl, _, _, rfl, rfl, zn.sz.mul tz.sz, .inl ⟨_, rfl, _, rfl, _, _, rfl, rfl, b0, _, _, rfl, rfl, _, rfl, iteTb (decide_eq_true on.1) ⟨_, rfl, _, _, rfl, rfl, _, rfl, iteNot (decide_eq_true on.2) ?_⟩⟩⟩
    have s34 := s4.trans s5
    refine ⟨_, rfl, _, rfl, (by decide : 2 ≤ sizeLine), fun e he => ⟨(by decide : 1 ≤ sizeLine), fun l hl => ⟨_, rfl, _, rfl, _, rfl, _, rfl, _, rfl, _, _, rfl, rfl, ?_⟩⟩⟩
    have s6 := (same_new (o := .tup [.int lo, .int hi]) he).trans (same_new (o := .lst [.ref e]) hl)
    refine ⟨l, e, lo, hi, t, b, st, (n - st).toNat, by show [V.ref l, V.int t, V.int b, V.int st, V.int (n - st)] = _; rw [Int.toNat_of_nonneg (by omega)], SqL.of upd_same, SqT.of (by rw [upd_ne (ne_of_none upd_same hl)]; exact upd_same), rt, bb, zst, by rw [Int.toNat_of_nonneg (by omega)]; exact zd, l0, lh, hb, fun i h1 h2 hi2 => ?_, rfl, _, rfl, iteFb (by rw [vdec]; rfl) ?_⟩
    · have := f5.least i h1 hi2
      omega
    refine ⟨_, rfl, _, rfl, _, rfl, _, rfl, rfl, y, t, b, lo, lo, st, rfl, (hy.same s5).same s6, rt.g, bm, l0, Int.le_refl _, by omega, zs, fun n2 H7 s7 f7 => ?_⟩
    refine ⟨_, rfl, _, rfl, _, rfl, _, rfl, t, b, rfl, rt, bb, fun v H8 s8 v0 v1 vx => ⟨_, _, rfl, rfl, (Bg.le l0 (show lo ≤ b by omega) bb).sz.mul (Bg.le v0 (Int.le_of_lt v1) bb).sz, _, rfl, _, _, rfl, rfl, .inl ⟨_, rfl, _, rfl, _, _, rfl, rfl, b0, _, _, rfl, rfl, ?_⟩⟩⟩
    have m0 := Int.emod_nonneg (lo * v - st) (show b ≠ 0 by omega)
    have m1 := Int.emod_lt_of_pos (lo * v - st) b0
    have ek : n2 = st + (lo * v - st) % b := f7.key rt.g (by_inverse b0 l0 (by omega) vx) (by omega) (by omega)
    refine ⟨_, rfl, _, rfl, rfl, _, rfl, iteTb (by rw [vdec]; exact decide_eq_true ek) ⟨_, rfl, _, rfl, _, _, rfl, rfl, ?_⟩⟩
    exact qtrue (decide_eq_true (f5.mono f7 lh)) (q _ (((((P3.same s34).same s6).same s7).same s8).mono (by omega)))
def spLaw (K : PySem.W.Frag) : Sp := fun vs H Q _ => ∃ (a : Addr) (ns : List Int), vs = [.ref a] ∧ SqL K H a (ns.map V.int) ∧ ns.length ≤ 63 ∧ ∀ H', Q (.bl true) H'
abbrev sLaw : Stmt := top 43
theorem scL : FnScope ["_law_script", "_law_pen_here", "_law_turn", "_law_wide"] ["_law_script"] (defScope sLaw) := ⟨rfl, rfl, rfl, by decide +kernel, rfl, by decide +kernel, by decide +kernel⟩
theorem ok_law {f f1 f2 f3 f4 f5 : Addr} {fd fd1 fd2 fd3 fd4 fd5 : FuncData} {dv : List Value} (F : Fun K "law" "law" sLaw f fd) (T : Bl mg) (C__law_pen : Cal P w K mg base 1 "_law_pen" f1 fd1 ["_law_script"] (spPen K)) (C__law_small_right : Cal P w K mg base 5 "_law_small_right" f2 fd2 ["_law_pen_here"] spRgt)
    (C__law_far_right : Cal P w K mg base 5 "_law_far_right" f3 fd3 ["_law_pen_here"] spRgt) (C_first_in : Cal P w K mg base 4 "first_in" f4 fd4 ["fifth", "low", "high", "start"] (spFirst C)) (hdv : Vals [.int 0] dv) (bd : Binds K fd4 ["fifth", "low", "high", "start"] dv) (M_Ratio : Mak P w K mg base 2 "Ratio" C f5 fd5 ["self", "top", "bottom"] (spRInit C)) :
    FnOk P w K mg base CX0 6 f fd ["_law_script"] (spLaw K) := by
  refine F.ok scL (fun vs H Q E h => ?_) (fun cdv A outer s H vs Q E hr h => ?_)
  · obtain ⟨a, ns, rfl, _⟩ := h
    rfl
  · obtain ⟨a, ns, rfl, hS, hl, q⟩ := h
    have nd := scL.nd
    refine ⟨_, pss_cons (ps_set (i := 1) nd rfl (Or.inl rfl) (pe_call C__law_pen.F (hr.mono (by decide)) (by rfl) C__law_pen.mgf C__law_pen.kp C__law_pen.b .nil pass0 (pa_cons (pv 0) pa_nil)))
      (pss_cons (ps_for PassesOwn.never rfl (pi_range1 (by rfl) T.range (pa_cons pe_int pa_nil)) (pg_name (i := 2) nd rfl (Or.inl rfl)) (pss_cons (ps_if (pt_not (pt_val (pe_call C__law_small_right.F (hr.mono (by decide)) (by rfl) C__law_small_right.mgf C__law_small_right.kp C__law_small_right.b .nil pass0 (pa_cons (pv 1) pa_nil)))) (pss_one (ps_ret pe_bl)) pss_nil)
      (pss_one (ps_if (PW.pt (pw_and (pt_cmpR op_eq (pe_op op_mod (pv 2) pe_int) pe_int (nomark _)) (pw_and1 (pt_not (pt_val (pe_call C__law_far_right.F (hr.mono (by decide)) (by rfl) C__law_far_right.mgf C__law_far_right.kp C__law_far_right.b .nil pass0 (pa_cons (pv 1) pa_nil))))))) (pss_one (ps_ret pe_bl)) pss_nil))))
      (pss_cons (ps_set (i := 3) nd rfl (Or.inl rfl) (pe_make M_Ratio.M M_Ratio.F (hr.mono (by decide)) (by rfl) M_Ratio.mgC M_Ratio.b .nil pass0 (pa_cons (pe_op op_pow pe_int pe_int) (pa_cons (pe_op op_add (pe_op op_mulW pe_int (pe_op op_pow pe_int pe_int)) pe_int) pa_nil))))
      (pss_cons (ps_if (PW.pt (pw_or (pt_cmpR op_ne (pe_call C_first_in.F (hr.mono (by decide)) (by rfl) C_first_in.mgf C_first_in.kp bd hdv pass0 (pa_cons (pv 3) (pa_cons pe_int (pa_cons pe_int pa_nil)))) (pe_op op_sub (pe_op op_mulW pe_int (pe_op op_pow pe_int pe_int)) pe_int) (nomark _)) (pw_or1 (pt_cmpR op_ne (pe_call C_first_in.F (hr.mono (by decide)) (by rfl) C_first_in.mgf C_first_in.kp C_first_in.b .nil pass0 (pa_cons (pv 3) (pa_cons pe_int (pa_cons pe_int (pa_cons pe_int pa_nil))))) (pe_op op_add (pe_op op_mulW pe_int (pe_op op_pow pe_int pe_int)) pe_int) (nomark _))))) (pss_one (ps_ret pe_bl)) pss_nil)
      (pss_one (ps_ret (pe_cmpR op_eq (pe_call C_first_in.F (hr.mono (by decide)) (by rfl) C_first_in.mgf C_first_in.kp bd hdv pass0 (pa_cons (pe_make M_Ratio.M M_Ratio.F (hr.mono (by decide)) (by rfl) M_Ratio.mgC M_Ratio.b .nil pass0 (pa_cons pe_int (pa_cons (pe_op op_sub (pe_op op_pow pe_int pe_int) pe_int) pa_nil))) (pa_cons (pe_op op_sub (pe_op op_pow pe_int pe_int) pe_int) (pa_cons (pe_op op_sub (pe_op op_pow pe_int pe_int) pe_int) pa_nil)))) (pe_op op_sub (pe_op op_pow pe_int pe_int) pe_int) (nomark _))))))), ?_⟩
    refine ⟨_, rfl, a, ns, rfl, hS, hl, fun p cc H0 s0 hp0 hP0 => ?_⟩
    refine ⟨20, rfl, by decide, by decide, ?_⟩
    refine for_range (lo := 0) (n := 20) (fun i σ H' => ∃ x y, σ = [some (.ref a), some (.ref p), x, y] ∧ Pen H' p cc (66 * i)) ⟨_, _, rfl, hP0⟩ ?_ ?_
    · rintro i σ H1 hi ⟨x, y, rfl, P1⟩
      refine ⟨_, rfl, p, cc, _, rfl, P1, by omega, fun H2 P2 => ⟨_, rfl, iteNot rfl ?_⟩⟩
      refine ⟨_, rfl, _, _, rfl, rfl, p0 rfl, rfl, _, rfl, ?_⟩
      rw [vdec]
      refine ite2 (fun _ => ?_) (fun _ => ?_)
      · refine ⟨_, rfl, p, cc, _, rfl, P2, by omega, fun H3 P3 => ⟨_, rfl, iteNot rfl ?_⟩⟩
        exact ⟨_, _, rfl, P3.mono (by omega)⟩
      · exact ⟨_, _, rfl, P2.mono (by omega)⟩
    · rintro σ H1 ⟨x, y, rfl, P1⟩
      have e39 : (10 : Int) ^ (39 : Int).toNat = 10 ^ 39 := rfl
      have e40 : (10 : Int) ^ (40 : Int).toNat = 10 ^ 40 := rfl
      have rt1 : Rt (10 ^ (39 : Int).toNat) (2 * 10 ^ (39 : Int).toNat + 1) := ⟨by decide, by decide, by decide +kernel⟩
      have rt2 : Rt 1 (10 ^ (40 : Int).toNat - 1) := ⟨by decide, by decide, by decide +kernel⟩
      have bb1 : Bg (2 * 10 ^ (39 : Int).toNat + 1) := Bg.of (by decide +kernel)
      have bb2 : Bg (10 ^ (40 : Int).toNat - 1) := Bg.of (by decide +kernel)
      refine ⟨_, _, rfl, rfl, ⟨by decide, by decide, by decide⟩, _, _, rfl, rfl, ⟨by decide, by decide, by decide⟩, _, _, rfl, rfl, (Sz.of (by decide +kernel)).mul (Sz.of (by decide +kernel)), _, _, rfl, rfl, ?_⟩
      intro y2 dy hy1 hdy hne
      refine ⟨y2, dy, _, _, rfl, upd_same, by decide, bb1.sz, fun H4 hR hk4 => ⟨rfl, ?_⟩⟩
      have hy := asF rt1 hR
      refine ⟨_, rfl, y2, _, _, 1, 1, 0, rfl, hy, rt1.g, by decide +kernel, by decide, by decide, by decide, by decide, fun n5 H5 s5 f5 => ?_⟩
      refine ⟨_, _, rfl, rfl, ⟨by decide, by decide, by decide⟩, _, _, rfl, rfl, (Sz.of (by decide +kernel)).mul (Sz.of (by decide +kernel)), _, _, rfl, rfl, rfl, ?_⟩
      have e5 := f5.key rt1.g (v := 2 * 10 ^ (39 : Int).toNat - 1) ⟨10 ^ (39 : Int).toNat - 1, by decide +kernel, by decide +kernel⟩ (by decide) (by decide)
      subst e5
      refine ⟨_, rfl, iteFb (by rw [vdec]; decide +kernel) ?_⟩
      refine ⟨_, rfl, y2, _, _, 0, 0, 1, rfl, hy.same s5, rt1.g, by decide +kernel, by decide, by decide, by decide, by decide, fun n6 H6 s6 f6 => ?_⟩
      have e6 := f6.key rt1.g (v := 2 * 10 ^ (39 : Int).toNat + 1) ⟨10 ^ (39 : Int).toNat, by decide +kernel, by decide +kernel⟩ (by decide) (by decide)
      subst e6
      refine ⟨_, _, rfl, rfl, ⟨by decide, by decide, by decide⟩, _, _, rfl, rfl, (Sz.of (by decide +kernel)).mul (Sz.of (by decide +kernel)), _, _, rfl, rfl, rfl, _, rfl, iteFb (by rw [vdec]; decide +kernel) ?_⟩
      refine ⟨_, _, rfl, rfl, ⟨by decide, by decide, by decide⟩, _, _, rfl, rfl, ?_⟩
      intro y3 dy3 hy3 hdy3 hne3
      refine ⟨y3, dy3, _, _, rfl, upd_same, by decide, bb2.sz, fun H7 hR7 hk7 => ⟨rfl, ?_⟩⟩
      have hy7 := asF rt2 hR7
      refine ⟨_, _, rfl, rfl, ⟨by decide, by decide, by decide⟩, _, _, rfl, rfl, _, _, rfl, rfl, ⟨by decide, by decide, by decide⟩, _, _, rfl, rfl, ?_⟩
      refine ⟨y3, _, _, 10 ^ (40 : Int).toNat - 2, 10 ^ (40 : Int).toNat - 2, 0, rfl, hy7, rt2.g, by decide +kernel, by decide, by decide, by decide, by decide, fun n8 H8 s8 f8 => ?_⟩
      have e8 := f8.key rt2.g (v := 10 ^ (40 : Int).toNat - 2) ⟨0, by decide +kernel, by decide +kernel⟩ (by decide) (by decide)
      subst e8
      refine ⟨_, _, rfl, rfl, ⟨by decide, by decide, by decide⟩, _, _, rfl, rfl, rfl, ?_⟩
      exact qtrue (by rw [vdec]; decide +kernel) (q _)
end
end Toy
set_option maxRecDepth 100000
set_option maxHeartbeats 4000000
/-! Several except clauses, with and without a name. -/
namespace Own
open PySem PySem.Spec PyProof.Rows L2
/-- an exception of the body, come down, ahead of a clause -/
structure Dn (X : Cx) (pins : List (Addr × Obj)) (a : Addr) (cls : Value) (d : Option Addr) (σ : L2.St) (H : Hp) (B : Heap) (sI s : Shared) : Prop where
  J : Inv X pins σ H sI
  nb : ∀ b o, sI.heap.get? b = some o → b ∉ frs X.stack → B.get? b = some o
  up : sI.heap.UpToSlots s.heap
  fl : HandSPX.FlyingZ B (X.env :: X.outer) a (Zc cls d) s.heap
  na : H a = none
  os : s.os = sI.os
  ag : AllBare s.gens
section
variable {X : Cx} {pins : List (Addr × Obj)} {a : Addr} {cls : Value} {d : Option Addr} {σ : L2.St} {H : Hp} {B : Heap} {sI s : Shared}
theorem Dn.inv (k : Dn X pins a cls d σ H B sI s) : Inv X pins σ H s := k.J.landed k.nb k.fl.1 k.up k.os k.ag
theorem Dn.out (k : Dn X pins a cls d σ H B sI s) : a ∉ frs (X.env :: X.outer) := fun hm => by
  obtain ⟨oe, vs, he, _, hd⟩ := k.fl.there
  obtain ⟨_, o', e', hnf⟩ := k.fl.2.2.1.mem hm
  rw [he] at e'; cases e'
  exact hnf _ hd
theorem Dn.nL (k : Dn X pins a cls d σ H B sI s) (hf : X.env.frame = some X.env.locals) : a ≠ X.env.locals := fun z => k.out (by
  rw [z]
  exact List.mem_filterMap.mpr ⟨X.env, List.mem_cons_self, hf⟩)
theorem Dn.nF (k : Dn X pins a cls d σ H B sI s) : a ∉ X.fs := fun hm => by
  obtain ⟨e, he, q⟩ := List.mem_filterMap.mp hm
  exact k.out (List.mem_filterMap.mpr ⟨e, List.mem_cons_of_mem _ he, q⟩)
/-- what the clauses hds do with an exception for which w holds -/
def Cl (X : Cx) (hds : List ExceptHandler) (w : Ends → WX) : Prop :=
  ∀ (pins : List (Addr × Obj)) (a : Addr) (cls : Value) (d : Option Addr) (σ : L2.St) (H : Hp) (B : Heap) (sI s : Shared) (D : Ends), Dn X pins a cls d σ H B sI s → w D cls d σ H →
    wpAny (model X.prog X.w) X.A (handleBy (.ref a) X.env hds) (SP X pins D) X.xe s
theorem cl_nil {Wout : WX} (hs : X.stack = X.env :: X.outer) (hf : X.env.frame = some X.env.locals) (tk : Takes X Wout) : Cl X [] fun _ => Wout := by
  intro pins a cls d σ H B sI s D k w
  refine wpAny_handleBy_nil ?_
  obtain ⟨k1, k2, k3, oe, vs, T, oT, ts', he, hz, hd, h1, hr⟩ := id k.fl
  unfold PySem.passOn
  refine wpAny_bind (wpAny_field he hd h1 ?_)
  rw [if_neg (show ¬ ((Value.ref T == Value.none) = true) from by simp)]
  have go : wpAny (model X.prog X.w) X.A (setFlight (.ref a) X.env.frame) (fun _ s2 => wpAny (model X.prog X.w) X.A (throw (.ref a) : Sem Flow) (SP X pins D) X.xe s2) X.xe s := by
    rw [hf]
    exact HandSPX.setFlight_upZ k.fl fun h2 hh up => wpAny_throw (tk _ _ ⟨a, B, sI, pins, σ, H, cls, d, rfl, k.J, k.nb, k.up.trans up, .inr (.inr (by rw [hs]; exact hh)), k.na, k.os, k.ag, w⟩)
  first
    | exact wpAny_bind (wpAny_pure (wpAny_bind go))
    | exact wpAny_bind go
/-- the clause's class is looked up and compared -/
theorem Dn.ask {x : Str} {np : Pos} {c : Value} {b : Bool} {Q : Bool → Shared → Prop} {E : Value → Shared → Prop} (k : Dn X pins a cls d σ H B sI s) (hf : X.env.frame = some X.env.locals) (hc : Names X x c) (hb : PySem.W.exmOne X.K cls c = some b) (q : Q b s) :
    wpAny (model X.prog X.w) (X.A.mark (some (.ref a))) (eval (.Name x np) X.env) (fun c s₁ => wpAny (model X.prog X.w) (X.A.mark (some (.ref a))) (excMatches (.ref a) c) Q E s₁) E s := by
  obtain ⟨oe, vs, he, hz, hd⟩ := k.fl.there
  have S := k.inv.suite he hd k.na (k.nL hf) k.nF
  have ty : PySem.W.Looks (model X.prog X.w) s.heap (typeOf (.ref a)) cls := fun A Q E s k q => wpAny_typeOf_ref (k _ _ he) (by rw [hz.1]; exact q)
  have em := PySem.W.exm_one (M := model X.prog X.w) k.inv.kIn ty hb
  obtain ⟨hg, hdb, hm | ⟨hm, hv, hnn⟩⟩ := hc
  · exact ld_glob (X := X.suite a ((a, oe) :: (X.pn ++ pins))) S hg hm (em.here q) hdb
  · exact ld_blt (X := X.suite a ((a, oe) :: (X.pn ++ pins))) S hg hm hv (em.here q) hnn hdb
theorem cl_on {x : Str} {c : Value} {ts : Addr → Value → Option Addr → TS} {b₀ : Stmt} {suite : List Stmt} {np pos : Pos} {hds : List ExceptHandler} {w : Ends → WX} (hf : X.env.frame = some X.env.locals) (hc : Names X x c)
    (hsu : ∀ (a : Addr) (oe : Obj) (cls : Value) (d : Option Addr) (pn : List (Addr × Obj)), Zc cls d oe → (∃ vs, oe.data = .fields vs) → PSs (X.suite a ((a, oe) :: pn)) (b₀ :: suite) (ts a cls d)) (r : Cl X hds w) :
    Cl X (.ExceptHandler (some (.Name x np)) none (b₀ :: suite) pos :: hds) fun D cls d σ H => ∃ b, PySem.W.exmOne X.K cls c = some b ∧ (b = true → ∀ a, H a = none → ts a cls d D σ H) ∧ (b = false → w D cls d σ H) := by
  intro pins a cls d σ H B sI s D k ⟨b, hb, yes, no⟩
  refine wpAny_handleBy_cons (codeAny_handlers_test (k.ask hf hc hb ?_)) (by intro q; cases q)
  cases b with
  | false => exact r pins a cls d σ H B sI s D k (no rfl)
  | true =>
    refine codeAny_handlers_suite (HandSPX.lands_againZ k.fl fun h2 fl2 up2 => ?_)
    have k2 : Dn X pins a cls d σ H B sI { s with heap := h2 } := ⟨k.J, k.nb, k.up.trans up2, fl2, k.na, k.os, k.ag⟩
    obtain ⟨oe, vs, he, hz, hd⟩ := fl2.there
    have S := k2.inv.suite he hd k.na (k.nL hf) k.nF
    refine wpAny_mono ((hsu a oe cls d (X.pn ++ pins) hz ⟨_, hd⟩).run [] _ σ H _ S (yes rfl a k.na)) (fun f s3 hsp => ?_) (fun _ _ z => False.elim z)
    have ok := k.J.ok
    cases f with
    | next => obtain ⟨σ3, H3, S3, q3⟩ := hsp; exact ⟨σ3, H3, S3.unsuite ok, q3⟩
    | brk => obtain ⟨σ3, H3, S3, q3⟩ := hsp; exact ⟨σ3, H3, S3.unsuite ok, q3⟩
    | cont => obtain ⟨σ3, H3, S3, q3⟩ := hsp; exact ⟨σ3, H3, S3.unsuite ok, q3⟩
    | ret u => obtain ⟨v3, σ3, H3, S3, r3, q3⟩ := hsp; exact ⟨v3, σ3, H3, S3.unsuite ok, r3, q3⟩
/-- what is wanted behind a suite whose name goes -/
def Ends.gone (D : Ends) (i : Nat) : Ends := { nx := fun σ H => D.nx (σ.set i none) H, rt := D.rt, bk := fun σ H => D.bk (σ.set i none) H, ct := fun σ H => D.ct (σ.set i none) H }
theorem cl_as {x n : Str} {c : Value} {i : Nat} {ts : Addr → Value → Option Addr → TS} {b₀ : Stmt} {suite : List Stmt} {np pos : Pos} {hds : List ExceptHandler} {w : Ends → WX} (hf : X.env.frame = some X.env.locals) (hN : X.N.Nodup) (hi : X.N[i]? = some n) (hln : X.env.kindOf n = some .local) (hc : Names X x c)
    (hsu : ∀ (a : Addr) (oe : Obj) (cls : Value) (d : Option Addr) (pn : List (Addr × Obj)), Zc cls d oe → (∃ vs, oe.data = .fields vs) → PSs (X.suite a ((a, oe) :: pn)) (b₀ :: suite) (ts a cls d)) (r : Cl X hds w) :
    Cl X (.ExceptHandler (some (.Name x np)) (some n) (b₀ :: suite) pos :: hds) fun D cls d σ H => ∃ b, PySem.W.exmOne X.K cls c = some b ∧ (b = true → σ.length = X.N.length → ∀ a, H a = none → ts a cls d (Ends.gone D i) (σ.set i (some (.ref a))) H) ∧ (b = false → w D cls d σ H) := by
  intro pins a cls d σ H B sI s D k ⟨b, hb, yes, no⟩
  refine wpAny_handleBy_cons (codeAny_handlers_test (k.ask hf hc hb ?_)) (by intro q; cases q)
  cases b with
  | false => exact r pins a cls d σ H B sI s D k (no rfl)
  | true =>
    refine codeAny_handlers_suite_as (HandSPX.lands_againZ k.fl fun h2 fl2 up2 => ?_)
    have k2 : Dn X pins a cls d σ H B sI { s with heap := h2 } := ⟨k.J, k.nb, k.up.trans up2, fl2, k.na, k.os, k.ag⟩
    obtain ⟨oe, vs, he, hz, hd⟩ := fl2.there
    have S := k2.inv.suite he hd k.na (k.nL hf) k.nF
    have ok := k.J.ok
    refine store_ok (X := X.suite a ((a, oe) :: (X.pn ++ pins))) (v := .ref a) S hN hi (.inl hln) rfl (fun s3 S3 => ?_) (.inr hln)
    refine wpAny_mono ((hsu a oe cls d (X.pn ++ pins) hz ⟨_, hd⟩).run [] s3 _ H _ S3 (yes rfl k.J.len a k.na)) (fun f s4 hsp => ?_) (fun _ _ z => False.elim z)
    have bye : ∀ {σ4 : L2.St} {H4 : Hp} {Q : Shared → Prop}, Inv (X.suite a ((a, oe) :: (X.pn ++ pins))) [] σ4 H4 s4 → (∀ s5, Inv X pins (σ4.set i none) H4 s5 → Q s5) →
        wpAny (model X.prog X.w) X.A (do bindName X.env n .none; unbindBehindTheSuite X.env n pos) (fun _ s5 => Q s5) X.xe s4 := fun {σ4 H4 Q} S4 hq => gone_ok (S4.unsuite ok) hN hi hln hq
    cases f with
    | next => obtain ⟨σ4, H4, S4, q4⟩ := hsp; exact bye S4 fun s5 J5 => ⟨_, _, J5, q4⟩
    | brk => obtain ⟨σ4, H4, S4, q4⟩ := hsp; exact bye S4 fun s5 J5 => ⟨_, _, J5, q4⟩
    | cont => obtain ⟨σ4, H4, S4, q4⟩ := hsp; exact bye S4 fun s5 J5 => ⟨_, _, J5, q4⟩
    | ret u => obtain ⟨v4, σ4, H4, S4, r4, q4⟩ := hsp; exact bye S4 fun s5 J5 => ⟨_, _, _, J5, r4, q4⟩
end
section
variable {X : Cx} {body : List Stmt} {h₀ : ExceptHandler} {hds : List ExceptHandler} {pos : Pos} {tb : WX → TS} {w : Ends → WX}
theorem ps_try_cl (hs : X.stack = X.env :: X.outer) (hf : X.env.frame = some X.env.locals)
    (hb : ∀ (W : WX) (pn : List (Addr × Obj)) (xe : Value → Shared → Prop), Takes (X.tr pn xe) W → PassesOwn (model X.prog X.w) X.A X.env xe → PSs (X.tr pn xe) body (tb W)) (hh : Cl X (h₀ :: hds) w) :
    PS X (.Try body (h₀ :: hds) [] [] pos) (fun D σ H => tb (w D) D σ H) := by
  refine ⟨fun pins s σ H D I h => ?_⟩
  have ok := I.ok
  have hfr : X.A.frames = some (X.env :: X.outer) := by rw [ok.frames, hs]
  refine wpAny_Try_except ?_
  have catch_ : Takes (X.tr (X.pn ++ pins) fun e s₁ => wpAny (model X.prog X.w) X.A (noteFrame e X.env) (fun _ s₂ => wpAny (model X.prog X.w) X.A (setFlight e none) (fun _ s₃ =>
      wpAny (model X.prog X.w) X.A (handleBy e X.env (h₀ :: hds)) (SP X pins D) X.xe s₃) X.xe s₂) X.xe s₁) (w D) := fun u s' xx => by
    obtain ⟨a, B, sI, pins', σ', H', cls, d, rfl, J', nb, up, sky, na, os, ag, ww⟩ := xx
    have sky' : Sky B (X.env :: X.outer) a (Zc cls d) X.env.locals s'.heap := by rw [← hs]; exact sky
    exact Sky.land Zc.steady hfr hf sky' fun h3 fl3 up3 => hh pins a cls d σ' H' B sI _ D ⟨J'.ofTry ok, nb, up.trans up3, fl3, na, os, ag⟩ ww
  refine wpAny_mono ((hb (w D) (X.pn ++ pins) _ catch_ PassesOwn.looking).run [] s σ H D (I.toTry _) h) (fun f s1 hsp => ?_) (fun e s1 he => he)
  cases f with
  | next => obtain ⟨σ', H', J', q⟩ := hsp; exact wpAny_execs_nil ⟨σ', H', J'.ofTry ok, q⟩
  | brk => obtain ⟨σ', H', J', q⟩ := hsp; exact ⟨σ', H', J'.ofTry ok, q⟩
  | cont => obtain ⟨σ', H', J', q⟩ := hsp; exact ⟨σ', H', J'.ofTry ok, q⟩
  | ret u => obtain ⟨v, σ', H', J', r, q⟩ := hsp; exact ⟨v, σ', H', J'.ofTry ok, r, q⟩
end
end Own
set_option maxRecDepth 100000
set_option maxHeartbeats 4000000
/-! Promises of defs that are called where no object is being shown (for repr), and the end of such a law, with tables of code objects. -/
namespace Own
open PySem PySem.Spec PyProof.Rows L2
structure FnG (P : Program) (w : World) (K : PySem.W.Frag) (mg : Str → Option Value) (base : Heap) (CX : CXT) (k : Nat) (f : Addr) (fd : FuncData) (ps : List Str) (sp : Sp) : Prop where
  len : ∀ vs H Q E, sp vs H Q E → vs.length = ps.length
  run : ∀ (A : Around) (outer : List Env) (s : Shared) (H : Hp) (args : Args) (us : List Value) (vs : List V) (Q : VK) (E : XK), A.guards = some [] → Room k A → Env0 P w K mg base A outer s H → BindsTo s fd args (ps.zip us) → Vals vs us →
    sp vs H Q E → codeAny (model P w) A (.call (.ref f) args) (CR CX outer P w H s Q E) s
section
variable {P : Program} {w : World} {K : PySem.W.Frag} {mg : Str → Option Value} {base : Heap} {x qual : Str} {st : Stmt} {f c : Addr} {fd : FuncData} {N ps : List Str} {k : Nat} {sp : Sp}
theorem okG (F : Fun K x qual st f fd) (S : FnScope N ps (defScope st)) (len : ∀ vs H Q E, sp vs H Q E → vs.length = ps.length)
    (hbody : ∀ (cdv : Value) (A : Around) (outer : List Env) (s : Shared) (H : Hp) (vs : List V) (Q : VK) (E : XK), A.guards = some [] → Room k (A.deeper (envOfC qual (defScope st) s.heap.objs.size f cdv)) → sp vs H Q E →
      ∃ t, PSs (cxOf CX0 P w K mg base N qual (defScope st) f cdv A outer s H E).nox (defBody st) t ∧ t { nx := fun _ H' => Q .non H', rt := Q } (start N vs) H) : FnG P w K mg base CX0 (k + 1) f fd ps sp := by
  obtain ⟨oc, od, kV, doc, pm, an, cdv, ct, osl, rfl, lk, hcd⟩ := F.ex
  refine ⟨len, fun A outer s H args us vs Q E hg hr e0 hb r hsp => LamX.run_ofS lk hcd S hr e0 hb r (len _ _ _ _ hsp) fun hr2 => ?_⟩
  obtain ⟨t, h, q⟩ := hbody cdv A outer s H vs Q E hg hr2 hsp
  exact ⟨t, h.nox, q⟩
/-- its code object is known -/
theorem okC (F : Fun K x qual st f fd) (hc : fd.code = .ref c) (S : FnScope N ps (defScope st)) (len : ∀ vs H Q E, sp vs H Q E → vs.length = ps.length)
    (hbody : ∀ (A : Around) (outer : List Env) (s : Shared) (H : Hp) (vs : List V) (Q : VK) (E : XK), Room k (A.deeper (envOfC qual (defScope st) s.heap.objs.size f (.ref c))) → sp vs H Q E →
      ∃ t, PSs (cxOf CX0 P w K mg base N qual (defScope st) f (.ref c) A outer s H E).nox (defBody st) t ∧ t { nx := fun _ H' => Q .non H', rt := Q } (start N vs) H) : FnOk P w K mg base CX0 (k + 1) f fd ps sp := by
  obtain ⟨oc, od, kV, doc, pm, an, cdv, ct, osl, rfl, lk, hcd⟩ := F.ex
  obtain rfl : cdv = .ref c := hc
  refine fn_of lk hcd S len fun A outer s H vs Q E hr hsp => ?_
  obtain ⟨t, h, q⟩ := hbody A outer s H vs Q E hr hsp
  exact ⟨t, h.nox, q⟩
end
section
variable {X : Cx} {CX : CXT} {k : Nat} {f : Addr} {fd : FuncData} {ps : List Str} {sp : Sp} {E : XK} {x : Str} {e : Expr} {es : List Expr} {t : TA} {p pos : Pos}
theorem run_fnG {pins : List (Addr × Obj)} {σ : L2.St} {H : Hp} {s : Shared} {Q : VK} {us : List Value} {vs : List V} (F : FnG X.prog X.w X.K X.mg X.base CX k f fd ps sp) (hg : X.A.guards = some []) (hr : Room k X.A) (hb : Binds X.K fd ps []) (hx : Passes CX X E)
    (I : Inv X pins σ H s) (r : Vals vs us) (h : sp vs H Q E) : wpAny (model X.prog X.w) X.A (call (.ref f) us) (EP X pins σ Q) X.xe s := by
  have hl : us.length = ps.length := by rw [← r.length]; exact F.len _ _ _ _ h
  have hb2 : BindsTo s fd ⟨us, []⟩ (ps.zip us) := by
    have := hb s us I.kIn (by rw [List.append_nil]; exact hl)
    rwa [List.append_nil] at this
  refine wpAny_call (codeAny_mono (F.run X.A X.stack s H ⟨us, []⟩ us vs Q E hg hr I.env0 hb2 r h) fun r s' hq => ?_)
  match r, hq with
  | .error e, hq => exact hx pins σ H s e s' I hq
  | .ok (.ret u), hq => exact I.after hq
  | .ok .next, hq => exact False.elim hq
  | .ok .brk, hq => exact False.elim hq
  | .ok .cont, hq => exact False.elim hq
theorem pe_callG (F : FnG X.prog X.w X.K X.mg X.base CX k f fd ps sp) (hg : X.A.guards = some []) (hr : Room k X.A) (hn : Gl X x) (hm : X.mg x = some (.ref f)) (hk : PySem.W.keepIn X.K (.ref f) = true) (hb : Binds X.K fd ps []) (hx : Passes CX X E)
    (ha : PA X (e :: es) t) (hdb : (x == ("__debug__" : Str)) = false := by decide) (he : starEach (e :: es) X.env = (false, eval e X.env) :: starEach es X.env := by rfl) (hpl : (backTo pos (starEach es X.env)).any (·.1) = false := by rfl) :
    PE X (.Call (.Name x p) (e :: es) [] pos) (fun σ H Q => t σ H fun vs H1 => sp vs H1 Q E) := by
  refine ⟨fun pins s σ H Q I h => wpAny_Call_Name_kw (ld_glob I hn hm ?_ hdb)⟩
  refine PySem.W.callWith_K (h₀ := X.base) I.ok.mod.kin hk (thn (ha.run pos pins s σ H _ I h) fun us s1 z => ?_) he hpl
  obtain ⟨vs, H1, I1, r, q⟩ := z
  exact ⟨I1.kIn, run_fnG F hg hr hb hx I1 r q⟩
/-- repr of data -/
def rRepr (K : PySem.W.Frag) : List V → Hp → VK → Prop := fun xs H Q => ∃ a d, xs = [.ref a] ∧ Dp K H (.ref a) d ∧ d.showable = true ∧ d.hasDict = false ∧ d.depth ≤ 60 ∧ d.shown.length ≤ sizeLine ∧ Q (.str d.shown) H
theorem call_repr (hg : X.A.guards = some []) (hu : X.A.units + 64 < cLine) : CallR X (.builtin "repr") (rRepr X.K) := by
  intro pins s σ H xs us Q I r h
  obtain ⟨a, d, rfl, hd, h1, h2, h3, h4, q⟩ := h
  obtain ⟨u, rfl, ru⟩ := vals1 r
  obtain rfl : u = Value.ref a := ru
  obtain ⟨as, rd⟩ := Dp.reads I d _ _ hd rfl
  exact repr_of_reads' rd h1 (fun e => by rw [h2] at e; cases e) hg (by omega) (fun _ _ e => e) (fun h' u tk hk => ⟨.str d.shown, H, I.kept hk, ⟨u, rfl⟩, q⟩) h4
end

/-! ### the end -/
/-- what is tracked at the law's entry: the tables, and the script unless it is the module's own -/
structure Ent (P : Program) (w : World) (K : PySem.W.Frag) (a : Addr) (cs : List (Addr × Addr)) (h : Heap) (ns : List Int) (H : Hp) : Prop where
  tab : ∀ p ∈ cs, H p.2 = some (.tbl #[])
  scr : SqL K H a (ns.map V.int)
  ok : HOk P w H h
  out : ∀ b u, H b = some u → K.lookup b = none
  only : ∀ b u, H b = some u → (u = .tbl #[] ∧ b ∈ cs.map (·.2)) ∨ (∃ xs o, u = .frz o (.lst xs) ∧ b = a)
theorem ent {P : Program} {w : World} {K : PySem.W.Frag} {a : Addr} {cs : List (Addr × Addr)} {h : Heap} {vs : List Value} {ns : List Int} (KX : K.In h) (hT : ∀ p ∈ cs, h.get? p.2 = some { cls := .none, data := .fields #[] }) (nT : ∀ p ∈ cs, K.lookup p.2 = none)
    (ha : h.get? a = some { cls := .type "list", data := .seq vs.toArray }) (hi : IntsAre vs ns) (hl : ns.length ≤ sizeLine) : ∃ H, Ent P w K a cs h ns H := by
  have rv := vals_ints hi
  have inT : ∀ b, b ∈ cs.map (·.2) → h.get? b = some { cls := .none, data := .fields #[] } ∧ K.lookup b = none := fun b m => by
    obtain ⟨p, hp, rfl⟩ := List.mem_map.mp m
    exact ⟨hT p hp, nT p hp⟩
  have aT : a ∉ cs.map (·.2) := fun m => by
    have z := (inT a m).1
    rw [ha] at z
    exact nomatch congrArg Obj.cls (Option.some.inj z)
  have hm : ∀ p ∈ cs, p.2 ∈ cs.map (·.2) := fun p hp => List.mem_map_of_mem hp
  by_cases hk : K.lookup a = none
  · refine ⟨fun b => if b ∈ cs.map (·.2) then some (.tbl #[]) else if b = a then some (.frz { cls := .type "list", data := .seq vs.toArray } (.lst (ns.map V.int))) else none,
      fun p hp => if_pos (hm p hp), .inl (.inr ⟨{ cls := .type "list", data := .seq vs.toArray }, ?_⟩), fun b u e => ?_, fun b u e => ?_, fun b u e => ?_⟩
    · show (if a ∈ cs.map (·.2) then _ else _) = _
      rw [if_neg aT, if_pos rfl]
    · by_cases m : b ∈ cs.map (·.2)
      · rw [if_pos m] at e
        cases e
        exact (inT b m).1
      · rw [if_neg m] at e
        by_cases eb : b = a
        · rw [if_pos eb] at e
          cases e
          subst eb
          exact ⟨ha, by rw [List.length_map]; exact hl, vs, _, rv, ha⟩
        · rw [if_neg eb] at e
          cases e
    · by_cases m : b ∈ cs.map (·.2)
      · exact (inT b m).2
      · rw [if_neg m] at e
        by_cases eb : b = a
        · rw [eb]; exact hk
        · rw [if_neg eb] at e
          cases e
    · by_cases m : b ∈ cs.map (·.2)
      · rw [if_pos m] at e
        cases e
        exact .inl ⟨rfl, m⟩
      · rw [if_neg m] at e
        by_cases eb : b = a
        · rw [if_pos eb] at e
          cases e
          exact .inr ⟨_, _, rfl, eb⟩
        · rw [if_neg eb] at e
          cases e
  · obtain ⟨o, ho⟩ := Option.ne_none_iff_exists'.mp hk
    have e0 := KX a o ho
    rw [ha] at e0
    cases e0
    refine ⟨fun b => if b ∈ cs.map (·.2) then some (.tbl #[]) else none, fun p hp => if_pos (hm p hp), .inr ⟨_, vs.toArray, _, ho, rfl, rfl, rfl, by rw [List.size_toArray, hi.length]; exact hl, by simpa using rv⟩, fun b u e => ?_, fun b u e => ?_, fun b u e => ?_⟩
    · by_cases m : b ∈ cs.map (·.2)
      · rw [if_pos m] at e
        cases e
        exact (inT b m).1
      · rw [if_neg m] at e
        cases e
    · by_cases m : b ∈ cs.map (·.2)
      · exact (inT b m).2
      · rw [if_neg m] at e
        cases e
    · by_cases m : b ∈ cs.map (·.2)
      · rw [if_pos m] at e
        cases e
        exact .inl ⟨rfl, m⟩
      · rw [if_neg m] at e
        cases e
end Own
set_option maxRecDepth 100000
set_option maxHeartbeats 4000000
namespace Own
open PySem PySem.Spec PyProof.Rows L2
open LamX (TabB)
section
variable {P : Program} {w : World} {K : PySem.W.Frag} {a : Addr} {cs : List (Addr × Addr)} {h : Heap} {vs : List Value} {ns : List Int} {H : Hp}
theorem Ent.none (T : Ent P w K a cs h ns H) (ha : h.get? a = some { cls := .type "list", data := .seq vs.toArray }) {b : Addr} {o : Obj} (e : h.get? b = some o) (h1 : ∀ vs n, o.data ≠ .seq vs n) (h2 : o.data ≠ .fields #[]) : H b = none := by
  cases q : H b with
  | none => rfl
  | some u =>
    rcases T.only b u q with ⟨rfl, _⟩ | ⟨_, _, _, rfl⟩
    · have z : h.get? b = some { cls := .none, data := .fields #[] } := T.ok b _ q
      rw [e] at z
      cases z
      exact absurd rfl h2
    · rw [ha] at e
      cases e
      exact absurd rfl (h1 _ _)
theorem Ent.dict (T : Ent P w K a cs h ns H) (ha : h.get? a = some { cls := .type "list", data := .seq vs.toArray }) {b : Addr} {o : Obj} {es : Array DictEntry} {n : Nat} (e : h.get? b = some o) (d : o.data = .dict es n) : H b = .none := T.none ha e (fun vs n z => nomatch d.symm.trans z) fun z => nomatch d.symm.trans z
theorem Ent.nsp (T : Ent P w K a cs h ns H) (ha : h.get? a = some { cls := .type "list", data := .seq vs.toArray }) {b : Addr} {m : Str → Option Value} (x : h.Ns b m) : (hidT h H).Ns b m := by
  obtain ⟨o, es, n, e, d, r⟩ := x
  exact ⟨o, es, n, hidT_get e (T.dict ha e d), d, r⟩
theorem Ent.kin (T : Ent P w K a cs h ns H) (KX : K.In h) : K.In (hidT h H) := fun b o e => hidT_get (KX b o e) (by
  cases q : H b with
  | none => rfl
  | some u => rw [T.out b u q] at e; cases e)
theorem Ent.tabB (T : Ent P w K a cs h ns H) (ha : h.get? a = some { cls := .type "list", data := .seq vs.toArray }) {mg : Str → Option Value} (hg : h.Ns mainGlobals mg) {c p : Addr} (hP : h.get? p = some { cls := .none, data := .fields #[] }) (C : PySem.W.CodeHd h c p)
    (hbm : ∃ (bm : Addr) (ob : Obj), mg "__builtins__" = some (.ref bm) ∧ bm ≠ builtinsNs ∧ h.get? bm = some ob ∧ ob.cls = .type "module" ∧ ob.dict = some builtinsNs ∧ ob.data = .plain) : TabB (hidT h H) mg c p := by
  obtain ⟨og, es, n, eg, dg, _⟩ := hg
  refine ⟨?_, ?_, fun z => ?_⟩
  · obtain ⟨o, us, file, tf, flags, tg, inF, text, tt, e, r1, r2, r3, r⟩ := C
    refine ⟨o, us, file, tf, flags, tg, inF, text, tt, hidT_get e (T.none ha e (fun _ _ z => nomatch r2.symm.trans z) fun z => ?_), r1, r2, r3, r⟩
    have z2 := r2.symm.trans z
    cases z2
    simp at r3
  · obtain ⟨bm, ob, b1, b2, b3, b4, b5, b6⟩ := hbm
    refine ⟨bm, ob, b1, b2, fun z => ?_, fun z => ?_, hidT_get b3 (T.none ha b3 (fun _ _ z => nomatch b6.symm.trans z) fun z => nomatch b6.symm.trans z), b4, b5, b6⟩
    · rw [z, eg] at b3
      cases b3
      exact nomatch dg.symm.trans b6
    · rw [z, hP] at b3
      cases b3
      exact nomatch b6
  · rw [z, hP] at eg
    cases eg
    exact nomatch dg
/-- from the law's promise, at the heap behind the top -/
theorem law_callG {mg mb : Str → Option Value} {k : Nat} {fa : Addr} {fd : FuncData} {x : Str} {sp : Sp} {s : Shared} (KX : K.In s.heap) (hg : s.heap.Ns mainGlobals mg) (hb : s.heap.Ns builtinsNs mb) (hbb : ∀ x : Str, x ≠ "__name__" → mb x = bootBuiltins x) (hlim : s.heap.NoLimit)
    (hgn : s.gens = #[]) (hT : ∀ p ∈ cs, s.heap.get? p.2 = some { cls := .none, data := .fields #[] }) (nT : ∀ p ∈ cs, K.lookup p.2 = none) (C : ∀ p ∈ cs, PySem.W.CodeHd s.heap p.1 p.2)
    (hbm : ∃ (bm : Addr) (ob : Obj), mg "__builtins__" = some (.ref bm) ∧ bm ≠ builtinsNs ∧ s.heap.get? bm = some ob ∧ ob.cls = .type "module" ∧ ob.dict = some builtinsNs ∧ ob.data = .plain)
    (ha : s.heap.get? a = some { cls := .type "list", data := .seq vs.toArray }) (hi : IntsAre vs ns) (hl : ns.length ≤ sizeLine) (hr : Room k callerA)
    (F : ∀ base : Heap, K.In base → base.Ns mainGlobals mg → (∀ p ∈ cs, TabB base mg p.1 p.2) → FnG P w K mg base CX0 k fa fd [x] sp) (hbind : ∀ (s : Shared) (u : Value), BindsTo s fd ⟨[u], []⟩ [(x, u)])
    (hsp : ∀ H : Hp, (∀ p ∈ cs, H p.2 = some (.tbl #[])) → SqL K H a (ns.map V.int) → sp [.ref a] H (fun v _ => v = .bl true) fun _ _ _ => False) :
    codeAny (model P w) callerA (.call (.ref fa) ⟨[.ref a], []⟩) (fun r s' => r = .ok (.ret (.bool true)) ∧ OldK s.heap s'.heap ∧ s'.os = s.os ∧ AllBare s'.gens) s := by
  obtain ⟨H, T⟩ := ent (P := P) (w := w) KX hT nT ha hi hl
  have KB := T.kin KX
  have GB := T.nsp ha hg
  have TB : ∀ p ∈ cs, TabB (hidT s.heap H) mg p.1 p.2 := fun p hp => T.tabB ha hg (hT p hp) (C p hp) hbm
  have M : L2.Mod K mg (hidT s.heap H) := ⟨KB, GB, ⟨mb, T.nsp ha hb, hbb⟩, by obtain ⟨mc, q1, q2⟩ := hlim; exact ⟨mc, T.nsp ha q1, q2⟩⟩
  have e0 : Env0 P w K mg (hidT s.heap H) callerA [] s H := { frames := rfl, mod := M, bs := fun b o e => of_hidT e, bsz := Nat.le_of_eq (hidT_size _ _), funs := trivial, frf := fun b m => absurd (show b ∈ ([] : List Addr) from m) List.not_mem_nil, hok := T.ok, bare := .of_eq hgn }
  refine codeAny_mono ((F _ KB GB TB).run callerA [] s H ⟨[.ref a], []⟩ [.ref a] [.ref a] _ _ rfl hr e0 (hbind s (.ref a)) (.cons rfl .nil) (hsp H T.tab T.scr)) fun r s' q => ?_
  match r, q with
  | .error e, q => exact False.elim q
  | .ok .next, q => exact False.elim q
  | .ok .brk, q => exact False.elim q
  | .ok .cont, q => exact False.elim q
  | .ok (.ret u), q =>
    obtain ⟨v, H', os, bare, un, ok', rv, qv⟩ := q
    obtain rfl : v = .bl true := qv
    obtain rfl : u = Value.bool true := rv
    have old : ∀ b o, s.heap.get? b = some o → (s'.heap.get? b = some o ∧ b ∉ cs.map (·.2)) ∨ (∃ p ∈ cs, p.2 = b ∧ o = { cls := .none, data := .fields #[] } ∧ ∃ more : Array Value, s'.heap.get? b = some { cls := .none, data := .fields more }) := fun b o e => by
      by_cases m : b ∈ cs.map (·.2)
      · obtain ⟨p, hp, rfl⟩ := List.mem_map.mp m
        obtain ⟨more, z⟩ := un.tbls p.2 #[] (T.tab p hp)
        rw [hT p hp] at e
        cases e
        exact .inr ⟨p, hp, rfl, rfl, _, ok' p.2 _ z⟩
      · refine .inl ⟨?_, m⟩
        cases q : H b with
        | none => exact un.keep b o e q (fun z => nomatch (show b ∈ ([] : List Addr) from z)) (fun z => nomatch (show b ∈ ([] : List Addr) from z))
        | some u =>
          rcases T.only b u q with ⟨_, m2⟩ | ⟨xs, ob, rfl, rfl⟩
          · exact absurd m2 m
          · have z1 := (T.ok _ _ q).1
            have z2 := (ok' _ _ (un.frzs _ ob _ q)).1
            rw [e] at z1
            cases z1
            exact z2
    refine ⟨rfl, ⟨fun b o e => ?_, fun b o e => ?_⟩, os, bare⟩
    · rcases old b o e with ⟨z, _⟩ | ⟨p, hp, rfl, rfl, more, z⟩
      · exact .inl z
      · exact .inr (.inl ⟨((C p hp).tab (hT p hp)).isCodeTable, rfl, #[], more, rfl, by rw [Array.empty_append]; exact z⟩)
    · rcases old b o e with ⟨z, _⟩ | ⟨p, hp, rfl, rfl, more, z⟩
      · exact ⟨_, z⟩
      · exact ⟨_, z⟩
end
/-- what is known of the law at the head's heap h; tabs: code objects and tables of the defs that make lambdas -/
structure LawG (l : PySem.W.OpenLaw) (w : World) (K : PySem.W.Frag) (k n : Nat) (x : Str) (mg : Str → Option Value) (fa : Addr) (h : Heap) (tabs : List (Addr × Addr)) : Prop where
  at_ : ∀ p ∈ tabs, PySem.W.CodeHd h p.1 p.2 ∧ h.get? p.2 = some (PySem.W.tabObj #[])
  out : ∀ p ∈ tabs, K.lookup p.2 = none
  pr : ∃ (fd : FuncData) (sp : Sp), (∀ (s : Shared) (u : Value), BindsTo s fd ⟨[u], []⟩ [(x, u)]) ∧
    (∀ (H : Hp) (a : Addr) (ns : List Int), ns.length ≤ n → (∀ p ∈ tabs, H p.2 = some (.tbl #[])) → SqL K H a (ns.map V.int) → sp [.ref a] H (fun v _ => v = .bl true) fun _ _ _ => False) ∧
    ∀ base : Heap, K.In base → base.Ns mainGlobals mg → (∀ p ∈ tabs, TabB base mg p.1 p.2) → FnG l.prog w K mg base CX0 k fa fd [x] sp
theorem walk_ofG {l : PySem.W.OpenLaw} {n k : Nat} {q : Program} {loose : List Str} {XP : (Str → Option Value) → Heap → Prop} {YP : World → Heap → Prop} {d : DefRec} {K : Params → PySem.W.Frag} {x : Str}
    (hn : l.most = some n) (hn2 : n ≤ sizeLine) (hdf : d.params.defaults = []) (hr : Room k callerA) (hY : ∀ (w : World) (h : Heap), YP w h → (K w.params).In h)
    (F : ∀ (w : World) (mg : Str → Option Value) (fa : Addr) (h : Heap), YP w h → (K w.params).In h → h.Ns mainGlobals mg → mg d.name = some (.ref fa) → ∃ tabs, LawG l w (K w.params) k n x mg fa h tabs) :
    PySem.W.WalkO q loose XP YP l.row.toRowW d [] (fun f vs => PySem.call f vs) := by
  refine Att.attach_call hn hdf fun w s₀ s₁ mg mb fa o pm cd doc a vs ns G Y ho hd hcd hmg hobj hints hlen hg => ?_
  have KX := hY w _ Y
  obtain ⟨tabs, L⟩ := F w mg fa _ Y KX G.T.g hmg
  obtain ⟨fd, sp, hb, hsp, hF⟩ := L.pr
  exact law_callG KX G.T.g G.T.b G.T.builtins G.T.nolimit hg (fun p hp => (L.at_ p hp).2) L.out (fun p hp => (L.at_ p hp).1) G.T.bmain hobj hints (Nat.le_trans hlen hn2) hr hF hb fun H h1 h2 => hsp H a ns hlen h1 h2
end Own
set_option maxRecDepth 100000
set_option maxHeartbeats 4000000
namespace Toy
open PySem L2
/-! ### the end -/
theorem _root_.L2.FunD.kbnD {K : PySem.W.Frag} {x qual : Str} {params : Arguments} {body : List Stmt} {scope : Scope} {dvs : List V} {f : Addr} {fd : FuncData} {ps ks : List Str} {n : Nat} {g : List Value → List Value → List Value} {gV : List V → List V → List V} (F : FunD K x qual params body scope dvs [] f fd) (hd : dvs ≠ [])
    (h : ∀ (T : Addr) (kV doc pm : Value) (an : Option Addr) (cdv ct : Value) (us its ws : List Value), us.length = n → its.length = dvs.length → ws.length = ks.length →
      ∃ k, bindArgs (PySem.W.fnOf x qual params body scope (.ref T) kV doc pm an cdv ct) ⟨us, ks.zip ws⟩ = seqItems? (.ref T) >>= k ∧ k (some its.toArray) = pure (ps.zip (g us ws)))
    (hg : ∀ {vs : List V} {us : List Value} {zs : List V} {ws : List Value}, Vals vs us → Vals zs ws → Vals (gV vs zs) (g us ws)) : KBn K fd ps n ks g gV := by
  obtain ⟨oc, od, dV, kV, doc, pm, an, cdv, ct, osl, rfl, lk, hcd, hD, hK⟩ := F.ex
  rcases hD with ⟨e, _⟩ | ⟨_, T, o, its, m, rfl, lT, oT, rT⟩
  · exact absurd e hd
  · refine ⟨fun s us ws X hu hw => ?_, hg⟩
    obtain ⟨k, e1, e2⟩ := h T kV doc pm an cdv ct us its ws hu rT.length.symm hw
    refine BindsTo.of_looks fun M => ?_
    rw [e1]
    exact looks_items X lT oT (.of_pure e2)
theorem vals_rev {zs : List V} {ws : List Value} (h : Vals zs ws) : Vals zs.reverse ws.reverse := by
  induction h with
  | nil => exact .nil
  | cons a _ ih =>
    rw [List.reverse_cons, List.reverse_cons]
    exact ih.append (.cons a .nil)
theorem FnOk.toG {P : Program} {w : World} {K : PySem.W.Frag} {mg : Str → Option Value} {base : Heap} {CX : CXT} {k : Nat} {f : Addr} {fd : FuncData} {ps : List Str} {sp : Sp} (F : FnOk P w K mg base CX k f fd ps sp) : Own.FnG P w K mg base CX k f fd ps sp := ⟨F.len, fun A outer s H args us vs Q E _ hr => F.run A outer s H args us vs Q E hr⟩
theorem all_mk {l : PySem.W.OpenLaw} {w : World} {K : PySem.W.Frag} {h : Heap} {mg : Str → Option Value} {fa CR f0 f1 f2 f3 p3 f4 dT4 f5 f6 f7 f8 dT8 f9 f10 f11 f12 f13 f14 f15 f16 f17 f18 f19 f20 f21 f22 f23 : Addr} (X : K.In h) (G : h.Ns mainGlobals mg) (hfa : mg "law" = some (.ref fa))
    {od0 an0 : Option Addr} {sl0 : Array (Option Value)} {oc0 kV0 dc0 pm0 cd0 ct0 : Value}
    {od1 an1 : Option Addr} {sl1 : Array (Option Value)} {oc1 kV1 dc1 pm1 cd1 ct1 : Value}
    {od2 an2 : Option Addr} {sl2 : Array (Option Value)} {oc2 kV2 dc2 pm2 cd2 ct2 : Value}
    {rest3 : List Value}
    {od3 an3 : Option Addr} {sl3 : Array (Option Value)} {oc3 kV3 dc3 pm3 cd3 ct3 : Value}
    {od4 an4 : Option Addr} {sl4 : Array (Option Value)} {oc4 kV4 dc4 pm4 cd4 ct4 : Value}
    {doc4 : Value} {dod4 : Option Addr} {dn4 : Nat} {dsl4 : Array (Option Value)} {dtk4 : Tok}
    {od5 an5 : Option Addr} {sl5 : Array (Option Value)} {oc5 kV5 dc5 pm5 cd5 ct5 : Value}
    {od6 an6 : Option Addr} {sl6 : Array (Option Value)} {oc6 kV6 dc6 pm6 cd6 ct6 : Value}
    {od7 an7 : Option Addr} {sl7 : Array (Option Value)} {oc7 kV7 dc7 pm7 cd7 ct7 : Value}
    {od8 an8 : Option Addr} {sl8 : Array (Option Value)} {oc8 kV8 dc8 pm8 cd8 ct8 : Value}
    {doc8 : Value} {dod8 : Option Addr} {dn8 : Nat} {dsl8 : Array (Option Value)} {dtk8 : Tok}
    {od9 an9 : Option Addr} {sl9 : Array (Option Value)} {oc9 kV9 dc9 pm9 cd9 ct9 : Value}
    {od10 an10 : Option Addr} {sl10 : Array (Option Value)} {oc10 kV10 dc10 pm10 cd10 ct10 : Value}
    {od11 an11 : Option Addr} {sl11 : Array (Option Value)} {oc11 kV11 dc11 pm11 cd11 ct11 : Value}
    {od12 an12 : Option Addr} {sl12 : Array (Option Value)} {oc12 kV12 dc12 pm12 cd12 ct12 : Value}
    {od13 an13 : Option Addr} {sl13 : Array (Option Value)} {oc13 kV13 dc13 pm13 cd13 ct13 : Value}
    {od14 an14 : Option Addr} {sl14 : Array (Option Value)} {oc14 kV14 dc14 pm14 cd14 ct14 : Value}
    {od15 an15 : Option Addr} {sl15 : Array (Option Value)} {oc15 kV15 dc15 pm15 cd15 ct15 : Value}
    {od16 an16 : Option Addr} {sl16 : Array (Option Value)} {oc16 kV16 dc16 pm16 cd16 ct16 : Value}
    {od17 an17 : Option Addr} {sl17 : Array (Option Value)} {oc17 kV17 dc17 pm17 cd17 ct17 : Value}
    {od18 an18 : Option Addr} {sl18 : Array (Option Value)} {oc18 kV18 dc18 pm18 cd18 ct18 : Value}
    {od19 an19 : Option Addr} {sl19 : Array (Option Value)} {oc19 kV19 dc19 pm19 cd19 ct19 : Value}
    {od20 an20 : Option Addr} {sl20 : Array (Option Value)} {oc20 kV20 dc20 pm20 cd20 ct20 : Value}
    {od21 an21 : Option Addr} {sl21 : Array (Option Value)} {oc21 kV21 dc21 pm21 cd21 ct21 : Value}
    {od22 an22 : Option Addr} {sl22 : Array (Option Value)} {oc22 kV22 dc22 pm22 cd22 ct22 : Value}
    {od23 an23 : Option Addr} {sl23 : Array (Option Value)} {oc23 kV23 dc23 pm23 cd23 ct23 : Value}
    (aCR : PySem.W.nsIn K mainGlobals "Ratio" = some (some (.ref CR)))
    (pgCR : PySem.W.plainGet K CR Str.empty = true)
    (hdCR : PySem.W.hasDictIn K CR = true)
    (poCR : PySem.W.plainOver K CR = true)
    (saCR : PySem.W.findIn K (.ref CR) "__setattr__" = some (some (.builtin "object.__setattr__")))
    (rdCR : PySem.W.readsIn K CR (.type "type") = true)
    (gaCR : PySem.W.specialIn K (.ref CR) "__getattribute__" = some (some (.builtin "type.__getattribute__")))
    (caCR : PySem.W.findIn K (.ref CR) "__class__" = some (some (.builtin "object.__class__")))
    (cmCR : PySem.W.mroIn K CR (.type "object") = some true)
    (sICR : PySem.W.subIn K (.ref CR) (.type "int") = some false)
    (nICR : PySem.W.notFirst K CR (.type "int") = true)
    (nCCR : PySem.W.notFirst K CR (.ref CR) = true)
    (kICR : PySem.W.kitOne K (.ref CR) (.type "int") = some false)
    (kBCR : PySem.W.kitOne K (.ref CR) (.type "bool") = some false)
    (iKCR : PySem.W.kitOne K (.type "int") (.ref CR) = some false)
    (kSCR : PySem.W.kitOne K (.ref CR) (.ref CR) = some true)
    (n_topCR : PySem.W.findIn K (.ref CR) "top" = some none)
    (n_bottomCR : PySem.W.findIn K (.ref CR) "bottom" = some none)
    (mkCR : PySem.W.makesIn K CR = true)
    (kcCR : PySem.W.keepIn K (.ref CR) = true)
    (cn : PySem.W.specialIn K (.builtin "object.__class__") "__get__" = some (some (.builtin "getset_descriptor.__get__")))
    (ct : PySem.W.takesIn K (.builtin "object.__class__") = some true)
    (z_int : PySem.W.nsIn K mainGlobals "int" = some none)
    (z_len : PySem.W.nsIn K mainGlobals "len" = some none)
    (z_abs : PySem.W.nsIn K mainGlobals "abs" = some none)
    (z_list : PySem.W.nsIn K mainGlobals "list" = some none)
    (z_range : PySem.W.nsIn K mainGlobals "range" = some none)
    (z_isinstance : PySem.W.nsIn K mainGlobals "isinstance" = some none)
    (z_bool : PySem.W.nsIn K mainGlobals "bool" = some none)
    (z_repr : PySem.W.nsIn K mainGlobals "repr" = some none)
    (z_min : PySem.W.nsIn K mainGlobals "min" = some none)
    (z_gcd : PySem.W.nsIn K mainGlobals "gcd" = some (some (.builtin "math.gcd")))
    (a0 : PySem.W.nsIn K mainGlobals "is_int" = some (some (.ref f0)))
    (l0 : K.lookup f0 = some ⟨oc0, od0, .func (PySem.W.fnOf "is_int" "is_int" (defArgs sIsInt) (defBody sIsInt) (defScope sIsInt) .none kV0 dc0 pm0 an0 cd0 ct0), sl0⟩)
    (c0 : PySem.W.codeIn K cd0 "is_int" = true)
    (k0 : PySem.W.keepIn K (.ref f0) = true)
    (a1 : PySem.W.nsIn K mainGlobals "is_short" = some (some (.ref f1)))
    (l1 : K.lookup f1 = some ⟨oc1, od1, .func (PySem.W.fnOf "is_short" "is_short" (defArgs sShort) (defBody sShort) (defScope sShort) .none kV1 dc1 pm1 an1 cd1 ct1), sl1⟩)
    (c1 : PySem.W.codeIn K cd1 "is_short" = true)
    (k1 : PySem.W.keepIn K (.ref f1) = true)
    (a2 : PySem.W.nsIn K mainGlobals "is_from_to" = some (some (.ref f2)))
    (l2 : K.lookup f2 = some ⟨oc2, od2, .func (PySem.W.fnOf "is_from_to" "is_from_to" (defArgs sFromTo) (defBody sFromTo) (defScope sFromTo) .none kV2 dc2 pm2 an2 cd2 ct2), sl2⟩)
    (c2 : PySem.W.codeIn K cd2 "is_from_to" = true)
    (k2 : PySem.W.keepIn K (.ref f2) = true)
    (a3 : PySem.W.findCls K (.ref CR) (.type "type") "is_fifth" = some (.get (.builtin "staticmethod.__get__") (.ref p3) .none (.ref CR)))
    (r3 : PySem.W.recIn K p3 "staticmethod" = some (.ref f3 :: rest3))
    (l3 : K.lookup f3 = some ⟨oc3, od3, .func (PySem.W.fnOf "is_fifth" "Ratio.is_fifth" (defArgs sIsFifth) (defBody sIsFifth) (defScope sIsFifth) .none kV3 dc3 pm3 an3 cd3 ct3), sl3⟩)
    (c3 : PySem.W.codeIn K cd3 "Ratio.is_fifth" = true)
    (k3 : PySem.W.keepIn K (.ref f3) = true)
    (a4 : PySem.W.findIn K (.ref CR) "__init__" = some (some (.ref f4)))
    (i4 : PySem.W.isFn K (.ref f4) = true)
    (l4 : K.lookup f4 = some ⟨oc4, od4, .func (PySem.W.fnOf "__init__" "Ratio.__init__" (defArgs sRInit) (defBody sRInit) (defScope sRInit) (.ref dT4) kV4 dc4 pm4 an4 cd4 ct4), sl4⟩)
    (c4 : PySem.W.codeIn K cd4 "Ratio.__init__" = true)
    (k4 : PySem.W.keepIn K (.ref f4) = true)
    (d4 : K.lookup dT4 = some ⟨doc4, dod4, .seq #[.int 1 dtk4] dn4, dsl4⟩)
    (a5 : PySem.W.nsIn K mainGlobals "is_short_fifth" = some (some (.ref f5)))
    (l5 : K.lookup f5 = some ⟨oc5, od5, .func (PySem.W.fnOf "is_short_fifth" "is_short_fifth" (defArgs sShortF) (defBody sShortF) (defScope sShortF) .none kV5 dc5 pm5 an5 cd5 ct5), sl5⟩)
    (c5 : PySem.W.codeIn K cd5 "is_short_fifth" = true)
    (k5 : PySem.W.keepIn K (.ref f5) = true)
    (a6 : PySem.W.nsIn K mainGlobals "_check_numbers" = some (some (.ref f6)))
    (l6 : K.lookup f6 = some ⟨oc6, od6, .func (PySem.W.fnOf "_check_numbers" "_check_numbers" (defArgs sCheck) (defBody sCheck) (defScope sCheck) .none kV6 dc6 pm6 an6 cd6 ct6), sl6⟩)
    (c6 : PySem.W.codeIn K cd6 "_check_numbers" = true)
    (k6 : PySem.W.keepIn K (.ref f6) = true)
    (a7 : PySem.W.nsIn K mainGlobals "_steps_to" = some (some (.ref f7)))
    (l7 : K.lookup f7 = some ⟨oc7, od7, .func (PySem.W.fnOf "_steps_to" "_steps_to" (defArgs sSteps) (defBody sSteps) (defScope sSteps) .none kV7 dc7 pm7 an7 cd7 ct7), sl7⟩)
    (c7 : PySem.W.codeIn K cd7 "_steps_to" = true)
    (k7 : PySem.W.keepIn K (.ref f7) = true)
    (a8 : PySem.W.nsIn K mainGlobals "first_in" = some (some (.ref f8)))
    (l8 : K.lookup f8 = some ⟨oc8, od8, .func (PySem.W.fnOf "first_in" "first_in" (defArgs sFirst) (defBody sFirst) (defScope sFirst) (.ref dT8) kV8 dc8 pm8 an8 cd8 ct8), sl8⟩)
    (c8 : PySem.W.codeIn K cd8 "first_in" = true)
    (k8 : PySem.W.keepIn K (.ref f8) = true)
    (d8 : K.lookup dT8 = some ⟨doc8, dod8, .seq #[.int 0 dtk8] dn8, dsl8⟩)
    (a9 : PySem.W.nsIn K mainGlobals "_law_pen" = some (some (.ref f9)))
    (l9 : K.lookup f9 = some ⟨oc9, od9, .func (PySem.W.fnOf "_law_pen" "_law_pen" (defArgs sPen) (defBody sPen) (defScope sPen) .none kV9 dc9 pm9 an9 cd9 ct9), sl9⟩)
    (c9 : PySem.W.codeIn K cd9 "_law_pen" = true)
    (k9 : PySem.W.keepIn K (.ref f9) = true)
    (a10 : PySem.W.nsIn K mainGlobals "_law_draw" = some (some (.ref f10)))
    (l10 : K.lookup f10 = some ⟨oc10, od10, .func (PySem.W.fnOf "_law_draw" "_law_draw" (defArgs sDraw) (defBody sDraw) (defScope sDraw) .none kV10 dc10 pm10 an10 cd10 ct10), sl10⟩)
    (c10 : PySem.W.codeIn K cd10 "_law_draw" = true)
    (k10 : PySem.W.keepIn K (.ref f10) = true)
    (a11 : PySem.W.nsIn K mainGlobals "_law_pick" = some (some (.ref f11)))
    (l11 : K.lookup f11 = some ⟨oc11, od11, .func (PySem.W.fnOf "_law_pick" "_law_pick" (defArgs sPick) (defBody sPick) (defScope sPick) .none kV11 dc11 pm11 an11 cd11 ct11), sl11⟩)
    (c11 : PySem.W.codeIn K cd11 "_law_pick" = true)
    (k11 : PySem.W.keepIn K (.ref f11) = true)
    (a12 : PySem.W.nsIn K mainGlobals "_law_great" = some (some (.ref f12)))
    (l12 : K.lookup f12 = some ⟨oc12, od12, .func (PySem.W.fnOf "_law_great" "_law_great" (defArgs sGreat) (defBody sGreat) (defScope sGreat) .none kV12 dc12 pm12 an12 cd12 ct12), sl12⟩)
    (c12 : PySem.W.codeIn K cd12 "_law_great" = true)
    (k12 : PySem.W.keepIn K (.ref f12) = true)
    (a13 : PySem.W.nsIn K mainGlobals "_law_common" = some (some (.ref f13)))
    (l13 : K.lookup f13 = some ⟨oc13, od13, .func (PySem.W.fnOf "_law_common" "_law_common" (defArgs sCommon) (defBody sCommon) (defScope sCommon) .none kV13 dc13 pm13 an13 cd13 ct13), sl13⟩)
    (c13 : PySem.W.codeIn K cd13 "_law_common" = true)
    (k13 : PySem.W.keepIn K (.ref f13) = true)
    (a14 : PySem.W.nsIn K mainGlobals "_law_rate" = some (some (.ref f14)))
    (l14 : K.lookup f14 = some ⟨oc14, od14, .func (PySem.W.fnOf "_law_rate" "_law_rate" (defArgs sRate) (defBody sRate) (defScope sRate) .none kV14 dc14 pm14 an14 cd14 ct14), sl14⟩)
    (c14 : PySem.W.codeIn K cd14 "_law_rate" = true)
    (k14 : PySem.W.keepIn K (.ref f14) = true)
    (a15 : PySem.W.nsIn K mainGlobals "_law_begun" = some (some (.ref f15)))
    (l15 : K.lookup f15 = some ⟨oc15, od15, .func (PySem.W.fnOf "_law_begun" "_law_begun" (defArgs sBegun) (defBody sBegun) (defScope sBegun) .none kV15 dc15 pm15 an15 cd15 ct15), sl15⟩)
    (c15 : PySem.W.codeIn K cd15 "_law_begun" = true)
    (k15 : PySem.W.keepIn K (.ref f15) = true)
    (a16 : PySem.W.nsIn K mainGlobals "_law_inverse" = some (some (.ref f16)))
    (l16 : K.lookup f16 = some ⟨oc16, od16, .func (PySem.W.fnOf "_law_inverse" "_law_inverse" (defArgs sInv) (defBody sInv) (defScope sInv) .none kV16 dc16 pm16 an16 cd16 ct16), sl16⟩)
    (c16 : PySem.W.codeIn K cd16 "_law_inverse" = true)
    (k16 : PySem.W.keepIn K (.ref f16) = true)
    (a17 : PySem.W.nsIn K mainGlobals "_law_floors" = some (some (.ref f17)))
    (l17 : K.lookup f17 = some ⟨oc17, od17, .func (PySem.W.fnOf "_law_floors" "_law_floors" (defArgs sFloors) (defBody sFloors) (defScope sFloors) .none kV17 dc17 pm17 an17 cd17 ct17), sl17⟩)
    (c17 : PySem.W.codeIn K cd17 "_law_floors" = true)
    (k17 : PySem.W.keepIn K (.ref f17) = true)
    (a18 : PySem.W.nsIn K mainGlobals "_law_met" = some (some (.ref f18)))
    (l18 : K.lookup f18 = some ⟨oc18, od18, .func (PySem.W.fnOf "_law_met" "_law_met" (defArgs sMet) (defBody sMet) (defScope sMet) .none kV18 dc18 pm18 an18 cd18 ct18), sl18⟩)
    (c18 : PySem.W.codeIn K cd18 "_law_met" = true)
    (k18 : PySem.W.keepIn K (.ref f18) = true)
    (a19 : PySem.W.nsIn K mainGlobals "_law_far_rate" = some (some (.ref f19)))
    (l19 : K.lookup f19 = some ⟨oc19, od19, .func (PySem.W.fnOf "_law_far_rate" "_law_far_rate" (defArgs sFarRate) (defBody sFarRate) (defScope sFarRate) .none kV19 dc19 pm19 an19 cd19 ct19), sl19⟩)
    (c19 : PySem.W.codeIn K cd19 "_law_far_rate" = true)
    (k19 : PySem.W.keepIn K (.ref f19) = true)
    (a20 : PySem.W.nsIn K mainGlobals "_law_row" = some (some (.ref f20)))
    (l20 : K.lookup f20 = some ⟨oc20, od20, .func (PySem.W.fnOf "_law_row" "_law_row" (defArgs sRow) (defBody sRow) (defScope sRow) .none kV20 dc20 pm20 an20 cd20 ct20), sl20⟩)
    (c20 : PySem.W.codeIn K cd20 "_law_row" = true)
    (k20 : PySem.W.keepIn K (.ref f20) = true)
    (a21 : PySem.W.nsIn K mainGlobals "_law_small_right" = some (some (.ref f21)))
    (l21 : K.lookup f21 = some ⟨oc21, od21, .func (PySem.W.fnOf "_law_small_right" "_law_small_right" (defArgs sSmall) (defBody sSmall) (defScope sSmall) .none kV21 dc21 pm21 an21 cd21 ct21), sl21⟩)
    (c21 : PySem.W.codeIn K cd21 "_law_small_right" = true)
    (k21 : PySem.W.keepIn K (.ref f21) = true)
    (a22 : PySem.W.nsIn K mainGlobals "_law_far_right" = some (some (.ref f22)))
    (l22 : K.lookup f22 = some ⟨oc22, od22, .func (PySem.W.fnOf "_law_far_right" "_law_far_right" (defArgs sFar) (defBody sFar) (defScope sFar) .none kV22 dc22 pm22 an22 cd22 ct22), sl22⟩)
    (c22 : PySem.W.codeIn K cd22 "_law_far_right" = true)
    (k22 : PySem.W.keepIn K (.ref f22) = true)
    (a23 : PySem.W.nsIn K mainGlobals "law" = some (some (.ref f23)))
    (l23 : K.lookup f23 = some ⟨oc23, od23, .func (PySem.W.fnOf "law" "law" (defArgs sLaw) (defBody sLaw) (defScope sLaw) .none kV23 dc23 pm23 an23 cd23 ct23), sl23⟩)
    (c23 : PySem.W.codeIn K cd23 "law" = true)
    (k23 : PySem.W.keepIn K (.ref f23) = true) :
    ∃ tabs, Own.LawG l w K 6 63 "_law_script" mg fa h tabs := by
  have e := hfa.symm.trans (PySem.W.mg_of X G a23)
  cases e
  have T : Bl mg := ⟨PySem.W.mg_none_of X G z_int, PySem.W.mg_none_of X G z_len, PySem.W.mg_none_of X G z_abs, PySem.W.mg_none_of X G z_list, PySem.W.mg_none_of X G z_range, PySem.W.mg_none_of X G z_isinstance, PySem.W.mg_none_of X G z_bool, PySem.W.mg_of X G z_gcd⟩
  have T_Ratio : RatT K mg CR := ⟨⟨⟨pgCR, hdCR, poCR, saCR⟩, PySem.W.mg_of X G aCR, ⟨rdCR, gaCR⟩, caCR, cn, ct, cmCR, kICR, kBCR, kSCR, iKCR, sICR, nICR, nCCR⟩, n_topCR, n_bottomCR⟩
  have F0 := fun_mk (st := sIsInt) l0 c0 k0
  have b0 := F0.binds (ps := ["value"]) fun _ _ _ _ _ _ us hl => match us, hl with | [_], _ => rfl
  have F1 := fun_mk (st := sShort) l1 c1 k1
  have b1 := F1.binds (ps := ["value"]) fun _ _ _ _ _ _ us hl => match us, hl with | [_], _ => rfl
  have F2 := fun_mk (st := sFromTo) l2 c2 k2
  have b2 := F2.binds (ps := ["value", "low", "high"]) fun _ _ _ _ _ _ us hl => match us, hl with | [_, _, _], _ => rfl
  have F3 := fun_mk (st := sIsFifth) l3 c3 k3
  have b3 := F3.binds (ps := ["value"]) fun _ _ _ _ _ _ us hl => match us, hl with | [_], _ => rfl
  have F4 : FunD K "__init__" "Ratio.__init__" (defArgs sRInit) (defBody sRInit) (defScope sRInit) [.int 1] [] f4 _ := ⟨⟨_, _, _, _, _, _, _, _, _, _, rfl, l4, c4, .inr ⟨(fun z => nomatch z), _, _, [_], _, rfl, d4, rfl, .cons ⟨_, rfl⟩ .nil⟩, .inl rfl⟩, k4⟩
  obtain ⟨ds4, hds4, b4⟩ := F4.binds1 (ps := ["self", "top", "bottom"]) 3 1 (fun z => nomatch z) rfl fun _ _ _ _ _ _ _ us its hu hi => match us, hu, its, hi with | [_, _, _], _, [_], _ => ⟨_, rfl, rfl⟩
  cases hds4
  obtain ⟨dv4, hdv4, bd4⟩ := F4.binds1 (ps := ["self", "top", "bottom"]) 2 0 (fun z => nomatch z) rfl fun _ _ _ _ _ _ _ us its hu hi => match us, hu, its, hi with | [_, _], _, [_], _ => ⟨_, rfl, rfl⟩
  have F5 := fun_mk (st := sShortF) l5 c5 k5
  have b5 := F5.binds (ps := ["value"]) fun _ _ _ _ _ _ us hl => match us, hl with | [_], _ => rfl
  have F6 := fun_mk (st := sCheck) l6 c6 k6
  have b6 := F6.binds (ps := ["numbers"]) fun _ _ _ _ _ _ us hl => match us, hl with | [_], _ => rfl
  have F7 := fun_mk (st := sSteps) l7 c7 k7
  have b7 := F7.binds (ps := ["low", "high", "step", "bottom"]) fun _ _ _ _ _ _ us hl => match us, hl with | [_, _, _, _], _ => rfl
  have F8 : FunD K "first_in" "first_in" (defArgs sFirst) (defBody sFirst) (defScope sFirst) [.int 0] [] f8 _ := ⟨⟨_, _, _, _, _, _, _, _, _, _, rfl, l8, c8, .inr ⟨(fun z => nomatch z), _, _, [_], _, rfl, d8, rfl, .cons ⟨_, rfl⟩ .nil⟩, .inl rfl⟩, k8⟩
  obtain ⟨ds8, hds8, b8⟩ := F8.binds1 (ps := ["fifth", "low", "high", "start"]) 4 1 (fun z => nomatch z) rfl fun _ _ _ _ _ _ _ us its hu hi => match us, hu, its, hi with | [_, _, _, _], _, [_], _ => ⟨_, rfl, rfl⟩
  cases hds8
  obtain ⟨dv8, hdv8, bd8⟩ := F8.binds1 (ps := ["fifth", "low", "high", "start"]) 3 0 (fun z => nomatch z) rfl fun _ _ _ _ _ _ _ us its hu hi => match us, hu, its, hi with | [_, _, _], _, [_], _ => ⟨_, rfl, rfl⟩
  have F9 := fun_mk (st := sPen) l9 c9 k9
  have b9 := F9.binds (ps := ["_law_script"]) fun _ _ _ _ _ _ us hl => match us, hl with | [_], _ => rfl
  have F10 := fun_mk (st := sDraw) l10 c10 k10
  have b10 := F10.binds (ps := ["_law_pen_here", "_law_many"]) fun _ _ _ _ _ _ us hl => match us, hl with | [_, _], _ => rfl
  have F11 := fun_mk (st := sPick) l11 c11 k11
  have b11 := F11.binds (ps := ["_law_pen_here", "_law_some"]) fun _ _ _ _ _ _ us hl => match us, hl with | [_, _], _ => rfl
  have F12 := fun_mk (st := sGreat) l12 c12 k12
  have b12 := F12.binds (ps := ["_law_pen_here", "_law_most"]) fun _ _ _ _ _ _ us hl => match us, hl with | [_, _], _ => rfl
  have F13 := fun_mk (st := sCommon) l13 c13 k13
  have b13 := F13.binds (ps := ["_law_one", "_law_two"]) fun _ _ _ _ _ _ us hl => match us, hl with | [_, _], _ => rfl
  have F14 := fun_mk (st := sRate) l14 c14 k14
  have b14 := F14.binds (ps := ["_law_pen_here", "_law_most"]) fun _ _ _ _ _ _ us hl => match us, hl with | [_, _], _ => rfl
  have F15 := fun_mk (st := sBegun) l15 c15 k15
  have b15 := F15.binds (ps := ["_law_pen_here"]) fun _ _ _ _ _ _ us hl => match us, hl with | [_], _ => rfl
  have F16 := fun_mk (st := sInv) l16 c16 k16
  have b16 := F16.binds (ps := ["_law_top", "_law_bottom"]) fun _ _ _ _ _ _ us hl => match us, hl with | [_, _], _ => rfl
  have F17 := fun_mk (st := sFloors) l17 c17 k17
  have b17 := F17.binds (ps := ["_law_many", "_law_bottom", "_law_top", "_law_extra"]) fun _ _ _ _ _ _ us hl => match us, hl with | [_, _, _, _], _ => rfl
  have F18 := fun_mk (st := sMet) l18 c18 k18
  have b18 := F18.binds (ps := ["_law_rows", "_law_top", "_law_bottom", "_law_begun_here", "_law_many"]) fun _ _ _ _ _ _ us hl => match us, hl with | [_, _, _, _, _], _ => rfl
  have F19 := fun_mk (st := sFarRate) l19 c19 k19
  have b19 := F19.binds (ps := ["_law_pen_here"]) fun _ _ _ _ _ _ us hl => match us, hl with | [_], _ => rfl
  have F20 := fun_mk (st := sRow) l20 c20 k20
  have b20 := F20.binds (ps := ["_law_pen_here", "_law_bottom"]) fun _ _ _ _ _ _ us hl => match us, hl with | [_, _], _ => rfl
  have F21 := fun_mk (st := sSmall) l21 c21 k21
  have b21 := F21.binds (ps := ["_law_pen_here"]) fun _ _ _ _ _ _ us hl => match us, hl with | [_], _ => rfl
  have F22 := fun_mk (st := sFar) l22 c22 k22
  have b22 := F22.binds (ps := ["_law_pen_here"]) fun _ _ _ _ _ _ us hl => match us, hl with | [_], _ => rfl
  have F23 := fun_mk (st := sLaw) l23 c23 k23
  have b23 := F23.binds (ps := ["_law_script"]) fun _ _ _ _ _ _ us hl => match us, hl with | [_], _ => rfl
  refine ⟨[], fun z hz => ?_, fun z hz => ?_, PySem.W.fnOf "law" "law" (defArgs sLaw) (defBody sLaw) (defScope sLaw) .none kV23 dc23 pm23 an23 cd23 ct23, (spLaw K), fun s v => .of_eq rfl, fun H a ns hl hT hS => ⟨a, ns, rfl, hS, hl, fun _ => rfl⟩, fun base _ _ TBs => ?_⟩
  · exact absurd hz (List.not_mem_nil)
  · exact absurd hz (List.not_mem_nil)
  have C_is_int : Cal l.prog w K mg base 1 "is_int" f0 _ ["value"] (spIsInt K) := ⟨(ok_isint F0 T), PySem.W.mg_of X G a0, k0, b0⟩
  have C_is_short : Cal l.prog w K mg base 2 "is_short" f1 _ ["value"] spShort := ⟨(ok_short F1 T C_is_int), PySem.W.mg_of X G a1, k1, b1⟩
  have C_is_from_to : Cal l.prog w K mg base 2 "is_from_to" f2 _ ["value", "low", "high"] spFromTo := ⟨(ok_fromto F2 C_is_int), PySem.W.mg_of X G a2, k2, b2⟩
  have S_Ratio_is_fifth : Sta l.prog w K mg base 1 CR "is_fifth" p3 f3 _ ["value"] (spIsFifth CR) := ⟨⟨a3, ⟨_, r3⟩, k3⟩, (ok_isfifth F3 T T_Ratio), b3⟩
  have M_Ratio : Mak l.prog w K mg base 2 "Ratio" CR f4 _ ["self", "top", "bottom"] (spRInit CR) := ⟨⟨mkCR, a4, i4, kcCR⟩, (ok_rinit F4 T T_Ratio C_is_int), PySem.W.mg_of X G aCR, b4⟩
  have C_is_short_fifth : Cal l.prog w K mg base 3 "is_short_fifth" f5 _ ["value"] (spShortF CR) := ⟨(ok_shortf F5 T_Ratio S_Ratio_is_fifth C_is_short), PySem.W.mg_of X G a5, k5, b5⟩
  have C__check_numbers : Cal l.prog w K mg base 3 "_check_numbers" f6 _ ["numbers"] (spCheck K) := ⟨(ok_check F6 C_is_short), PySem.W.mg_of X G a6, k6, b6⟩
  have C__steps_to : Cal l.prog w K mg base 1 "_steps_to" f7 _ ["low", "high", "step", "bottom"] spSteps := ⟨(ok_steps F7 T), PySem.W.mg_of X G a7, k7, b7⟩
  have C_first_in : Cal l.prog w K mg base 4 "first_in" f8 _ ["fifth", "low", "high", "start"] (spFirst CR) := ⟨(ok_first F8 T_Ratio C_is_short_fifth C_is_from_to C__check_numbers C__steps_to), PySem.W.mg_of X G a8, k8, b8⟩
  have C__law_pen : Cal l.prog w K mg base 1 "_law_pen" f9 _ ["_law_script"] (spPen K) := ⟨(ok_pen F9 T), PySem.W.mg_of X G a9, k9, b9⟩
  have C__law_draw : Cal l.prog w K mg base 1 "_law_draw" f10 _ ["_law_pen_here", "_law_many"] spDraw := ⟨(ok_draw F10 T), PySem.W.mg_of X G a10, k10, b10⟩
  have C__law_pick : Cal l.prog w K mg base 2 "_law_pick" f11 _ ["_law_pen_here", "_law_some"] spPick := ⟨(ok_pick F11 T C__law_draw), PySem.W.mg_of X G a11, k11, b11⟩
  have C__law_great : Cal l.prog w K mg base 2 "_law_great" f12 _ ["_law_pen_here", "_law_most"] spGreat := ⟨(ok_great F12 T C__law_draw), PySem.W.mg_of X G a12, k12, b12⟩
  have C__law_common : Cal l.prog w K mg base 1 "_law_common" f13 _ ["_law_one", "_law_two"] spCommon := ⟨(ok_common F13 T), PySem.W.mg_of X G a13, k13, b13⟩
  have C__law_rate : Cal l.prog w K mg base 2 "_law_rate" f14 _ ["_law_pen_here", "_law_most"] spRate := ⟨(ok_rate F14 C__law_draw C__law_common), PySem.W.mg_of X G a14, k14, b14⟩
  have C__law_begun : Cal l.prog w K mg base 3 "_law_begun" f15 _ ["_law_pen_here"] spBegun := ⟨(ok_begun F15 C__law_draw C__law_pick C__law_great), PySem.W.mg_of X G a15, k15, b15⟩
  have C__law_inverse : Cal l.prog w K mg base 1 "_law_inverse" f16 _ ["_law_top", "_law_bottom"] spInverse := ⟨(ok_inverse F16 T), PySem.W.mg_of X G a16, k16, b16⟩
  have C__law_floors : Cal l.prog w K mg base 1 "_law_floors" f17 _ ["_law_many", "_law_bottom", "_law_top", "_law_extra"] spFloors := ⟨(ok_floors F17 T), PySem.W.mg_of X G a17, k17, b17⟩
  have C__law_met : Cal l.prog w K mg base 2 "_law_met" f18 _ ["_law_rows", "_law_top", "_law_bottom", "_law_begun_here", "_law_many"] (spMet K) := ⟨(ok_met F18 C__law_floors), PySem.W.mg_of X G a18, k18, b18⟩
  have C__law_far_rate : Cal l.prog w K mg base 3 "_law_far_rate" f19 _ ["_law_pen_here"] spFarRate := ⟨(ok_farrate F19 T C__law_draw C__law_common C__law_pick C__law_great), PySem.W.mg_of X G a19, k19, b19⟩
  have C__law_row : Cal l.prog w K mg base 3 "_law_row" f20 _ ["_law_pen_here", "_law_bottom"] spRow := ⟨(ok_row F20 T (PySem.W.mg_none_of X G z_min) C__law_pick C__law_great), PySem.W.mg_of X G a20, k20, b20⟩
  have C__law_small_right : Cal l.prog w K mg base 5 "_law_small_right" f21 _ ["_law_pen_here"] spRgt := ⟨(ok_small F21 T (PySem.W.mg_none_of X G z_repr) T_Ratio C__law_rate C__law_row C__law_begun C_first_in M_Ratio), PySem.W.mg_of X G a21, k21, b21⟩
  have KBf : KBn K _ ["fifth", "low", "high", "start"] 0 ["start", "high", "low", "fifth"] (fun _ ws => ws.reverse) (fun _ zs => zs.reverse) := F8.kbnD (fun z => nomatch z) (fun _ _ _ _ _ _ _ us its ws hu hi hw => match us, hu, its, hi, ws, hw with | [], _, [_], _, [_, _, _, _], _ => ⟨_, rfl, rfl⟩) fun _ r2 => vals_rev r2
  have C__law_far_right : Cal l.prog w K mg base 5 "_law_far_right" f22 _ ["_law_pen_here"] spRgt := ⟨(ok_far F22 T T_Ratio C__law_far_rate C__law_row C__law_begun C_first_in KBf M_Ratio C__law_met C__law_inverse), PySem.W.mg_of X G a22, k22, b22⟩
  exact FnOk.toG (ok_law F23 T C__law_pen C__law_small_right C__law_far_right C_first_in hdv8 bd8 M_Ratio)
theorem walk {l : PySem.W.OpenLaw} {q : Program} {loose : List Str} {XP : (Str → Option Value) → Heap → Prop} {YP : World → Heap → Prop} {d : DefRec} {K : Params → PySem.W.Frag} (hn : l.most = some 63) (hdf : d.params.defaults = [])
    (hY : ∀ (w : World) (h : Heap), YP w h → (K w.params).In h)
    (F : ∀ (w : World) (mg : Str → Option Value) (fa : Addr) (h : Heap), YP w h → (K w.params).In h → h.Ns mainGlobals mg → mg d.name = some (.ref fa) → ∃ tabs, Own.LawG l w (K w.params) 6 63 "_law_script" mg fa h tabs) :
    PySem.W.WalkO q loose XP YP l.row.toRowW d [] (fun f vs => PySem.call f vs) :=
  Own.walk_ofG hn (by decide) hdf ⟨rfl, by decide, by decide⟩ hY F
end Toy
open PySem PySem.W PyProof.Rows
set_option maxRecDepth 100000 in
set_option maxHeartbeats 0 in
theorem PySem.Challenge.cw_anyfifth_k63_keys_hit_first_holds : PySem.Challenge.rw_anyfifth_k63_keys_hit_first.Holds := by
  w_on; o_law; k_head; (case hw => w_witness2)
  k_fill
  refine Toy.walk (l := PySem.Challenge.rw_anyfifth_k63_keys_hit_first) rfl rfl (fun w h Y => PySem.W.kIn_of Y) ?F
  case F =>
    intro w mg fa h Y KX G hmg
    refine' Toy.all_mk KX G hmg ?h_aCR ?h_pgCR ?h_hdCR ?h_poCR ?h_saCR ?h_rdCR ?h_gaCR ?h_caCR ?h_cmCR ?h_sICR ?h_nICR ?h_nCCR ?h_kICR ?h_kBCR ?h_iKCR ?h_kSCR ?h_n_topCR ?h_n_bottomCR ?h_mkCR ?h_kcCR ?h_cn ?h_ct ?h_z_int ?h_z_len ?h_z_abs ?h_z_list ?h_z_range ?h_z_isinstance ?h_z_bool ?h_z_repr ?h_z_min ?h_z_gcd ?h_a0 ?h_l0 ?h_c0 ?h_k0 ?h_a1 ?h_l1 ?h_c1 ?h_k1 ?h_a2 ?h_l2 ?h_c2 ?h_k2 ?h_a3 ?h_r3 ?h_l3 ?h_c3 ?h_k3 ?h_a4 ?h_i4 ?h_l4 ?h_c4 ?h_k4 ?h_d4 ?h_a5 ?h_l5 ?h_c5 ?h_k5 ?h_a6 ?h_l6 ?h_c6 ?h_k6 ?h_a7 ?h_l7 ?h_c7 ?h_k7 ?h_a8 ?h_l8 ?h_c8 ?h_k8 ?h_d8 ?h_a9 ?h_l9 ?h_c9 ?h_k9 ?h_a10 ?h_l10 ?h_c10 ?h_k10 ?h_a11 ?h_l11 ?h_c11 ?h_k11 ?h_a12 ?h_l12 ?h_c12 ?h_k12 ?h_a13 ?h_l13 ?h_c13 ?h_k13 ?h_a14 ?h_l14 ?h_c14 ?h_k14 ?h_a15 ?h_l15 ?h_c15 ?h_k15 ?h_a16 ?h_l16 ?h_c16 ?h_k16 ?h_a17 ?h_l17 ?h_c17 ?h_k17 ?h_a18 ?h_l18 ?h_c18 ?h_k18 ?h_a19 ?h_l19 ?h_c19 ?h_k19 ?h_a20 ?h_l20 ?h_c20 ?h_k20 ?h_a21 ?h_l21 ?h_c21 ?h_k21 ?h_a22 ?h_l22 ?h_c22 ?h_k22 ?h_a23 ?h_l23 ?h_c23 ?h_k23
    (case h_aCR => k_is)
    (case h_pgCR => k_is)
    (case h_hdCR => k_is)
    (case h_poCR => k_is)
    (case h_saCR => k_is)
    (case h_rdCR => k_is)
    (case h_gaCR => k_is)
    (case h_caCR => k_is)
    (case h_cmCR => k_is)
    (case h_sICR => k_is)
    (case h_nICR => k_is)
    (case h_nCCR => k_is)
    (case h_kICR => kit_is)
    (case h_kBCR => kit_is)
    (case h_iKCR => kit_is)
    (case h_kSCR => kit_is)
    (case h_n_topCR => k_is)
    (case h_n_bottomCR => k_is)
    (case h_mkCR => k_is)
    (case h_kcCR => k_is)
    (case h_cn => k_is)
    (case h_ct => k_is)
    (case h_z_int => k_is)
    (case h_z_len => k_is)
    (case h_z_abs => k_is)
    (case h_z_list => k_is)
    (case h_z_range => k_is)
    (case h_z_isinstance => k_is)
    (case h_z_bool => k_is)
    (case h_z_repr => k_is)
    (case h_z_min => k_is)
    (case h_z_gcd => k_is)
    (case h_a0 => k_is)
    (case h_l0 => k_is)
    (case h_c0 => k_is)
    (case h_k0 => k_is)
    (case h_a1 => k_is)
    (case h_l1 => k_is)
    (case h_c1 => k_is)
    (case h_k1 => k_is)
    (case h_a2 => k_is)
    (case h_l2 => k_is)
    (case h_c2 => k_is)
    (case h_k2 => k_is)
    (case h_a3 => k_is)
    (case h_r3 => k_is)
    (case h_l3 => k_is)
    (case h_c3 => k_is)
    (case h_k3 => k_is)
    (case h_a4 => k_is)
    (case h_i4 => k_is)
    (case h_l4 => k_is)
    (case h_c4 => k_is)
    (case h_k4 => k_is)
    (case h_d4 => k_is)
    (case h_a5 => k_is)
    (case h_l5 => k_is)
    (case h_c5 => k_is)
    (case h_k5 => k_is)
    (case h_a6 => k_is)
    (case h_l6 => k_is)
    (case h_c6 => k_is)
    (case h_k6 => k_is)
    (case h_a7 => k_is)
    (case h_l7 => k_is)
    (case h_c7 => k_is)
    (case h_k7 => k_is)
    (case h_a8 => k_is)
    (case h_l8 => k_is)
    (case h_c8 => k_is)
    (case h_k8 => k_is)
    (case h_d8 => k_is)
    (case h_a9 => k_is)
    (case h_l9 => k_is)
    (case h_c9 => k_is)
    (case h_k9 => k_is)
    (case h_a10 => k_is)
    (case h_l10 => k_is)
    (case h_c10 => k_is)
    (case h_k10 => k_is)
    (case h_a11 => k_is)
    (case h_l11 => k_is)
    (case h_c11 => k_is)
    (case h_k11 => k_is)
    (case h_a12 => k_is)
    (case h_l12 => k_is)
    (case h_c12 => k_is)
    (case h_k12 => k_is)
    (case h_a13 => k_is)
    (case h_l13 => k_is)
    (case h_c13 => k_is)
    (case h_k13 => k_is)
    (case h_a14 => k_is)
    (case h_l14 => k_is)
    (case h_c14 => k_is)
    (case h_k14 => k_is)
    (case h_a15 => k_is)
    (case h_l15 => k_is)
    (case h_c15 => k_is)
    (case h_k15 => k_is)
    (case h_a16 => k_is)
    (case h_l16 => k_is)
    (case h_c16 => k_is)
    (case h_k16 => k_is)
    (case h_a17 => k_is)
    (case h_l17 => k_is)
    (case h_c17 => k_is)
    (case h_k17 => k_is)
    (case h_a18 => k_is)
    (case h_l18 => k_is)
    (case h_c18 => k_is)
    (case h_k18 => k_is)
    (case h_a19 => k_is)
    (case h_l19 => k_is)
    (case h_c19 => k_is)
    (case h_k19 => k_is)
    (case h_a20 => k_is)
    (case h_l20 => k_is)
    (case h_c20 => k_is)
    (case h_k20 => k_is)
    (case h_a21 => k_is)
    (case h_l21 => k_is)
    (case h_c21 => k_is)
    (case h_k21 => k_is)
    (case h_a22 => k_is)
    (case h_l22 => k_is)
    (case h_c22 => k_is)
    (case h_k22 => k_is)
    (case h_a23 => k_is)
    (case h_l23 => k_is)
    (case h_c23 => k_is)
    (case h_k23 => k_is)
