import PyProof.Rows.All
import Wide.All
import OpenK.AllK
import Wide.FinOn
import HandS.ForMost
import HandS.Wide
import HandS.Gcd
import HandS.Codes
import HandS.IsInst
import HandS.ClsMeth
import HandS.Property
import HandS.OwnEq
import HandS.Defaults
import KE.KEqSeq
import KE.RegKIsAll
import PySem.Challenge.RW_anyfifth_k08_whole_kinds_of_fifths
set_option Elab.async false
set_option maxRecDepth 100000
set_option maxHeartbeats 4000000
/-! Rules of our own: static methods, comparisons by the text's own operators. -/
namespace Own
open PySem PySem.Spec PyProof.Rows L2
open AutoSeq1 (wpAny_loadPart')

section
variable {X : Cx} {pins : List (Addr × Obj)} {σ : L2.St} {H : Hp} {s : Shared} {C p f : Addr} {mc : Value} {m : Str} {A : Around} {E : Value → Shared → Prop}
/-- C.m is a static method: its record at p, its def at f -/
structure SMet (K : PySem.W.Frag) (C : Addr) (mc : Value) (m : Str) (p f : Addr) : Prop where
  at_ : PySem.W.findCls K (.ref C) mc m = some (.get (.builtin "staticmethod.__get__") (.ref p) .none (.ref C))
  rc : ∃ rest, PySem.W.recIn K p "staticmethod" = some (.ref f :: rest)
  kp : PySem.W.keepIn K (.ref f) = true
theorem getsm_ok {b : Bool} {Q : Value → Shared → Prop} (I : Inv X pins σ H s) (r : ClX.CRead X.K C mc) (k : SMet X.K C mc m p f) (h : ∀ s', Inv X pins σ H s' → Q (.ref f) s') : wpAny (model X.prog X.w) A (getAttr (.ref C) m b) Q E s := by
  obtain ⟨rest, hp⟩ := k.rc
  refine PySem.W.cls_bind I.kIn r.rd k.at_ ?_
  refine wpAny_call (PySem.W.sm_get (s := { s with toks := s.toks + 1 }) I.kIn hp (PySem.W.handed_on rfl ?_))
  exact h _ (I.tok _)
def tSMeth (C : Addr) (sp : Sp) (E : XK) (ta : TE) (t : TA) : TE := fun σ H Q => ta σ H fun x H1 => x = .ref C ∧ t σ H1 fun vs H2 => sp (vs ++ []) H2 Q E
end
section
variable {X : Cx} {CX : CXT} {k : Nat} {C p f : Addr} {mc : Value} {sp : Sp} {E : XK} {o e : Expr} {es : List Expr} {m : Str} {pos apos : Pos} {ta : TE} {t : TA} {pl : Sem Bool} {fd : FuncData} {ps : List Str}
theorem pe_smeth (r : ClX.CRead X.K C mc) (c : SMet X.K C mc m p f) (F : FnOk X.prog X.w X.K X.mg X.base CX k f fd ps sp) (hr : Room k X.A) (hb : Binds X.K fd ps []) (hx : Passes CX X E) (he : PE X o ta) (ha : PA X (e :: es) t)
    (hst : starEach (e :: es) X.env = (false, eval e X.env) :: starEach es X.env := by rfl) (hpl : (backTo pos (starEach es X.env)).any (·.1) = false := by rfl)
    (ht : eval (.Call (.Attribute o m apos) (e :: es) [] pos) X.env = (do
      let ov ← eval o X.env
      standAt apos.atName
      let (f, first) ← holding [ov] (getMethod ov m pl)
      callWith pos f first (backTo pos (starEach (e :: es) X.env)) (backToKw pos (keywordEach [] X.env))) := by rfl) :
    PE X (.Call (.Attribute o m apos) (e :: es) [] pos) (tSMeth C sp E ta t) := by
  refine ⟨fun pins s σ H Q I h => ?_⟩
  refine PySem.W.methodCall_KW (pl := pl) (thn (he.run pins s σ H _ I h) fun u s1 ⟨x, H1, I1, rx, ex, q⟩ => ?_) ht
  subst ex
  obtain rfl : u = Value.ref C := rx
  refine PySem.W.method_cls I1.kIn r.ga (getsm_ok I1 r c fun s2 I2 => ?_)
  refine PySem.W.callWith_K (first := []) (h₀ := X.base) I.ok.mod.kin c.kp (thn (ha.run pos pins s2 σ H1 _ I2 q) fun us s3 ⟨vs, H2, I3, rv, q2⟩ => ⟨I3.kIn, ?_⟩) hst hpl
  exact run_fn F hr hb .nil hx I3 rv q2
end

theorem pe_gref {X : Cx} {x : Str} {a : Addr} {pos : Pos} (hg : Gl X x) (hm : X.mg x = some (.ref a)) (hd : (x == ("__debug__" : Str)) = false := by decide) : PE X (.Name x pos) (tC (.ref a)) := pe_glob hg hm rfl hd
/-! ### calls with keywords alone -/
def tMethK0 (C : Addr) (m : Str) (n : Nat) (sp : Sp) (gV : List V → List V → List V) (E : XK) (ta : TE) (tk : TA) : TE := fun σ H Q => ta σ H fun x H1 => ∃ a dx fs, x = .ref a ∧ H1 a = some (.ins C dx fs) ∧ fs.lookup m = none ∧
  tk σ H1 fun zs H2 => zs.length = n ∧ sp (gV [x] zs) H2 Q E
section
variable {X : Cx} {CX : CXT} {k : Nat} {C p f : Addr} {sp : Sp} {E : XK} {o : Expr} {m : Str} {pos apos : Pos} {ta : TE} {tk : TA} {pl : Sem Bool} {fd : FuncData} {ps ks : List Str} {kws : List Keyword}
  {g : List Value → List Value → List Value} {gV : List V → List V → List V}
theorem pe_methK0 (he : PE X o ta) (c : Cls X.K C) (hm : Meth X.K C m f) (F : FnOk X.prog X.w X.K X.mg X.base CX k f fd ps sp) (hr : Room k X.A) (hb : KBn X.K fd ps 1 ks g gV) (hx : Passes CX X E) (hkw : PK X kws tk)
    (hall : (backToKw pos (keywordEach kws X.env)).all (·.1.isSome) = true := by rfl) (hks : (backToKw pos (keywordEach kws X.env)).filterMap (·.1) = ks := by rfl)
    (hpl : ((backTo pos (starEach [] X.env)).any (·.1) || (backToKw pos (keywordEach kws X.env)).any (·.1.isNone)) = false := by rfl)
    (ht : eval (.Call (.Attribute o m apos) [] kws pos) X.env = (do
      let ov ← eval o X.env
      standAt apos.atName
      let (f, first) ← holding [ov] (getMethod ov m pl)
      callWith pos f first (backTo pos (starEach [] X.env)) (backToKw pos (keywordEach kws X.env))) := by rfl) :
    PE X (.Call (.Attribute o m apos) [] kws pos) (tMethK0 C m ks.length sp gV E ta tk) := by
  refine ⟨fun pins s σ H Q I h => ?_⟩
  refine PySem.W.methodCall_KW (pl := pl) (thn (he.run pins s σ H _ I h) fun u s1 ⟨x, H1, I1, rx, a, dx, fs, ex, ea, l, q⟩ => ?_) ht
  subst ex
  obtain rfl : u = Value.ref a := rx
  refine getmeth_ok I1 ea c hm l ?_
  refine PySem.W.callWith_KW0 (first := [.ref a]) (h₀ := X.base) I.ok.mod.kin hm.kp hall (thn (hkw.run pos pins s1 σ H1 _ I1 q) fun ws s2 ⟨zs, H2, I2, rz, hl, q2⟩ => ⟨I2.kIn, ?_⟩) hpl
  rw [hks]
  exact run_fnN (us := [.ref a]) (vs := [.ref a]) F hr hb hx I2 (.cons rfl .nil) rz rfl hl q2
end
/-! ### comparisons by own operators -/
section
variable {X : Cx} {CX : CXT} {k : Nat} {C f : Addr} {fd : FuncData} {ps : List Str} {sp : Sp} {E : XK} {op : CmpOp}
/-- the left one is an instance with the operator -/
def rOwnC (K : PySem.W.Frag) (C : Addr) (sp : Sp) (E : XK) : R2 := fun x y H Q => ∃ a dx fs t, x = .ref a ∧ H a = some (.ins C dx fs) ∧ TyX K H y t ∧ PySem.W.notFirst K C t = true ∧ sp [x, y] H (fun v H' => (∃ b, v = .bl b) ∧ Q v H') E
theorem op_ownC (F : FnOk X.prog X.w X.K X.mg X.base CX k f fd ps sp) (hr : Room k X.A) (hs : PySem.W.findIn X.K (.ref C) (cmpInfo op).2.1 = some (some (.ref f))) (hf : PySem.W.isFn X.K (.ref f) = true) (hb : Binds X.K fd ps []) (hx : Passes CX X E)
    (hop : ∀ a b, compareOp op a b = richCompare op a b := by intros; rfl) : OpR X (compareOp op) (rOwnC X.K C sp E) := by
  intro pins s σ H x y u v Q I rx ry h
  obtain ⟨a, dx, fs, t, rfl, ha, ty, nf, hsp⟩ := h
  cases rx
  obtain ⟨mA, J, _⟩ := ins_get I.hok ha
  obtain ⟨od, J, _⟩ := J.look
  obtain ⟨m, hF⟩ := I.fr
  obtain ⟨Pk, Z, pk, _⟩ := kit_of I ry ty
  rw [hop]
  refine PySem.W.cmp_K (op := op) (tb := t) hr.units0 hF I.ok.mod.kin J (Z.ty _ _ I.kIn pk) nf hs hf ?_
  have r2 : Vals [V.ref a, y] [Value.ref a, v] := .cons rfl (.cons ry .nil)
  refine wpAny_mono (run_fn F hr hb .nil hx I r2 hsp) (fun w s' q => ?_) fun _ _ e => e
  obtain ⟨v', H', I', rv, ⟨b, rfl⟩, q⟩ := q
  cases rv
  exact ⟨.bl b, H', I', rfl, q⟩

/-- an int on the left, an instance with the reflected operator on the right -/
def rReflC (C : Addr) (sp : Sp) (E : XK) : R2 := fun x y H Q => ∃ i a dx fs, x = .int i ∧ y = .ref a ∧ H a = some (.ins C dx fs) ∧ sp [y, x] H (fun v H' => (∃ b, v = .bl b) ∧ Q v H') E
theorem op_reflC {id : String} {B : Builtin} (F : FnOk X.prog X.w X.K X.mg X.base CX k f fd ps sp) (hr : Room k X.A) (hs : PySem.W.findIn X.K (.ref C) (cmpInfo op).2.2 = some (some (.ref f))) (hf : PySem.W.isFn X.K (.ref f) = true)
    (hsub : PySem.W.subIn X.K (.ref C) (.type "int") = some false) (hb : Binds X.K fd ps []) (hx : Passes CX X E)
    (slot : Slot "int" (cmpInfo op).2.1 id) (entry : entryFor table id = some B) (args : ∀ a b, argsOk id ⟨[a, b], []⟩)
    (dec : ∀ (b : Int) (u : Tok) (l : Addr) (C dx : Addr), Meets (B ⟨[.int b u, .ref l], []⟩) (fun _ R s => s.heap.get? l = some (PySem.W.instObj C dx) ∧ R (.ok (.ret .notImplemented)) s))
    (hne : op ≠ .Eq ∧ op ≠ .NotEq) (hop : ∀ a b, compareOp op a b = richCompare op a b := by intros; rfl) : OpR X (compareOp op) (rReflC C sp E) := by
  intro pins s σ H x y u v Q I rx ry h
  obtain ⟨i, a, dx, fs, rfl, rfl, ha, hsp⟩ := h
  obtain ⟨t, rfl⟩ := rx
  cases ry
  obtain ⟨mA, O, _⟩ := ins_get I.hok ha
  obtain ⟨od, J, _⟩ := O.look
  have ho : s.heap.get? a = some (PySem.W.instObj C dx) := by
    obtain ⟨_, _, _, e, _⟩ := I.hok a _ ha
    exact e
  have KX := I.kIn
  rw [hop]
  have one : wpAny (model X.prog X.w) X.A (tryCompare (.ref a) (cmpInfo op).2.2 (.int i t)) (fun r s' => ∃ v, r = some v ∧ EP X pins σ Q v s') X.xe s := by
    unfold tryCompare
    have r2 : Vals [V.ref a, V.int i] [Value.ref a, Value.int i t] := .cons rfl (.cons ⟨t, rfl⟩ .nil)
    refine wpAny_bind (PySem.W.ifBound_K KX J hs hf (wpAny_mono (run_fn F hr hb .nil hx I r2 hsp) (fun v s' hv => ?_) fun _ _ e => e))
    obtain ⟨v', H', I', rv, ⟨b, rfl⟩, q⟩ := hv
    cases rv
    exact wpAny_pure ⟨_, rfl, .bl b, H', I', rfl, q⟩
  have hT := typeIs_int s i t
  unfold richCompare
  simp only [hT.oneThing_none]
  refine wpAny_holding (wpAny_bind (wpAny_cRoomFor hr.units0 ?_))
  refine wpAny_bind (wpAny_typeOf hT (wpAny_bind (J.type.here ?_)))
  have hne1 : (Value.type "int" != Value.ref C) = true := rfl
  simp only [hne1, if_true]
  refine wpAny_bind ((PySem.W.looks_subIn KX hsub).here ?_)
  simp only [Bool.false_eq_true, if_false, Bool.not_false, if_true]
  refine wpAny_bind (m := tryCompare (.int i t) _ (.ref a)) (wpAny_tryCompare_declines hT slot (call_meets slot hT entry (args _ _) (dec i t a C dx) ⟨ho, rfl, ?_⟩))
  refine wpAny_bind (wpAny_mono one (fun r s' z => ?_) fun _ _ e => e)
  obtain ⟨v, rfl, hq⟩ := z
  exact wpAny_pure hq
end
theorem int_le_dec (b : Int) (u : Tok) (l : Addr) (C dx : Addr) :
    Meets (Builtin.«int.__le__» ⟨[.int b u, .ref l], []⟩) (fun _ R s => s.heap.get? l = some (PySem.W.instObj C dx) ∧ R (.ok (.ret .notImplemented)) s) :=
  .of_wp fun prog w A R s h => by obtain ⟨hp, g, d, tk, os⟩ := s; obtain ⟨hl, h⟩ := h; wp_walk using wpAny_loadPart' hl, wpAny_load hl; exact ⟨_, rfl, h⟩
theorem int_lt_dec (b : Int) (u : Tok) (l : Addr) (C dx : Addr) :
    Meets (Builtin.«int.__lt__» ⟨[.int b u, .ref l], []⟩) (fun _ R s => s.heap.get? l = some (PySem.W.instObj C dx) ∧ R (.ok (.ret .notImplemented)) s) :=
  .of_wp fun prog w A R s h => by obtain ⟨hp, g, d, tk, os⟩ := s; obtain ⟨hl, h⟩ := h; wp_walk using wpAny_loadPart' hl, wpAny_load hl; exact ⟨_, rfl, h⟩
end Own
set_option maxRecDepth 100000
set_option maxHeartbeats 4000000
namespace Toy
open PySem L2
def top (i : Nat) : Stmt := PySem.Challenge.pw_anyfifth_k08_whole_kinds_of_fifths.main.body.getD i (.Pass ⟨0, 0, 0, 0⟩)

structure Bl (mg : Str → Option Value) : Prop where
  int : mg "int" = none
  len : mg "len" = none
  abs : mg "abs" = none
  list : mg "list" = none
  range : mg "range" = none
  isinstance : mg "isinstance" = none
  bool : mg "bool" = none
  gcd : mg "gcd" = some (.builtin "math.gcd")

/-- all but what stands at p is as it was -/
def But (p : Addr) (H H' : Hp) : Prop := ∀ b o, H b = some o → b ≠ p → H' b = some o
theorem But.refl {p : Addr} {H : Hp} : But p H H := fun _ _ h _ => h
theorem But.upd {p : Addr} {H H1 : Hp} {o : HO} (h : But p H H1) : But p H (upd H1 p o) := fun b u e n => by rw [upd_ne n]; exact h b u e n
theorem But.new {p q : Addr} {H H1 : Hp} {o : HO} (h : But p H H1) (hq : H1 q = none) : But p H (L2.upd H1 q o) := fun b u e n => by
  rw [upd_ne (ne_of_none (h b u e n) hq)]; exact h b u e n
theorem But.trans {p : Addr} {H H1 H2 : Hp} (a : But p H H1) (b : But p H1 H2) : But p H H2 := fun c u e n => b c u (a c u e n) n
theorem But.same {p : Addr} {H H' : Hp} (h : Same H H') : But p H H' := fun b o e _ => h b o e

/-- the state of the drawing at p, behind at most k draws -/
structure PenW (H : Hp) (p c : Addr) (ns : List Int) (b l : Int) : Prop where
  hp : H p = some (.lst [.ref c, .int b, .int l])
  hc : H c = some (.lst (ns.map V.int))
  ln : ns.length ≤ 63
  b0 : 0 ≤ b
def Pen (H : Hp) (p : Addr) (k : Nat) : Prop := ∃ c ns b l, PenW H p c ns b l ∧ b ≤ k
theorem PenW.ne {H : Hp} {p c : Addr} {ns : List Int} {b l : Int} (h : PenW H p c ns b l) : c ≠ p := by
  intro e
  have h1 := h.hp
  have h2 := h.hc
  rw [e, h1] at h2
  have h3 := Option.some.inj h2
  injection h3 with h4
  cases ns with
  | nil => cases h4
  | cons a r => injection h4 with h5 h6; cases h5
theorem PenW.put {H : Hp} {p c : Addr} {ns : List Int} {b l b' l' : Int} (h : PenW H p c ns b l) (hb : 0 ≤ b') : PenW (upd H p (.lst [.ref c, .int b', .int l'])) p c ns b' l' :=
  ⟨upd_same, by rw [upd_ne h.ne]; exact h.hc, h.ln, hb⟩
theorem PenW.new {H : Hp} {p c q : Addr} {ns : List Int} {b l : Int} {o : HO} (h : PenW H p c ns b l) (hq : H q = none) : PenW (upd H q o) p c ns b l :=
  ⟨by rw [upd_ne (ne_of_none h.hp hq)]; exact h.hp, by rw [upd_ne (ne_of_none h.hc hq)]; exact h.hc, h.ln, h.b0⟩
theorem Pen.same {H H' : Hp} {p : Addr} {k : Nat} (h : Pen H p k) (e : Same H H') : Pen H' p k := by
  obtain ⟨c, ns, b, l, h, hk⟩ := h
  exact ⟨c, ns, b, l, ⟨e _ _ h.hp, e _ _ h.hc, h.ln, h.b0⟩, hk⟩
theorem Pen.mono {H : Hp} {p : Addr} {k j : Nat} (h : Pen H p k) (e : k ≤ j) : Pen H p j := by
  obtain ⟨c, ns, b, l, h, hk⟩ := h
  exact ⟨c, ns, b, l, h, by omega⟩
theorem dpInts {K : PySem.W.Frag} {H : Hp} : ∀ ns : List Int, DpAll K H (ns.map V.int) (ns.map PyData.int)
  | [] => .nil
  | n :: r => .cons (.int n) (dpInts r)
theorem shInts (ns : List Int) : SeqAt.shaped (.list (ns.map PyData.int)) = true := PySem.W.ke_shaped_ints ns
theorem eqvNil (ns : List Int) : PyData.eqv (.list (ns.map PyData.int)) (.list []) = decide (ns = []) := by
  cases ns <;> rfl
theorem modB (a : Int) {m : Int} (h : 0 < m) : 0 ≤ a % m ∧ a % m < m := ⟨Int.emod_nonneg _ (by omega), Int.emod_lt_of_pos _ h⟩
theorem wide_m {i m : Int} (h : 0 < m) (hb : m.natAbs < 2 ^ 2000) : CDivW i m := wide_div h hb (by decide) (by decide)

theorem atI_in {α : Type} {xs : List α} {i : Int} (h0 : 0 ≤ i) (h1 : i < (xs.length : Int)) : atI xs i = some (xs[i.toNat]'(by omega)) := by
  have e : i = ((i.toNat : Nat) : Int) := by omega
  exact (congrArg (atI xs) e).trans (atI_nat (List.getElem?_eq_getElem (by omega)))

theorem p0 {j : Int} (h : decide (0 < j) = true) : 0 < j := of_decide_eq_true h
theorem mulB {x y M N : Int} (hx : 0 ≤ x) (hxM : x ≤ M) (hy : 0 ≤ y) (hyN : y ≤ N) : 0 ≤ x * y ∧ x * y ≤ M * N := ⟨Int.mul_nonneg hx hy, Int.mul_le_mul hxM hyN hy (by omega)⟩
abbrev sDraw : Stmt := top 31
def spDraw : Sp := fun vs H Q _ => ∃ (p : Addr) (m : Int) (k : Nat), vs = [.ref p, .int m] ∧ Pen H p k ∧ k ≤ 1000000 ∧ 0 < m ∧ m.natAbs < 2 ^ 2000 ∧
  ∀ r H', 0 ≤ r → r < m → Pen H' p (k + 1) → But p H H' → Q (.int r) H'
section
variable {P : Program} {w : World} {K : PySem.W.Frag} {mg : Str → Option Value} {base : Heap}
theorem scD : FnScope ["_law_pen_here", "_law_many", "_law_digit", "_law_begun", "_law_cell", "_law_great", "_law_mixed"] ["_law_pen_here", "_law_many"] (defScope sDraw) :=
  ⟨rfl, rfl, rfl, by decide +kernel, rfl, by decide +kernel, by decide +kernel⟩
theorem ok_draw {f : Addr} {fd : FuncData} (F : Fun K "_law_draw" "_law_draw" sDraw f fd) (T : Bl mg) : FnOk P w K mg base CX0 1 f fd ["_law_pen_here", "_law_many"] spDraw := by
  refine F.ok scD (fun vs H Q E h => ?_) (fun cdv A outer s H vs Q E hr h => ?_)
  · obtain ⟨p, m, k, rfl, _⟩ := h
    rfl
  · obtain ⟨p, m, k, rfl, ⟨c, ns, b, l, W, hb⟩, hk, hm, hmb, q⟩ := h
    have nd := scD.nd
    refine ⟨_, pss_cons (ps_if (pt_cmpR op_gt (pe_ix ix_list (pv 0) pe_int (fun _ _ => rfl)) pe_int (nomark _)) (pss_cons (ps_set (i := 2) nd rfl (Or.inl rfl) (pe_op op_mod (pe_callTy call_int1 (by rfl) T.int (by decide +kernel) (pa_cons (pe_ix ix_list (pv 0) pe_int (fun _ _ => rfl)) pa_nil)) (pv 1)))
      (pss_cons (ps_asg (pe_op op_fdivW (pe_callTy call_int1 (by rfl) T.int (by decide +kernel) (pa_cons (pe_ix ix_list (pv 0) pe_int (fun _ _ => rfl)) pa_nil)) (pv 1)) (pg_sub (pv 0) pe_int set_list))
      (pss_one (ps_ret (pv 2))))) pss_nil)
      (pss_cons (ps_set (i := 3) nd rfl (Or.inl rfl) (pe_ix ix_list (pv 0) pe_int (fun _ _ => rfl)))
      (pss_cons (ps_asg (pe_op op_add (pv 3) pe_int) (pg_sub (pv 0) pe_int set_list))
      (pss_cons (ps_set (i := 4) nd rfl (Or.inl rfl) (pe_op op_add (pe_op op_mul pe_int (pv 3)) pe_int))
      (C8.pss_cut (ps_if (pt_cmpR (op_neD hr.units) (pe_ix ix_list (pv 0) pe_int (fun _ _ => rfl)) (pe_lst pa_nil) (nomark _)) (pss_one (ps_set (i := 4) nd rfl (Or.inl rfl) (pe_ix ix_list (pe_ix ix_list (pv 0) pe_int (fun _ _ => rfl)) (pe_op op_mod (pe_callTy call_int1 (by rfl) T.int (by decide +kernel) (pa_cons (pv 3) pa_nil)) (pe_callB call_len (by rfl) T.len (by decide +kernel) (pa_cons (pe_ix ix_list (pv 0) pe_int (fun _ _ => rfl)) pa_nil))) (fun _ _ => rfl)))) pss_nil)
      (pss_cons (ps_if (PW.pt (pw_and (pt_cmpR op_lt (pv 3) (pe_callB call_len (by rfl) T.len (by decide +kernel) (pa_cons (pe_ix ix_list (pv 0) pe_int (fun _ _ => rfl)) pa_nil)) (nomark _)) (pw_and1 (pt_cmpR op_ge (pe_callB call_abs (by rfl) T.abs (by decide +kernel) (pa_cons (pv 4) pa_nil)) (pe_op op_pow pe_int pe_int) (nomark _))))) (pss_cons (ps_set (i := 5) nd rfl (Or.inl rfl) (pe_op op_add (pe_op op_mul pe_int (pe_op op_sub (pe_callB call_abs (by rfl) T.abs (by decide +kernel) (pa_cons (pv 4) pa_nil)) (pe_op op_pow pe_int pe_int))) (pe_callTy call_int1 (by rfl) T.int (by decide +kernel) (pa_cons (pe_cmpR op_lt (pv 4) pe_int (nomark _)) pa_nil))))
      (pss_cons (ps_asg (pe_op op_fdivW (pe_callTy call_int1 (by rfl) T.int (by decide +kernel) (pa_cons (pv 5) pa_nil)) (pv 1)) (pg_sub (pv 0) pe_int set_list))
      (pss_one (ps_ret (pe_op op_mod (pe_callTy call_int1 (by rfl) T.int (by decide +kernel) (pa_cons (pv 5) pa_nil)) (pv 1)))))) pss_nil)
      (pss_cons (ps_set (i := 6) nd rfl (Or.inl rfl) (pe_op op_mod (pe_callTy call_int1 (by rfl) T.int (by decide +kernel) (pa_cons (pe_op op_pow (pe_op op_add (pe_op op_add (pe_op op_mod (pe_callTy call_int1 (by rfl) T.int (by decide +kernel) (pa_cons (pv 4) pa_nil)) pe_int) (pe_op op_mul pe_int (pv 3))) pe_int) pe_int) pa_nil)) pe_int))
      (pss_cons (ps_set (i := 6) nd rfl (Or.inl rfl) (pe_op op_mod (pe_callTy call_int1 (by rfl) T.int (by decide +kernel) (pa_cons (pe_op op_pow (pe_op op_add (pe_op op_add (pe_op op_mul (pv 6) (pe_op op_add (pe_op op_mul pe_int (pv 3)) pe_int)) (pe_op op_mul (pe_op op_mul pe_int (pv 3)) (pv 3))) pe_int) pe_int) pa_nil)) pe_int))
      (pss_one (ps_ret (pe_op op_mod (pe_callTy call_int1 (by rfl) T.int (by decide +kernel) (pa_cons (pe_op op_fdivW (pv 6) pe_int) pa_nil)) (pv 1))))))))))), ?_⟩
    have hp := W.hp
    -- what is left of a great cell
    refine ⟨_, rfl, p, _, _, _, rfl, rfl, SqL.of hp, rfl, _, _, rfl, rfl, _, rfl, ?_⟩
    refine ite2 (fun _ => ?_) (fun _ => ?_)
    · refine ⟨_, rfl, p, _, _, _, rfl, rfl, SqL.of hp, rfl, .inl ⟨_, rfl, _, rfl, _, _, rfl, rfl, hm, ?_⟩⟩
      refine ⟨_, rfl, p, _, _, _, rfl, rfl, SqL.of hp, rfl, .inl ⟨_, rfl, _, rfl, _, _, rfl, rfl, wide_m hm hmb, ?_⟩⟩
      refine ⟨_, rfl, p, _, _, _, rfl, rfl, hp, rfl, ?_⟩
      refine ⟨_, rfl, ?_⟩
      exact q _ _ (modB _ hm).1 (modB _ hm).2 ⟨c, ns, b, _, W.put W.b0, by omega⟩ (But.refl.upd)
    · -- begun; the count goes up; cell
      refine ⟨_, rfl, p, _, _, _, rfl, rfl, SqL.of hp, rfl, ?_⟩
      refine ⟨_, rfl, _, _, rfl, rfl, ?_⟩
      refine ⟨_, rfl, p, _, _, _, rfl, rfl, hp, rfl, ?_⟩
      refine ⟨_, rfl, _, _, rfl, rfl, .inl ⟨by decide, by decide⟩, _, _, rfl, rfl, ?_⟩
      have W1 : PenW (upd H p (.lst [.ref c, .int (b + 1), .int l])) p c ns (b + 1) l := W.put (by have := W.b0; omega)
      refine ⟨fun σ' H' => ∃ z : Int, σ' = [some (.ref p), some (.int m), none, some (.int b), some (.int z), none, none] ∧ PenW H' p c ns (b + 1) l ∧ But p H H', ?_, ?_⟩
      · -- a cell of the script
        refine ⟨_, rfl, p, _, _, _, rfl, rfl, SqL.of W1.hp, rfl, by decide, fun e he => ?_⟩
        refine ⟨_, _, .lst (SqL.of (W1.new he).hc) (dpInts ns), .lst (SqL.of upd_same) .nil, shInts ns, by decide, _, rfl, ?_⟩
        have W2 := W1.new (o := .lst []) he
        have B2 : But p H (upd (upd H p (.lst [.ref c, .int (b + 1), .int l])) e (.lst [])) := (But.refl.upd).new he
        rw [eqvNil]
        by_cases hn : ns = []
        · rw [decide_eq_true hn]
          refine iteF ?_
          exact ⟨_, rfl, W2, B2⟩
        · rw [decide_eq_false hn]
          refine iteT ?_
          have hl0 : 0 < ns.length := List.length_pos_iff.mpr hn
          have hm0 : (0 : Int) < ((ns.map V.int).length : Int) := by rw [List.length_map]; omega
          refine ⟨_, rfl, p, _, _, _, rfl, rfl, SqL.of W2.hp, rfl, _, rfl, .inl ⟨_, rfl, _, rfl, p, _, _, _, rfl, rfl, SqL.of W2.hp, rfl, _, _, rfl, .inl ⟨_, SqL.of W2.hc, rfl⟩, _, _, rfl, rfl, hm0, ?_⟩⟩
          obtain ⟨z, hz⟩ : ∃ z, (ns.map V.int)[(b % ((ns.map V.int).length : Int)).toNat]'(by have := modB b hm0; omega) = .int z := ⟨_, List.getElem_map ..⟩
          exact ⟨c, _, _, .int z, rfl, rfl, SqL.of W2.hc, by rw [atI_in (modB b hm0).1 (modB b hm0).2, hz], ⟨_, rfl, W2, B2⟩⟩
      · rintro σ' H' ⟨z, rfl, W2, B2⟩
        have hp2 := W2.hp
        have hb1 := W.b0
        have hb2 : b ≤ 1000000 := by omega
        -- a great cell
        refine ⟨_, rfl, _, rfl, p, _, _, _, rfl, rfl, SqL.of hp2, rfl, _, _, rfl, .inl ⟨_, SqL.of W2.hc, rfl⟩, _, _, rfl, rfl, _, rfl, ?_⟩
        refine ite2 (fun _ => ?_) (fun _ => ?_)
        · refine ⟨_, rfl, _, rfl, _, _, rfl, rfl, ⟨by decide, by decide, by decide⟩, _, _, rfl, rfl, _, rfl, ?_⟩
          refine ite2 (fun _ => ?_) (fun _ => ?_)
          · refine ⟨_, rfl, _, rfl, _, _, rfl, rfl, ⟨by decide, by decide, by decide⟩, _, _, rfl, rfl, _, _, rfl, rfl, .inl ⟨by decide, by decide⟩, ?_⟩
            refine ⟨_, rfl, _, _, rfl, rfl, .inr ⟨_, rfl, _, _, rfl, rfl, ?_⟩⟩
            refine ⟨_, rfl, .inl ⟨_, rfl, _, rfl, _, _, rfl, rfl, wide_m hm hmb, ?_⟩⟩
            refine ⟨_, rfl, p, _, _, _, rfl, rfl, hp2, rfl, ?_⟩
            refine ⟨_, rfl, .inl ⟨_, rfl, _, rfl, _, _, rfl, rfl, hm, ?_⟩⟩
            exact q _ _ (modB _ hm).1 (modB _ hm).2 ⟨c, ns, b + 1, _, W2.put W2.b0, by omega⟩ B2.upd
          · refine ⟨_, rfl, .inl ⟨_, rfl, _, _, rfl, rfl, p0 rfl, _, rfl, _, _, rfl, rfl, .inl ⟨by decide, by decide⟩, _, _, rfl, rfl, _, _, rfl, rfl, _, _, rfl, rfl, ⟨by decide, by decide, ?_⟩, .inl ⟨_, rfl, _, _, rfl, rfl, p0 rfl, ?_⟩⟩⟩
            · have h1 := modB z (m := 2147483563) (by decide)
              omega
            have hx := modB ((z % 2147483563 + 941 * b + 2665) ^ (5 : Int).toNat) (m := 2147483629) (by decide)
            generalize hxe : (z % 2147483563 + 941 * b + 2665) ^ (5 : Int).toNat % 2147483629 = x at hx
            have p1 := mulB hx.1 (show x ≤ 2147483629 by omega) (show 0 ≤ 2 * b + 53 by omega) (show 2 * b + 53 ≤ 2100000 by omega)
            have p2 := mulB (show 0 ≤ 8283 * b by omega) (show 8283 * b ≤ 100000000000 by omega) hb1 hb2
            refine ⟨_, rfl, _, rfl, _, _, rfl, rfl, .inl ⟨by decide, by decide⟩, _, _, rfl, rfl, _, _, rfl, rfl, .inl ?_, _, rfl, _, _, rfl, rfl, .inl ⟨by decide, by decide⟩, _, rfl, _, _, rfl, rfl, .inl ?_, _, _, rfl, rfl, _, _, rfl, rfl, _, _, rfl, rfl, ⟨by decide, by decide, ?_⟩, .inl ⟨_, rfl, _, _, rfl, rfl, p0 rfl, ?_⟩⟩
            · rw [hxe]; omega
            · omega
            · rw [hxe]; omega
            refine ⟨_, rfl, _, _, rfl, rfl, ⟨by decide, by decide⟩, .inl ⟨_, rfl, _, rfl, _, _, rfl, rfl, hm, ?_⟩⟩
            exact q _ _ (modB _ hm).1 (modB _ hm).2 ⟨c, ns, b + 1, _, W2, by omega⟩ B2
        · refine ⟨_, rfl, .inl ⟨_, rfl, _, _, rfl, rfl, p0 rfl, _, rfl, _, _, rfl, rfl, .inl ⟨by decide, by decide⟩, _, _, rfl, rfl, _, _, rfl, rfl, _, _, rfl, rfl, ⟨by decide, by decide, ?_⟩, .inl ⟨_, rfl, _, _, rfl, rfl, p0 rfl, ?_⟩⟩⟩
          · have h1 := modB z (m := 2147483563) (by decide)
            omega
          have hx := modB ((z % 2147483563 + 941 * b + 2665) ^ (5 : Int).toNat) (m := 2147483629) (by decide)
          generalize hxe : (z % 2147483563 + 941 * b + 2665) ^ (5 : Int).toNat % 2147483629 = x at hx
          have p1 := mulB hx.1 (show x ≤ 2147483629 by omega) (show 0 ≤ 2 * b + 53 by omega) (show 2 * b + 53 ≤ 2100000 by omega)
          have p2 := mulB (show 0 ≤ 8283 * b by omega) (show 8283 * b ≤ 100000000000 by omega) hb1 hb2
          refine ⟨_, rfl, _, rfl, _, _, rfl, rfl, .inl ⟨by decide, by decide⟩, _, _, rfl, rfl, _, _, rfl, rfl, .inl ?_, _, rfl, _, _, rfl, rfl, .inl ⟨by decide, by decide⟩, _, rfl, _, _, rfl, rfl, .inl ?_, _, _, rfl, rfl, _, _, rfl, rfl, _, _, rfl, rfl, ⟨by decide, by decide, ?_⟩, .inl ⟨_, rfl, _, _, rfl, rfl, p0 rfl, ?_⟩⟩
          · rw [hxe]; omega
          · omega
          · rw [hxe]; omega
          refine ⟨_, rfl, _, _, rfl, rfl, ⟨by decide, by decide⟩, .inl ⟨_, rfl, _, rfl, _, _, rfl, rfl, hm, ?_⟩⟩
          exact q _ _ (modB _ hm).1 (modB _ hm).2 ⟨c, ns, b + 1, _, W2, by omega⟩ B2
end

/-! ### callees -/
structure Cal (P : Program) (w : World) (K : PySem.W.Frag) (mg : Str → Option Value) (base : Heap) (k : Nat) (x : Str) (f : Addr) (fd : FuncData) (ps : List Str) (sp : Sp) : Prop where
  F : FnOk P w K mg base CX0 k f fd ps sp
  mgf : mg x = some (.ref f)
  kp : PySem.W.keepIn K (.ref f) = true
  b : Binds K fd ps []
structure Mak (P : Program) (w : World) (K : PySem.W.Frag) (mg : Str → Option Value) (base : Heap) (k : Nat) (x : Str) (C f : Addr) (fd : FuncData) (ps : List Str) (sp : Sp) : Prop where
  M : Mk K C f
  F : FnOk P w K mg base CX0 k f fd ps sp
  mgC : mg x = some (.ref C)
  b : Binds K fd ps []
structure Sta (P : Program) (w : World) (K : PySem.W.Frag) (mg : Str → Option Value) (base : Heap) (k : Nat) (C : Addr) (m : Str) (p f : Addr) (fd : FuncData) (ps : List Str) (sp : Sp) : Prop where
  s : Own.SMet K C (.type "type") m p f
  F : FnOk P w K mg base CX0 k f fd ps sp
  b : Binds K fd ps []
structure Dot (P : Program) (w : World) (K : PySem.W.Frag) (mg : Str → Option Value) (base : Heap) (k : Nat) (C : Addr) (m : Str) (f : Addr) (fd : FuncData) (ps : List Str) (sp : Sp) : Prop where
  m : Meth K C m f
  F : FnOk P w K mg base CX0 k f fd ps sp
  b : Binds K fd ps []
/-- facts of an own class -/
structure ClT (K : PySem.W.Frag) (mg : Str → Option Value) (C : Addr) (x : Str) : Prop where
  cl : Cls K C
  mgC : mg x = some (.ref C)
  rd : ClX.CRead K C (.type "type")
  ca : PySem.W.findIn K (.ref C) "__class__" = some (some (.builtin "object.__class__"))
  cn : PySem.W.specialIn K (.builtin "object.__class__") "__get__" = some (some (.builtin "getset_descriptor.__get__"))
  ct : PySem.W.takesIn K (.builtin "object.__class__") = some true
  cm : PySem.W.mroIn K C (.type "object") = some true
  kI : PySem.W.kitOne K (.ref C) (.type "int") = some false
  kB : PySem.W.kitOne K (.ref C) (.type "bool") = some false
  kS : PySem.W.kitOne K (.ref C) (.ref C) = some true
  iK : PySem.W.kitOne K (.type "int") (.ref C) = some false
  sI : PySem.W.subIn K (.ref C) (.type "int") = some false
  nI : PySem.W.notFirst K C (.type "int") = true
  nC : PySem.W.notFirst K C (.ref C) = true
theorem ClT.ty {K : PySem.W.Frag} {mg : Str → Option Value} {C a dx : Addr} {x : Str} {H : Hp} {fs : List (Str × V)} (T : ClT K mg C x) (h : H a = some (.ins C dx fs)) : TyX K H (.ref a) (.ref C) :=
  .base (.ins h T.cl T.ca T.cn T.ct T.cm)
structure RatT (K : PySem.W.Frag) (mg : Str → Option Value) (C : Addr) : Prop extends ClT K mg C "Ratio" where
  nT : NoAttr K C "top"
  nB : NoAttr K C "bottom"
structure PieT (K : PySem.W.Frag) (mg : Str → Option Value) (C : Addr) : Prop extends ClT K mg C "Piece" where
  nL : NoAttr K C "left"
  nR : NoAttr K C "right"

/-! ### ratios -/
theorem tb_ne : ¬ (("bottom" : Str) = "top") := by decide +kernel
theorem bt_ne : ¬ (("top" : Str) = "bottom") := by decide +kernel
def ratF (n d : Int) : List (Str × V) := putF "bottom" (.int d) (putF "top" (.int n) [])
theorem ratF_top (n d : Int) : (ratF n d).lookup ("top" : Str) = some (.int n) := by
  unfold ratF
  rw [lookup_putF, if_neg bt_ne, lookup_putF, if_pos rfl]
theorem ratF_bot (n d : Int) : (ratF n d).lookup ("bottom" : Str) = some (.int d) := by
  unfold ratF
  rw [lookup_putF, if_pos rfl]
/-- a Ratio n / d stands at a -/
def RatAt (C : Addr) (H : Hp) (a : Addr) (n d : Int) : Prop := ∃ dx, H a = some (.ins C dx (ratF n d))
theorem RatAt.same {C : Addr} {H H' : Hp} {a : Addr} {n d : Int} (h : RatAt C H a n d) (e : Same H H') : RatAt C H' a n d := let ⟨dx, h⟩ := h; ⟨dx, e _ _ h⟩
theorem RatAt.but {C p : Addr} {H H' : Hp} {a : Addr} {n d : Int} (h : RatAt C H a n d) (e : But p H H') (hp : a ≠ p) : RatAt C H' a n d := let ⟨dx, h⟩ := h; ⟨dx, e _ _ h hp⟩
/-- a number: an int or a Ratio -/
inductive NumAt (C : Addr) (H : Hp) : V → Int → Int → Prop
  | int (i : Int) : NumAt C H (.int i) i 1
  | rat {a : Addr} {n d : Int} (h : RatAt C H a n d) : NumAt C H (.ref a) n d
theorem NumAt.same {C : Addr} {H H' : Hp} {v : V} {n d : Int} (h : NumAt C H v n d) (e : Same H H') : NumAt C H' v n d := by
  cases h with
  | int => exact .int _
  | rat h => exact .rat (h.same e)
theorem same_new {H : Hp} {p : Addr} {o : HO} (h : H p = none) : Same H (upd H p o) := fun b u e => by rw [upd_ne (ne_of_none e h)]; exact e
theorem same_two {H : Hp} {p q : Addr} {o u : HO} (h : H p = none) (h2 : H q = none) (n : p ≠ q) : Same H (upd (upd H p o) q u) := (same_new h).trans (same_new (by rw [upd_ne n.symm]; exact h2))
/-- small enough to reckon with -/
def Sz (z : Int) : Prop := z.natAbs < 2 ^ 1000
theorem Sz.mul {i j : Int} (a : Sz i) (b : Sz j) : CMulW i j := wide_mul a b (by decide) (by decide) (by decide)
theorem Sz.of {z : Int} (h : z.natAbs < 10 ^ 250) : Sz z := Nat.lt_trans h (by decide +kernel)

section
variable {P : Program} {w : World} {K : PySem.W.Frag} {mg : Str → Option Value} {base : Heap} {C : Addr}
def isIntK (K : PySem.W.Frag) (t : Value) (b : Bool) : Prop := ∃ b1 b2, PySem.W.kitOne K t (.type "int") = some b1 ∧ PySem.W.kitOne K t (.type "bool") = some b2 ∧ b = (b1 && !b2)
theorem isIntK_int : isIntK K (.type "int") true := ⟨true, false, kit_ty (by decide +kernel), kit_ty (by decide +kernel), rfl⟩
theorem isIntK_own {x : Str} (T : ClT K mg C x) : isIntK K (.ref C) false := ⟨false, false, T.kI, T.kB, rfl⟩
def spIsInt (K : PySem.W.Frag) : Sp := fun vs H Q _ => ∃ v t b, vs = [v] ∧ TyX K H v t ∧ isIntK K t b ∧ Q (.bl b) H

abbrev sIsInt : Stmt := top 13
theorem scII : FnScope ["value"] ["value"] (defScope sIsInt) := ⟨rfl, rfl, rfl, by decide +kernel, rfl, by decide +kernel, by decide +kernel⟩
theorem ok_isint {f : Addr} {fd : FuncData} (F : Fun K "is_int" "is_int" sIsInt f fd) (T : Bl mg) : FnOk P w K mg base CX0 1 f fd ["value"] (spIsInt K) := by
  refine F.ok scII (fun vs H Q E h => ?_) (fun cdv A outer s H vs Q E hr h => ?_)
  · obtain ⟨v, t, b, rfl, _⟩ := h
    rfl
  · obtain ⟨v, t, b, rfl, ty, ⟨b1, b2, h1, h2, rfl⟩, q⟩ := h
    have nd := scII.nd
    refine ⟨_, pss_one (ps_ret (pe_and (pe_callB call_isi (by rfl) T.isinstance (by decide +kernel) (pa_cons (pv 0) (pa_cons (pe_bltn (v := .ty "int") (u := .type "int") (by rfl) T.int (by decide +kernel) rfl) pa_nil))) (pe_one (pe_not (pe_callB call_isi (by rfl) T.isinstance (by decide +kernel) (pa_cons (pv 0) (pa_cons (pe_bltn (v := .ty "bool") (u := .type "bool") (by rfl) T.bool (by decide +kernel) rfl) pa_nil))))))), ?_⟩
    refine ⟨_, rfl, _, _, t, _, b1, rfl, .ty _, ty, h1, _, rfl, ?_⟩
    cases b1 with
    | true =>
      refine iteT ?_
      exact ⟨_, rfl, _, _, t, _, b2, rfl, .ty _, ty, h2, _, rfl, q⟩
    | false => exact iteF q

def spIsNum (K : PySem.W.Frag) (C : Addr) : Sp := fun vs H Q _ => ∃ v t b c, vs = [v] ∧ TyX K H v t ∧ isIntK K t b ∧ PySem.W.kitOne K t (.ref C) = some c ∧ Q (.bl (b || c)) H
theorem NumAt.spNum {x : Str} {H : Hp} {v : V} {n d : Int} {Q : VK} {E : XK} (T : ClT K mg C x) (h : NumAt C H v n d) (q : Q (.bl true) H) : spIsNum K C [v] H Q E := by
  cases h with
  | int => exact ⟨_, _, _, _, rfl, .base (.int _), isIntK_int, T.iK, q⟩
  | rat h => obtain ⟨dx, h⟩ := h; exact ⟨_, _, _, _, rfl, T.ty h, isIntK_own T, T.kS, q⟩
abbrev sIsNum : Stmt := inClass (top 17) 1
theorem scIN : FnScope ["value"] ["value"] (defScope sIsNum) := ⟨rfl, rfl, rfl, by decide +kernel, rfl, by decide +kernel, by decide +kernel⟩
theorem ok_isnum {f f1 : Addr} {fd fd1 : FuncData} (F : Fun K "is_number" "Ratio.is_number" sIsNum f fd) (T : Bl mg) (T_Ratio : RatT K mg C) (C_is_int : Cal P w K mg base 1 "is_int" f1 fd1 ["value"] (spIsInt K)) :
    FnOk P w K mg base CX0 2 f fd ["value"] (spIsNum K C) := by
  refine F.ok scIN (fun vs H Q E h => ?_) (fun cdv A outer s H vs Q E hr h => ?_)
  · obtain ⟨v, t, b, c, rfl, _⟩ := h
    rfl
  · obtain ⟨v, t, b, c, rfl, ty, hb, hc, q⟩ := h
    have nd := scIN.nd
    refine ⟨_, pss_one (ps_ret (pe_or (pe_call C_is_int.F (hr.mono (by decide)) (by rfl) C_is_int.mgf C_is_int.kp C_is_int.b .nil pass0 (pa_cons (pv 0) pa_nil)) (pe_one (pe_callB call_isi (by rfl) T.isinstance (by decide +kernel) (pa_cons (pv 0) (pa_cons (Own.pe_gref (by rfl) T_Ratio.mgC) pa_nil)))))), ?_⟩
    refine ⟨_, rfl, _, t, b, rfl, ty, hb, _, rfl, ?_⟩
    cases b with
    | true => exact iteT q
    | false =>
      refine iteF ?_
      exact ⟨_, rfl, _, _, t, _, c, rfl, .own _, ty, hc, q⟩

def spParts (C : Addr) : Sp := fun vs H Q _ => ∃ v n d, vs = [v] ∧ NumAt C H v n d ∧ ∀ p, H p = none → Q (.ref p) (upd H p (.tup [.int n, .int d]))
abbrev sParts : Stmt := top 18
theorem scPa : FnScope ["number"] ["number"] (defScope sParts) := ⟨rfl, rfl, rfl, by decide +kernel, rfl, by decide +kernel, by decide +kernel⟩
theorem ok_parts {f : Addr} {fd : FuncData} (F : Fun K "parts_of" "parts_of" sParts f fd) (T : Bl mg) (T_Ratio : RatT K mg C) : FnOk P w K mg base CX0 1 f fd ["number"] (spParts C) := by
  refine F.ok scPa (fun vs H Q E h => ?_) (fun cdv A outer s H vs Q E hr h => ?_)
  · obtain ⟨v, n, d, rfl, _⟩ := h
    rfl
  · obtain ⟨v, n, d, rfl, hn, q⟩ := h
    have nd := scPa.nd
    refine ⟨_, pss_cons (ps_if (pt_val (pe_callB call_isi (by rfl) T.isinstance (by decide +kernel) (pa_cons (pv 0) (pa_cons (Own.pe_gref (by rfl) T_Ratio.mgC) pa_nil)))) (pss_one (ps_ret (pe_tup (pa_cons (pe_fld (pv 0) rfl) (pa_cons (pe_fld (pv 0) rfl) pa_nil))))) pss_nil)
      (pss_one (ps_ret (pe_tup (pa_cons (pv 0) (pa_cons pe_int pa_nil))))), ?_⟩
    cases hn with
    | int =>
      refine ⟨_, rfl, _, _, _, _, false, rfl, .own _, .base (.int _), T_Ratio.iK, _, rfl, iteF ?_⟩
      exact ⟨_, rfl, (by decide : 2 ≤ sizeLine), fun p hp => q p hp⟩
    | rat h =>
      obtain ⟨dx, h⟩ := h
      refine ⟨_, rfl, _, _, _, _, true, rfl, .own _, T_Ratio.ty h, T_Ratio.kS, _, rfl, iteT ?_⟩
      exact ⟨_, rfl, _, C, dx, _, _, rfl, h, T_Ratio.cl, T_Ratio.nT, ratF_top _ _, _, rfl, _, C, dx, _, _, rfl, h, T_Ratio.cl, T_Ratio.nB, ratF_bot _ _, (by decide : 2 ≤ sizeLine), fun p hp => q p hp⟩

def spLead (C : Addr) : Sp := fun vs H Q _ => ∃ v u n d m e, vs = [v, u] ∧ NumAt C H v n d ∧ NumAt C H u m e ∧ (Sz n ∧ Sz d ∧ Sz m ∧ Sz e) ∧ ∀ H', Same H H' → Q (.int (n * e - m * d)) H'
abbrev sLead : Stmt := top 20
theorem scLe : FnScope ["one", "other", "top", "bottom", "other_top", "other_bottom"] ["one", "other"] (defScope sLead) := ⟨rfl, rfl, rfl, by decide +kernel, rfl, by decide +kernel, by decide +kernel⟩
theorem ok_lead {f f1 : Addr} {fd fd1 : FuncData} (F : Fun K "_lead" "_lead" sLead f fd) (C_parts_of : Cal P w K mg base 1 "parts_of" f1 fd1 ["number"] (spParts C)) : FnOk P w K mg base CX0 2 f fd ["one", "other"] (spLead C) := by
  refine F.ok scLe (fun vs H Q E h => ?_) (fun cdv A outer s H vs Q E hr h => ?_)
  · obtain ⟨v, u, n, d, m, e, rfl, _⟩ := h
    rfl
  · obtain ⟨v, u, n, d, m, e, rfl, hv, hu, ⟨z1, z2, z3, z4⟩, q⟩ := h
    have nd := scLe.nd
    refine ⟨_, pss_cons (ps_asg (pe_call C_parts_of.F (hr.mono (by decide)) (by rfl) C_parts_of.mgf C_parts_of.kp C_parts_of.b .nil pass0 (pa_cons (pv 0) pa_nil)) (pg_tup (by rfl) (pgs_cons (pg_name (i := 2) nd rfl (Or.inl rfl)) (pgs_cons (pg_name (i := 3) nd rfl (Or.inl rfl)) pgs_nil))))
      (pss_cons (ps_asg (pe_call C_parts_of.F (hr.mono (by decide)) (by rfl) C_parts_of.mgf C_parts_of.kp C_parts_of.b .nil pass0 (pa_cons (pv 1) pa_nil)) (pg_tup (by rfl) (pgs_cons (pg_name (i := 4) nd rfl (Or.inl rfl)) (pgs_cons (pg_name (i := 5) nd rfl (Or.inl rfl)) pgs_nil))))
      (pss_one (ps_ret (pe_op op_sub (pe_op op_mulW (pv 2) (pv 5)) (pe_op op_mulW (pv 4) (pv 3)))))), ?_⟩
    refine ⟨_, rfl, _, _, _, rfl, hv, fun p hp => ⟨_, _, rfl, SqT.of upd_same, rfl, _, _, rfl, _, _, rfl, rfl, ?_⟩⟩
    have s1 : Same H (upd H p (.tup [.int n, .int d])) := same_new hp
    refine ⟨_, rfl, _, _, _, rfl, hu.same s1, fun p2 hp2 => ⟨_, _, rfl, SqT.of upd_same, rfl, _, _, rfl, _, _, rfl, rfl, ?_⟩⟩
    exact ⟨_, rfl, _, rfl, _, _, rfl, rfl, z1.mul z4, _, rfl, _, rfl, _, _, rfl, rfl, z3.mul z2, _, _, rfl, rfl, q _ (s1.trans (same_new hp2))⟩
end
end Toy
set_option maxRecDepth 100000
set_option maxHeartbeats 4000000
namespace Toy
open PySem L2
/-! ### a ratio made -/
theorem vint_ne {b c : Int} (h : b ≠ c) : ¬ (decide (V.int b = V.int c) = true) := fun e => h (V.int.inj (of_decide_eq_true e))
def CDivZ (_ j : Int) : Prop := j ≠ 0 ∧ j.natAbs.log2 < 9000
theorem op_fdivZ {X : Cx} : OpR X (binaryOp .FloorDiv) (rI CDivZ fun i j => .int (i.fdiv j)) := opI fun i j _ _ _ _ _ hc q => PyProof.Rows.floordiv_int hc.1 q (.inl (PyProof.noPylong_of_log2 hc.2))
def gcdI (t b : Int) : Int := ((Nat.gcd t.natAbs b.natAbs : Nat) : Int)
def lowD (t b : Int) : Int := if 0 < b then gcdI t b else -gcdI t b
def lowT (t b : Int) : Int := t.fdiv (lowD t b)
def lowB (t b : Int) : Int := b.fdiv (lowD t b)
theorem gcdI_pos {t b : Int} (h : b ≠ 0) : 0 < gcdI t b := by
  have h1 : 0 < b.natAbs := by omega
  have h2 := Nat.gcd_pos_of_pos_right t.natAbs h1
  unfold gcdI
  omega
theorem gcdI_neg {t b : Int} (h : b ≠ 0) : -gcdI t b ≠ 0 := by
  have := gcdI_pos (t := t) h
  omega
theorem gcdI_le {t b : Int} (h : b ≠ 0) : (gcdI t b).natAbs ≤ b.natAbs := by
  have h1 : 0 < b.natAbs := by omega
  have h2 := Nat.gcd_le_right t.natAbs h1
  unfold gcdI
  omega
theorem Sz.div {i j : Int} (h : j ≠ 0) (z : Sz j) : CDivZ i j := ⟨h, Nat.lt_trans (PySem.Flt.log2_lt_of (by decide) z) (by decide)⟩
theorem Sz.gcd {t b : Int} (h : b ≠ 0) (z : Sz b) : Sz (gcdI t b) := Nat.lt_of_le_of_lt (gcdI_le h) z
theorem Sz.neg {b : Int} (z : Sz b) : Sz (-b) := by unfold Sz; rw [Int.natAbs_neg]; exact z
theorem lowT_one {t b : Int} (h : 0 < b) (g : gcdI t b = 1) : lowT t b = t := by
  unfold lowT lowD
  rw [if_pos h, g]
  exact Int.fdiv_one t
theorem lowB_one {t b : Int} (h : 0 < b) (g : gcdI t b = 1) : lowB t b = b := by
  unfold lowB lowD
  rw [if_pos h, g]
  exact Int.fdiv_one b
theorem iteNot {b : Bool} {A B : Prop} (h : b = true) (x : B) : if (!b) = true then A else B := by
  subst h
  exact iteF x
theorem NumAt.info {K : PySem.W.Frag} {mg : Str → Option Value} {C : Addr} {x : Str} {H : Hp} {v : V} {n d : Int} (T : ClT K mg C x) (h : NumAt C H v n d) :
    ∃ t b c, TyX K H v t ∧ isIntK K t b ∧ PySem.W.kitOne K t (.ref C) = some c ∧ (b || c) = true := by
  cases h with
  | int => exact ⟨_, _, _, .base (.int _), isIntK_int, T.iK, rfl⟩
  | rat h => obtain ⟨dx, h⟩ := h; exact ⟨_, _, _, T.ty h, isIntK_own T, T.kS, rfl⟩
section
variable {P : Program} {w : World} {K : PySem.W.Frag} {mg : Str → Option Value} {base : Heap} {C : Addr}
def spRInit (C : Addr) : Sp := fun vs H Q _ => ∃ x dx t b, vs = [.ref x, .int t, .int b] ∧ H x = some (.ins C dx []) ∧ b ≠ 0 ∧ Sz b ∧ ∀ H', RatAt C H' x (lowT t b) (lowB t b) → (∀ c o, H c = some o → c ≠ x → H' c = some o) → Q .non H'
theorem spRInit.make {H1 : Hp} {t b : Int} {Q : VK} {E : XK} (hb : b ≠ 0) (hz : Sz b) (q : ∀ x H', H1 x = none → Same H1 H' → RatAt C H' x (lowT t b) (lowB t b) → Q (.ref x) H') :
    ∀ x dx, H1 x = none → H1 dx = none → dx ≠ x → spRInit C [.ref x, .int t, .int b] (upd (upd H1 dx (.own x)) x (.ins C dx [])) (fun v H2 => v = .non ∧ Q (.ref x) H2) E := fun x dx hx hdx hne =>
  ⟨x, dx, t, b, rfl, upd_same, hb, hz, fun H' hR hk => ⟨rfl, q x H' hx (fun c o e => hk c o (by rw [upd_ne (ne_of_none e hx), upd_ne (ne_of_none e hdx)]; exact e) (ne_of_none e hx)) hR⟩⟩
abbrev sRInit : Stmt := inClass (top 17) 0
theorem scRI : FnScope ["self", "top", "bottom", "divisor"] ["self", "top", "bottom"] (defScope sRInit) := ⟨rfl, rfl, rfl, by decide +kernel, rfl, by decide +kernel, by decide +kernel⟩
theorem ok_rinit {f f1 : Addr} {fd fd1 : FuncData} (F : FunD K "__init__" "Ratio.__init__" (defArgs sRInit) (defBody sRInit) (defScope sRInit) [.int 1] [] f fd) (T : Bl mg) (T_Ratio : RatT K mg C) (C_is_int : Cal P w K mg base 1 "is_int" f1 fd1 ["value"] (spIsInt K)) :
    FnOk P w K mg base CX0 2 f fd ["self", "top", "bottom"] (spRInit C) := by
  refine F.ok scRI (fun vs H Q E h => ?_) (fun cdv A outer s H vs Q E hr h => ?_)
  · obtain ⟨x, dx, t, b, rfl, _⟩ := h
    rfl
  · obtain ⟨x, dx, t, b, rfl, hx, hb, hz, q⟩ := h
    have nd := scRI.nd
    refine ⟨_, pss_cons (ps_if (pt_not (pt_val (pe_call C_is_int.F (hr.mono (by decide)) (by rfl) C_is_int.mgf C_is_int.kp C_is_int.b .nil pass0 (pa_cons (pv 1) pa_nil)))) pss_never pss_nil)
      (pss_cons (ps_if (pt_not (pt_val (pe_call C_is_int.F (hr.mono (by decide)) (by rfl) C_is_int.mgf C_is_int.kp C_is_int.b .nil pass0 (pa_cons (pv 2) pa_nil)))) pss_never pss_nil)
      (pss_cons (ps_if (pt_cmpR op_eq (pv 2) pe_int (nomark _)) pss_never pss_nil)
      (pss_cons (ps_set (i := 3) nd rfl (Or.inl rfl) (pe_ifExp (pt_cmpR op_gt (pv 2) pe_int (nomark _)) (pe_callBfun cr_gcd (by rfl) T.gcd (pa_cons (pv 1) (pa_cons (pv 2) pa_nil))) (pe_un un_neg (pe_callBfun cr_gcd (by rfl) T.gcd (pa_cons (pv 1) (pa_cons (pv 2) pa_nil))))))
      (pss_cons (ps_fld (pv 0) (pe_op op_fdivZ (pv 1) (pv 3)) rfl)
      (pss_one (ps_fld (pv 0) (pe_op op_fdivZ (pv 2) (pv 3)) rfl)))))), ?_⟩
    refine ⟨_, rfl, _, _, true, rfl, .base (.int _), isIntK_int, _, rfl, iteF ?_⟩
    refine ⟨_, rfl, _, _, true, rfl, .base (.int _), isIntK_int, _, rfl, iteF ?_⟩
    refine ⟨_, rfl, rfl, _, rfl, ?_⟩
    refine ite2 (fun e => absurd e (vint_ne hb)) (fun _ => ?_)
    refine ⟨_, rfl, _, _, rfl, rfl, _, rfl, ?_⟩
    have fin : ∀ z : Int, z = lowD t b → Q .non (upd (upd H x (.ins C dx (putF "top" (.int (t.fdiv z)) []))) x (.ins C dx (putF "bottom" (.int (b.fdiv z)) (putF "top" (.int (t.fdiv z)) [])))) := fun z e =>
      q _ ⟨dx, by rw [e]; exact upd_same⟩ fun c o h n => by rw [upd_ne n, upd_ne n]; exact h
    refine ite2 (fun hp => ?_) (fun hp => ?_)
    · have hp1 : 0 < b := of_decide_eq_true hp
      refine ⟨_, rfl, _, rfl, _, _, rfl, ?_⟩
      refine ⟨_, rfl, _, rfl, _, _, rfl, rfl, (Sz.gcd hb hz).div (by have := gcdI_pos (t := t) hb; exact Int.ne_of_gt this), _, rfl, x, C, dx, _, rfl, hx, T_Ratio.cl, T_Ratio.nT, (by decide : 0 < 1000), ?_⟩
      refine ⟨_, rfl, _, rfl, _, _, rfl, rfl, (Sz.gcd hb hz).div (by have := gcdI_pos (t := t) hb; exact Int.ne_of_gt this), _, rfl, x, C, dx, _, rfl, upd_same, T_Ratio.cl, T_Ratio.nB, (by decide : 1 < 1000), ?_⟩
      exact fin _ (by unfold lowD; rw [if_pos hp1]; rfl)
    · have hp1 : ¬ 0 < b := fun e => hp (decide_eq_true e)
      refine ⟨_, rfl, _, rfl, _, _, rfl, _, rfl, ?_⟩
      refine ⟨_, rfl, _, rfl, _, _, rfl, rfl, (Sz.gcd hb hz).neg.div (gcdI_neg hb), _, rfl, x, C, dx, _, rfl, hx, T_Ratio.cl, T_Ratio.nT, (by decide : 0 < 1000), ?_⟩
      refine ⟨_, rfl, _, rfl, _, _, rfl, rfl, (Sz.gcd hb hz).neg.div (gcdI_neg hb), _, rfl, x, C, dx, _, rfl, upd_same, T_Ratio.cl, T_Ratio.nB, (by decide : 1 < 1000), ?_⟩
      exact fin _ (by unfold lowD; rw [if_neg hp1]; rfl)

/-- comparisons -/
def spCmp (C : Addr) (g : Int → Bool) : Sp := fun vs H Q _ => ∃ v u n d m e, vs = [v, u] ∧ NumAt C H v n d ∧ NumAt C H u m e ∧ (Sz n ∧ Sz d ∧ Sz m ∧ Sz e) ∧ ∀ H', Same H H' → Q (.bl (g (n * e - m * d))) H'
structure Opr (P : Program) (w : World) (K : PySem.W.Frag) (mg : Str → Option Value) (base : Heap) (k : Nat) (C : Addr) (m : Str) (f : Addr) (fd : FuncData) (ps : List Str) (sp : Sp) : Prop where
  at_ : PySem.W.findIn K (.ref C) m = some (some (.ref f))
  fn : PySem.W.isFn K (.ref f) = true
  F : FnOk P w K mg base CX0 k f fd ps sp
  b : Binds K fd ps []
abbrev sLt : Stmt := inClass (top 17) 22
theorem scLt : FnScope ["self", "other"] ["self", "other"] (defScope sLt) := ⟨rfl, rfl, rfl, by decide +kernel, rfl, by decide +kernel, by decide +kernel⟩
theorem ok_lt {f p1 f1 f2 : Addr} {fd fd1 fd2 : FuncData} (F : Fun K "__lt__" "Ratio.__lt__" sLt f fd) (T_Ratio : RatT K mg C)
    (S_Ratio_is_number : Sta P w K mg base 2 C "is_number" p1 f1 fd1 ["value"] (spIsNum K C)) (C__lead : Cal P w K mg base 2 "_lead" f2 fd2 ["one", "other"] (spLead C)) : FnOk P w K mg base CX0 3 f fd ["self", "other"] (spCmp C fun z => decide (z < 0)) := by
  refine F.ok scLt (fun vs H Q E h => ?_) (fun cdv A outer s H vs Q E hr h => ?_)
  · obtain ⟨v, u, n, d, m, e, rfl, _⟩ := h
    rfl
  · obtain ⟨v, u, n, d, m, e, rfl, hv, hu, hz, q⟩ := h
    have nd := scLt.nd
    refine ⟨_, pss_cons (ps_if (pt_not (pt_val (Own.pe_smeth T_Ratio.rd S_Ratio_is_number.s S_Ratio_is_number.F (hr.mono (by decide)) S_Ratio_is_number.b pass0 (Own.pe_gref (by rfl) T_Ratio.mgC) (pa_cons (pv 1) pa_nil)))) pss_never pss_nil)
      (pss_one (ps_ret (pe_cmpR op_lt (pe_call C__lead.F (hr.mono (by decide)) (by rfl) C__lead.mgf C__lead.kp C__lead.b .nil pass0 (pa_cons (pv 0) (pa_cons (pv 1) pa_nil))) pe_int (nomark _)))), ?_⟩
    obtain ⟨t, b, c, ty, hb, hc, hbc⟩ := hu.info T_Ratio.toClT
    refine ⟨rfl, _, rfl, _, t, b, c, rfl, ty, hb, hc, _, rfl, iteNot hbc ?_⟩
    exact ⟨_, rfl, _, rfl, v, u, n, d, m, e, rfl, hv, hu, hz, fun H' s1 => ⟨_, _, rfl, rfl, q H' s1⟩⟩
abbrev sLeq : Stmt := inClass (top 17) 23
theorem scLeq : FnScope ["self", "other"] ["self", "other"] (defScope sLeq) := ⟨rfl, rfl, rfl, by decide +kernel, rfl, by decide +kernel, by decide +kernel⟩
theorem ok_le {f p1 f1 f2 : Addr} {fd fd1 fd2 : FuncData} (F : Fun K "__le__" "Ratio.__le__" sLeq f fd) (T_Ratio : RatT K mg C)
    (S_Ratio_is_number : Sta P w K mg base 2 C "is_number" p1 f1 fd1 ["value"] (spIsNum K C)) (C__lead : Cal P w K mg base 2 "_lead" f2 fd2 ["one", "other"] (spLead C)) : FnOk P w K mg base CX0 3 f fd ["self", "other"] (spCmp C fun z => decide (z ≤ 0)) := by
  refine F.ok scLeq (fun vs H Q E h => ?_) (fun cdv A outer s H vs Q E hr h => ?_)
  · obtain ⟨v, u, n, d, m, e, rfl, _⟩ := h
    rfl
  · obtain ⟨v, u, n, d, m, e, rfl, hv, hu, hz, q⟩ := h
    have nd := scLeq.nd
    refine ⟨_, pss_cons (ps_if (pt_not (pt_val (Own.pe_smeth T_Ratio.rd S_Ratio_is_number.s S_Ratio_is_number.F (hr.mono (by decide)) S_Ratio_is_number.b pass0 (Own.pe_gref (by rfl) T_Ratio.mgC) (pa_cons (pv 1) pa_nil)))) pss_never pss_nil)
      (pss_one (ps_ret (pe_cmpR op_le (pe_call C__lead.F (hr.mono (by decide)) (by rfl) C__lead.mgf C__lead.kp C__lead.b .nil pass0 (pa_cons (pv 0) (pa_cons (pv 1) pa_nil))) pe_int (nomark _)))), ?_⟩
    obtain ⟨t, b, c, ty, hb, hc, hbc⟩ := hu.info T_Ratio.toClT
    refine ⟨rfl, _, rfl, _, t, b, c, rfl, ty, hb, hc, _, rfl, iteNot hbc ?_⟩
    exact ⟨_, rfl, _, rfl, v, u, n, d, m, e, rfl, hv, hu, hz, fun H' s1 => ⟨_, _, rfl, rfl, q H' s1⟩⟩
abbrev sGt : Stmt := inClass (top 17) 24
theorem scGt : FnScope ["self", "other"] ["self", "other"] (defScope sGt) := ⟨rfl, rfl, rfl, by decide +kernel, rfl, by decide +kernel, by decide +kernel⟩
theorem ok_gt {f p1 f1 f2 : Addr} {fd fd1 fd2 : FuncData} (F : Fun K "__gt__" "Ratio.__gt__" sGt f fd) (T_Ratio : RatT K mg C)
    (S_Ratio_is_number : Sta P w K mg base 2 C "is_number" p1 f1 fd1 ["value"] (spIsNum K C)) (C__lead : Cal P w K mg base 2 "_lead" f2 fd2 ["one", "other"] (spLead C)) : FnOk P w K mg base CX0 3 f fd ["self", "other"] (spCmp C fun z => decide (0 < z)) := by
  refine F.ok scGt (fun vs H Q E h => ?_) (fun cdv A outer s H vs Q E hr h => ?_)
  · obtain ⟨v, u, n, d, m, e, rfl, _⟩ := h
    rfl
  · obtain ⟨v, u, n, d, m, e, rfl, hv, hu, hz, q⟩ := h
    have nd := scGt.nd
    refine ⟨_, pss_cons (ps_if (pt_not (pt_val (Own.pe_smeth T_Ratio.rd S_Ratio_is_number.s S_Ratio_is_number.F (hr.mono (by decide)) S_Ratio_is_number.b pass0 (Own.pe_gref (by rfl) T_Ratio.mgC) (pa_cons (pv 1) pa_nil)))) pss_never pss_nil)
      (pss_one (ps_ret (pe_cmpR op_gt (pe_call C__lead.F (hr.mono (by decide)) (by rfl) C__lead.mgf C__lead.kp C__lead.b .nil pass0 (pa_cons (pv 0) (pa_cons (pv 1) pa_nil))) pe_int (nomark _)))), ?_⟩
    obtain ⟨t, b, c, ty, hb, hc, hbc⟩ := hu.info T_Ratio.toClT
    refine ⟨rfl, _, rfl, _, t, b, c, rfl, ty, hb, hc, _, rfl, iteNot hbc ?_⟩
    exact ⟨_, rfl, _, rfl, v, u, n, d, m, e, rfl, hv, hu, hz, fun H' s1 => ⟨_, _, rfl, rfl, q H' s1⟩⟩
abbrev sGe : Stmt := inClass (top 17) 25
theorem scGe : FnScope ["self", "other"] ["self", "other"] (defScope sGe) := ⟨rfl, rfl, rfl, by decide +kernel, rfl, by decide +kernel, by decide +kernel⟩
theorem ok_ge {f p1 f1 f2 : Addr} {fd fd1 fd2 : FuncData} (F : Fun K "__ge__" "Ratio.__ge__" sGe f fd) (T_Ratio : RatT K mg C)
    (S_Ratio_is_number : Sta P w K mg base 2 C "is_number" p1 f1 fd1 ["value"] (spIsNum K C)) (C__lead : Cal P w K mg base 2 "_lead" f2 fd2 ["one", "other"] (spLead C)) : FnOk P w K mg base CX0 3 f fd ["self", "other"] (spCmp C fun z => decide (0 ≤ z)) := by
  refine F.ok scGe (fun vs H Q E h => ?_) (fun cdv A outer s H vs Q E hr h => ?_)
  · obtain ⟨v, u, n, d, m, e, rfl, _⟩ := h
    rfl
  · obtain ⟨v, u, n, d, m, e, rfl, hv, hu, hz, q⟩ := h
    have nd := scGe.nd
    refine ⟨_, pss_cons (ps_if (pt_not (pt_val (Own.pe_smeth T_Ratio.rd S_Ratio_is_number.s S_Ratio_is_number.F (hr.mono (by decide)) S_Ratio_is_number.b pass0 (Own.pe_gref (by rfl) T_Ratio.mgC) (pa_cons (pv 1) pa_nil)))) pss_never pss_nil)
      (pss_one (ps_ret (pe_cmpR op_ge (pe_call C__lead.F (hr.mono (by decide)) (by rfl) C__lead.mgf C__lead.kp C__lead.b .nil pass0 (pa_cons (pv 0) (pa_cons (pv 1) pa_nil))) pe_int (nomark _)))), ?_⟩
    obtain ⟨t, b, c, ty, hb, hc, hbc⟩ := hu.info T_Ratio.toClT
    refine ⟨rfl, _, rfl, _, t, b, c, rfl, ty, hb, hc, _, rfl, iteNot hbc ?_⟩
    exact ⟨_, rfl, _, rfl, v, u, n, d, m, e, rfl, hv, hu, hz, fun H' s1 => ⟨_, _, rfl, rfl, q H' s1⟩⟩

end
end Toy
set_option maxRecDepth 100000
set_option maxHeartbeats 4000000
namespace Toy
open PySem L2
/-! ### Ratio.of, ends -/
theorem vdec (a b : Int) : decide (V.int a = V.int b) = decide (a = b) := by
  by_cases h : a = b
  · rw [decide_eq_true h, decide_eq_true (congrArg V.int h)]
  · rw [decide_eq_false h, decide_eq_false fun e => h (V.int.inj e)]
theorem Sz0 : Sz 0 := by unfold Sz; decide +kernel
theorem Sz1 : Sz 1 := by unfold Sz; decide +kernel
theorem NumAt.ref {C : Addr} {H : Hp} {v : V} {n d : Int} (h : NumAt C H v n d) : (∃ i, v = .int i ∧ n = i ∧ d = 1) ∨ ∃ a, v = .ref a ∧ RatAt C H a n d := by
  cases h with
  | int => exact .inl ⟨_, rfl, rfl, rfl⟩
  | rat h => exact .inr ⟨_, rfl, h⟩
theorem and2 {a b : Bool} (h : a = true) (h' : b = true) : (a && b) = true := by rw [h, h']; rfl
theorem iteTb {b : Bool} {A B : Prop} (h : b = true) (x : A) : if b = true then A else B := by
  subst h
  exact iteT x
theorem iteFb {b : Bool} {A B : Prop} (h : b = false) (x : B) : if b = true then A else B := by
  subst h
  exact iteF x
section
variable {P : Program} {w : World} {K : PySem.W.Frag} {mg : Str → Option Value} {base : Heap} {C CP : Addr}
def spOf (C : Addr) : Sp := fun vs H Q _ => ∃ v n d, vs = [v] ∧ NumAt C H v n d ∧ ∀ r H', RatAt C H' r n d → Same H H' → Q (.ref r) H'
abbrev sOf : Stmt := inClass (top 17) 3
theorem scOf : FnScope ["number"] ["number"] (defScope sOf) := ⟨rfl, rfl, rfl, by decide +kernel, rfl, by decide +kernel, by decide +kernel⟩
theorem gcdI_one (i : Int) : gcdI i 1 = 1 := by
  unfold gcdI
  show ((Nat.gcd i.natAbs 1 : Nat) : Int) = 1
  rw [Nat.gcd_one_right]
  rfl
theorem ok_of {f f1 f2 : Addr} {fd fd1 fd2 : FuncData} {dvs : List Value} (F : Fun K "of" "Ratio.of" sOf f fd) (T : Bl mg) (T_Ratio : RatT K mg C) (C_is_int : Cal P w K mg base 1 "is_int" f1 fd1 ["value"] (spIsInt K))
    (M_Ratio : Mak P w K mg base 2 "Ratio" C f2 fd2 ["self", "top", "bottom"] (spRInit C)) (hd : Vals [V.int 1] dvs) (hb1 : Binds K fd2 ["self", "top", "bottom"] dvs) : FnOk P w K mg base CX0 4 f fd ["number"] (spOf C) := by
  refine F.ok scOf (fun vs H Q E h => ?_) (fun cdv A outer s H vs Q E hr h => ?_)
  · obtain ⟨v, n, d, rfl, _⟩ := h
    rfl
  · obtain ⟨v, n, d, rfl, hv, q⟩ := h
    have nd := scOf.nd
    refine ⟨_, pss_cons (ps_if (pt_val (pe_callB call_isi (by rfl) T.isinstance (by decide +kernel) (pa_cons (pv 0) (pa_cons (Own.pe_gref (by rfl) T_Ratio.mgC) pa_nil)))) (pss_one (ps_ret (pv 0))) pss_nil)
      (pss_cons (ps_if (pt_not (pt_val (pe_call C_is_int.F (hr.mono (by decide)) (by rfl) C_is_int.mgf C_is_int.kp C_is_int.b .nil pass0 (pa_cons (pv 0) pa_nil)))) pss_never pss_nil)
      (pss_one (ps_ret (pe_make M_Ratio.M M_Ratio.F (hr.mono (by decide)) (by rfl) M_Ratio.mgC hb1 hd pass0 (pa_cons (pv 0) pa_nil))))), ?_⟩
    rcases hv.ref with ⟨i, rfl, rfl, rfl⟩ | ⟨a, rfl, hR⟩
    · refine ⟨_, rfl, _, _, _, _, false, rfl, .own _, .base (.int _), T_Ratio.iK, _, rfl, iteF ?_⟩
      refine ⟨_, rfl, _, _, true, rfl, .base (.int _), isIntK_int, _, rfl, iteF ?_⟩
      refine ⟨_, rfl, ?_⟩
      refine spRInit.make (t := n) (b := 1) (by decide) Sz1 fun x H' _ s1 hR => ?_
      rw [lowT_one (by decide) (gcdI_one n), lowB_one (by decide) (gcdI_one n)] at hR
      exact q x H' hR s1
    · obtain ⟨dx, h⟩ := id hR
      refine ⟨_, rfl, _, _, _, _, true, rfl, .own _, T_Ratio.ty h, T_Ratio.kS, _, rfl, iteT ?_⟩
      exact ⟨_, rfl, q a H hR (Same.refl H)⟩

/-- whether a number lies from its left bound on and below the right one -/
def spEnd (C : Addr) (g : Int → Int → Bool) : Sp := fun vs H Q _ => ∃ v n d, vs = [v] ∧ NumAt C H v n d ∧ 0 < d ∧ (Sz n ∧ Sz d) ∧ ∀ H', Same H H' → Q (.bl (g n d)) H'
abbrev sLE : Stmt := top 24
theorem scLE : FnScope ["value"] ["value"] (defScope sLE) := ⟨rfl, rfl, rfl, by decide +kernel, rfl, by decide +kernel, by decide +kernel⟩
theorem ok_lend {f p1 f1 f2 f3 : Addr} {fd fd1 fd2 fd3 : FuncData} (F : Fun K "_is_left_end" "_is_left_end" sLE f fd) (T_Ratio : RatT K mg C) (S_Ratio_is_number : Sta P w K mg base 2 C "is_number" p1 f1 fd1 ["value"] (spIsNum K C))
    (O_ge : Opr P w K mg base 3 C "__ge__" f2 fd2 ["self", "other"] (spCmp C fun z => decide (0 ≤ z))) (O_lt : Opr P w K mg base 3 C "__lt__" f3 fd3 ["self", "other"] (spCmp C fun z => decide (z < 0))) :
    FnOk P w K mg base CX0 4 f fd ["value"] (spEnd C fun n d => decide (0 ≤ n) && decide (n < d)) := by
  refine F.ok scLE (fun vs H Q E h => ?_) (fun cdv A outer s H vs Q E hr h => ?_)
  · obtain ⟨v, n, d, rfl, _⟩ := h
    rfl
  · obtain ⟨v, n, d, rfl, hv, hd, ⟨z1, z2⟩, q⟩ := h
    have nd := scLE.nd
    have q' : ∀ H', Same H H' → Q (.bl (decide (0 ≤ n) && decide (n < d))) H' := q
    refine ⟨_, pss_one (ps_ret (pe_and (Own.pe_smeth T_Ratio.rd S_Ratio_is_number.s S_Ratio_is_number.F (hr.mono (by decide)) S_Ratio_is_number.b pass0 (Own.pe_gref (by rfl) T_Ratio.mgC) (pa_cons (pv 0) pa_nil)) (pe_and (pe_cmpR (OpR.or op_le (Own.op_reflC O_ge.F (hr.mono (by decide)) O_ge.at_ O_ge.fn T_Ratio.sI O_ge.b pass0 PySem.F.slot_int_le PySem.F.entry_int_le PySem.F.args_int_le_2 Own.int_le_dec ⟨by decide, by decide⟩)) pe_int (pv 0) (nomark _)) (pe_one (pe_cmpR (OpR.or op_lt (Own.op_ownC O_lt.F (hr.mono (by decide)) O_lt.at_ O_lt.fn O_lt.b pass0)) (pv 0) pe_int (nomark _)))))), ?_⟩
    obtain ⟨t, b, c, ty, hb, hc, hbc⟩ := hv.info T_Ratio.toClT
    refine ⟨rfl, _, rfl, _, t, b, c, rfl, ty, hb, hc, _, rfl, ?_⟩
    rw [hbc]
    refine iteT ?_
    rcases hv.ref with ⟨i, rfl, rfl, rfl⟩ | ⟨a, rfl, hR⟩
    · refine ⟨_, rfl, .inl ⟨_, _, rfl, rfl, _, rfl, ?_⟩⟩
      by_cases h0 : 0 ≤ n
      · refine iteTb (decide_eq_true h0) ⟨_, rfl, .inl ⟨_, _, rfl, rfl, ?_⟩⟩
        have := q' H (Same.refl H)
        rw [decide_eq_true h0, Bool.true_and] at this
        exact this
      · refine iteFb (decide_eq_false h0) ?_
        have := q' H (Same.refl H)
        rw [decide_eq_false h0, Bool.false_and] at this
        exact this
    · obtain ⟨dx, h⟩ := id hR
      refine ⟨_, rfl, .inr ⟨_, a, dx, _, rfl, rfl, h, .ref a, .int 0, n, d, 0, 1, rfl, .rat hR, .int 0, ⟨z1, z2, Sz0, Sz1⟩, fun H' s1 => ⟨⟨_, rfl⟩, _, rfl, ?_⟩⟩⟩
      have e0 : n * 1 - 0 * d = n := by omega
      by_cases h0 : 0 ≤ n
      · refine iteTb (by rw [e0]; exact decide_eq_true h0) ⟨_, rfl, .inr ⟨a, dx, _, _, rfl, s1 _ _ h, .base (.int 1), T_Ratio.nI, .ref a, .int 1, n, d, 1, 1, rfl, .rat (hR.same s1), .int 1, ⟨z1, z2, Sz1, Sz1⟩, fun H2 s2 => ⟨⟨_, rfl⟩, ?_⟩⟩⟩
        show Q (.bl (decide (n * 1 - 1 * d < 0))) H2
        rw [show n * 1 - 1 * d = n - d by omega]
        have := q' H2 (s1.trans s2)
        rw [decide_eq_true h0, Bool.true_and] at this
        rw [show decide (n - d < 0) = decide (n < d) from decide_eq_decide.mpr (by omega)]
        exact this
      · refine iteFb (by rw [e0]; exact decide_eq_false h0) ?_
        have := q' H' s1
        rw [decide_eq_false h0, Bool.false_and] at this
        exact this
abbrev sRE : Stmt := top 25
theorem scRE : FnScope ["value"] ["value"] (defScope sRE) := ⟨rfl, rfl, rfl, by decide +kernel, rfl, by decide +kernel, by decide +kernel⟩
theorem ok_rend {f p1 f1 f2 f3 : Addr} {fd fd1 fd2 fd3 : FuncData} (F : Fun K "_is_right_end" "_is_right_end" sRE f fd) (T_Ratio : RatT K mg C) (S_Ratio_is_number : Sta P w K mg base 2 C "is_number" p1 f1 fd1 ["value"] (spIsNum K C))
    (O_gt : Opr P w K mg base 3 C "__gt__" f2 fd2 ["self", "other"] (spCmp C fun z => decide (0 < z))) (O_le : Opr P w K mg base 3 C "__le__" f3 fd3 ["self", "other"] (spCmp C fun z => decide (z ≤ 0))) :
    FnOk P w K mg base CX0 4 f fd ["value"] (spEnd C fun n d => decide (0 < n) && decide (n ≤ d)) := by
  refine F.ok scRE (fun vs H Q E h => ?_) (fun cdv A outer s H vs Q E hr h => ?_)
  · obtain ⟨v, n, d, rfl, _⟩ := h
    rfl
  · obtain ⟨v, n, d, rfl, hv, hd, ⟨z1, z2⟩, q⟩ := h
    have nd := scRE.nd
    have q' : ∀ H', Same H H' → Q (.bl (decide (0 < n) && decide (n ≤ d))) H' := q
    refine ⟨_, pss_one (ps_ret (pe_and (Own.pe_smeth T_Ratio.rd S_Ratio_is_number.s S_Ratio_is_number.F (hr.mono (by decide)) S_Ratio_is_number.b pass0 (Own.pe_gref (by rfl) T_Ratio.mgC) (pa_cons (pv 0) pa_nil)) (pe_and (pe_cmpR (OpR.or op_lt (Own.op_reflC O_gt.F (hr.mono (by decide)) O_gt.at_ O_gt.fn T_Ratio.sI O_gt.b pass0 PySem.F.slot_int_lt PySem.F.entry_int_lt PySem.F.args_int_lt_2 Own.int_lt_dec ⟨by decide, by decide⟩)) pe_int (pv 0) (nomark _)) (pe_one (pe_cmpR (OpR.or op_le (Own.op_ownC O_le.F (hr.mono (by decide)) O_le.at_ O_le.fn O_le.b pass0)) (pv 0) pe_int (nomark _)))))), ?_⟩
    obtain ⟨t, b, c, ty, hb, hc, hbc⟩ := hv.info T_Ratio.toClT
    refine ⟨rfl, _, rfl, _, t, b, c, rfl, ty, hb, hc, _, rfl, ?_⟩
    rw [hbc]
    refine iteT ?_
    rcases hv.ref with ⟨i, rfl, rfl, rfl⟩ | ⟨a, rfl, hR⟩
    · refine ⟨_, rfl, .inl ⟨_, _, rfl, rfl, _, rfl, ?_⟩⟩
      by_cases h0 : 0 < n
      · refine iteTb (decide_eq_true h0) ⟨_, rfl, .inl ⟨_, _, rfl, rfl, ?_⟩⟩
        have := q' H (Same.refl H)
        rw [decide_eq_true h0, Bool.true_and] at this
        exact this
      · refine iteFb (decide_eq_false h0) ?_
        have := q' H (Same.refl H)
        rw [decide_eq_false h0, Bool.false_and] at this
        exact this
    · obtain ⟨dx, h⟩ := id hR
      refine ⟨_, rfl, .inr ⟨_, a, dx, _, rfl, rfl, h, .ref a, .int 0, n, d, 0, 1, rfl, .rat hR, .int 0, ⟨z1, z2, Sz0, Sz1⟩, fun H' s1 => ⟨⟨_, rfl⟩, _, rfl, ?_⟩⟩⟩
      have e0 : n * 1 - 0 * d = n := by omega
      by_cases h0 : 0 < n
      · refine iteTb (by rw [e0]; exact decide_eq_true h0) ⟨_, rfl, .inr ⟨a, dx, _, _, rfl, s1 _ _ h, .base (.int 1), T_Ratio.nI, .ref a, .int 1, n, d, 1, 1, rfl, .rat (hR.same s1), .int 1, ⟨z1, z2, Sz1, Sz1⟩, fun H2 s2 => ⟨⟨_, rfl⟩, ?_⟩⟩⟩
        show Q (.bl (decide (n * 1 - 1 * d ≤ 0))) H2
        rw [show n * 1 - 1 * d = n - d by omega]
        have := q' H2 (s1.trans s2)
        rw [decide_eq_true h0, Bool.true_and] at this
        rw [show decide (n - d ≤ 0) = decide (n ≤ d) from decide_eq_decide.mpr (by omega)]
        exact this
      · refine iteFb (by rw [e0]; exact decide_eq_false h0) ?_
        have := q' H' s1
        rw [decide_eq_false h0, Bool.false_and] at this
        exact this

def spNeigh (C : Addr) : Sp := fun vs H Q _ => ∃ v u a b c d, vs = [v, u] ∧ NumAt C H v a b ∧ NumAt C H u c d ∧ (Sz a ∧ Sz b ∧ Sz c ∧ Sz d) ∧ ∀ H', Same H H' → Q (.bl (decide (b * c - a * d = 1))) H'
abbrev sNeigh : Stmt := top 27
theorem scNe : FnScope ["left", "right", "a", "b", "c", "d"] ["left", "right"] (defScope sNeigh) := ⟨rfl, rfl, rfl, by decide +kernel, rfl, by decide +kernel, by decide +kernel⟩
theorem ok_neigh {f f1 : Addr} {fd fd1 : FuncData} (F : Fun K "_are_neighbours" "_are_neighbours" sNeigh f fd) (C_parts_of : Cal P w K mg base 1 "parts_of" f1 fd1 ["number"] (spParts C)) : FnOk P w K mg base CX0 2 f fd ["left", "right"] (spNeigh C) := by
  refine F.ok scNe (fun vs H Q E h => ?_) (fun cdv A outer s H vs Q E hr h => ?_)
  · obtain ⟨v, u, a, b, c, d, rfl, _⟩ := h
    rfl
  · obtain ⟨v, u, a, b, c, d, rfl, hv, hu, ⟨z1, z2, z3, z4⟩, q⟩ := h
    have nd := scNe.nd
    refine ⟨_, pss_cons (ps_asg (pe_call C_parts_of.F (hr.mono (by decide)) (by rfl) C_parts_of.mgf C_parts_of.kp C_parts_of.b .nil pass0 (pa_cons (pv 0) pa_nil)) (pg_tup (by rfl) (pgs_cons (pg_name (i := 2) nd rfl (Or.inl rfl)) (pgs_cons (pg_name (i := 3) nd rfl (Or.inl rfl)) pgs_nil))))
      (pss_cons (ps_asg (pe_call C_parts_of.F (hr.mono (by decide)) (by rfl) C_parts_of.mgf C_parts_of.kp C_parts_of.b .nil pass0 (pa_cons (pv 1) pa_nil)) (pg_tup (by rfl) (pgs_cons (pg_name (i := 4) nd rfl (Or.inl rfl)) (pgs_cons (pg_name (i := 5) nd rfl (Or.inl rfl)) pgs_nil))))
      (pss_one (ps_ret (pe_cmpR op_eq (pe_op op_sub (pe_op op_mulW (pv 3) (pv 4)) (pe_op op_mulW (pv 2) (pv 5))) pe_int (nomark _))))), ?_⟩
    refine ⟨_, rfl, _, _, _, rfl, hv, fun p hp => ⟨_, _, rfl, SqT.of upd_same, rfl, _, _, rfl, _, _, rfl, rfl, ?_⟩⟩
    have s1 : Same H (upd H p (.tup [.int a, .int b])) := same_new hp
    refine ⟨_, rfl, _, _, _, rfl, hu.same s1, fun p2 hp2 => ⟨_, _, rfl, SqT.of upd_same, rfl, _, _, rfl, _, _, rfl, rfl, ?_⟩⟩
    refine ⟨_, rfl, _, rfl, _, _, rfl, rfl, z2.mul z3, _, rfl, _, rfl, _, _, rfl, rfl, z1.mul z4, _, _, rfl, rfl, rfl, ?_⟩
    rw [vdec]
    exact q _ (s1.trans (same_new hp2))

/-! ### a piece made -/
def pieF (l r : Addr) : List (Str × V) := putF "right" (.ref r) (putF "left" (.ref l) [])
theorem lr_ne : ¬ (("left" : Str) = "right") := by decide +kernel
theorem pieF_left (l r : Addr) : (pieF l r).lookup ("left" : Str) = some (.ref l) := by
  unfold pieF
  rw [lookup_putF, if_neg lr_ne, lookup_putF, if_pos rfl]
theorem pieF_right (l r : Addr) : (pieF l r).lookup ("right" : Str) = some (.ref r) := by
  unfold pieF
  rw [lookup_putF, if_pos rfl]
theorem pieF_no (l r : Addr) {m : Str} (h1 : ¬ m = "right") (h2 : ¬ m = "left") : (pieF l r).lookup m = none := by
  unfold pieF
  rw [lookup_putF, if_neg h1, lookup_putF, if_neg h2]
  all_goals rfl
/-- the Piece (a/b, c/d) stands at x -/
def PieAt (CP C : Addr) (H : Hp) (x : Addr) (a b c d : Int) : Prop := ∃ dx l r, H x = some (.ins CP dx (pieF l r)) ∧ RatAt C H l a b ∧ RatAt C H r c d
theorem PieAt.same {H H' : Hp} {x : Addr} {a b c d : Int} (h : PieAt CP C H x a b c d) (e : Same H H') : PieAt CP C H' x a b c d := let ⟨dx, l, r, h, h1, h2⟩ := h; ⟨dx, l, r, e _ _ h, h1.same e, h2.same e⟩
structure Nbr (a b c d : Int) : Prop where
  a0 : 0 ≤ a
  ab : a < b
  c0 : 0 < c
  cd : c ≤ d
  nb : b * c - a * d = 1
  za : Sz a
  zb : Sz b
  zc : Sz c
  zd : Sz d
def spPInit (CP C : Addr) : Sp := fun vs H Q _ => ∃ x dx v u a b c d, vs = [.ref x, v, u] ∧ H x = some (.ins CP dx []) ∧ NumAt C H v a b ∧ NumAt C H u c d ∧ Nbr a b c d ∧
  ∀ H', PieAt CP C H' x a b c d → (∀ y o, H y = some o → y ≠ x → H' y = some o) → Q .non H'
theorem spPInit.make {H1 : Hp} {v u : V} {a b c d : Int} {Q : VK} {E : XK} (hv : NumAt C H1 v a b) (hu : NumAt C H1 u c d) (hn : Nbr a b c d) (q : ∀ x H', H1 x = none → Same H1 H' → PieAt CP C H' x a b c d → Q (.ref x) H') :
    ∀ x dx, H1 x = none → H1 dx = none → dx ≠ x → spPInit CP C [.ref x, v, u] (upd (upd H1 dx (.own x)) x (.ins CP dx [])) (fun v H2 => v = .non ∧ Q (.ref x) H2) E := fun x dx hx hdx hne => by
  have s1 : Same H1 (upd (upd H1 dx (.own x)) x (.ins CP dx [])) := same_two hdx hx hne
  exact ⟨x, dx, v, u, a, b, c, d, rfl, upd_same, hv.same s1, hu.same s1, hn, fun H' hR hk => ⟨rfl, q x H' hx (fun y o e => hk y o (s1 _ _ e) (ne_of_none e hx)) hR⟩⟩
abbrev sPInit : Stmt := inClass (top 23) 0
theorem scPI : FnScope ["self", "left", "right"] ["self", "left", "right"] (defScope sPInit) := ⟨rfl, rfl, rfl, by decide +kernel, rfl, by decide +kernel, by decide +kernel⟩
theorem ok_pinit {f p1 f1 f2 f3 f4 : Addr} {fd fd1 fd2 fd3 fd4 : FuncData} (F : Fun K "__init__" "Piece.__init__" sPInit f fd) (T_Ratio : RatT K mg C) (T_Piece : PieT K mg CP) (S_Ratio_of : Sta P w K mg base 4 C "of" p1 f1 fd1 ["number"] (spOf C))
    (C__is_left_end : Cal P w K mg base 4 "_is_left_end" f2 fd2 ["value"] (spEnd C fun n d => decide (0 ≤ n) && decide (n < d))) (C__is_right_end : Cal P w K mg base 4 "_is_right_end" f3 fd3 ["value"] (spEnd C fun n d => decide (0 < n) && decide (n ≤ d)))
    (C__are_neighbours : Cal P w K mg base 2 "_are_neighbours" f4 fd4 ["left", "right"] (spNeigh C)) : FnOk P w K mg base CX0 5 f fd ["self", "left", "right"] (spPInit CP C) := by
  refine F.ok scPI (fun vs H Q E h => ?_) (fun cdv A outer s H vs Q E hr h => ?_)
  · obtain ⟨x, dx, v, u, a, b, c, d, rfl, _⟩ := h
    rfl
  · obtain ⟨x, dx, v, u, a, b, c, d, rfl, hx, hv, hu, hn, q⟩ := h
    have nd := scPI.nd
    refine ⟨_, pss_cons (ps_if (pt_not (pt_val (pe_call C__is_left_end.F (hr.mono (by decide)) (by rfl) C__is_left_end.mgf C__is_left_end.kp C__is_left_end.b .nil pass0 (pa_cons (pv 1) pa_nil)))) pss_never pss_nil)
      (pss_cons (ps_if (pt_not (pt_val (pe_call C__is_right_end.F (hr.mono (by decide)) (by rfl) C__is_right_end.mgf C__is_right_end.kp C__is_right_end.b .nil pass0 (pa_cons (pv 2) pa_nil)))) pss_never pss_nil)
      (pss_cons (ps_if (pt_not (pt_val (pe_call C__are_neighbours.F (hr.mono (by decide)) (by rfl) C__are_neighbours.mgf C__are_neighbours.kp C__are_neighbours.b .nil pass0 (pa_cons (pv 1) (pa_cons (pv 2) pa_nil))))) pss_never pss_nil)
      (pss_cons (ps_fld (pv 0) (Own.pe_smeth T_Ratio.rd S_Ratio_of.s S_Ratio_of.F (hr.mono (by decide)) S_Ratio_of.b pass0 (Own.pe_gref (by rfl) T_Ratio.mgC) (pa_cons (pv 1) pa_nil)) rfl)
      (pss_one (ps_fld (pv 0) (Own.pe_smeth T_Ratio.rd S_Ratio_of.s S_Ratio_of.F (hr.mono (by decide)) S_Ratio_of.b pass0 (Own.pe_gref (by rfl) T_Ratio.mgC) (pa_cons (pv 2) pa_nil)) rfl))))), ?_⟩
    refine ⟨_, rfl, v, a, b, rfl, hv, by have := hn.a0; have := hn.ab; omega, ⟨hn.za, hn.zb⟩, fun H1 s1 => ⟨_, rfl, iteNot (and2 (decide_eq_true hn.a0) (decide_eq_true hn.ab)) ?_⟩⟩
    refine ⟨_, rfl, u, c, d, rfl, hu.same s1, by have := hn.c0; have := hn.cd; omega, ⟨hn.zc, hn.zd⟩, fun H2 s2 => ⟨_, rfl, iteNot (and2 (decide_eq_true hn.c0) (decide_eq_true hn.cd)) ?_⟩⟩
    refine ⟨_, rfl, _, rfl, v, u, a, b, c, d, rfl, (hv.same s1).same s2, (hu.same s1).same s2, ⟨hn.za, hn.zb, hn.zc, hn.zd⟩, fun H3 s3 => ⟨_, rfl, iteNot (decide_eq_true hn.nb) ?_⟩⟩
    have t3 : Same H H3 := (s1.trans s2).trans s3
    refine ⟨rfl, _, rfl, v, a, b, rfl, hv.same t3, fun l H4 hl s4 => ⟨_, rfl, x, CP, dx, _, rfl, s4 _ _ (t3 _ _ hx), T_Piece.cl, T_Piece.nL, (by decide : 0 < 1000), ?_⟩⟩
    have t4 : ∀ y o, H y = some o → y ≠ x → (upd H4 x (.ins CP dx (putF "left" (.ref l) []))) y = some o := fun y o e n => by rw [upd_ne n]; exact s4 _ _ (t3 _ _ e)
    have hu4 : NumAt C (upd H4 x (.ins CP dx (putF "left" (.ref l) []))) u c d := by
      rcases hu.ref with ⟨i, rfl, rfl, rfl⟩ | ⟨r, rfl, dr, hr⟩
      · exact .int _
      · exact .rat ⟨dr, t4 _ _ hr (ne_of hr hx (by intro z; injection z with z1 z2 z3; cases z3))⟩
    refine ⟨rfl, _, rfl, u, c, d, rfl, hu4, fun r H5 hr s5 => ⟨_, rfl, x, CP, dx, _, rfl, s5 _ _ upd_same, T_Piece.cl, T_Piece.nR, (by decide : 1 < 1000), ?_⟩⟩
    have e5 : ∀ {y : Addr} {n m : Int}, RatAt C H5 y n m → RatAt C (upd H5 x (.ins CP dx (putF "right" (.ref r) (putF "left" (.ref l) [])))) y n m := fun {y n m} h => by
      obtain ⟨dy, h⟩ := h
      refine ⟨dy, ?_⟩
      rw [upd_ne (ne_of h (s5 _ _ upd_same) (by intro z; injection z with z1 z2 z3; cases z3))]
      exact h
    have hl4 : RatAt C (upd H4 x (.ins CP dx (putF "left" (.ref l) []))) l a b := by
      obtain ⟨dl, h⟩ := hl
      refine ⟨dl, ?_⟩
      rw [upd_ne (ne_of h (s4 _ _ (t3 _ _ hx)) (by intro z; injection z with z1 z2 z3; cases z3))]
      exact h
    refine q _ ⟨dx, l, r, upd_same, e5 (hl4.same s5), e5 hr⟩ fun y o e n => ?_
    rw [upd_ne n]
    exact s5 _ _ (t4 y o e n)
end
end Toy
set_option maxRecDepth 100000
set_option maxHeartbeats 4000000
namespace Toy
open PySem L2
def kindS (u v : Int) : Str := if u = 1 ∧ v = 1 then "middle" else if v = 1 then "left" else if u = 1 then "right" else "other"
section
variable {P : Program} {w : World} {K : PySem.W.Frag} {mg : Str → Option Value} {base : Heap} {C CP : Addr}
/-- n / m lies in the piece: u and v are above 0 -/
structure InP (a b c d n m : Int) : Prop where
  nb : Nbr a b c d
  zn : Sz n
  zm : Sz m
  u0 : 0 < c * m - d * n
  v0 : 0 < b * n - a * m
def spSpot (CP C : Addr) : Sp := fun vs H Q _ => ∃ p r a b c d n m, vs = [.ref p, .ref r] ∧ PieAt CP C H p a b c d ∧ RatAt C H r n m ∧ InP a b c d n m ∧ ∀ t, H t = none → Q (.ref t) (upd H t (.tup [.int (c * m - d * n), .int (b * n - a * m)]))
abbrev sSpot1 : Stmt := top 28
theorem scS1 : FnScope ["piece", "value", "left", "right", "u", "v"] ["piece", "value"] (defScope sSpot1) := ⟨rfl, rfl, rfl, by decide +kernel, rfl, by decide +kernel, by decide +kernel⟩
theorem ok_spot1 {f : Addr} {fd : FuncData} (F : Fun K "_spot" "_spot" sSpot1 f fd) (T : Bl mg) (T_Ratio : RatT K mg C) (T_Piece : PieT K mg CP) : FnOk P w K mg base CX0 1 f fd ["piece", "value"] (spSpot CP C) := by
  refine F.ok scS1 (fun vs H Q E h => ?_) (fun cdv A outer s H vs Q E hr h => ?_)
  · obtain ⟨p, r, a, b, c, d, n, m, rfl, _⟩ := h
    rfl
  · obtain ⟨p, r, a, b, c, d, n, m, rfl, ⟨dp, l, r2, hp, ⟨dl, hl⟩, ⟨dr, hr2⟩⟩, ⟨dx, hx⟩, hi, q⟩ := h
    have nd := scS1.nd
    refine ⟨_, pss_cons (ps_if (pt_not (pt_val (pe_callB call_isi (by rfl) T.isinstance (by decide +kernel) (pa_cons (pv 1) (pa_cons (Own.pe_gref (by rfl) T_Ratio.mgC) pa_nil))))) (pss_one (ps_ret pe_non)) pss_nil)
      (pss_cons (ps_par (i := 2) (j := 3) (by rfl) nd rfl rfl (by decide) rfl rfl (pa_cons (pe_fld (pv 0) rfl) (pa_cons (pe_fld (pv 0) rfl) pa_nil)) (by rfl))
      (pss_cons (ps_set (i := 4) nd rfl (Or.inl rfl) (pe_op op_sub (pe_op op_mulW (pe_fld (pv 3) rfl) (pe_fld (pv 1) rfl)) (pe_op op_mulW (pe_fld (pv 3) rfl) (pe_fld (pv 1) rfl))))
      (pss_cons (ps_set (i := 5) nd rfl (Or.inl rfl) (pe_op op_sub (pe_op op_mulW (pe_fld (pv 2) rfl) (pe_fld (pv 1) rfl)) (pe_op op_mulW (pe_fld (pv 2) rfl) (pe_fld (pv 1) rfl))))
      (pss_one (ps_ret (pe_ifExp (PW.pt (pw_and (pt_cmpR op_gt (pv 4) pe_int (nomark _)) (pw_and1 (pt_cmpR op_gt (pv 5) pe_int (nomark _))))) (pe_tup (pa_cons (pv 4) (pa_cons (pv 5) pa_nil))) pe_non)))))), ?_⟩
    refine ⟨_, rfl, _, _, _, _, true, rfl, .own _, T_Ratio.ty hx, T_Ratio.kS, _, rfl, iteF ?_⟩
    refine ⟨_, rfl, p, CP, dp, _, _, rfl, hp, T_Piece.cl, T_Piece.nL, pieF_left _ _, _, rfl, p, CP, dp, _, _, rfl, hp, T_Piece.cl, T_Piece.nR, pieF_right _ _, _, _, rfl, ?_⟩
    refine ⟨_, rfl, r2, C, dr, _, _, rfl, hr2, T_Ratio.cl, T_Ratio.nT, ratF_top _ _, _, rfl, r, C, dx, _, _, rfl, hx, T_Ratio.cl, T_Ratio.nB, ratF_bot _ _, _, _, rfl, rfl, hi.nb.zc.mul hi.zm, ?_⟩
    refine ⟨_, rfl, r2, C, dr, _, _, rfl, hr2, T_Ratio.cl, T_Ratio.nB, ratF_bot _ _, _, rfl, r, C, dx, _, _, rfl, hx, T_Ratio.cl, T_Ratio.nT, ratF_top _ _, _, _, rfl, rfl, hi.nb.zd.mul hi.zn, _, _, rfl, rfl, ?_⟩
    refine ⟨_, rfl, l, C, dl, _, _, rfl, hl, T_Ratio.cl, T_Ratio.nB, ratF_bot _ _, _, rfl, r, C, dx, _, _, rfl, hx, T_Ratio.cl, T_Ratio.nT, ratF_top _ _, _, _, rfl, rfl, hi.nb.zb.mul hi.zn, ?_⟩
    refine ⟨_, rfl, l, C, dl, _, _, rfl, hl, T_Ratio.cl, T_Ratio.nT, ratF_top _ _, _, rfl, r, C, dx, _, _, rfl, hx, T_Ratio.cl, T_Ratio.nB, ratF_bot _ _, _, _, rfl, rfl, hi.nb.za.mul hi.zm, _, _, rfl, rfl, ?_⟩
    refine ⟨_, rfl, _, _, rfl, rfl, _, rfl, iteTb (decide_eq_true hi.u0) ⟨_, rfl, _, _, rfl, rfl, _, rfl, iteTb (decide_eq_true hi.v0) ?_⟩⟩
    exact ⟨_, rfl, _, rfl, (by decide : 2 ≤ sizeLine), fun t ht => q t ht⟩
abbrev sSpot : Stmt := inClass (top 23) 7
theorem scSp : FnScope ["self", "fifth", "found"] ["self", "fifth"] (defScope sSpot) := ⟨rfl, rfl, rfl, by decide +kernel, rfl, by decide +kernel, by decide +kernel⟩
theorem ok_spot {f f1 : Addr} {fd fd1 : FuncData} (F : Fun K "spot" "Piece.spot" sSpot f fd) (C__spot : Cal P w K mg base 1 "_spot" f1 fd1 ["piece", "value"] (spSpot CP C)) : FnOk P w K mg base CX0 2 f fd ["self", "fifth"] (spSpot CP C) := by
  refine F.ok scSp (fun vs H Q E h => ?_) (fun cdv A outer s H vs Q E hr h => ?_)
  · obtain ⟨p, r, a, b, c, d, n, m, rfl, _⟩ := h
    rfl
  · obtain ⟨p, r, a, b, c, d, n, m, rfl, hp, hx, hi, q⟩ := h
    have nd := scSp.nd
    refine ⟨_, pss_cons (ps_set (i := 2) nd rfl (Or.inl rfl) (pe_call C__spot.F (hr.mono (by decide)) (by rfl) C__spot.mgf C__spot.kp C__spot.b .nil pass0 (pa_cons (pv 0) (pa_cons (pv 1) pa_nil))))
      (pss_cons (ps_if (pt_cmpR op_isN (pv 2) pe_non (nomark _)) pss_never pss_nil)
      (pss_one (ps_ret (pv 2)))), ?_⟩
    refine ⟨_, rfl, _, rfl, p, r, a, b, c, d, n, m, rfl, hp, hx, hi, fun t ht => ⟨_, rfl, rfl, _, rfl, iteFb (decide_eq_false (fun h => nomatch h)) ⟨_, rfl, q t ht⟩⟩⟩
def spKind (CP C : Addr) : Sp := fun vs H Q _ => ∃ p r a b c d n m, vs = [.ref p, .ref r] ∧ PieAt CP C H p a b c d ∧ RatAt C H r n m ∧ InP a b c d n m ∧ ∀ H', Same H H' → Q (.str (kindS (c * m - d * n) (b * n - a * m))) H'
abbrev sKind : Stmt := inClass (top 23) 8
theorem scKi : FnScope ["self", "fifth", "u", "v"] ["self", "fifth"] (defScope sKind) := ⟨rfl, rfl, rfl, by decide +kernel, rfl, by decide +kernel, by decide +kernel⟩
theorem ok_kind {f f1 : Addr} {fd fd1 : FuncData} (F : Fun K "kind" "Piece.kind" sKind f fd) (T_Piece : PieT K mg CP) (D_Piece_spot : Dot P w K mg base 2 CP "spot" f1 fd1 ["self", "fifth"] (spSpot CP C)) : FnOk P w K mg base CX0 3 f fd ["self", "fifth"] (spKind CP C) := by
  refine F.ok scKi (fun vs H Q E h => ?_) (fun cdv A outer s H vs Q E hr h => ?_)
  · obtain ⟨p, r, a, b, c, d, n, m, rfl, _⟩ := h
    rfl
  · obtain ⟨p, r, a, b, c, d, n, m, rfl, hp, hx, hi, q⟩ := h
    have nd := scKi.nd
    refine ⟨_, pss_cons (ps_asg (pe_meth (pv 0) T_Piece.cl D_Piece_spot.m D_Piece_spot.F (hr.mono (by decide)) D_Piece_spot.b .nil pass0 (pa_cons (pv 1) pa_nil)) (pg_tup (by rfl) (pgs_cons (pg_name (i := 2) nd rfl (Or.inl rfl)) (pgs_cons (pg_name (i := 3) nd rfl (Or.inl rfl)) pgs_nil))))
      (pss_cons (ps_if (PW.pt (pw_and (pt_cmpR op_eq (pv 2) pe_int (nomark _)) (pw_and1 (pt_cmpR op_eq (pv 3) pe_int (nomark _))))) (pss_one (ps_ret pe_str)) pss_nil)
      (pss_cons (ps_if (pt_cmpR op_eq (pv 3) pe_int (nomark _)) (pss_one (ps_ret pe_str)) pss_nil)
      (pss_cons (ps_if (pt_cmpR op_eq (pv 2) pe_int (nomark _)) (pss_one (ps_ret pe_str)) pss_nil)
      (pss_one (ps_ret pe_str))))), ?_⟩
    obtain ⟨dp, l, r2, hp', _⟩ := id hp
    refine ⟨_, rfl, p, dp, _, rfl, hp', pieF_no _ _ (by decide +kernel) (by decide +kernel), _, rfl, p, r, a, b, c, d, n, m, rfl, hp, hx, hi, fun t ht => ⟨_, _, rfl, SqT.of upd_same, rfl, _, _, rfl, _, _, rfl, rfl, ?_⟩⟩
    have q' := q _ (same_new (o := .tup [.int (c * m - d * n), .int (b * n - a * m)]) ht)
    generalize c * m - d * n = u at q' ⊢
    generalize b * n - a * m = v at q' ⊢
    unfold kindS at q'
    refine ⟨_, rfl, rfl, _, rfl, ?_⟩
    by_cases hu : u = 1
    · refine iteTb (by rw [vdec]; exact decide_eq_true hu) ⟨_, rfl, rfl, _, rfl, ?_⟩
      by_cases hv : v = 1
      · refine iteTb (by rw [vdec]; exact decide_eq_true hv) ?_
        rw [if_pos ⟨hu, hv⟩] at q'
        exact q'
      · refine iteFb (by rw [vdec]; exact decide_eq_false hv) ⟨_, rfl, rfl, _, rfl, iteFb (by rw [vdec]; exact decide_eq_false hv) ⟨_, rfl, rfl, _, rfl, iteTb (by rw [vdec]; exact decide_eq_true hu) ?_⟩⟩
        rw [if_neg (fun e => hv e.2), if_neg hv, if_pos hu] at q'
        exact q'
    · refine iteFb (by rw [vdec]; exact decide_eq_false hu) (iteF ⟨_, rfl, rfl, _, rfl, ?_⟩)
      by_cases hv : v = 1
      · refine iteTb (by rw [vdec]; exact decide_eq_true hv) ?_
        rw [if_neg (fun e => hu e.1), if_pos hv] at q'
        exact q'
      · refine iteFb (by rw [vdec]; exact decide_eq_false hv) ⟨_, rfl, rfl, _, rfl, iteFb (by rw [vdec]; exact decide_eq_false hu) ?_⟩
        rw [if_neg (fun e => hu e.1), if_neg hv, if_neg hu] at q'
        exact q'

/-! ### the law's own drawing -/
def spPen (K : PySem.W.Frag) : Sp := fun vs H Q _ => ∃ (a : Addr) (ns : List Int), vs = [.ref a] ∧ SqL K H a (ns.map V.int) ∧ ns.length ≤ 63 ∧ ∀ p H', Same H H' → H p = none → Pen H' p 0 → Q (.ref p) H'
abbrev sPen : Stmt := top 30
theorem scPe : FnScope ["_law_script"] ["_law_script"] (defScope sPen) := ⟨rfl, rfl, rfl, by decide +kernel, rfl, by decide +kernel, by decide +kernel⟩
theorem cutV_ints (ns : List Int) (lo hi : Option Int) : ∃ ms : List Int, cutV (ns.map V.int) lo hi = ms.map V.int ∧ ms.length ≤ ns.length := by
  refine ⟨(ns.drop (HT.sIx (ns.map V.int).length 0 lo)).take (HT.sIx (ns.map V.int).length (ns.map V.int).length hi - HT.sIx (ns.map V.int).length 0 lo), ?_, ?_⟩
  · unfold cutV
    rw [← List.map_drop, ← List.map_take]
  · rw [List.length_take, List.length_drop]
    omega
theorem ok_pen {f : Addr} {fd : FuncData} (F : Fun K "_law_pen" "_law_pen" sPen f fd) (T : Bl mg) : FnOk P w K mg base CX0 1 f fd ["_law_script"] (spPen K) := by
  refine F.ok scPe (fun vs H Q E h => ?_) (fun cdv A outer s H vs Q E hr h => ?_)
  · obtain ⟨a, ns, rfl, _⟩ := h
    rfl
  · obtain ⟨a, ns, rfl, hS, hl, q⟩ := h
    have nd := scPe.nd
    refine ⟨_, pss_one (ps_ret (pe_lst (pa_cons (pe_callTy call_list_of (by rfl) T.list (by decide +kernel) (pa_cons (pe_slice sl_list (pv 0) po_none (po_some pe_int)) pa_nil)) (pa_cons pe_int (pa_cons pe_int pa_nil))))), ?_⟩
    obtain ⟨ms, e, hm⟩ := cutV_ints ns none (some 63)
    refine ⟨_, rfl, _, rfl, a, _, rfl, hS, fun c1 h1 => ⟨c1, _, rfl, .inl (SqL.of upd_same), fun c2 h2 => ⟨(by decide : 3 ≤ sizeLine), fun p hp => ?_⟩⟩⟩
    have s1 : Same H (upd H c1 (.lst (cutV (ns.map V.int) none (some 63)))) := same_new h1
    have s2 := s1.trans (same_new (o := .lst (cutV (ns.map V.int) none (some 63))) h2)
    have s3 := s2.trans (same_new (o := .lst [.ref c2, .int 0, .int 0]) hp)
    refine q p _ s3 (s2.free hp) ⟨c2, ms, 0, 0, ⟨upd_same, ?_, by omega, by decide⟩, by decide⟩
    have n2 : c2 ≠ p := by
      intro e2
      rw [← e2, upd_same] at hp
      cases hp
    rw [upd_ne n2, upd_same, e]
def spPick : Sp := fun vs H Q _ => ∃ p s xs k, vs = [.ref p, .ref s] ∧ Pen H p k ∧ k ≤ 1000000 ∧ H s = some (.lst xs) ∧ s ≠ p ∧ 0 < xs.length ∧ xs.length ≤ 1000 ∧ ∀ v H', v ∈ xs → Pen H' p (k + 1) → But p H H' → Q v H'
abbrev sPick : Stmt := top 32
theorem scPk : FnScope ["_law_pen_here", "_law_some"] ["_law_pen_here", "_law_some"] (defScope sPick) := ⟨rfl, rfl, rfl, by decide +kernel, rfl, by decide +kernel, by decide +kernel⟩
theorem small_i {z : Int} (h : z.natAbs ≤ 1000000000) : z.natAbs < 2 ^ 2000 := Nat.lt_of_le_of_lt h (by decide +kernel)
theorem small_len {n : Nat} (h : n ≤ 1000000000) : (n : Int).natAbs < 2 ^ 2000 := Nat.lt_of_le_of_lt (show (n : Int).natAbs ≤ 1000000000 by omega) (by decide +kernel)
theorem ok_pick {f f1 : Addr} {fd fd1 : FuncData} (F : Fun K "_law_pick" "_law_pick" sPick f fd) (T : Bl mg) (C__law_draw : Cal P w K mg base 1 "_law_draw" f1 fd1 ["_law_pen_here", "_law_many"] spDraw) : FnOk P w K mg base CX0 2 f fd ["_law_pen_here", "_law_some"] spPick := by
  refine F.ok scPk (fun vs H Q E h => ?_) (fun cdv A outer s H vs Q E hr h => ?_)
  · obtain ⟨p, l, xs, k, rfl, _⟩ := h
    rfl
  · obtain ⟨p, l, xs, k, rfl, hP, hk, hl, hne, h0, h1, q⟩ := h
    have nd := scPk.nd
    refine ⟨_, pss_one (ps_ret (pe_ix ix_list (pv 1) (pe_call C__law_draw.F (hr.mono (by decide)) (by rfl) C__law_draw.mgf C__law_draw.kp C__law_draw.b .nil pass0 (pa_cons (pv 0) (pa_cons (pe_callB call_len (by rfl) T.len (by decide +kernel) (pa_cons (pv 1) pa_nil)) pa_nil))) (fun _ _ => rfl))), ?_⟩
    refine ⟨_, rfl, _, rfl, _, rfl, _, _, rfl, .inl ⟨_, SqL.of hl, rfl⟩, p, _, k, rfl, hP, hk, by omega, small_len (by omega), fun r H' r0 r1 hP' hB => ?_⟩
    exact ⟨l, xs, r, _, rfl, rfl, SqL.of (hB _ _ hl hne), atI_in r0 r1, q _ H' (List.getElem_mem _) hP' hB⟩

def spWalk : Sp := fun vs H Q _ => ∃ p most k, vs = [.ref p, .int most] ∧ Pen H p k ∧ 0 ≤ most ∧ most ≤ 20 ∧ k ≤ 900000 ∧
  ∀ t H' a b c d, 0 ≤ a → a < b → 0 < c → c ≤ d → b * c - a * d = 1 → b + d ≤ 2 ^ (most.toNat + 1) → Pen H' p (k + 30) → But p H H' → H t = none → H' t = some (.tup [.int a, .int b, .int c, .int d]) → Q (.ref t) H'
abbrev sWalk : Stmt := top 33
theorem scWk : FnScope ["_law_pen_here", "_law_most", "_law_a", "_law_b", "_law_c", "_law_d", "_law_turn"] ["_law_pen_here", "_law_most"] (defScope sWalk) := ⟨rfl, rfl, rfl, by decide +kernel, rfl, by decide +kernel, by decide +kernel⟩
theorem ok_walk {f f1 : Addr} {fd fd1 : FuncData} (F : Fun K "_law_walk" "_law_walk" sWalk f fd) (T : Bl mg) (C__law_draw : Cal P w K mg base 1 "_law_draw" f1 fd1 ["_law_pen_here", "_law_many"] spDraw) : FnOk P w K mg base CX0 2 f fd ["_law_pen_here", "_law_most"] spWalk := by
  refine F.ok scWk (fun vs H Q E h => ?_) (fun cdv A outer s H vs Q E hr h => ?_)
  · obtain ⟨p, most, k, rfl, _⟩ := h
    rfl
  · obtain ⟨p, most, k, rfl, hP, m0, m1, hk, q⟩ := h
    have nd := scWk.nd
    refine ⟨_, pss_cons (ps_asg (pe_tup (pa_cons pe_int (pa_cons pe_int (pa_cons pe_int (pa_cons pe_int pa_nil))))) (pg_tup (by rfl) (pgs_cons (pg_name (i := 2) nd rfl (Or.inl rfl)) (pgs_cons (pg_name (i := 3) nd rfl (Or.inl rfl)) (pgs_cons (pg_name (i := 4) nd rfl (Or.inl rfl)) (pgs_cons (pg_name (i := 5) nd rfl (Or.inl rfl)) pgs_nil))))))
      (pss_cons (ps_for PassesOwn.never rfl (pi_range1 (by rfl) T.range (pa_cons (pe_call C__law_draw.F (hr.mono (by decide)) (by rfl) C__law_draw.mgf C__law_draw.kp C__law_draw.b .nil pass0 (pa_cons (pv 0) (pa_cons (pe_op op_add (pv 1) pe_int) pa_nil))) pa_nil)) (pg_name (i := 6) nd rfl (Or.inl rfl)) (pss_one (ps_if (pt_cmpR op_eq (pe_call C__law_draw.F (hr.mono (by decide)) (by rfl) C__law_draw.mgf C__law_draw.kp C__law_draw.b .nil pass0 (pa_cons (pv 0) (pa_cons pe_int pa_nil))) pe_int (nomark _)) (pss_one (ps_par (i := 4) (j := 5) (by rfl) nd rfl rfl (by decide) rfl rfl (pa_cons (pe_op op_add (pv 2) (pv 4)) (pa_cons (pe_op op_add (pv 3) (pv 5)) pa_nil)) (by rfl))) (pss_one (ps_par (i := 2) (j := 3) (by rfl) nd rfl rfl (by decide) rfl rfl (pa_cons (pe_op op_add (pv 2) (pv 4)) (pa_cons (pe_op op_add (pv 3) (pv 5)) pa_nil)) (by rfl))))))
      (pss_one (ps_ret (pe_tup (pa_cons (pv 2) (pa_cons (pv 3) (pa_cons (pv 4) (pa_cons (pv 5) pa_nil)))))))), ?_⟩
    refine ⟨(by decide : 4 ≤ sizeLine), fun t0 ht0 => ⟨_, _, rfl, SqT.of upd_same, rfl, _, _, rfl, _, _, rfl, _, _, rfl, _, _, rfl, rfl, ?_⟩⟩
    have s1 : Same H (upd H t0 (.tup [.int 0, .int 1, .int 1, .int 1])) := same_new ht0
    refine ⟨_, rfl, _, rfl, _, _, rfl, rfl, p, _, k, rfl, hP.same s1, by omega, by omega, small_i (by omega), fun r H1 r0 r1 hP1 hB1 => ?_⟩
    refine ⟨_, rfl, by omega, by omega, ?_⟩
    have B1 : But p H H1 := (But.same s1).trans hB1
    refine for_range (lo := 0) (n := r.toNat) (fun i σ H' => ∃ a b c d x, σ = [some (.ref p), some (.int most), some (.int a), some (.int b), some (.int c), some (.int d), x] ∧ 0 ≤ a ∧ a < b ∧ 0 < c ∧ c ≤ d ∧ b * c - a * d = 1 ∧ b + d ≤ 2 ^ (i + 1) ∧ Pen H' p (k + 1 + i) ∧ But p H H')
      ⟨0, 1, 1, 1, none, rfl, by decide, by decide, by decide, by decide, by decide, by decide, hP1, B1⟩ ?_ ?_
    · rintro i σ H2 hi ⟨a, b, c, d, x, rfl, a0, ab, c0, cd, nb, bd, hP2, B2⟩
      refine ⟨_, rfl, p, _, _, rfl, hP2, by omega, by decide, by decide +kernel, fun z H3 z0 z1 hP3 hB3 => ⟨rfl, _, rfl, ?_⟩⟩
      have B3 : But p H H3 := B2.trans hB3
      have e2 : (2 : Int) ^ (i + 1 + 1) = 2 ^ (i + 1) * 2 := Int.pow_succ 2 (i + 1)
      refine ite2 (fun _ => ?_) (fun _ => ?_)
      · refine ⟨_, rfl, _, rfl, _, _, rfl, rfl, _, rfl, _, rfl, _, _, rfl, rfl, _, _, rfl, ?_⟩
        refine ⟨a, b, a + c, b + d, _, rfl, a0, ab, by omega, by omega, ?_, by omega, hP3, B3⟩
        rw [Int.mul_add, Int.mul_add, Int.mul_comm b a]
        omega
      · refine ⟨_, rfl, _, rfl, _, _, rfl, rfl, _, rfl, _, rfl, _, _, rfl, rfl, _, _, rfl, ?_⟩
        refine ⟨a + c, b + d, c, d, _, rfl, by omega, by omega, c0, cd, ?_, by omega, hP3, B3⟩
        rw [Int.add_mul, Int.add_mul, Int.mul_comm d c]
        omega
    · rintro σ H2 ⟨a, b, c, d, x, rfl, a0, ab, c0, cd, nb, bd, hP2, B2⟩
      refine ⟨_, rfl, _, rfl, _, rfl, _, rfl, (by decide : 4 ≤ sizeLine), fun t ht => ?_⟩
      have hnp : t ≠ p := by
        obtain ⟨c1, ns, b1, l1, W, _⟩ := hP2
        exact (ne_of_none W.hp ht).symm
      have hB' : But p H (upd H2 t (.tup [.int a, .int b, .int c, .int d])) := B2.new ht
      have hm2 : (2 : Int) ^ (r.toNat + 1) ≤ 2 ^ (most.toNat + 1) := by
        have h2 : r.toNat + 1 ≤ most.toNat + 1 := by omega
        exact_mod_cast Nat.pow_le_pow_right (by decide : 0 < 2) h2
      refine q t _ a b c d a0 ab c0 cd nb (by omega) ((hP2.same (same_new ht)).mono (by omega)) hB' ?_ upd_same
      cases hq : H t with
      | none => rfl
      | some o => rw [B2 _ _ hq hnp] at ht; cases ht
end
end Toy
namespace Toy
open PySem L2
theorem gcdI_of {p q x y : Int} (h : p * x + q * y = 1) : gcdI p q = 1 := by
  have h1 : gcdI p q ∣ p := Int.ofNat_dvd_left.mpr (Nat.gcd_dvd_left _ _)
  have h2 : gcdI p q ∣ q := Int.ofNat_dvd_left.mpr (Nat.gcd_dvd_right _ _)
  have h3 : gcdI p q ∣ 1 := h ▸ Int.dvd_add (Int.dvd_trans h1 (Int.dvd_mul_right _ _)) (Int.dvd_trans h2 (Int.dvd_mul_right _ _))
  exact Int.eq_one_of_dvd_one (by unfold gcdI; omega) h3
theorem gcd_ab {a b c d : Int} (h : b * c - a * d = 1) : gcdI a b = 1 := gcdI_of (x := -d) (y := c) (by grind)
theorem gcd_cd {a b c d : Int} (h : b * c - a * d = 1) : gcdI c d = 1 := gcdI_of (x := b) (y := -a) (by grind)
theorem spot_n {a b c d n m : Int} (h : b * c - a * d = 1) : (c * m - d * n) * a + (b * n - a * m) * c = n := by grind
theorem spot_m {a b c d n m : Int} (h : b * c - a * d = 1) : (c * m - d * n) * b + (b * n - a * m) * d = m := by grind
theorem gcd_dvd {p q g : Int} (hp : g ∣ p) (hq : g ∣ q) (h : gcdI p q = 1) : g ∣ 1 := by
  have h1 : g.natAbs ∣ Nat.gcd p.natAbs q.natAbs := Nat.dvd_gcd (Int.natAbs_dvd_natAbs.mpr hp) (Int.natAbs_dvd_natAbs.mpr hq)
  have h2 : Nat.gcd p.natAbs q.natAbs = 1 := by unfold gcdI at h; omega
  rw [h2] at h1
  exact Int.natAbs_dvd_natAbs.mp h1
/-- u and v equal: both are 1 -/
theorem uv_one {a b c d n m : Int} (h : b * c - a * d = 1) (g : gcdI n m = 1) (hu : 0 < c * m - d * n) (e : c * m - d * n = b * n - a * m) : c * m - d * n = 1 := by
  have h1 := spot_n (n := n) (m := m) h
  have h2 := spot_m (n := n) (m := m) h
  have d1 : (c * m - d * n) ∣ n := ⟨a + c, by grind⟩
  have d2 : (c * m - d * n) ∣ m := ⟨b + d, by grind⟩
  exact Int.eq_one_of_dvd_one (by omega) (gcd_dvd d1 d2 g)
theorem is_left_iff {a b c d n m : Int} : n * (b + d) < (a + c) * m ↔ b * n - a * m < c * m - d * n := by
  have e1 : n * (b + d) = b * n + d * n := by grind
  have e2 : (a + c) * m = a * m + c * m := by grind
  omega
theorem mid_iff {a b c d n m : Int} (h : b * c - a * d = 1) : (n = a + c ∧ m = b + d) ↔ (c * m - d * n = 1 ∧ b * n - a * m = 1) := by
  constructor
  · rintro ⟨rfl, rfl⟩
    constructor <;> grind
  · rintro ⟨h1, h2⟩
    have e1 := spot_n (n := n) (m := m) h
    have e2 := spot_m (n := n) (m := m) h
    rw [h1, h2] at e1 e2
    omega
theorem nb_left {a b c d : Int} (h : b * c - a * d = 1) : b * (a + c) - a * (b + d) = 1 := by grind
theorem nb_right {a b c d : Int} (h : b * c - a * d = 1) : (b + d) * c - (a + c) * d = 1 := by grind
theorem u_left {a b c d n m : Int} : (a + c) * m - (b + d) * n = (c * m - d * n) - (b * n - a * m) := by grind
theorem v_right {a b c d n m : Int} : (b + d) * n - (a + c) * m = (b * n - a * m) - (c * m - d * n) := by grind
end Toy
set_option maxRecDepth 100000
set_option maxHeartbeats 4000000
namespace Toy
open PySem L2
theorem mk_same {H1 H' : Hp} {x dx C : Addr} (hx : H1 x = none) (hdx : H1 dx = none) (hk : ∀ c o, (upd (upd H1 dx (.own x)) x (.ins C dx [])) c = some o → c ≠ x → H' c = some o) : Same H1 H' := fun c o e =>
  hk c o (by rw [upd_ne (ne_of_none e hx), upd_ne (ne_of_none e hdx)]; exact e) (ne_of_none e hx)
theorem Sz.le {x y : Int} (h0 : 0 ≤ x) (h : x ≤ y) (z : Sz y) : Sz x := Nat.lt_of_le_of_lt (by omega) z
theorem u_ge {a b c d n m : Int} (i : InP a b c d n m) : a + c ≤ n ∧ b + d ≤ m := by
  have e1 := spot_n (n := n) (m := m) i.nb.nb
  have e2 := spot_m (n := n) (m := m) i.nb.nb
  have a0 := i.nb.a0
  have ab := i.nb.ab
  have c0 := i.nb.c0
  have cd := i.nb.cd
  have u0 := i.u0
  have v0 := i.v0
  generalize c * m - d * n = u at *
  generalize b * n - a * m = v at *
  have p1 := Int.mul_le_mul_of_nonneg_right (show 1 ≤ u by omega) a0
  have p2 := Int.mul_le_mul_of_nonneg_right (show 1 ≤ v by omega) (show 0 ≤ c by omega)
  have p3 := Int.mul_le_mul_of_nonneg_right (show 1 ≤ u by omega) (show 0 ≤ b by omega)
  have p4 := Int.mul_le_mul_of_nonneg_right (show 1 ≤ v by omega) (show 0 ≤ d by omega)
  omega
theorem InP.left {a b c d n m : Int} (i : InP a b c d n m) (h : b * n - a * m < c * m - d * n) : InP a b (a + c) (b + d) n m := by
  obtain ⟨h1, h2⟩ := u_ge i
  have a0 := i.nb.a0
  have ab := i.nb.ab
  have c0 := i.nb.c0
  have cd := i.nb.cd
  exact ⟨⟨a0, ab, by omega, by omega, nb_left i.nb.nb, i.nb.za, i.nb.zb, Sz.le (by omega) h1 i.zn, Sz.le (by omega) h2 i.zm⟩, i.zn, i.zm, by rw [u_left]; omega, i.v0⟩
theorem InP.right {a b c d n m : Int} (i : InP a b c d n m) (h : c * m - d * n < b * n - a * m) : InP (a + c) (b + d) c d n m := by
  obtain ⟨h1, h2⟩ := u_ge i
  have a0 := i.nb.a0
  have ab := i.nb.ab
  have c0 := i.nb.c0
  have cd := i.nb.cd
  exact ⟨⟨by omega, by omega, c0, cd, nb_right i.nb.nb, Sz.le (by omega) h1 i.zn, Sz.le (by omega) h2 i.zm, i.nb.zc, i.nb.zd⟩, i.zn, i.zm, i.u0, by rw [v_right]; omega⟩
theorem eqv2 (n m x y : Int) : PyData.eqv (.tuple [.int n, .int m]) (.tuple [.int x, .int y]) = decide (n = x ∧ m = y) := by
  show (n == x && (m == y && true)) = _
  rw [Bool.and_true]
  by_cases h : n = x <;> by_cases h' : m = y <;> simp [h, h']
theorem inL (u v : Int) : inV (.str (kindS u v)) [.str "middle", .str "left"] = decide (v = 1) := by
  unfold kindS
  by_cases hu : u = 1
  · by_cases hv : v = 1
    · rw [if_pos ⟨hu, hv⟩, decide_eq_true hv]; decide +kernel
    · rw [if_neg (fun e => hv e.2), if_neg hv, if_pos hu, decide_eq_false hv]; decide +kernel
  · by_cases hv : v = 1
    · rw [if_neg (fun e => hu e.1), if_pos hv, decide_eq_true hv]; decide +kernel
    · rw [if_neg (fun e => hu e.1), if_neg hv, if_neg hu, decide_eq_false hv]; decide +kernel
theorem inR (u v : Int) : inV (.str (kindS u v)) [.str "middle", .str "right"] = decide (u = 1) := by
  unfold kindS
  by_cases hu : u = 1
  · by_cases hv : v = 1
    · rw [if_pos ⟨hu, hv⟩, decide_eq_true hu]; decide +kernel
    · rw [if_neg (fun e => hv e.2), if_neg hv, if_pos hu, decide_eq_true hu]; decide +kernel
  · by_cases hv : v = 1
    · rw [if_neg (fun e => hu e.1), if_pos hv, decide_eq_false hu]; decide +kernel
    · rw [if_neg (fun e => hu e.1), if_neg hv, if_neg hu, decide_eq_false hu]; decide +kernel
theorem gcd_step {x y : Int} (hx : 0 ≤ x) (hy : 0 < y) : gcdI y (x % y) = gcdI x y := by
  obtain ⟨n, rfl⟩ := Int.eq_ofNat_of_zero_le hx
  obtain ⟨m, rfl⟩ := Int.eq_ofNat_of_zero_le (show 0 ≤ y by omega)
  unfold gcdI
  have e : ((n : Int) % (m : Int)) = ((n % m : Nat) : Int) := rfl
  rw [e, Int.natAbs_natCast, Int.natAbs_natCast, Int.natAbs_natCast, Nat.gcd_comm n m, Nat.gcd_rec m n, Nat.gcd_comm m]
theorem gcd_zero {x : Int} (hx : 0 ≤ x) : gcdI x 0 = x := by
  unfold gcdI
  show ((Nat.gcd x.natAbs 0 : Nat) : Int) = x
  rw [Nat.gcd_zero_right]
  omega
section
variable {P : Program} {w : World} {K : PySem.W.Frag} {mg : Str → Option Value} {base : Heap} {C CP : Addr}
def spLPiece (K : PySem.W.Frag) (CP C : Addr) : Sp := fun vs H Q _ => ∃ t a b c d, vs = [.ref t] ∧ SqT K H t [.int a, .int b, .int c, .int d] ∧ Nbr a b c d ∧ ∀ x H', Same H H' → H x = none → PieAt CP C H' x a b c d → Q (.ref x) H'
abbrev sLPiece : Stmt := top 34
theorem scLP : FnScope ["_law_ends"] ["_law_ends"] (defScope sLPiece) := ⟨rfl, rfl, rfl, by decide +kernel, rfl, by decide +kernel, by decide +kernel⟩
theorem ok_lpiece {f f1 f2 : Addr} {fd fd1 fd2 : FuncData} (F : Fun K "_law_piece" "_law_piece" sLPiece f fd) (M_Ratio : Mak P w K mg base 2 "Ratio" C f1 fd1 ["self", "top", "bottom"] (spRInit C)) (M_Piece : Mak P w K mg base 5 "Piece" CP f2 fd2 ["self", "left", "right"] (spPInit CP C)) :
    FnOk P w K mg base CX0 7 f fd ["_law_ends"] (spLPiece K CP C) := by
  refine F.ok scLP (fun vs H Q E h => ?_) (fun cdv A outer s H vs Q E hr h => ?_)
  · obtain ⟨t, a, b, c, d, rfl, _⟩ := h
    rfl
  · obtain ⟨t, a, b, c, d, rfl, hT, hn, q⟩ := h
    have nd := scLP.nd
    refine ⟨_, pss_one (ps_ret (pe_make M_Piece.M M_Piece.F (hr.mono (by decide)) (by rfl) M_Piece.mgC M_Piece.b .nil pass0 (pa_cons (pe_make M_Ratio.M M_Ratio.F (hr.mono (by decide)) (by rfl) M_Ratio.mgC M_Ratio.b .nil pass0 (pa_cons (pe_ix ix_tup (pv 0) pe_int (fun _ _ => rfl)) (pa_cons (pe_ix ix_tup (pv 0) pe_int (fun _ _ => rfl)) pa_nil))) (pa_cons (pe_make M_Ratio.M M_Ratio.F (hr.mono (by decide)) (by rfl) M_Ratio.mgC M_Ratio.b .nil pass0 (pa_cons (pe_ix ix_tup (pv 0) pe_int (fun _ _ => rfl)) (pa_cons (pe_ix ix_tup (pv 0) pe_int (fun _ _ => rfl)) pa_nil))) pa_nil)))), ?_⟩
    have b0 : 0 < b := by have := hn.a0; have := hn.ab; omega
    have d0 : 0 < d := by have := hn.c0; have := hn.cd; omega
    refine ⟨_, rfl, t, _, _, _, rfl, rfl, hT, rfl, _, rfl, t, _, _, _, rfl, rfl, hT, rfl, ?_⟩
    intro x dx hx hdx hne
    refine ⟨x, dx, a, b, rfl, upd_same, by omega, hn.zb, fun H1 hR hk => ⟨rfl, ?_⟩⟩
    have s1 := mk_same hx hdx hk
    rw [lowT_one b0 (gcd_ab hn.nb), lowB_one b0 (gcd_ab hn.nb)] at hR
    refine ⟨_, rfl, t, _, _, _, rfl, rfl, hT.ext s1, rfl, _, rfl, t, _, _, _, rfl, rfl, hT.ext s1, rfl, ?_⟩
    intro y dy hy hdy hne2
    refine ⟨y, dy, c, d, rfl, upd_same, by omega, hn.zd, fun H2 hR2 hk2 => ⟨rfl, ?_⟩⟩
    have s2 := mk_same hy hdy hk2
    rw [lowT_one d0 (gcd_cd hn.nb), lowB_one d0 (gcd_cd hn.nb)] at hR2
    intro z dz hz hdz hne3
    have s23 := same_two (o := .own z) (u := .ins CP dz []) hdz hz hne3
    refine ⟨z, dz, _, _, a, b, c, d, rfl, upd_same, .rat ((hR.same s2).same s23), .rat (hR2.same s23), hn, fun H3 hP hk3 => ⟨rfl, ?_⟩⟩
    have s3 := mk_same hz hdz hk3
    have s13 := (s1.trans s2).trans s3
    exact q z H3 s13 ((s1.trans s2).free hz) hP

def spCommon : Sp := fun vs H Q _ => ∃ x y, vs = [.int x, .int y] ∧ Q (.int (gcdI x y)) H
abbrev sCommon : Stmt := top 35
theorem scCo : FnScope ["_law_one", "_law_other"] ["_law_one", "_law_other"] (defScope sCommon) := ⟨rfl, rfl, rfl, by decide +kernel, rfl, by decide +kernel, by decide +kernel⟩
theorem ok_common {f : Addr} {fd : FuncData} (F : Fun K "_law_common" "_law_common" sCommon f fd) (T : Bl mg) : FnOk P w K mg base CX0 1 f fd ["_law_one", "_law_other"] spCommon := by
  refine F.ok scCo (fun vs H Q E h => ?_) (fun cdv A outer s H vs Q E hr h => ?_)
  · obtain ⟨x, y, rfl, _⟩ := h
    rfl
  · obtain ⟨x, y, rfl, q⟩ := h
    have nd := scCo.nd
    refine ⟨_, pss_cons (ps_par (i := 0) (j := 1) (by rfl) nd rfl rfl (by decide) rfl rfl (pa_cons (pe_callB call_abs (by rfl) T.abs (by decide +kernel) (pa_cons (pv 0) pa_nil)) (pa_cons (pe_callB call_abs (by rfl) T.abs (by decide +kernel) (pa_cons (pv 1) pa_nil)) pa_nil)) (by rfl))
      (pss_cons (ps_while PassesOwn.never (pt_cmpR op_ne (pv 1) pe_int (nomark _)) (pss_one (ps_par (i := 0) (j := 1) (by rfl) nd rfl rfl (by decide) rfl rfl (pa_cons (pv 1) (pa_cons (pe_op op_mod (pe_callTy call_int1 (by rfl) T.int (by decide +kernel) (pa_cons (pv 0) pa_nil)) (pv 1)) pa_nil)) (by rfl))))
      (pss_one (ps_ret (pv 0)))), ?_⟩
    refine ⟨_, rfl, _, rfl, _, rfl, _, rfl, _, _, rfl, ?_⟩
    have hg : gcdI (if x < 0 then -x else x) (if y < 0 then -y else y) = gcdI x y := by
      unfold gcdI
      rw [show (if x < 0 then -x else x).natAbs = x.natAbs by split <;> omega, show (if y < 0 then -y else y).natAbs = y.natAbs by split <;> omega]
    refine while_by (fun σ H' => ∃ u v : Int, σ = [some (.int u), some (.int v)] ∧ 0 ≤ u ∧ 0 ≤ v ∧ gcdI u v = gcdI x y ∧ H' = H) (fun σ _ => match σ with | [_, some (.int v)] => v.toNat | _ => 0) ⟨_, _, rfl, by split <;> omega, by split <;> omega, hg, rfl⟩ ?_ ?_
    · rintro σ H' ⟨u, v, rfl, u0, v0, g, rfl⟩
      refine ⟨_, rfl, rfl, _, rfl, ?_⟩
      by_cases hv : v = 0
      · refine iteFb (by rw [vdec, decide_eq_true hv]; rfl) ⟨_, rfl, ?_⟩
        subst hv
        rw [gcd_zero u0] at g
        rw [g]
        exact q
      · refine iteTb (by rw [vdec, decide_eq_false hv]; rfl) ⟨_, rfl, _, rfl, .inl ⟨_, rfl, _, rfl, _, _, rfl, rfl, (by omega : 0 < v), _, _, rfl, ⟨_, _, rfl, v0, (modB u (by omega)).1, (gcd_step u0 (by omega)).trans g, rfl⟩, ?_⟩⟩
        have h1 := modB u (show 0 < v by omega)
        show (u % v).toNat < v.toNat
        omega
    · rintro σ H' R R' hR ⟨v, e, sc, k, e2, r⟩
      exact ⟨v, e, sc, k, e2, hR _ _ r⟩

def spBeside (K : PySem.W.Frag) : Sp := fun vs H Q _ => ∃ t1 t2 a b n m, vs = [.ref t1, .ref t2] ∧ SqT K H t1 [.int a, .int b] ∧ SqT K H t2 [.int n, .int m] ∧ (Sz a ∧ Sz b ∧ Sz n ∧ Sz m) ∧ Q (.bl (decide (b * n - a * m = 1))) H
abbrev sBes : Stmt := top 36
theorem scBe : FnScope ["_law_one", "_law_other"] ["_law_one", "_law_other"] (defScope sBes) := ⟨rfl, rfl, rfl, by decide +kernel, rfl, by decide +kernel, by decide +kernel⟩
theorem ok_beside {f : Addr} {fd : FuncData} (F : Fun K "_law_is_beside" "_law_is_beside" sBes f fd) : FnOk P w K mg base CX0 1 f fd ["_law_one", "_law_other"] (spBeside K) := by
  refine F.ok scBe (fun vs H Q E h => ?_) (fun cdv A outer s H vs Q E hr h => ?_)
  · obtain ⟨t1, t2, a, b, n, m, rfl, _⟩ := h
    rfl
  · obtain ⟨t1, t2, a, b, n, m, rfl, h1, h2, ⟨z1, z2, z3, z4⟩, q⟩ := h
    have nd := scBe.nd
    refine ⟨_, pss_one (ps_ret (pe_cmpR op_eq (pe_op op_sub (pe_op op_mulW (pe_ix ix_tup (pv 0) pe_int (fun _ _ => rfl)) (pe_ix ix_tup (pv 1) pe_int (fun _ _ => rfl))) (pe_op op_mulW (pe_ix ix_tup (pv 0) pe_int (fun _ _ => rfl)) (pe_ix ix_tup (pv 1) pe_int (fun _ _ => rfl)))) pe_int (nomark _))), ?_⟩
    refine ⟨_, rfl, t1, _, _, _, rfl, rfl, h1, rfl, _, rfl, t2, _, _, _, rfl, rfl, h2, rfl, _, _, rfl, rfl, z2.mul z3, _, rfl, t1, _, _, _, rfl, rfl, h1, rfl, _, rfl, t2, _, _, _, rfl, rfl, h2, rfl, _, _, rfl, rfl, z1.mul z4, _, _, rfl, rfl, rfl, ?_⟩
    rw [vdec]
    exact q

def nearS (a b c d n m : Int) : Str := if b * n - a * m = 1 then "left" else if m * c - n * d = 1 then "right" else "other"
def spNear (K : PySem.W.Frag) : Sp := fun vs H Q _ => ∃ t a b c d n m, vs = [.ref t, .int n, .int m] ∧ SqT K H t [.int a, .int b, .int c, .int d] ∧ InP a b c d n m ∧ ∀ H', Same H H' → Q (.str (nearS a b c d n m)) H'
abbrev sNear : Stmt := top 38
theorem scNr : FnScope ["_law_ends", "_law_top", "_law_bottom"] ["_law_ends", "_law_top", "_law_bottom"] (defScope sNear) := ⟨rfl, rfl, rfl, by decide +kernel, rfl, by decide +kernel, by decide +kernel⟩
theorem ok_near {f f1 : Addr} {fd fd1 : FuncData} (F : Fun K "_law_near_kind" "_law_near_kind" sNear f fd) (C__law_is_beside : Cal P w K mg base 1 "_law_is_beside" f1 fd1 ["_law_one", "_law_other"] (spBeside K)) : FnOk P w K mg base CX0 2 f fd ["_law_ends", "_law_top", "_law_bottom"] (spNear K) := by
  refine F.ok scNr (fun vs H Q E h => ?_) (fun cdv A outer s H vs Q E hr h => ?_)
  · obtain ⟨t, a, b, c, d, n, m, rfl, _⟩ := h
    rfl
  · obtain ⟨t, a, b, c, d, n, m, rfl, hT, hi, q⟩ := h
    have nd := scNr.nd
    refine ⟨_, pss_cons (ps_if (pt_val (pe_call C__law_is_beside.F (hr.mono (by decide)) (by rfl) C__law_is_beside.mgf C__law_is_beside.kp C__law_is_beside.b .nil pass0 (pa_cons (pe_slice sl_tup (pv 0) po_none (po_some pe_int)) (pa_cons (pe_tup (pa_cons (pv 1) (pa_cons (pv 2) pa_nil))) pa_nil)))) (pss_one (ps_ret pe_str)) pss_nil)
      (pss_one (ps_ret (pe_ifExp (pt_val (pe_call C__law_is_beside.F (hr.mono (by decide)) (by rfl) C__law_is_beside.mgf C__law_is_beside.kp C__law_is_beside.b .nil pass0 (pa_cons (pe_tup (pa_cons (pv 1) (pa_cons (pv 2) pa_nil))) (pa_cons (pe_slice sl_tup (pv 0) (po_some pe_int) po_none) pa_nil)))) pe_str pe_str))), ?_⟩
    have hn := hi.nb
    refine ⟨_, rfl, _, rfl, t, _, rfl, hT, (show ¬ (HT.sIx 4 0 none = 0 ∧ HT.sIx 4 4 (some 2) = 4) by decide), fun p hp => ?_⟩
    have s1 : Same H (upd H p (.tup (cutV [.int a, .int b, .int c, .int d] none (some 2)))) := same_new hp
    refine ⟨_, rfl, _, rfl, (by decide : 2 ≤ sizeLine), fun p2 hp2 => ?_⟩
    have s2 := s1.trans (same_new (o := .tup [.int n, .int m]) hp2)
    refine ⟨p, p2, a, b, n, m, rfl, SqT.of (by rw [upd_ne (ne_of_none upd_same hp2)]; exact upd_same), SqT.of upd_same, ⟨hn.za, hn.zb, hi.zn, hi.zm⟩, _, rfl, ?_⟩
    by_cases hv : b * n - a * m = 1
    · refine iteTb (decide_eq_true hv) ?_
      have := q _ s2
      unfold nearS at this
      rw [if_pos hv] at this
      exact this
    · refine iteFb (decide_eq_false hv) ?_
      refine ⟨_, rfl, _, rfl, (by decide : 2 ≤ sizeLine), fun p3 hp3 => ?_⟩
      have s3 := s2.trans (same_new (o := .tup [.int n, .int m]) hp3)
      refine ⟨_, rfl, _, rfl, t, _, rfl, hT.ext s3, (show ¬ (HT.sIx 4 0 (some 2) = 0 ∧ HT.sIx 4 4 none = 4) by decide), fun p4 hp4 => ?_⟩
      have s4 := s3.trans (same_new (o := .tup (cutV [.int a, .int b, .int c, .int d] (some 2) none)) hp4)
      refine ⟨p3, p4, n, m, c, d, rfl, SqT.of (by rw [upd_ne (ne_of_none upd_same hp4)]; exact upd_same), SqT.of upd_same, ⟨hi.zn, hi.zm, hn.zc, hn.zd⟩, _, rfl, ?_⟩
      have := q _ s4
      unfold nearS at this
      rw [if_neg hv] at this
      by_cases hu : m * c - n * d = 1
      · refine iteTb (decide_eq_true hu) ?_
        rw [if_pos hu] at this
        exact this
      · refine iteFb (decide_eq_false hu) ?_
        rw [if_neg hu] at this
        exact this
end
end Toy
set_option maxRecDepth 100000
set_option maxHeartbeats 4000000
namespace Toy
open PySem L2
section
variable {P : Program} {w : World} {K : PySem.W.Frag} {mg : Str → Option Value} {base : Heap} {C CP : Addr}
def spLKind (K : PySem.W.Frag) (N : Nat) : Sp := fun vs H Q _ => ∃ t a b c d n m k, vs = [.ref t, .int n, .int m, .int k] ∧ SqT K H t [.int a, .int b, .int c, .int d] ∧ InP a b c d n m ∧ gcdI n m = 1 ∧ 0 ≤ k ∧ k ≤ N ∧
  ∀ H', Same H H' → Q (.str (kindS (c * m - d * n) (b * n - a * m))) H'
abbrev sLKind : Stmt := top 37
theorem scLK : FnScope ["_law_ends", "_law_top", "_law_bottom", "_law_deep", "_law_a", "_law_b", "_law_c", "_law_d", "_law_middle", "_law_is_left", "_law_half", "_law_inner"] ["_law_ends", "_law_top", "_law_bottom", "_law_deep"] (defScope sLKind) := ⟨rfl, rfl, rfl, by decide +kernel, rfl, by decide +kernel, by decide +kernel⟩
theorem ok_lkind {f f1 : Addr} {fd fd1 : FuncData} (F : Fun K "_law_kind" "_law_kind" sLKind f fd) (mgf : mg "_law_kind" = some (.ref f)) (bF : Binds K fd ["_law_ends", "_law_top", "_law_bottom", "_law_deep"] [])
    (C__law_near_kind : Cal P w K mg base 2 "_law_near_kind" f1 fd1 ["_law_ends", "_law_top", "_law_bottom"] (spNear K)) : ∀ N : Nat, FnOk P w K mg base CX0 (3 + N) f fd ["_law_ends", "_law_top", "_law_bottom", "_law_deep"] (spLKind K N) := by
  intro N
  induction N with
  | zero =>
    refine F.ok scLK (fun vs H Q E h => ?_) (fun cdv A outer s H vs Q E hr h => ?_)
    · obtain ⟨t, a, b, c, d, n, m, k, rfl, _⟩ := h
      rfl
    · obtain ⟨t, a, b, c, d, n, m, k, rfl, hT, hi, hg, k0, k1, q⟩ := h
      have nd := scLK.nd
      have hk0 : k = 0 := by omega
      subst hk0
      refine ⟨_, pss_cons (ps_asg (pv 0) (pg_tup (by rfl) (pgs_cons (pg_name (i := 4) nd rfl (Or.inl rfl)) (pgs_cons (pg_name (i := 5) nd rfl (Or.inl rfl)) (pgs_cons (pg_name (i := 6) nd rfl (Or.inl rfl)) (pgs_cons (pg_name (i := 7) nd rfl (Or.inl rfl)) pgs_nil))))))
        (pss_cons (ps_set (i := 8) nd rfl (Or.inl rfl) (pe_tup (pa_cons (pe_op op_add (pv 4) (pv 6)) (pa_cons (pe_op op_add (pv 5) (pv 7)) pa_nil))))
        (pss_cons (ps_if (pt_cmpR (op_eqD hr.units) (pe_tup (pa_cons (pv 1) (pa_cons (pv 2) pa_nil))) (pv 8) (nomark _)) (pss_one (ps_ret pe_str)) pss_nil)
        (pss_cons (ps_if (pt_cmpR op_eq (pv 3) pe_int (nomark _)) (pss_one (ps_ret (pe_call C__law_near_kind.F (hr.mono (by decide)) (by rfl) C__law_near_kind.mgf C__law_near_kind.kp C__law_near_kind.b .nil pass0 (pa_cons (pv 0) (pa_cons (pv 1) (pa_cons (pv 2) pa_nil)))))) pss_nil)
        pss_never))), ?_⟩
      have hn := hi.nb
      refine ⟨_, rfl, _, _, rfl, hT, rfl, _, _, rfl, _, _, rfl, _, _, rfl, _, _, rfl, rfl, ?_⟩
      refine ⟨_, rfl, _, rfl, _, _, rfl, rfl, _, rfl, _, rfl, _, _, rfl, rfl, (by decide : 2 ≤ sizeLine), fun p hp => ?_⟩
      have s1 : Same H (upd H p (.tup [.int (a + c), .int (b + d)])) := same_new hp
      refine ⟨_, rfl, _, rfl, (by decide : 2 ≤ sizeLine), fun p2 hp2 => ?_⟩
      have s2 := s1.trans (same_new (o := .tup [.int n, .int m]) hp2)
      have m2 : (upd (upd H p (.tup [.int (a + c), .int (b + d)])) p2 (.tup [.int n, .int m])) p = some (.tup [.int (a + c), .int (b + d)]) := by rw [upd_ne (ne_of_none upd_same hp2)]; exact upd_same
      refine ⟨_, rfl, _, _, .tup (SqT.of upd_same) (.cons (.int n) (.cons (.int m) .nil)), .tup (SqT.of m2) (.cons (.int (a + c)) (.cons (.int (b + d)) .nil)), by rfl, by rfl, _, rfl, ?_⟩
      rw [eqv2]
      have q2 := q _ s2
      by_cases hm : n = a + c ∧ m = b + d
      · refine iteTb (decide_eq_true hm) ?_
        obtain ⟨e1, e2⟩ := (mid_iff hn.nb).mp hm
        rw [e1, e2] at q2
        exact q2
      · refine iteFb (decide_eq_false hm) ?_
        refine ⟨_, rfl, rfl, _, rfl, iteTb (by rw [vdec]; rfl) ?_⟩
        refine ⟨_, rfl, _, rfl, _, rfl, t, a, b, c, d, n, m, rfl, hT.ext s2, hi, fun H3 s3 => ?_⟩
        have q3 := q _ (s2.trans s3)
        have e : nearS a b c d n m = kindS (c * m - d * n) (b * n - a * m) := by
          unfold nearS kindS
          have hm' : ¬ (c * m - d * n = 1 ∧ b * n - a * m = 1) := fun e => hm ((mid_iff hn.nb).mpr e)
          rw [if_neg hm', show m * c - n * d = c * m - d * n by rw [Int.mul_comm m c, Int.mul_comm n d]]
        rw [← e] at q3
        exact q3
  | succ N ih =>
    have CF : Cal P w K mg base (3 + N) "_law_kind" f fd ["_law_ends", "_law_top", "_law_bottom", "_law_deep"] (spLKind K N) := ⟨ih, mgf, F.kp, bF⟩
    refine F.ok scLK (fun vs H Q E h => ?_) (fun cdv A outer s H vs Q E hr h => ?_)
    · obtain ⟨t, a, b, c, d, n, m, k, rfl, _⟩ := h
      rfl
    · obtain ⟨t, a, b, c, d, n, m, k, rfl, hT, hi, hg, k0, k1, q⟩ := h
      have nd := scLK.nd
      have hr3 : Room (3 + N) _ := hr
      have hr2 : Room 2 _ := hr3.mono (by omega)
      refine ⟨_, pss_cons (ps_asg (pv 0) (pg_tup (by rfl) (pgs_cons (pg_name (i := 4) nd rfl (Or.inl rfl)) (pgs_cons (pg_name (i := 5) nd rfl (Or.inl rfl)) (pgs_cons (pg_name (i := 6) nd rfl (Or.inl rfl)) (pgs_cons (pg_name (i := 7) nd rfl (Or.inl rfl)) pgs_nil))))))
      (pss_cons (ps_set (i := 8) nd rfl (Or.inl rfl) (pe_tup (pa_cons (pe_op op_add (pv 4) (pv 6)) (pa_cons (pe_op op_add (pv 5) (pv 7)) pa_nil))))
      (pss_cons (ps_if (pt_cmpR (op_eqD hr.units) (pe_tup (pa_cons (pv 1) (pa_cons (pv 2) pa_nil))) (pv 8) (nomark _)) (pss_one (ps_ret pe_str)) pss_nil)
      (pss_cons (ps_if (pt_cmpR op_eq (pv 3) pe_int (nomark _)) (pss_one (ps_ret (pe_call C__law_near_kind.F hr2 (by rfl) C__law_near_kind.mgf C__law_near_kind.kp C__law_near_kind.b .nil pass0 (pa_cons (pv 0) (pa_cons (pv 1) (pa_cons (pv 2) pa_nil)))))) pss_nil)
      (pss_cons (ps_set (i := 9) nd rfl (Or.inl rfl) (pe_cmpR op_lt (pe_op op_mulW (pv 1) (pe_ix ix_tup (pv 8) pe_int (fun _ _ => rfl))) (pe_op op_mulW (pe_ix ix_tup (pv 8) pe_int (fun _ _ => rfl)) (pv 2)) (nomark _)))
      (pss_cons (ps_set (i := 10) nd rfl (Or.inl rfl) (pe_ifExp (pt_val (pv 9)) (pe_op op_catT (pe_tup (pa_cons (pv 4) (pa_cons (pv 5) pa_nil))) (pv 8)) (pe_op op_catT (pv 8) (pe_tup (pa_cons (pv 6) (pa_cons (pv 7) pa_nil))))))
      (pss_cons (ps_set (i := 11) nd rfl (Or.inl rfl) (pe_call CF.F hr3 (by rfl) CF.mgf CF.kp CF.b .nil pass0 (pa_cons (pv 10) (pa_cons (pv 1) (pa_cons (pv 2) (pa_cons (pe_op op_sub (pv 3) pe_int) pa_nil))))))
      (pss_cons (ps_if (pt_val (pv 9)) (pss_one (ps_ret (pe_ifExp (pt_cmpR op_in_seq (pv 11) (pe_tup (pa_cons pe_str (pa_cons pe_str pa_nil))) (by rfl)) pe_str pe_str))) pss_nil)
      (pss_one (ps_ret (pe_ifExp (pt_cmpR op_in_seq (pv 11) (pe_tup (pa_cons pe_str (pa_cons pe_str pa_nil))) (by rfl)) pe_str pe_str)))))))))), ?_⟩
      have hn := hi.nb
      refine ⟨_, rfl, _, _, rfl, hT, rfl, _, _, rfl, _, _, rfl, _, _, rfl, _, _, rfl, rfl, ?_⟩
      refine ⟨_, rfl, _, rfl, _, _, rfl, rfl, _, rfl, _, rfl, _, _, rfl, rfl, (by decide : 2 ≤ sizeLine), fun p hp => ?_⟩
      have s1 : Same H (upd H p (.tup [.int (a + c), .int (b + d)])) := same_new hp
      refine ⟨_, rfl, _, rfl, (by decide : 2 ≤ sizeLine), fun p2 hp2 => ?_⟩
      have s2 := s1.trans (same_new (o := .tup [.int n, .int m]) hp2)
      have m2 : (upd (upd H p (.tup [.int (a + c), .int (b + d)])) p2 (.tup [.int n, .int m])) p = some (.tup [.int (a + c), .int (b + d)]) := by rw [upd_ne (ne_of_none upd_same hp2)]; exact upd_same
      refine ⟨_, rfl, _, _, .tup (SqT.of upd_same) (.cons (.int n) (.cons (.int m) .nil)), .tup (SqT.of m2) (.cons (.int (a + c)) (.cons (.int (b + d)) .nil)), by rfl, by rfl, _, rfl, ?_⟩
      rw [eqv2]
      by_cases hm : n = a + c ∧ m = b + d
      · refine iteTb (decide_eq_true hm) ?_
        have q2 := q _ s2
        obtain ⟨e1, e2⟩ := (mid_iff hn.nb).mp hm
        rw [e1, e2] at q2
        exact q2
      · refine iteFb (decide_eq_false hm) ?_
        have hm' : ¬ (c * m - d * n = 1 ∧ b * n - a * m = 1) := fun e => hm ((mid_iff hn.nb).mpr e)
        refine ⟨_, rfl, rfl, _, rfl, ?_⟩
        by_cases hk : k = 0
        · refine iteTb (by rw [vdec]; exact decide_eq_true hk) ?_
          refine ⟨_, rfl, _, rfl, _, rfl, t, a, b, c, d, n, m, rfl, hT.ext s2, hi, fun H3 s3 => ?_⟩
          have q3 := q _ (s2.trans s3)
          have e : nearS a b c d n m = kindS (c * m - d * n) (b * n - a * m) := by
            unfold nearS kindS
            rw [if_neg hm', show m * c - n * d = c * m - d * n by rw [Int.mul_comm m c, Int.mul_comm n d]]
          rw [← e] at q3
          exact q3
        · refine iteFb (by rw [vdec]; exact decide_eq_false hk) ?_
          obtain ⟨g1, g2⟩ := u_ge hi
          have a0 := hn.a0
          have ab := hn.ab
          have c0 := hn.c0
          have cd := hn.cd
          have zac : Sz (a + c) := Sz.le (by omega) g1 hi.zn
          have zbd : Sz (b + d) := Sz.le (by omega) g2 hi.zm
          -- is_left
          refine ⟨_, rfl, _, rfl, p, _, _, _, rfl, rfl, SqT.of m2, rfl, _, _, rfl, rfl, hi.zn.mul zbd, _, rfl, p, _, _, _, rfl, rfl, SqT.of m2, rfl, _, rfl, _, _, rfl, rfl, zac.mul hi.zm, _, _, rfl, rfl, ?_⟩
          -- the half
          refine ⟨_, rfl, _, rfl, ?_⟩
          by_cases hL : n * (b + d) < (a + c) * m
          · have hL' := is_left_iff.mp hL
            refine iteTb (decide_eq_true hL) ?_
            refine ⟨_, rfl, _, rfl, (by decide : 2 ≤ sizeLine), fun p3 hp3 => ?_⟩
            have s3 := s2.trans (same_new (o := .tup [.int a, .int b]) hp3)
            refine ⟨_, rfl, p3, p, [.int a, .int b], [.int (a + c), .int (b + d)], rfl, rfl, SqT.of upd_same, SqT.of (by rw [upd_ne (ne_of_none m2 hp3)]; exact m2), (fun z => nomatch z), (by decide : 4 ≤ sizeLine), (fun z => nomatch z), fun _ p4 hp4 => ?_⟩
            have s4 := s3.trans (same_new (o := .tup ([.int a, .int b] ++ [.int (a + c), .int (b + d)])) hp4)
            refine ⟨_, rfl, _, rfl, _, rfl, _, rfl, _, _, rfl, rfl, p4, a, b, a + c, b + d, n, m, k - 1, rfl, SqT.of upd_same, hi.left hL', hg, by omega, by omega, fun H5 s5 => ?_⟩
            refine ⟨_, rfl, _, rfl, iteTb (decide_eq_true hL) ⟨_, rfl, (by decide : 2 ≤ sizeLine), fun p6 hp6 => ?_⟩⟩
            have q6 := q _ ((s4.trans s5).trans (same_new (o := .tup [.str "middle", .str "left"]) hp6))
            refine ⟨p6, _, rfl, .inr (SqT.of upd_same), rfl, rfl, _, rfl, ?_⟩
            unfold kindS at q6
            rw [if_neg hm'] at q6
            have hu1 : ¬ (c * m - d * n = 1) := by have := hi.v0; omega
            by_cases hv : b * n - a * m = 1
            · refine iteTb ((inL _ _).trans (decide_eq_true hv)) ?_
              rw [if_pos hv] at q6
              exact q6
            · refine iteFb ((inL _ _).trans (decide_eq_false hv)) ?_
              rw [if_neg hv, if_neg hu1] at q6
              exact q6
          · have hL' : ¬ (b * n - a * m < c * m - d * n) := fun e => hL (is_left_iff.mpr e)
            have hne : c * m - d * n ≠ b * n - a * m := fun e => by
              have := uv_one hn.nb hg hi.u0 e
              exact hm' ⟨this, by omega⟩
            have hR' : c * m - d * n < b * n - a * m := by omega
            refine iteFb (decide_eq_false hL) ?_
            refine ⟨_, rfl, _, rfl, _, rfl, (by decide : 2 ≤ sizeLine), fun p3 hp3 => ?_⟩
            have s3 := s2.trans (same_new (o := .tup [.int c, .int d]) hp3)
            refine ⟨p, p3, [.int (a + c), .int (b + d)], [.int c, .int d], rfl, rfl, SqT.of (by rw [upd_ne (ne_of_none m2 hp3)]; exact m2), SqT.of upd_same, (fun z => nomatch z), (by decide : 4 ≤ sizeLine), (fun z => nomatch z), fun _ p4 hp4 => ?_⟩
            have s4 := s3.trans (same_new (o := .tup ([.int (a + c), .int (b + d)] ++ [.int c, .int d])) hp4)
            refine ⟨_, rfl, _, rfl, _, rfl, _, rfl, _, _, rfl, rfl, p4, a + c, b + d, c, d, n, m, k - 1, rfl, SqT.of upd_same, hi.right hR', hg, by omega, by omega, fun H5 s5 => ?_⟩
            refine ⟨_, rfl, _, rfl, iteFb (decide_eq_false hL) ?_⟩
            refine ⟨_, rfl, (by decide : 2 ≤ sizeLine), fun p6 hp6 => ?_⟩
            have q6 := q _ ((s4.trans s5).trans (same_new (o := .tup [.str "middle", .str "right"]) hp6))
            refine ⟨p6, _, rfl, .inr (SqT.of upd_same), rfl, rfl, _, rfl, ?_⟩
            unfold kindS at q6
            rw [if_neg hm'] at q6
            have hv1 : ¬ (b * n - a * m = 1) := by have := hi.u0; omega
            rw [if_neg hv1] at q6
            by_cases hu : c * m - d * n = 1
            · refine iteTb ((inR _ _).trans (decide_eq_true hu)) ?_
              rw [if_pos hu] at q6
              exact q6
            · refine iteFb ((inR _ _).trans (decide_eq_false hu)) ?_
              rw [if_neg hu] at q6
              exact q6
end
end Toy
set_option maxRecDepth 100000
set_option maxHeartbeats 4000000
namespace Toy
open PySem L2
theorem Pen.at {H : Hp} {p : Addr} {k : Nat} (h : Pen H p k) : ∃ xs, H p = some (.lst xs) := let ⟨_, _, _, _, W, _⟩ := h; ⟨_, W.hp⟩
theorem Pen.ne_ins {H : Hp} {p a C dx : Addr} {fs : List (Str × V)} {k : Nat} (h : Pen H p k) (e : H a = some (.ins C dx fs)) : a ≠ p := let ⟨_, hp⟩ := h.at; ne_of e hp (fun z => nomatch z)
theorem Pen.ne_tup {H : Hp} {p a : Addr} {xs : List V} {k : Nat} (h : Pen H p k) (e : H a = some (.tup xs)) : a ≠ p := let ⟨_, hp⟩ := h.at; ne_of e hp (fun z => nomatch z)
theorem Pen.ne_none {H : Hp} {p a : Addr} {k : Nat} (h : Pen H p k) (e : H a = none) : a ≠ p := let ⟨_, hp⟩ := h.at; (ne_of_none hp e).symm
theorem PieAt.but {CP C p x : Addr} {H H' : Hp} {a b c d : Int} {k : Nat} (h : PieAt CP C H x a b c d) (e : But p H H') (hp : Pen H p k) : PieAt CP C H' x a b c d := by
  obtain ⟨dx, l, r, h, ⟨dl, hl⟩, ⟨dr, hr⟩⟩ := h
  exact ⟨dx, l, r, e _ _ h (hp.ne_ins h), ⟨dl, e _ _ hl (hp.ne_ins hl)⟩, ⟨dr, e _ _ hr (hp.ne_ins hr)⟩⟩
theorem eqvB (x y z t : Bool) : PyData.eqv (.list [.bool x, .bool y]) (.list [.bool z, .bool t]) = (x == z && (y == t && true)) := rfl
theorem dpB {K : PySem.W.Frag} {H : Hp} {a : Addr} {x y : Bool} (h : H a = some (.lst [.bl x, .bl y])) : Dp K H (.ref a) (.list [.bool x, .bool y]) := .lst (SqL.of h) (.cons (.bl x) (.cons (.bl y) .nil))
theorem kvs_m (l1 l2 l3 : Addr) : valV (mergeK [] [((.inr "middle" : Key), V.ref l1), (.inr "left", .ref l2), (.inr "right", .ref l3)]) (Sum.inr "middle") = some (.ref l1) := rfl
theorem kvs_l (l1 l2 l3 : Addr) : valV (mergeK [] [((.inr "middle" : Key), V.ref l1), (.inr "left", .ref l2), (.inr "right", .ref l3)]) (Sum.inr "left") = some (.ref l2) := rfl
theorem kvs_r (l1 l2 l3 : Addr) : valV (mergeK [] [((.inr "middle" : Key), V.ref l1), (.inr "left", .ref l2), (.inr "right", .ref l3)]) (Sum.inr "right") = some (.ref l3) := rfl
theorem kvs_o (l1 l2 l3 : Addr) : valV (mergeK [] [((.inr "middle" : Key), V.ref l1), (.inr "left", .ref l2), (.inr "right", .ref l3)]) (Sum.inr "other") = none := rfl
section
variable {P : Program} {w : World} {K : PySem.W.Frag} {mg : Str → Option Value} {base : Heap} {C CP : Addr}
def spRight (K : PySem.W.Frag) : Sp := fun vs H Q _ => ∃ p t a b c d n m k, vs = [.ref p, .ref t, .int n, .int m] ∧ Pen H p k ∧ k ≤ 1000000 ∧ H t = some (.tup [.int a, .int b, .int c, .int d]) ∧ InP a b c d n m ∧ gcdI n m = 1 ∧
  ∀ H', Pen H' p (k + 1) → But p H H' → Q (.bl true) H'
abbrev sRight : Stmt := top 39
theorem scRg : FnScope ["_law_pen_here", "_law_ends", "_law_top", "_law_bottom", "_law_made", "_law_deep", "_law_kind_here", "_law_near"] ["_law_pen_here", "_law_ends", "_law_top", "_law_bottom"] (defScope sRight) := ⟨rfl, rfl, rfl, by decide +kernel, rfl, by decide +kernel, by decide +kernel⟩
theorem ok_right {f f1 f2 f3 f4 f5 f6 : Addr} {fd fd1 fd2 fd3 fd4 fd5 fd6 : FuncData} {g : List Value → List Value → List Value} (F : Fun K "_law_right" "_law_right" sRight f fd) (T_Piece : PieT K mg CP)
    (C__law_piece : Cal P w K mg base 7 "_law_piece" f1 fd1 ["_law_ends"] (spLPiece K CP C)) (C__law_draw : Cal P w K mg base 1 "_law_draw" f2 fd2 ["_law_pen_here", "_law_many"] spDraw)
    (M_Ratio : Mak P w K mg base 2 "Ratio" C f3 fd3 ["self", "top", "bottom"] (spRInit C)) (D_Piece_kind : Dot P w K mg base 3 CP "kind" f4 fd4 ["self", "fifth"] (spKind CP C)) (KB_Piece_kind_fifth : KBn K fd4 ["self", "fifth"] 1 ["fifth"] g fun vs zs => vs ++ zs)
    (C__law_kind : Cal P w K mg base 8 "_law_kind" f5 fd5 ["_law_ends", "_law_top", "_law_bottom", "_law_deep"] (spLKind K 5)) (C__law_is_beside : Cal P w K mg base 1 "_law_is_beside" f6 fd6 ["_law_one", "_law_other"] (spBeside K)) : FnOk P w K mg base CX0 9 f fd ["_law_pen_here", "_law_ends", "_law_top", "_law_bottom"] (spRight K) := by
  refine F.ok scRg (fun vs H Q E h => ?_) (fun cdv A outer s H vs Q E hr h => ?_)
  · obtain ⟨p, t, a, b, c, d, n, m, k, rfl, _⟩ := h
    rfl
  · obtain ⟨p, t, a, b, c, d, n, m, k, rfl, hP, hk, hT, hi, hg, q⟩ := h
    have nd := scRg.nd
    have hu := hu_of hr
    refine ⟨_, pss_cons (ps_par (i := 4) (j := 5) (by rfl) nd rfl rfl (by decide) rfl rfl (pa_cons (pe_call C__law_piece.F (hr.mono (by decide)) (by rfl) C__law_piece.mgf C__law_piece.kp C__law_piece.b .nil pass0 (pa_cons (pv 1) pa_nil)) (pa_cons (pe_call C__law_draw.F (hr.mono (by decide)) (by rfl) C__law_draw.mgf C__law_draw.kp C__law_draw.b .nil pass0 (pa_cons (pv 0) (pa_cons pe_int pa_nil))) pa_nil)) (by rfl))
      (pss_cons (ps_set (i := 6) nd rfl (Or.inl rfl) (pe_meth (pv 4) T_Piece.cl D_Piece_kind.m D_Piece_kind.F (hr.mono (by decide)) D_Piece_kind.b .nil pass0 (pa_cons (pe_make M_Ratio.M M_Ratio.F (hr.mono (by decide)) (by rfl) M_Ratio.mgC M_Ratio.b .nil pass0 (pa_cons (pv 2) (pa_cons (pv 3) pa_nil))) pa_nil)))
      (pss_cons (ps_if (PW.pt (pw_or (pt_cmpR op_ne (pv 6) (pe_call C__law_kind.F (hr.mono (by decide)) (by rfl) C__law_kind.mgf C__law_kind.kp C__law_kind.b .nil pass0 (pa_cons (pv 1) (pa_cons (pv 2) (pa_cons (pv 3) (pa_cons (pv 5) pa_nil))))) (nomark _)) (pw_or1 (pt_cmpR op_ne (Own.pe_methK0 (pv 4) T_Piece.cl D_Piece_kind.m D_Piece_kind.F (hr.mono (by decide)) KB_Piece_kind_fifth pass0 (pk_cons (pe_make M_Ratio.M M_Ratio.F (hr.mono (by decide)) (by rfl) M_Ratio.mgC M_Ratio.b .nil pass0 (pa_cons (pv 2) (pa_cons (pv 3) pa_nil))) pk_nil)) (pv 6) (nomark _))))) (pss_one (ps_ret pe_bl)) pss_nil)
      (C8.pss_cut (ps_set (i := 7) nd rfl (Or.inl rfl) (pe_lst (pa_cons (pe_call C__law_is_beside.F (hr.mono (by decide)) (by rfl) C__law_is_beside.mgf C__law_is_beside.kp C__law_is_beside.b .nil pass0 (pa_cons (pe_slice sl_tup (pv 1) po_none (po_some pe_int)) (pa_cons (pe_tup (pa_cons (pv 2) (pa_cons (pv 3) pa_nil))) pa_nil))) (pa_cons (pe_call C__law_is_beside.F (hr.mono (by decide)) (by rfl) C__law_is_beside.mgf C__law_is_beside.kp C__law_is_beside.b .nil pass0 (pa_cons (pe_tup (pa_cons (pv 2) (pa_cons (pv 3) pa_nil))) (pa_cons (pe_slice sl_tup (pv 1) (po_some pe_int) po_none) pa_nil))) pa_nil))))
      (pss_one (ps_ret (pe_cmpR (op_eqD hr.units) (pv 7) (pe_dget2 hu (pe_disp (pps_cons pe_str (pe_lst (pa_cons pe_bl (pa_cons pe_bl pa_nil))) (pps_cons pe_str (pe_lst (pa_cons pe_bl (pa_cons pe_bl pa_nil))) (pps_cons pe_str (pe_lst (pa_cons pe_bl (pa_cons pe_bl pa_nil))) pps_nil))) (by rfl) (by rfl) (fun z => by cases z) (by decide)) (pv 6) (pe_lst (pa_cons pe_bl (pa_cons pe_bl pa_nil))) ⟨rfl, rfl, rfl, rfl⟩) (nomark _))))))), ?_⟩
    have hn := hi.nb
    have m0 : 0 < m := by have := (u_ge hi).2; have := hn.a0; have := hn.ab; have := hn.c0; have := hn.cd; omega
    -- made, deep
    refine ⟨_, rfl, t, a, b, c, d, rfl, SqT.of hT, hn, fun x H1 s1 hx hPi => ?_⟩
    refine ⟨_, rfl, p, _, k, rfl, hP.same s1, hk, by decide, small_i (by decide), fun r H2 r0 r1 hP2 hB2 => ⟨_, _, rfl, ?_⟩⟩
    have hPi2 := hPi.but hB2 (hP.same s1)
    have B2 : But p H H2 := (But.same s1).trans hB2
    have hT2 : H2 t = some (.tup [.int a, .int b, .int c, .int d]) := B2 _ _ hT (hP.ne_tup hT)
    -- the kind
    obtain ⟨dx, l, r2, hx2, _⟩ := id hPi2
    refine ⟨_, rfl, x, dx, _, rfl, hx2, pieF_no _ _ (by decide +kernel) (by decide +kernel), _, rfl, _, rfl, ?_⟩
    intro y dy hy hdy hne
    refine ⟨y, dy, n, m, rfl, upd_same, by omega, hi.zm, fun H3 hR hk3 => ⟨rfl, ?_⟩⟩
    have s3 := mk_same hy hdy hk3
    rw [lowT_one m0 hg, lowB_one m0 hg] at hR
    refine ⟨x, y, a, b, c, d, n, m, rfl, hPi2.same s3, hR, hi, fun H4 s4 => ?_⟩
    have s24 := s3.trans s4
    -- both kinds
    refine ⟨_, rfl, _, rfl, _, rfl, _, rfl, _, rfl, t, a, b, c, d, n, m, r, rfl, SqT.of (s24 _ _ hT2), hi, hg, r0, by omega, fun H5 s5 => ⟨rfl, _, rfl, iteFb (by rw [decide_eq_true rfl]; rfl) ?_⟩⟩
    have s25 := s24.trans s5
    refine ⟨_, rfl, x, dx, _, rfl, s25 _ _ hx2, pieF_no _ _ (by decide +kernel) (by decide +kernel), _, rfl, _, rfl, ?_⟩
    intro y2 dy2 hy2 hdy2 hne2
    refine ⟨y2, dy2, n, m, rfl, upd_same, by omega, hi.zm, fun H6 hR6 hk6 => ⟨rfl, ?_⟩⟩
    have s6 := mk_same hy2 hdy2 hk6
    rw [lowT_one m0 hg, lowB_one m0 hg] at hR6
    have s26 := s25.trans s6
    refine ⟨rfl, x, y2, a, b, c, d, n, m, rfl, hPi2.same s26, hR6, hi, fun H7 s7 => ⟨_, rfl, rfl, _, rfl, iteFb (by rw [decide_eq_true rfl]; rfl) ?_⟩⟩
    have s27 := s26.trans s7
    -- near
    refine ⟨fun σ' H' => ∃ z, σ' = [some (.ref p), some (.ref t), some (.int n), some (.int m), some (.ref x), some (.int r), some (.str (kindS (c * m - d * n) (b * n - a * m))), some (.ref z)] ∧ H' z = some (.lst [.bl (decide (b * n - a * m = 1)), .bl (decide (m * c - n * d = 1))]) ∧ Same H2 H', ?_, ?_⟩
    have hT7 := s27 _ _ hT2
    refine ⟨_, rfl, _, rfl, t, _, rfl, SqT.of hT7, (show ¬ (HT.sIx 4 0 none = 0 ∧ HT.sIx 4 4 (some 2) = 4) by decide), fun p1 hp1 => ?_⟩
    have s8 := s27.trans (same_new (o := .tup (cutV [.int a, .int b, .int c, .int d] none (some 2))) hp1)
    refine ⟨_, rfl, _, rfl, (by decide : 2 ≤ sizeLine), fun p2 hp2 => ?_⟩
    have s9 := s8.trans (same_new (o := .tup [.int n, .int m]) hp2)
    refine ⟨p1, p2, a, b, n, m, rfl, SqT.of (by rw [upd_ne (ne_of_none upd_same hp2)]; exact upd_same), SqT.of upd_same, ⟨hn.za, hn.zb, hi.zn, hi.zm⟩, ?_⟩
    refine ⟨_, rfl, _, rfl, (by decide : 2 ≤ sizeLine), fun p3 hp3 => ?_⟩
    have s10 := s9.trans (same_new (o := .tup [.int n, .int m]) hp3)
    refine ⟨_, rfl, _, rfl, t, _, rfl, SqT.of (s10 _ _ hT2), (show ¬ (HT.sIx 4 0 (some 2) = 0 ∧ HT.sIx 4 4 none = 4) by decide), fun p4 hp4 => ?_⟩
    have s11 := s10.trans (same_new (o := .tup (cutV [.int a, .int b, .int c, .int d] (some 2) none)) hp4)
    refine ⟨p3, p4, n, m, c, d, rfl, SqT.of (by rw [upd_ne (ne_of_none upd_same hp4)]; exact upd_same), SqT.of upd_same, ⟨hi.zn, hi.zm, hn.zc, hn.zd⟩, ?_⟩
    refine ⟨(by decide : 2 ≤ sizeLine), fun p5 hp5 => ?_⟩
    have s12 := s11.trans (same_new (o := .lst [.bl (decide (b * n - a * m = 1)), .bl (decide (m * c - n * d = 1))]) hp5)
    exact ⟨p5, rfl, upd_same, s12⟩
    -- what is due
    rintro σ' Hn ⟨p5, rfl, h5, s12⟩
    have eu : m * c - n * d = c * m - d * n := by rw [Int.mul_comm m c, Int.mul_comm n d]
    rw [eu] at h5
    refine ⟨_, rfl, fun d6 hd6 => ⟨(by decide : 2 ≤ sizeLine), fun l1 hl1 => ⟨(by decide : 2 ≤ sizeLine), fun l2 hl2 => ⟨(by decide : 2 ≤ sizeLine), fun l3 hl3 => ?_⟩⟩⟩⟩
    have n1 := ne_of_none (a := d6) upd_same hl1
    have n2 : d6 ≠ l2 := ne_of_none (by rw [upd_ne n1]; exact upd_same) hl2
    have n3 : d6 ≠ l3 := ne_of_none (by rw [upd_ne n2, upd_ne n1]; exact upd_same) hl3
    refine ⟨by rw [upd_ne n3, upd_ne n2, upd_ne n1]; exact upd_same, [(.inr "middle", .ref l1), (.inr "left", .ref l2), (.inr "right", .ref l3)], rfl, (by decide : 3 ≤ 15), ?_⟩
    refine ⟨_, rfl, .inl ⟨_, Rd.of upd_same⟩, _, rfl, (by decide : 2 ≤ sizeLine), fun l4 hl4 => ?_⟩
    have n4 := ne_of_none (a := d6) upd_same hl4
    refine ⟨_, DGet.k (k := Sum.inr (kindS (c * m - d * n) (b * n - a * m))) (by rw [upd_ne n4]; exact upd_same), ?_⟩
    have m12 : l1 ≠ l2 := ne_of_none upd_same hl2
    have m13 : l1 ≠ l3 := ne_of_none (by rw [upd_ne m12]; exact upd_same) hl3
    have m23 : l2 ≠ l3 := ne_of_none upd_same hl3
    have m14 : l1 ≠ l4 := ne_of_none (by rw [upd_ne n1.symm, upd_ne m13, upd_ne m12]; exact upd_same) hl4
    have m24 : l2 ≠ l4 := ne_of_none (by rw [upd_ne n2.symm, upd_ne m23]; exact upd_same) hl4
    have m34 : l3 ≠ l4 := ne_of_none (by rw [upd_ne n3.symm]; exact upd_same) hl4
    have w1 : Same Hn (upd Hn d6 (.dK [])) := same_new hd6
    have w2 := w1.trans (same_new (o := .lst [.bl true, .bl true]) hl1)
    have w3 := w2.trans (same_new (o := .lst [.bl true, .bl false]) hl2)
    have w4 := w3.trans (same_new (o := .lst [.bl false, .bl true]) hl3)
    have w5 : Same Hn (upd (upd (upd (upd (upd Hn d6 (.dK [])) l1 (.lst [.bl true, .bl true])) l2 (.lst [.bl true, .bl false])) l3 (.lst [.bl false, .bl true])) d6 (.dK (mergeK [] [(.inr "middle", .ref l1), (.inr "left", .ref l2), (.inr "right", .ref l3)]))) :=
      fun y o e => by rw [upd_ne (ne_of_none e hd6)]; exact w4 _ _ e
    have w6 := w5.trans (same_new (o := .lst [.bl false, .bl false]) hl4)
    have sf := s12.trans w6
    have fin := q _ (hP2.same sf) (B2.trans (But.same sf))
    have g5 := w6 _ _ h5
    have g1 : (upd (upd (upd (upd (upd (upd Hn d6 (.dK [])) l1 (.lst [.bl true, .bl true])) l2 (.lst [.bl true, .bl false])) l3 (.lst [.bl false, .bl true])) d6 (.dK (mergeK [] [(.inr "middle", .ref l1), (.inr "left", .ref l2), (.inr "right", .ref l3)]))) l4 (.lst [.bl false, .bl false])) l1 = some (.lst [.bl true, .bl true]) := by
      rw [upd_ne m14, upd_ne n1.symm, upd_ne m13, upd_ne m12]; exact upd_same
    have g2 : (upd (upd (upd (upd (upd (upd Hn d6 (.dK [])) l1 (.lst [.bl true, .bl true])) l2 (.lst [.bl true, .bl false])) l3 (.lst [.bl false, .bl true])) d6 (.dK (mergeK [] [(.inr "middle", .ref l1), (.inr "left", .ref l2), (.inr "right", .ref l3)]))) l4 (.lst [.bl false, .bl false])) l2 = some (.lst [.bl true, .bl false]) := by
      rw [upd_ne m24, upd_ne n2.symm, upd_ne m23]; exact upd_same
    have g3 : (upd (upd (upd (upd (upd (upd Hn d6 (.dK [])) l1 (.lst [.bl true, .bl true])) l2 (.lst [.bl true, .bl false])) l3 (.lst [.bl false, .bl true])) d6 (.dK (mergeK [] [(.inr "middle", .ref l1), (.inr "left", .ref l2), (.inr "right", .ref l3)]))) l4 (.lst [.bl false, .bl false])) l3 = some (.lst [.bl false, .bl true]) := by
      rw [upd_ne m34, upd_ne n3.symm]; exact upd_same
    by_cases hu1 : c * m - d * n = 1
    · by_cases hv1 : b * n - a * m = 1
      · rw [show kindS (c * m - d * n) (b * n - a * m) = "middle" by unfold kindS; rw [if_pos ⟨hu1, hv1⟩], kvs_m]
        rw [decide_eq_true hu1, decide_eq_true hv1] at g5
        exact ⟨_, _, dpB g5, dpB g1, by decide, by decide, fin⟩
      · rw [show kindS (c * m - d * n) (b * n - a * m) = "right" by unfold kindS; rw [if_neg (fun e => hv1 e.2), if_neg hv1, if_pos hu1], kvs_r]
        rw [decide_eq_true hu1, decide_eq_false hv1] at g5
        exact ⟨_, _, dpB g5, dpB g3, by decide, by decide, fin⟩
    · by_cases hv1 : b * n - a * m = 1
      · rw [show kindS (c * m - d * n) (b * n - a * m) = "left" by unfold kindS; rw [if_neg (fun e => hu1 e.1), if_pos hv1], kvs_l]
        rw [decide_eq_false hu1, decide_eq_true hv1] at g5
        exact ⟨_, _, dpB g5, dpB g2, by decide, by decide, fin⟩
      · rw [show kindS (c * m - d * n) (b * n - a * m) = "other" by unfold kindS; rw [if_neg (fun e => hu1 e.1), if_neg hv1, if_neg hu1], kvs_o]
        rw [decide_eq_false hu1, decide_eq_false hv1] at g5
        exact ⟨_, _, dpB g5, dpB upd_same, by decide, by decide, fin⟩
end
end Toy
set_option maxRecDepth 100000
set_option maxHeartbeats 4000000
namespace Toy
open PySem L2
theorem cdw {i j : Int} (h0 : 0 < j) (h1 : j.natAbs ≤ 1000000000) : CDivW i j := wide_div h0 (Nat.lt_of_le_of_lt h1 (by decide : 1000000000 < 2 ^ 30)) (by decide) (by decide)
theorem Sz.divW {i j : Int} (h0 : 0 < j) (z : Sz j) : CDivW i j := wide_div h0 z (by decide) (by decide)
theorem cm {i j : Int} (h : i.natAbs ≤ 1000000000) : CMul i j := .inl ⟨by omega, by omega⟩
theorem cmr {i j : Int} (h : j.natAbs ≤ 1000000000) : CMul i j := .inr ⟨by omega, by omega⟩
theorem Sz.small {z : Int} (h : z.natAbs ≤ 1000000000) : Sz z := Sz.of (Nat.lt_of_le_of_lt h (by decide +kernel))
theorem far_in {a b c d U V : Int} (hn : Nbr a b c d) (hU : 0 < U) (hV : 0 < V) (g : gcdI U V = 1) (zn : Sz (U * a + V * c)) (zm : Sz (U * b + V * d)) :
    InP a b c d (U * a + V * c) (U * b + V * d) ∧ gcdI (U * a + V * c) (U * b + V * d) = 1 := by
  have nb := hn.nb
  have e1 : c * (U * b + V * d) - d * (U * a + V * c) = U := by grind
  have e2 : b * (U * a + V * c) - a * (U * b + V * d) = V := by grind
  refine ⟨⟨hn, zn, zm, by rw [e1]; exact hU, by rw [e2]; exact hV⟩, ?_⟩
  generalize U * a + V * c = n at e1 e2 ⊢
  generalize U * b + V * d = m at e1 e2 ⊢
  have h1 : gcdI n m ∣ n := Int.ofNat_dvd_left.mpr (Nat.gcd_dvd_left _ _)
  have h2 : gcdI n m ∣ m := Int.ofNat_dvd_left.mpr (Nat.gcd_dvd_right _ _)
  have d1 : gcdI n m ∣ U := e1 ▸ Int.dvd_sub (Int.dvd_trans h2 (Int.dvd_mul_left _ _)) (Int.dvd_trans h1 (Int.dvd_mul_left _ _))
  have d2 : gcdI n m ∣ V := e2 ▸ Int.dvd_sub (Int.dvd_trans h1 (Int.dvd_mul_left _ _)) (Int.dvd_trans h2 (Int.dvd_mul_left _ _))
  exact Int.eq_one_of_dvd_one (by unfold gcdI; omega) (gcd_dvd d1 d2 g)
theorem gcd_quot {u v : Int} (hu : 0 < u) (hv : 0 < v) : gcdI (u / gcdI u v) (v / gcdI u v) = 1 ∧ 0 < u / gcdI u v ∧ 0 < v / gcdI u v ∧ u / gcdI u v ≤ u ∧ v / gcdI u v ≤ v := by
  obtain ⟨n, rfl⟩ := Int.eq_ofNat_of_zero_le (show 0 ≤ u by omega)
  obtain ⟨m, rfl⟩ := Int.eq_ofNat_of_zero_le (show 0 ≤ v by omega)
  have n0 : 0 < n := by omega
  have m0 : 0 < m := by omega
  have g0 : 0 < Nat.gcd n m := Nat.gcd_pos_of_pos_left m n0
  have hg : gcdI (n : Int) (m : Int) = ((Nat.gcd n m : Nat) : Int) := rfl
  rw [hg]
  have en : ((n : Int) / ((Nat.gcd n m : Nat) : Int)) = ((n / Nat.gcd n m : Nat) : Int) := rfl
  have em : ((m : Int) / ((Nat.gcd n m : Nat) : Int)) = ((m / Nat.gcd n m : Nat) : Int) := rfl
  rw [en, em]
  have k1 := Nat.div_pos (Nat.le_of_dvd n0 (Nat.gcd_dvd_left n m)) g0
  have k2 := Nat.div_pos (Nat.le_of_dvd m0 (Nat.gcd_dvd_right n m)) g0
  have k3 := Nat.div_le_self n (Nat.gcd n m)
  have k4 := Nat.div_le_self m (Nat.gcd n m)
  refine ⟨?_, by omega, by omega, by omega, by omega⟩
  show ((Nat.gcd (n / Nat.gcd n m) (m / Nat.gcd n m) : Nat) : Int) = 1
  rw [Nat.gcd_div (Nat.gcd_dvd_left n m) (Nat.gcd_dvd_right n m), Nat.div_self g0]
  rfl
section
variable {P : Program} {w : World} {K : PySem.W.Frag} {mg : Str → Option Value} {base : Heap} {C CP : Addr}
def Good (H : Hp) (a b c d : Int) (v : V) : Prop := ∃ r n m, v = .ref r ∧ H r = some (.tup [.int n, .int m]) ∧ InP a b c d n m ∧ gcdI n m = 1
theorem Good.same {H H' : Hp} {a b c d : Int} {v : V} (h : Good H a b c d v) (e : ∀ r xs, H r = some (.tup xs) → H' r = some (.tup xs)) : Good H' a b c d v := let ⟨r, n, m, e1, e2, e3⟩ := h; ⟨r, n, m, e1, e _ _ e2, e3⟩
def spSmall (K : PySem.W.Frag) : Sp := fun vs H Q _ => ∃ (t : Addr) (a b c d most : Int), vs = [.ref t, .int most] ∧ SqT K H t [.int a, .int b, .int c, .int d] ∧ Nbr a b c d ∧ b + d ≤ 200 ∧ 0 ≤ most ∧ most ≤ 399 ∧
  ∀ (l : Addr) (xs : List V) (H' : Hp), Same H H' → H l = none → H' l = some (.lst xs) → (∀ v ∈ xs, Good H' a b c d v) → xs.length ≤ 170000 → Q (.ref l) H'
abbrev sSmall : Stmt := top 40
theorem scSm : FnScope ["_law_ends", "_law_most", "_law_a", "_law_b", "_law_c", "_law_d", "_law_found", "_law_bottom", "_law_top"] ["_law_ends", "_law_most"] (defScope sSmall) := ⟨rfl, rfl, rfl, by decide +kernel, rfl, by decide +kernel, by decide +kernel⟩
theorem ok_small {f f1 : Addr} {fd fd1 : FuncData} (F : Fun K "_law_small" "_law_small" sSmall f fd) (T : Bl mg) (C__law_common : Cal P w K mg base 1 "_law_common" f1 fd1 ["_law_one", "_law_other"] spCommon) : FnOk P w K mg base CX0 2 f fd ["_law_ends", "_law_most"] (spSmall K) := by
  refine F.ok scSm (fun vs H Q E h => ?_) (fun cdv A outer s H vs Q E hr h => ?_)
  · obtain ⟨t, a, b, c, d, most, rfl, _⟩ := h
    rfl
  · obtain ⟨t, a, b, c, d, most, rfl, hT, hn, hbd, m0, m1, q⟩ := h
    have nd := scSm.nd
    refine ⟨_, pss_cons (ps_asg (pv 0) (pg_tup (by rfl) (pgs_cons (pg_name (i := 2) nd rfl (Or.inl rfl)) (pgs_cons (pg_name (i := 3) nd rfl (Or.inl rfl)) (pgs_cons (pg_name (i := 4) nd rfl (Or.inl rfl)) (pgs_cons (pg_name (i := 5) nd rfl (Or.inl rfl)) pgs_nil))))))
      (pss_cons (ps_set (i := 6) nd rfl (Or.inl rfl) (pe_lst pa_nil))
      (pss_cons (ps_for PassesOwn.never rfl (pi_range2 (by rfl) T.range (pa_cons (pe_op op_add (pv 3) (pv 5)) (pa_cons (pe_op op_add (pv 1) pe_int) pa_nil))) (pg_name (i := 7) nd rfl (Or.inl rfl)) (pss_one (ps_for PassesOwn.never rfl (pi_range2 (by rfl) T.range (pa_cons (pe_op op_fdivW (pe_op op_mul (pv 2) (pv 7)) (pv 3)) (pa_cons (pe_op op_add (pe_op op_fdivW (pe_op op_mul (pv 4) (pv 7)) (pv 5)) pe_int) pa_nil))) (pg_name (i := 8) nd rfl (Or.inl rfl)) (pss_one (ps_if (PW.pt (pw_and (pt_cmpR op_lt (pe_op op_mul (pv 2) (pv 7)) (pe_op op_mul (pv 8) (pv 3)) (nomark _)) (pw_and (pt_cmpR op_lt (pe_op op_mul (pv 8) (pv 5)) (pe_op op_mul (pv 4) (pv 7)) (nomark _)) (pw_and1 (pt_cmpR op_eq (pe_call C__law_common.F (hr.mono (by decide)) (by rfl) C__law_common.mgf C__law_common.kp C__law_common.b .nil pass0 (pa_cons (pv 8) (pa_cons (pv 7) pa_nil))) pe_int (nomark _)))))) (pss_one (ps_expr (pe_bm PySem.F.plainAttrs_list PySem.F.slot_list_append PySem.F.type_list_append mt_append (pv 6) (pa_cons (pe_tup (pa_cons (pv 8) (pa_cons (pv 7) pa_nil))) pa_nil)))) pss_nil)))))
      (pss_one (ps_ret (pv 6))))), ?_⟩
    have a0 := hn.a0
    have ab := hn.ab
    have c0 := hn.c0
    have cd := hn.cd
    refine ⟨_, rfl, _, _, rfl, hT, rfl, _, _, rfl, _, _, rfl, _, _, rfl, _, _, rfl, rfl, ?_⟩
    refine ⟨by decide, fun l hl => ?_⟩
    refine ⟨_, rfl, _, rfl, _, _, rfl, rfl, _, rfl, _, _, rfl, rfl, _, _, rfl, ⟨by omega, by omega, by omega, by omega⟩, ?_⟩
    refine for_range (lo := b + d) (n := (most + 1 - (b + d)).toNat) (fun i σ H' => ∃ x y xs, σ = [some (.ref t), some (.int most), some (.int a), some (.int b), some (.int c), some (.int d), some (.ref l), x, y] ∧ Same H H' ∧ H' l = some (.lst xs) ∧ (∀ v ∈ xs, Good H' a b c d v) ∧ xs.length ≤ i * 402)
      ⟨none, none, [], rfl, same_new hl, upd_same, (fun v hv => by cases hv), Nat.zero_le _⟩ ?_ ?_
    · rintro i σ H1 hi ⟨x, y, xs, rfl, s1, h1, hG, hlen⟩
      have e0 : (0 : Int) ≤ b + d + i := by omega
      have e1 : b + d + i ≤ 400 := by omega
      generalize hB : b + d + (i : Int) = B at e0 e1 ⊢
      have p1 := mulB a0 (show a ≤ 200 by omega) e0 e1
      have p2 := mulB (show 0 ≤ c by omega) (show c ≤ 200 by omega) e0 e1
      have lo0 : 0 ≤ a * B / b := Int.ediv_nonneg p1.1 (by omega)
      have lo1 : a * B / b ≤ B := Int.ediv_le_of_le_mul (by omega) (by rw [Int.mul_comm B b]; exact Int.mul_le_mul_of_nonneg_right (by omega) e0)
      have hi0 : 0 ≤ c * B / d := Int.ediv_nonneg p2.1 (by omega)
      have hi1 : c * B / d ≤ B := Int.ediv_le_of_le_mul (by omega) (by rw [Int.mul_comm B d]; exact Int.mul_le_mul_of_nonneg_right (by omega) e0)
      refine ⟨_, rfl, _, rfl, _, _, rfl, rfl, cm (by omega), _, rfl, _, _, rfl, rfl, cdw (by omega) (by omega), _, rfl, _, rfl, _, _, rfl, rfl, cm (by omega), _, rfl, _, _, rfl, rfl, cdw (by omega) (by omega), _, _, rfl, rfl, _, _, rfl, ⟨by omega, by omega, by omega, by omega⟩, ?_⟩
      refine for_range (lo := a * B / b) (n := (c * B / d + 1 - a * B / b).toNat) (fun j σ H' => ∃ y xs, σ = [some (.ref t), some (.int most), some (.int a), some (.int b), some (.int c), some (.int d), some (.ref l), some (.int B), y] ∧ Same H H' ∧ H' l = some (.lst xs) ∧ (∀ v ∈ xs, Good H' a b c d v) ∧ xs.length ≤ i * 402 + j)
        ⟨y, xs, rfl, s1, h1, hG, hlen⟩ ?_ ?_
      · rintro j σ H2 hj ⟨y2, xs2, rfl, s2, h2, hG2, hlen2⟩
        have t0 : 0 ≤ a * B / b + j := by omega
        have t1 : a * B / b + j ≤ 400 := by omega
        generalize hTp : a * B / b + (j : Int) = Tp at t0 t1 ⊢
        refine ⟨_, rfl, _, rfl, _, _, rfl, rfl, cm (by omega), _, rfl, _, rfl, _, _, rfl, rfl, cm (by omega), _, _, rfl, rfl, _, rfl, ?_⟩
        have skip : ∀ b0 : Bool, b0 = false → (∃ y xs, [some (V.ref t), some (.int most), some (.int a), some (.int b), some (.int c), some (.int d), some (.ref l), some (.int B), some (.int Tp)] = [some (.ref t), some (.int most), some (.int a), some (.int b), some (.int c), some (.int d), some (.ref l), some (.int B), y] ∧ Same H H2 ∧ H2 l = some (.lst xs) ∧ (∀ v ∈ xs, Good H2 a b c d v) ∧ xs.length ≤ i * 402 + (j + 1)) :=
          fun _ _ => ⟨_, xs2, rfl, s2, h2, hG2, by omega⟩
        by_cases k1 : a * B < Tp * b
        · refine iteTb (decide_eq_true k1) ⟨_, rfl, _, rfl, _, _, rfl, rfl, cm (by omega), _, rfl, _, rfl, _, _, rfl, rfl, cm (by omega), _, _, rfl, rfl, _, rfl, ?_⟩
          by_cases k2 : Tp * d < c * B
          · refine iteTb (decide_eq_true k2) ⟨_, rfl, _, rfl, Tp, B, rfl, rfl, _, rfl, ?_⟩
            by_cases k3 : gcdI Tp B = 1
            · refine iteTb (by rw [vdec]; exact decide_eq_true k3) ?_
              refine ⟨_, rfl, .inl ⟨rfl, _, SqL.of h2⟩, _, rfl, _, rfl, (by decide : 2 ≤ sizeLine), fun r hr2 => ?_⟩
              have h3 : (upd H2 r (.tup [.int Tp, .int B])) l = some (.lst xs2) := same_new hr2 _ _ h2
              refine ⟨l, _, _, rfl, rfl, h3, Nat.lt_of_le_of_lt (show xs2.length ≤ 200000 by omega) (by decide), ?_⟩
              refine ⟨_, xs2 ++ [.ref r], rfl, fun z o e => ?_, upd_same, fun v hv => ?_, by rw [List.length_append]; show xs2.length + 1 ≤ _; omega⟩
              · rw [upd_ne (ne_of_none e hl)]
                exact same_new hr2 _ _ (s2 _ _ e)
              · have keep : ∀ z zs, H2 z = some (.tup zs) → (upd (upd H2 r (.tup [.int Tp, .int B])) l (.lst (xs2 ++ [.ref r]))) z = some (.tup zs) := fun z zs e => by
                  rw [upd_ne (ne_of e h2 (fun z => nomatch z))]
                  exact same_new hr2 _ _ e
                rcases List.mem_append.mp hv with hv | hv
                · exact (hG2 v hv).same keep
                · have ev : v = .ref r := by simpa using hv
                  refine ⟨r, Tp, B, ev, ?_, ⟨hn, Sz.small (by omega), Sz.small (by omega), ?_, ?_⟩, k3⟩
                  · rw [upd_ne (ne_of upd_same h3 (fun z => nomatch z))]
                    exact upd_same
                  · rw [Int.mul_comm d Tp]; omega
                  · rw [Int.mul_comm b Tp]; omega
            · exact iteFb (by rw [vdec]; exact decide_eq_false k3) (skip false rfl)
          · exact iteFb (decide_eq_false k2) (iteF (skip false rfl))
        · exact iteFb (decide_eq_false k1) (iteF (skip false rfl))
      · rintro σ H2 ⟨y2, xs2, rfl, s2, h2, hG2, hlen2⟩
        exact ⟨_, _, xs2, rfl, s2, h2, hG2, by omega⟩
    · rintro σ H2 ⟨x, y, xs, rfl, s2, h2, hG2, hlen2⟩
      exact ⟨_, rfl, q l xs H2 s2 hl h2 hG2 (by omega)⟩
def spLaw (K : PySem.W.Frag) : Sp := fun vs H Q _ => ∃ (a : Addr) (ns : List Int), vs = [.ref a] ∧ SqL K H a (ns.map V.int) ∧ ns.length ≤ 63 ∧ ∀ H', Q (.bl true) H'
abbrev sLaw : Stmt := top 41
theorem scL : FnScope ["_law_script", "_law_pen_here", "_law_turn", "_law_ends", "_law_top", "_law_bottom", "_law_again", "_law_u", "_law_v", "_law_shared"] ["_law_script"] (defScope sLaw) := ⟨rfl, rfl, rfl, by decide +kernel, rfl, by decide +kernel, by decide +kernel⟩
theorem p37 : ((10 : Int) ^ (37 : Int).toNat) = 10000000000000000000000000000000000000 := by decide +kernel
theorem ok_law {f f1 f2 f3 f4 f5 f6 f7 : Addr} {fd fd1 fd2 fd3 fd4 fd5 fd6 fd7 : FuncData} (F : Fun K "law" "law" sLaw f fd) (T : Bl mg) (C__law_pen : Cal P w K mg base 1 "_law_pen" f1 fd1 ["_law_script"] (spPen K))
    (C__law_walk : Cal P w K mg base 2 "_law_walk" f2 fd2 ["_law_pen_here", "_law_most"] spWalk) (C__law_small : Cal P w K mg base 2 "_law_small" f3 fd3 ["_law_ends", "_law_most"] (spSmall K)) (C__law_right : Cal P w K mg base 9 "_law_right" f4 fd4 ["_law_pen_here", "_law_ends", "_law_top", "_law_bottom"] (spRight K))
    (C__law_draw : Cal P w K mg base 1 "_law_draw" f5 fd5 ["_law_pen_here", "_law_many"] spDraw) (C__law_pick : Cal P w K mg base 2 "_law_pick" f6 fd6 ["_law_pen_here", "_law_some"] spPick) (C__law_common : Cal P w K mg base 1 "_law_common" f7 fd7 ["_law_one", "_law_other"] spCommon) :
    FnOk P w K mg base CX0 10 f fd ["_law_script"] (spLaw K) := by
  refine F.ok scL (fun vs H Q E h => ?_) (fun cdv A outer s H vs Q E hr h => ?_)
  · obtain ⟨a, ns, rfl, _⟩ := h
    rfl
  · obtain ⟨a, ns, rfl, hS, hl, q⟩ := h
    have nd := scL.nd
    refine ⟨_, pss_cons (ps_set (i := 1) nd rfl (Or.inl rfl) (pe_call C__law_pen.F (hr.mono (by decide)) (by rfl) C__law_pen.mgf C__law_pen.kp C__law_pen.b .nil pass0 (pa_cons (pv 0) pa_nil)))
      (pss_cons (ps_for PassesOwn.never rfl (pi_range1 (by rfl) T.range (pa_cons pe_int pa_nil)) (pg_name (i := 2) nd rfl (Or.inl rfl)) (pss_cons (ps_set (i := 3) nd rfl (Or.inl rfl) (pe_call C__law_walk.F (hr.mono (by decide)) (by rfl) C__law_walk.mgf C__law_walk.kp C__law_walk.b .nil pass0 (pa_cons (pv 1) (pa_cons pe_int pa_nil))))
      (pss_cons (ps_for PassesOwn.never rfl (pi_list (pe_call C__law_small.F (hr.mono (by decide)) (by rfl) C__law_small.mgf C__law_small.kp C__law_small.b .nil pass0 (pa_cons (pv 3) (pa_cons (pe_op op_mul pe_int (pe_op op_add (pe_ix ix_tup (pv 3) pe_int (fun _ _ => rfl)) (pe_ix ix_tup (pv 3) pe_int (fun _ _ => rfl)))) pa_nil)))) (pg_tup (by rfl) (pgs_cons (pg_name (i := 4) nd rfl (Or.inl rfl)) (pgs_cons (pg_name (i := 5) nd rfl (Or.inl rfl)) pgs_nil))) (pss_one (ps_if (pt_not (pt_val (pe_call C__law_right.F (hr.mono (by decide)) (by rfl) C__law_right.mgf C__law_right.kp C__law_right.b .nil pass0 (pa_cons (pv 1) (pa_cons (pv 3) (pa_cons (pv 4) (pa_cons (pv 5) pa_nil))))))) (pss_one (ps_ret pe_bl)) pss_nil)))
      (pss_one (ps_for PassesOwn.never rfl (pi_range1 (by rfl) T.range (pa_cons pe_int pa_nil)) (pg_name (i := 6) nd rfl (Or.inl rfl)) (pss_cons (ps_par (i := 7) (j := 8) (by rfl) nd rfl rfl (by decide) rfl rfl (pa_cons (pe_op op_add pe_int (pe_call C__law_draw.F (hr.mono (by decide)) (by rfl) C__law_draw.mgf C__law_draw.kp C__law_draw.b .nil pass0 (pa_cons (pv 1) (pa_cons (pe_call C__law_pick.F (hr.mono (by decide)) (by rfl) C__law_pick.mgf C__law_pick.kp C__law_pick.b .nil pass0 (pa_cons (pv 1) (pa_cons (pe_lst (pa_cons pe_int (pa_cons (pe_op op_pow pe_int pe_int) pa_nil))) pa_nil))) pa_nil)))) (pa_cons (pe_op op_add pe_int (pe_call C__law_draw.F (hr.mono (by decide)) (by rfl) C__law_draw.mgf C__law_draw.kp C__law_draw.b .nil pass0 (pa_cons (pv 1) (pa_cons (pe_call C__law_pick.F (hr.mono (by decide)) (by rfl) C__law_pick.mgf C__law_pick.kp C__law_pick.b .nil pass0 (pa_cons (pv 1) (pa_cons (pe_lst (pa_cons pe_int (pa_cons (pe_op op_pow pe_int pe_int) pa_nil))) pa_nil))) pa_nil)))) pa_nil)) (by rfl))
      (pss_cons (ps_set (i := 9) nd rfl (Or.inl rfl) (pe_call C__law_common.F (hr.mono (by decide)) (by rfl) C__law_common.mgf C__law_common.kp C__law_common.b .nil pass0 (pa_cons (pv 7) (pa_cons (pv 8) pa_nil))))
      (pss_cons (ps_par (i := 7) (j := 8) (by rfl) nd rfl rfl (by decide) rfl rfl (pa_cons (pe_op op_fdivW (pv 7) (pv 9)) (pa_cons (pe_op op_fdivW (pv 8) (pv 9)) pa_nil)) (by rfl))
      (pss_one (ps_if (pt_not (pt_val (pe_call C__law_right.F (hr.mono (by decide)) (by rfl) C__law_right.mgf C__law_right.kp C__law_right.b .nil pass0 (pa_cons (pv 1) (pa_cons (pv 3) (pa_cons (pe_op op_add (pe_op op_mul (pv 7) (pe_ix ix_tup (pv 3) pe_int (fun _ _ => rfl))) (pe_op op_mul (pv 8) (pe_ix ix_tup (pv 3) pe_int (fun _ _ => rfl)))) (pa_cons (pe_op op_add (pe_op op_mul (pv 7) (pe_ix ix_tup (pv 3) pe_int (fun _ _ => rfl))) (pe_op op_mul (pv 8) (pe_ix ix_tup (pv 3) pe_int (fun _ _ => rfl)))) pa_nil))))))) (pss_one (ps_ret pe_bl)) pss_nil))))))))))
      (pss_one (ps_ret pe_bl))), ?_⟩
    refine ⟨_, rfl, a, ns, rfl, hS, hl, fun p H0 s0 hp0 hP0 => ?_⟩
    refine ⟨5, rfl, by decide, by decide, ?_⟩
    refine for_range (lo := 0) (n := 5) (fun i σ H' => ∃ x2 x3 x4 x5 x6 x7 x8 x9, σ = [some (.ref a), some (.ref p), x2, x3, x4, x5, x6, x7, x8, x9] ∧ Pen H' p (i * 190000)) ⟨_, _, _, _, _, _, _, _, rfl, hP0⟩ ?_ ?_
    · rintro i σ H1 hi ⟨x2, x3, x4, x5, x6, x7, x8, x9, rfl, hP1⟩
      refine ⟨_, rfl, p, 6, _, rfl, hP1, by decide, by decide, by omega, fun t H2 a1 b1 c1 d1 a0 ab c0 cd nb bd hP2 B2 ht hT => ?_⟩
      have bd2 : b1 + d1 ≤ 128 := bd
      have hn : Nbr a1 b1 c1 d1 := ⟨a0, ab, c0, cd, nb, Sz.small (by omega), Sz.small (by omega), Sz.small (by omega), Sz.small (by omega)⟩
      refine ⟨_, rfl, _, rfl, t, _, _, _, rfl, rfl, SqT.of hT, rfl, _, rfl, t, _, _, _, rfl, rfl, SqT.of hT, rfl, _, _, rfl, rfl, _, _, rfl, rfl, cm (by decide), t, a1, b1, c1, d1, _, rfl, SqT.of hT, hn, by omega, by omega, by omega, fun l xs H3 s3 hl3 hL3 hG3 hlen3 => ?_⟩
      refine ⟨l, rfl, ⟨xs, SqL.of hL3⟩, ?_⟩
      have hP3 := hP2.same s3
      have hlp : l ≠ p := hP2.ne_none hl3
      have htp : t ≠ p := hP2.ne_tup hT
      refine for_list (xs := xs) (K := K) (a := l) (fun j σ H' => ∃ y2 y4 y5 y6 y7 y8 y9, σ = [some (.ref a), some (.ref p), y2, some (.ref t), y4, y5, y6, y7, y8, y9] ∧ Pen H' p (i * 190000 + 30 + j) ∧ But p H3 H') ?_ ?_ ?_ ?_
      · exact ⟨_, _, _, _, _, _, _, rfl, hP3.mono (by omega), But.refl⟩
      · rintro j σ H4 _ ⟨y2, y4, y5, y6, y7, y8, y9, rfl, hP4, B4⟩
        exact SqL.of (B4 _ _ hL3 hlp)
      · rintro j x σ H4 hx ⟨y2, y4, y5, y6, y7, y8, y9, rfl, hP4, B4⟩
        obtain ⟨r, n, m, rfl, hr3, hIn, hg⟩ := hG3 x (List.mem_of_getElem? hx)
        have hj : j < xs.length := (List.getElem?_eq_some_iff.mp hx).1
        refine ⟨r, _, rfl, SqT.of (B4 _ _ hr3 (hP3.ne_tup hr3)), rfl, _, _, rfl, _, _, rfl, rfl, ?_⟩
        refine ⟨_, rfl, _, rfl, _, rfl, _, rfl, p, t, a1, b1, c1, d1, n, m, _, rfl, hP4, by omega, B4 _ _ (s3 _ _ hT) htp, hIn, hg, fun H5 hP5 B5 => ⟨_, rfl, iteF ?_⟩⟩
        exact ⟨_, _, _, _, _, _, _, rfl, hP5.mono (by omega), B4.trans B5⟩
      · rintro σ H4 ⟨y2, y4, y5, y6, y7, y8, y9, rfl, hP4, B4⟩
        refine ⟨4, rfl, by decide, by decide, ?_⟩
        refine for_range (lo := 0) (n := 4) (fun j σ H' => ∃ y2 y4 y5 y6 y7 y8 y9, σ = [some (.ref a), some (.ref p), y2, some (.ref t), y4, y5, y6, y7, y8, y9] ∧ Pen H' p (i * 190000 + 30 + xs.length + j * 5) ∧ But p H3 H') ⟨_, _, _, _, _, _, _, rfl, hP4.mono (by omega), B4⟩ ?_ ?_
        · rintro j σ H5 hj ⟨y2, y4, y5, y6, y7, y8, y9, rfl, hP5, B5⟩
          have far : ∀ (v : V), v ∈ [V.int 1, .int ((10 : Int) ^ (37 : Int).toNat)] → ∃ z : Int, v = .int z ∧ 0 < z ∧ z ≤ 10000000000000000000000000000000000000 := fun v hv => by
            rw [p37] at hv
            rcases List.mem_cons.mp hv with e | hv
            · exact ⟨1, e, by decide, by decide⟩
            · rcases List.mem_cons.mp hv with e | hv
              · exact ⟨_, e, by decide, by decide⟩
              · cases hv
          have sz : ∀ z : Int, 0 < z → z ≤ 10000000000000000000000000000000000000 → z.natAbs < 2 ^ 2000 := fun z h0 h1 => Nat.lt_of_le_of_lt (show z.natAbs ≤ 10000000000000000000000000000000000000 by omega) (by decide +kernel)
          -- u
          refine ⟨_, rfl, _, rfl, _, _, rfl, rfl, ⟨by decide, by decide, by decide⟩, (by decide : 2 ≤ sizeLine), fun e1 he1 => ?_⟩
          have hP6 : Pen (upd H5 e1 (.lst [.int 1, .int ((10 : Int) ^ (37 : Int).toNat)])) p (i * 190000 + 30 + xs.length + j * 5) := hP5.same (same_new he1)
          refine ⟨p, e1, _, _, rfl, hP6, by omega, upd_same, hP5.ne_none he1, (by decide : 0 < 2), (by decide : 2 ≤ 1000), fun v H7 hv hP7 B7 => ?_⟩
          obtain ⟨z, rfl, z0, z1⟩ := far v hv
          refine ⟨p, z, _, rfl, hP7, by omega, z0, sz z z0 z1, fun r H8 r0 r1 hP8 B8 => ?_⟩
          have B58 : But p H5 H8 := ((But.same (same_new he1)).trans B7).trans B8
          refine ⟨_, _, rfl, rfl, ?_⟩
          -- v
          refine ⟨_, rfl, _, rfl, _, _, rfl, rfl, ⟨by decide, by decide, by decide⟩, (by decide : 2 ≤ sizeLine), fun e2 he2 => ?_⟩
          have hP9 : Pen (upd H8 e2 (.lst [.int 1, .int ((10 : Int) ^ (37 : Int).toNat)])) p (i * 190000 + 30 + xs.length + j * 5 + 1 + 1) := hP8.same (same_new he2)
          refine ⟨p, e2, _, _, rfl, hP9, by omega, upd_same, hP8.ne_none he2, (by decide : 0 < 2), (by decide : 2 ≤ 1000), fun v H10 hv hP10 B10 => ?_⟩
          obtain ⟨y, rfl, y0, y1⟩ := far v hv
          refine ⟨p, y, _, rfl, hP10, by omega, y0, sz y y0 y1, fun r2 H11 q0 q1 hP11 B11 => ?_⟩
          have B5b : But p H5 H11 := ((B58.trans (But.same (same_new he2))).trans B10).trans B11
          refine ⟨_, _, rfl, rfl, _, _, rfl, ?_⟩
          -- shared
          obtain ⟨g1, g2, g3, g4, g5⟩ := gcd_quot (u := 1 + r) (v := 1 + r2) (by omega) (by omega)
          have gp : 0 < gcdI (1 + r) (1 + r2) := gcdI_pos (by omega)
          have gz : Sz (gcdI (1 + r) (1 + r2)) := Sz.gcd (by omega) (Sz.of (Nat.lt_of_le_of_lt (show (1 + r2).natAbs ≤ 10000000000000000000000000000000000000 by omega) (by decide +kernel)))
          refine ⟨_, rfl, _, rfl, _, _, rfl, ?_⟩
          generalize gcdI (1 + r) (1 + r2) = g at g1 g2 g3 g4 g5 gp gz ⊢
          refine ⟨_, rfl, _, rfl, _, _, rfl, rfl, Sz.divW gp gz, _, rfl, _, rfl, _, _, rfl, rfl, Sz.divW gp gz, _, _, rfl, ?_⟩
          obtain ⟨U, eU⟩ : ∃ U, (1 + r) / g = U := ⟨_, rfl⟩
          obtain ⟨W, eW⟩ : ∃ W, (1 + r2) / g = W := ⟨_, rfl⟩
          rw [eU] at g1 g2 g4
          rw [eW] at g1 g3 g5
          have hT5 : H11 t = some (.tup [.int a1, .int b1, .int c1, .int d1]) := B5b _ _ (B5 _ _ (s3 _ _ hT) htp) htp
          have k1 := mulB (show 0 ≤ U by omega) (show U ≤ 10000000000000000000000000000000000000 by omega) a0 (show a1 ≤ 128 by omega)
          have k2 := mulB (show 0 ≤ W by omega) (show W ≤ 10000000000000000000000000000000000000 by omega) (show 0 ≤ c1 by omega) (show c1 ≤ 128 by omega)
          have k3 := mulB (show 0 ≤ U by omega) (show U ≤ 10000000000000000000000000000000000000 by omega) (show 0 ≤ b1 by omega) (show b1 ≤ 128 by omega)
          have k4 := mulB (show 0 ≤ W by omega) (show W ≤ 10000000000000000000000000000000000000 by omega) (show 0 ≤ d1 by omega) (show d1 ≤ 128 by omega)
          have zn : Sz (U * a1 + W * c1) := Sz.of (Nat.lt_of_le_of_lt (show (U * a1 + W * c1).natAbs ≤ 2560000000000000000000000000000000000000 by omega) (by decide +kernel))
          have zm : Sz (U * b1 + W * d1) := Sz.of (Nat.lt_of_le_of_lt (show (U * b1 + W * d1).natAbs ≤ 2560000000000000000000000000000000000000 by omega) (by decide +kernel))
          obtain ⟨hIn, hg⟩ := far_in hn g2 g3 g1 zn zm
          refine ⟨_, rfl, _, rfl, _, rfl, _, rfl, t, _, _, _, rfl, rfl, SqT.of hT5, rfl, _, _, rfl, rfl, cmr (by omega), _, rfl, _, rfl, t, _, _, _, rfl, rfl, SqT.of hT5, rfl, _, _, rfl, rfl, cmr (by omega), _, _, rfl, rfl,
            _, rfl, _, rfl, t, _, _, _, rfl, rfl, SqT.of hT5, rfl, _, _, rfl, rfl, cmr (by omega), _, rfl, _, rfl, t, _, _, _, rfl, rfl, SqT.of hT5, rfl, _, _, rfl, rfl, cmr (by omega), _, _, rfl, rfl, ?_⟩
          refine ⟨p, t, a1, b1, c1, d1, _, _, _, rfl, hP11, by omega, hT5, (by rw [eU, eW]; exact hIn), (by rw [eU, eW]; exact hg), fun H12 hP12 B12 => ⟨_, rfl, iteF ?_⟩⟩
          exact ⟨_, _, _, _, _, _, _, rfl, hP12.mono (by omega), (B5.trans B5b).trans B12⟩
        · rintro σ H5 ⟨y2, y4, y5, y6, y7, y8, y9, rfl, hP5, B5⟩
          exact ⟨_, _, _, _, _, _, _, _, rfl, hP5.mono (by omega)⟩
    · rintro σ H1 ⟨x2, x3, x4, x5, x6, x7, x8, x9, rfl, hP1⟩
      exact q H1
end
end Toy
set_option maxRecDepth 100000
set_option maxHeartbeats 4000000
namespace Toy
open PySem L2
theorem _root_.L2.Fun.kbn1 {K : PySem.W.Frag} {x qual : Str} {st : Stmt} {f : Addr} {fd : FuncData} {ps ks : List Str} {n : Nat} (F : Fun K x qual st f fd)
    (h : ∀ (kV doc pm : Value) (an : Option Addr) (cdv ct : Value) (us ws : List Value), us.length = n → ws.length = ks.length → bindArgs (PySem.W.fnOf x qual (defArgs st) (defBody st) (defScope st) .none kV doc pm an cdv ct) ⟨us, ks.zip ws⟩ = pure (ps.zip (us ++ ws))) :
    KBn K fd ps n ks (fun us ws => us ++ ws) (fun vs zs => vs ++ zs) := by
  obtain ⟨oc, od, kV, doc, pm, an, cdv, ct, osl, rfl, lk, hcd⟩ := F.ex
  exact ⟨fun s us ws _ hu hw => .of_eq (h kV doc pm an cdv ct us ws hu hw), fun r1 r2 => r1.append r2⟩
/-! ### the end -/
theorem all_mk {l : PySem.W.OpenLaw} {w : World} {K : PySem.W.Frag} {h : Heap} {mg : Str → Option Value} {fa CR CP f0 f1 p1 f2 f3 f4 dT4 f5 f6 f7 f8 f9 p9 f10 f11 f12 f13 f14 f15 f16 f17 f18 f19 f20 f21 f22 f23 f24 f25 f26 f27 f28 : Addr} (X : K.In h) (G : h.Ns mainGlobals mg) (hfa : mg "law" = some (.ref fa))
    {od0 an0 : Option Addr} {sl0 : Array (Option Value)} {oc0 kV0 dc0 pm0 cd0 ct0 : Value}
    {rest1 : List Value}
    {od1 an1 : Option Addr} {sl1 : Array (Option Value)} {oc1 kV1 dc1 pm1 cd1 ct1 : Value}
    {od2 an2 : Option Addr} {sl2 : Array (Option Value)} {oc2 kV2 dc2 pm2 cd2 ct2 : Value}
    {od3 an3 : Option Addr} {sl3 : Array (Option Value)} {oc3 kV3 dc3 pm3 cd3 ct3 : Value}
    {od4 an4 : Option Addr} {sl4 : Array (Option Value)} {oc4 kV4 dc4 pm4 cd4 ct4 : Value}
    {doc4 : Value} {dod4 : Option Addr} {dn4 : Nat} {dsl4 : Array (Option Value)} {dtk4 : Tok}
    {od5 an5 : Option Addr} {sl5 : Array (Option Value)} {oc5 kV5 dc5 pm5 cd5 ct5 : Value}
    {od6 an6 : Option Addr} {sl6 : Array (Option Value)} {oc6 kV6 dc6 pm6 cd6 ct6 : Value}
    {od7 an7 : Option Addr} {sl7 : Array (Option Value)} {oc7 kV7 dc7 pm7 cd7 ct7 : Value}
    {od8 an8 : Option Addr} {sl8 : Array (Option Value)} {oc8 kV8 dc8 pm8 cd8 ct8 : Value}
    {rest9 : List Value}
    {od9 an9 : Option Addr} {sl9 : Array (Option Value)} {oc9 kV9 dc9 pm9 cd9 ct9 : Value}
    {od10 an10 : Option Addr} {sl10 : Array (Option Value)} {oc10 kV10 dc10 pm10 cd10 ct10 : Value}
    {od11 an11 : Option Addr} {sl11 : Array (Option Value)} {oc11 kV11 dc11 pm11 cd11 ct11 : Value}
    {od12 an12 : Option Addr} {sl12 : Array (Option Value)} {oc12 kV12 dc12 pm12 cd12 ct12 : Value}
    {od13 an13 : Option Addr} {sl13 : Array (Option Value)} {oc13 kV13 dc13 pm13 cd13 ct13 : Value}
    {od14 an14 : Option Addr} {sl14 : Array (Option Value)} {oc14 kV14 dc14 pm14 cd14 ct14 : Value}
    {od15 an15 : Option Addr} {sl15 : Array (Option Value)} {oc15 kV15 dc15 pm15 cd15 ct15 : Value}
    {od16 an16 : Option Addr} {sl16 : Array (Option Value)} {oc16 kV16 dc16 pm16 cd16 ct16 : Value}
    {od17 an17 : Option Addr} {sl17 : Array (Option Value)} {oc17 kV17 dc17 pm17 cd17 ct17 : Value}
    {od18 an18 : Option Addr} {sl18 : Array (Option Value)} {oc18 kV18 dc18 pm18 cd18 ct18 : Value}
    {od19 an19 : Option Addr} {sl19 : Array (Option Value)} {oc19 kV19 dc19 pm19 cd19 ct19 : Value}
    {od20 an20 : Option Addr} {sl20 : Array (Option Value)} {oc20 kV20 dc20 pm20 cd20 ct20 : Value}
    {od21 an21 : Option Addr} {sl21 : Array (Option Value)} {oc21 kV21 dc21 pm21 cd21 ct21 : Value}
    {od22 an22 : Option Addr} {sl22 : Array (Option Value)} {oc22 kV22 dc22 pm22 cd22 ct22 : Value}
    {od23 an23 : Option Addr} {sl23 : Array (Option Value)} {oc23 kV23 dc23 pm23 cd23 ct23 : Value}
    {od24 an24 : Option Addr} {sl24 : Array (Option Value)} {oc24 kV24 dc24 pm24 cd24 ct24 : Value}
    {od25 an25 : Option Addr} {sl25 : Array (Option Value)} {oc25 kV25 dc25 pm25 cd25 ct25 : Value}
    {od26 an26 : Option Addr} {sl26 : Array (Option Value)} {oc26 kV26 dc26 pm26 cd26 ct26 : Value}
    {od27 an27 : Option Addr} {sl27 : Array (Option Value)} {oc27 kV27 dc27 pm27 cd27 ct27 : Value}
    {od28 an28 : Option Addr} {sl28 : Array (Option Value)} {oc28 kV28 dc28 pm28 cd28 ct28 : Value}
    (aCR : PySem.W.nsIn K mainGlobals "Ratio" = some (some (.ref CR)))
    (pgCR : PySem.W.plainGet K CR Str.empty = true)
    (hdCR : PySem.W.hasDictIn K CR = true)
    (poCR : PySem.W.plainOver K CR = true)
    (saCR : PySem.W.findIn K (.ref CR) "__setattr__" = some (some (.builtin "object.__setattr__")))
    (rdCR : PySem.W.readsIn K CR (.type "type") = true)
    (gaCR : PySem.W.specialIn K (.ref CR) "__getattribute__" = some (some (.builtin "type.__getattribute__")))
    (caCR : PySem.W.findIn K (.ref CR) "__class__" = some (some (.builtin "object.__class__")))
    (cmCR : PySem.W.mroIn K CR (.type "object") = some true)
    (sICR : PySem.W.subIn K (.ref CR) (.type "int") = some false)
    (nICR : PySem.W.notFirst K CR (.type "int") = true)
    (nCCR : PySem.W.notFirst K CR (.ref CR) = true)
    (kICR : PySem.W.kitOne K (.ref CR) (.type "int") = some false)
    (kBCR : PySem.W.kitOne K (.ref CR) (.type "bool") = some false)
    (iKCR : PySem.W.kitOne K (.type "int") (.ref CR) = some false)
    (kSCR : PySem.W.kitOne K (.ref CR) (.ref CR) = some true)
    (n_topCR : PySem.W.findIn K (.ref CR) "top" = some none)
    (n_bottomCR : PySem.W.findIn K (.ref CR) "bottom" = some none)
    (mkCR : PySem.W.makesIn K CR = true)
    (kcCR : PySem.W.keepIn K (.ref CR) = true)
    (aCP : PySem.W.nsIn K mainGlobals "Piece" = some (some (.ref CP)))
    (pgCP : PySem.W.plainGet K CP Str.empty = true)
    (hdCP : PySem.W.hasDictIn K CP = true)
    (poCP : PySem.W.plainOver K CP = true)
    (saCP : PySem.W.findIn K (.ref CP) "__setattr__" = some (some (.builtin "object.__setattr__")))
    (rdCP : PySem.W.readsIn K CP (.type "type") = true)
    (gaCP : PySem.W.specialIn K (.ref CP) "__getattribute__" = some (some (.builtin "type.__getattribute__")))
    (caCP : PySem.W.findIn K (.ref CP) "__class__" = some (some (.builtin "object.__class__")))
    (cmCP : PySem.W.mroIn K CP (.type "object") = some true)
    (sICP : PySem.W.subIn K (.ref CP) (.type "int") = some false)
    (nICP : PySem.W.notFirst K CP (.type "int") = true)
    (nCCP : PySem.W.notFirst K CP (.ref CP) = true)
    (kICP : PySem.W.kitOne K (.ref CP) (.type "int") = some false)
    (kBCP : PySem.W.kitOne K (.ref CP) (.type "bool") = some false)
    (iKCP : PySem.W.kitOne K (.type "int") (.ref CP) = some false)
    (kSCP : PySem.W.kitOne K (.ref CP) (.ref CP) = some true)
    (n_leftCP : PySem.W.findIn K (.ref CP) "left" = some none)
    (n_rightCP : PySem.W.findIn K (.ref CP) "right" = some none)
    (mkCP : PySem.W.makesIn K CP = true)
    (kcCP : PySem.W.keepIn K (.ref CP) = true)
    (cn : PySem.W.specialIn K (.builtin "object.__class__") "__get__" = some (some (.builtin "getset_descriptor.__get__")))
    (ct : PySem.W.takesIn K (.builtin "object.__class__") = some true)
    (z_int : PySem.W.nsIn K mainGlobals "int" = some none)
    (z_len : PySem.W.nsIn K mainGlobals "len" = some none)
    (z_abs : PySem.W.nsIn K mainGlobals "abs" = some none)
    (z_list : PySem.W.nsIn K mainGlobals "list" = some none)
    (z_range : PySem.W.nsIn K mainGlobals "range" = some none)
    (z_isinstance : PySem.W.nsIn K mainGlobals "isinstance" = some none)
    (z_bool : PySem.W.nsIn K mainGlobals "bool" = some none)
    (z_gcd : PySem.W.nsIn K mainGlobals "gcd" = some (some (.builtin "math.gcd")))
    (a0 : PySem.W.nsIn K mainGlobals "is_int" = some (some (.ref f0)))
    (l0 : K.lookup f0 = some ⟨oc0, od0, .func (PySem.W.fnOf "is_int" "is_int" (defArgs sIsInt) (defBody sIsInt) (defScope sIsInt) .none kV0 dc0 pm0 an0 cd0 ct0), sl0⟩)
    (c0 : PySem.W.codeIn K cd0 "is_int" = true)
    (k0 : PySem.W.keepIn K (.ref f0) = true)
    (a1 : PySem.W.findCls K (.ref CR) (.type "type") "is_number" = some (.get (.builtin "staticmethod.__get__") (.ref p1) .none (.ref CR)))
    (r1 : PySem.W.recIn K p1 "staticmethod" = some (.ref f1 :: rest1))
    (l1 : K.lookup f1 = some ⟨oc1, od1, .func (PySem.W.fnOf "is_number" "Ratio.is_number" (defArgs sIsNum) (defBody sIsNum) (defScope sIsNum) .none kV1 dc1 pm1 an1 cd1 ct1), sl1⟩)
    (c1 : PySem.W.codeIn K cd1 "Ratio.is_number" = true)
    (k1 : PySem.W.keepIn K (.ref f1) = true)
    (a2 : PySem.W.nsIn K mainGlobals "parts_of" = some (some (.ref f2)))
    (l2 : K.lookup f2 = some ⟨oc2, od2, .func (PySem.W.fnOf "parts_of" "parts_of" (defArgs sParts) (defBody sParts) (defScope sParts) .none kV2 dc2 pm2 an2 cd2 ct2), sl2⟩)
    (c2 : PySem.W.codeIn K cd2 "parts_of" = true)
    (k2 : PySem.W.keepIn K (.ref f2) = true)
    (a3 : PySem.W.nsIn K mainGlobals "_lead" = some (some (.ref f3)))
    (l3 : K.lookup f3 = some ⟨oc3, od3, .func (PySem.W.fnOf "_lead" "_lead" (defArgs sLead) (defBody sLead) (defScope sLead) .none kV3 dc3 pm3 an3 cd3 ct3), sl3⟩)
    (c3 : PySem.W.codeIn K cd3 "_lead" = true)
    (k3 : PySem.W.keepIn K (.ref f3) = true)
    (a4 : PySem.W.findIn K (.ref CR) "__init__" = some (some (.ref f4)))
    (i4 : PySem.W.isFn K (.ref f4) = true)
    (l4 : K.lookup f4 = some ⟨oc4, od4, .func (PySem.W.fnOf "__init__" "Ratio.__init__" (defArgs sRInit) (defBody sRInit) (defScope sRInit) (.ref dT4) kV4 dc4 pm4 an4 cd4 ct4), sl4⟩)
    (c4 : PySem.W.codeIn K cd4 "Ratio.__init__" = true)
    (k4 : PySem.W.keepIn K (.ref f4) = true)
    (d4 : K.lookup dT4 = some ⟨doc4, dod4, .seq #[.int 1 dtk4] dn4, dsl4⟩)
    (a5 : PySem.W.findIn K (.ref CR) "__lt__" = some (some (.ref f5)))
    (i5 : PySem.W.isFn K (.ref f5) = true)
    (l5 : K.lookup f5 = some ⟨oc5, od5, .func (PySem.W.fnOf "__lt__" "Ratio.__lt__" (defArgs sLt) (defBody sLt) (defScope sLt) .none kV5 dc5 pm5 an5 cd5 ct5), sl5⟩)
    (c5 : PySem.W.codeIn K cd5 "Ratio.__lt__" = true)
    (k5 : PySem.W.keepIn K (.ref f5) = true)
    (a6 : PySem.W.findIn K (.ref CR) "__le__" = some (some (.ref f6)))
    (i6 : PySem.W.isFn K (.ref f6) = true)
    (l6 : K.lookup f6 = some ⟨oc6, od6, .func (PySem.W.fnOf "__le__" "Ratio.__le__" (defArgs sLeq) (defBody sLeq) (defScope sLeq) .none kV6 dc6 pm6 an6 cd6 ct6), sl6⟩)
    (c6 : PySem.W.codeIn K cd6 "Ratio.__le__" = true)
    (k6 : PySem.W.keepIn K (.ref f6) = true)
    (a7 : PySem.W.findIn K (.ref CR) "__gt__" = some (some (.ref f7)))
    (i7 : PySem.W.isFn K (.ref f7) = true)
    (l7 : K.lookup f7 = some ⟨oc7, od7, .func (PySem.W.fnOf "__gt__" "Ratio.__gt__" (defArgs sGt) (defBody sGt) (defScope sGt) .none kV7 dc7 pm7 an7 cd7 ct7), sl7⟩)
    (c7 : PySem.W.codeIn K cd7 "Ratio.__gt__" = true)
    (k7 : PySem.W.keepIn K (.ref f7) = true)
    (a8 : PySem.W.findIn K (.ref CR) "__ge__" = some (some (.ref f8)))
    (i8 : PySem.W.isFn K (.ref f8) = true)
    (l8 : K.lookup f8 = some ⟨oc8, od8, .func (PySem.W.fnOf "__ge__" "Ratio.__ge__" (defArgs sGe) (defBody sGe) (defScope sGe) .none kV8 dc8 pm8 an8 cd8 ct8), sl8⟩)
    (c8 : PySem.W.codeIn K cd8 "Ratio.__ge__" = true)
    (k8 : PySem.W.keepIn K (.ref f8) = true)
    (a9 : PySem.W.findCls K (.ref CR) (.type "type") "of" = some (.get (.builtin "staticmethod.__get__") (.ref p9) .none (.ref CR)))
    (r9 : PySem.W.recIn K p9 "staticmethod" = some (.ref f9 :: rest9))
    (l9 : K.lookup f9 = some ⟨oc9, od9, .func (PySem.W.fnOf "of" "Ratio.of" (defArgs sOf) (defBody sOf) (defScope sOf) .none kV9 dc9 pm9 an9 cd9 ct9), sl9⟩)
    (c9 : PySem.W.codeIn K cd9 "Ratio.of" = true)
    (k9 : PySem.W.keepIn K (.ref f9) = true)
    (a10 : PySem.W.nsIn K mainGlobals "_is_left_end" = some (some (.ref f10)))
    (l10 : K.lookup f10 = some ⟨oc10, od10, .func (PySem.W.fnOf "_is_left_end" "_is_left_end" (defArgs sLE) (defBody sLE) (defScope sLE) .none kV10 dc10 pm10 an10 cd10 ct10), sl10⟩)
    (c10 : PySem.W.codeIn K cd10 "_is_left_end" = true)
    (k10 : PySem.W.keepIn K (.ref f10) = true)
    (a11 : PySem.W.nsIn K mainGlobals "_is_right_end" = some (some (.ref f11)))
    (l11 : K.lookup f11 = some ⟨oc11, od11, .func (PySem.W.fnOf "_is_right_end" "_is_right_end" (defArgs sRE) (defBody sRE) (defScope sRE) .none kV11 dc11 pm11 an11 cd11 ct11), sl11⟩)
    (c11 : PySem.W.codeIn K cd11 "_is_right_end" = true)
    (k11 : PySem.W.keepIn K (.ref f11) = true)
    (a12 : PySem.W.nsIn K mainGlobals "_are_neighbours" = some (some (.ref f12)))
    (l12 : K.lookup f12 = some ⟨oc12, od12, .func (PySem.W.fnOf "_are_neighbours" "_are_neighbours" (defArgs sNeigh) (defBody sNeigh) (defScope sNeigh) .none kV12 dc12 pm12 an12 cd12 ct12), sl12⟩)
    (c12 : PySem.W.codeIn K cd12 "_are_neighbours" = true)
    (k12 : PySem.W.keepIn K (.ref f12) = true)
    (a13 : PySem.W.findIn K (.ref CP) "__init__" = some (some (.ref f13)))
    (i13 : PySem.W.isFn K (.ref f13) = true)
    (l13 : K.lookup f13 = some ⟨oc13, od13, .func (PySem.W.fnOf "__init__" "Piece.__init__" (defArgs sPInit) (defBody sPInit) (defScope sPInit) .none kV13 dc13 pm13 an13 cd13 ct13), sl13⟩)
    (c13 : PySem.W.codeIn K cd13 "Piece.__init__" = true)
    (k13 : PySem.W.keepIn K (.ref f13) = true)
    (a14 : PySem.W.nsIn K mainGlobals "_spot" = some (some (.ref f14)))
    (l14 : K.lookup f14 = some ⟨oc14, od14, .func (PySem.W.fnOf "_spot" "_spot" (defArgs sSpot1) (defBody sSpot1) (defScope sSpot1) .none kV14 dc14 pm14 an14 cd14 ct14), sl14⟩)
    (c14 : PySem.W.codeIn K cd14 "_spot" = true)
    (k14 : PySem.W.keepIn K (.ref f14) = true)
    (a15 : PySem.W.findIn K (.ref CP) "spot" = some (some (.ref f15)))
    (i15 : PySem.W.isFn K (.ref f15) = true)
    (l15 : K.lookup f15 = some ⟨oc15, od15, .func (PySem.W.fnOf "spot" "Piece.spot" (defArgs sSpot) (defBody sSpot) (defScope sSpot) .none kV15 dc15 pm15 an15 cd15 ct15), sl15⟩)
    (c15 : PySem.W.codeIn K cd15 "Piece.spot" = true)
    (k15 : PySem.W.keepIn K (.ref f15) = true)
    (a16 : PySem.W.findIn K (.ref CP) "kind" = some (some (.ref f16)))
    (i16 : PySem.W.isFn K (.ref f16) = true)
    (l16 : K.lookup f16 = some ⟨oc16, od16, .func (PySem.W.fnOf "kind" "Piece.kind" (defArgs sKind) (defBody sKind) (defScope sKind) .none kV16 dc16 pm16 an16 cd16 ct16), sl16⟩)
    (c16 : PySem.W.codeIn K cd16 "Piece.kind" = true)
    (k16 : PySem.W.keepIn K (.ref f16) = true)
    (a17 : PySem.W.nsIn K mainGlobals "_law_pen" = some (some (.ref f17)))
    (l17 : K.lookup f17 = some ⟨oc17, od17, .func (PySem.W.fnOf "_law_pen" "_law_pen" (defArgs sPen) (defBody sPen) (defScope sPen) .none kV17 dc17 pm17 an17 cd17 ct17), sl17⟩)
    (c17 : PySem.W.codeIn K cd17 "_law_pen" = true)
    (k17 : PySem.W.keepIn K (.ref f17) = true)
    (a18 : PySem.W.nsIn K mainGlobals "_law_draw" = some (some (.ref f18)))
    (l18 : K.lookup f18 = some ⟨oc18, od18, .func (PySem.W.fnOf "_law_draw" "_law_draw" (defArgs sDraw) (defBody sDraw) (defScope sDraw) .none kV18 dc18 pm18 an18 cd18 ct18), sl18⟩)
    (c18 : PySem.W.codeIn K cd18 "_law_draw" = true)
    (k18 : PySem.W.keepIn K (.ref f18) = true)
    (a19 : PySem.W.nsIn K mainGlobals "_law_pick" = some (some (.ref f19)))
    (l19 : K.lookup f19 = some ⟨oc19, od19, .func (PySem.W.fnOf "_law_pick" "_law_pick" (defArgs sPick) (defBody sPick) (defScope sPick) .none kV19 dc19 pm19 an19 cd19 ct19), sl19⟩)
    (c19 : PySem.W.codeIn K cd19 "_law_pick" = true)
    (k19 : PySem.W.keepIn K (.ref f19) = true)
    (a20 : PySem.W.nsIn K mainGlobals "_law_walk" = some (some (.ref f20)))
    (l20 : K.lookup f20 = some ⟨oc20, od20, .func (PySem.W.fnOf "_law_walk" "_law_walk" (defArgs sWalk) (defBody sWalk) (defScope sWalk) .none kV20 dc20 pm20 an20 cd20 ct20), sl20⟩)
    (c20 : PySem.W.codeIn K cd20 "_law_walk" = true)
    (k20 : PySem.W.keepIn K (.ref f20) = true)
    (a21 : PySem.W.nsIn K mainGlobals "_law_piece" = some (some (.ref f21)))
    (l21 : K.lookup f21 = some ⟨oc21, od21, .func (PySem.W.fnOf "_law_piece" "_law_piece" (defArgs sLPiece) (defBody sLPiece) (defScope sLPiece) .none kV21 dc21 pm21 an21 cd21 ct21), sl21⟩)
    (c21 : PySem.W.codeIn K cd21 "_law_piece" = true)
    (k21 : PySem.W.keepIn K (.ref f21) = true)
    (a22 : PySem.W.nsIn K mainGlobals "_law_common" = some (some (.ref f22)))
    (l22 : K.lookup f22 = some ⟨oc22, od22, .func (PySem.W.fnOf "_law_common" "_law_common" (defArgs sCommon) (defBody sCommon) (defScope sCommon) .none kV22 dc22 pm22 an22 cd22 ct22), sl22⟩)
    (c22 : PySem.W.codeIn K cd22 "_law_common" = true)
    (k22 : PySem.W.keepIn K (.ref f22) = true)
    (a23 : PySem.W.nsIn K mainGlobals "_law_is_beside" = some (some (.ref f23)))
    (l23 : K.lookup f23 = some ⟨oc23, od23, .func (PySem.W.fnOf "_law_is_beside" "_law_is_beside" (defArgs sBes) (defBody sBes) (defScope sBes) .none kV23 dc23 pm23 an23 cd23 ct23), sl23⟩)
    (c23 : PySem.W.codeIn K cd23 "_law_is_beside" = true)
    (k23 : PySem.W.keepIn K (.ref f23) = true)
    (a24 : PySem.W.nsIn K mainGlobals "_law_near_kind" = some (some (.ref f24)))
    (l24 : K.lookup f24 = some ⟨oc24, od24, .func (PySem.W.fnOf "_law_near_kind" "_law_near_kind" (defArgs sNear) (defBody sNear) (defScope sNear) .none kV24 dc24 pm24 an24 cd24 ct24), sl24⟩)
    (c24 : PySem.W.codeIn K cd24 "_law_near_kind" = true)
    (k24 : PySem.W.keepIn K (.ref f24) = true)
    (a25 : PySem.W.nsIn K mainGlobals "_law_kind" = some (some (.ref f25)))
    (l25 : K.lookup f25 = some ⟨oc25, od25, .func (PySem.W.fnOf "_law_kind" "_law_kind" (defArgs sLKind) (defBody sLKind) (defScope sLKind) .none kV25 dc25 pm25 an25 cd25 ct25), sl25⟩)
    (c25 : PySem.W.codeIn K cd25 "_law_kind" = true)
    (k25 : PySem.W.keepIn K (.ref f25) = true)
    (a26 : PySem.W.nsIn K mainGlobals "_law_right" = some (some (.ref f26)))
    (l26 : K.lookup f26 = some ⟨oc26, od26, .func (PySem.W.fnOf "_law_right" "_law_right" (defArgs sRight) (defBody sRight) (defScope sRight) .none kV26 dc26 pm26 an26 cd26 ct26), sl26⟩)
    (c26 : PySem.W.codeIn K cd26 "_law_right" = true)
    (k26 : PySem.W.keepIn K (.ref f26) = true)
    (a27 : PySem.W.nsIn K mainGlobals "_law_small" = some (some (.ref f27)))
    (l27 : K.lookup f27 = some ⟨oc27, od27, .func (PySem.W.fnOf "_law_small" "_law_small" (defArgs sSmall) (defBody sSmall) (defScope sSmall) .none kV27 dc27 pm27 an27 cd27 ct27), sl27⟩)
    (c27 : PySem.W.codeIn K cd27 "_law_small" = true)
    (k27 : PySem.W.keepIn K (.ref f27) = true)
    (a28 : PySem.W.nsIn K mainGlobals "law" = some (some (.ref f28)))
    (l28 : K.lookup f28 = some ⟨oc28, od28, .func (PySem.W.fnOf "law" "law" (defArgs sLaw) (defBody sLaw) (defScope sLaw) .none kV28 dc28 pm28 an28 cd28 ct28), sl28⟩)
    (c28 : PySem.W.codeIn K cd28 "law" = true)
    (k28 : PySem.W.keepIn K (.ref f28) = true) :
    ∃ fd : FuncData, (∀ (s : Shared) (v : Value), BindsTo s fd ⟨[v], []⟩ [("_law_script", v)]) ∧ ∀ base : Heap, K.In base → base.Ns mainGlobals mg → FnOk l.prog w K mg base CX0 10 fa fd ["_law_script"] (spLaw K) := by
  have e := hfa.symm.trans (PySem.W.mg_of X G a28)
  cases e
  have T : Bl mg := ⟨PySem.W.mg_none_of X G z_int, PySem.W.mg_none_of X G z_len, PySem.W.mg_none_of X G z_abs, PySem.W.mg_none_of X G z_list, PySem.W.mg_none_of X G z_range, PySem.W.mg_none_of X G z_isinstance, PySem.W.mg_none_of X G z_bool, PySem.W.mg_of X G z_gcd⟩
  have T_Ratio : RatT K mg CR := ⟨⟨⟨pgCR, hdCR, poCR, saCR⟩, PySem.W.mg_of X G aCR, ⟨rdCR, gaCR⟩, caCR, cn, ct, cmCR, kICR, kBCR, kSCR, iKCR, sICR, nICR, nCCR⟩, n_topCR, n_bottomCR⟩
  have T_Piece : PieT K mg CP := ⟨⟨⟨pgCP, hdCP, poCP, saCP⟩, PySem.W.mg_of X G aCP, ⟨rdCP, gaCP⟩, caCP, cn, ct, cmCP, kICP, kBCP, kSCP, iKCP, sICP, nICP, nCCP⟩, n_leftCP, n_rightCP⟩
  have F0 := fun_mk (st := sIsInt) l0 c0 k0
  have b0 := F0.binds (ps := ["value"]) fun _ _ _ _ _ _ us hl => match us, hl with | [_], _ => rfl
  have F1 := fun_mk (st := sIsNum) l1 c1 k1
  have b1 := F1.binds (ps := ["value"]) fun _ _ _ _ _ _ us hl => match us, hl with | [_], _ => rfl
  have F2 := fun_mk (st := sParts) l2 c2 k2
  have b2 := F2.binds (ps := ["number"]) fun _ _ _ _ _ _ us hl => match us, hl with | [_], _ => rfl
  have F3 := fun_mk (st := sLead) l3 c3 k3
  have b3 := F3.binds (ps := ["one", "other"]) fun _ _ _ _ _ _ us hl => match us, hl with | [_, _], _ => rfl
  have F4 : FunD K "__init__" "Ratio.__init__" (defArgs sRInit) (defBody sRInit) (defScope sRInit) [.int 1] [] f4 _ := ⟨⟨_, _, _, _, _, _, _, _, _, _, rfl, l4, c4, .inr ⟨(fun z => nomatch z), _, _, [_], _, rfl, d4, rfl, .cons ⟨_, rfl⟩ .nil⟩, .inl rfl⟩, k4⟩
  obtain ⟨ds4, hds4, b4⟩ := F4.binds1 (ps := ["self", "top", "bottom"]) 3 1 (fun z => nomatch z) rfl fun _ _ _ _ _ _ _ us its hu hi => match us, hu, its, hi with | [_, _, _], _, [_], _ => ⟨_, rfl, rfl⟩
  cases hds4
  obtain ⟨dv4, hdv4, bd4⟩ := F4.binds1 (ps := ["self", "top", "bottom"]) 2 0 (fun z => nomatch z) rfl fun _ _ _ _ _ _ _ us its hu hi => match us, hu, its, hi with | [_, _], _, [_], _ => ⟨_, rfl, rfl⟩
  have F5 := fun_mk (st := sLt) l5 c5 k5
  have b5 := F5.binds (ps := ["self", "other"]) fun _ _ _ _ _ _ us hl => match us, hl with | [_, _], _ => rfl
  have F6 := fun_mk (st := sLeq) l6 c6 k6
  have b6 := F6.binds (ps := ["self", "other"]) fun _ _ _ _ _ _ us hl => match us, hl with | [_, _], _ => rfl
  have F7 := fun_mk (st := sGt) l7 c7 k7
  have b7 := F7.binds (ps := ["self", "other"]) fun _ _ _ _ _ _ us hl => match us, hl with | [_, _], _ => rfl
  have F8 := fun_mk (st := sGe) l8 c8 k8
  have b8 := F8.binds (ps := ["self", "other"]) fun _ _ _ _ _ _ us hl => match us, hl with | [_, _], _ => rfl
  have F9 := fun_mk (st := sOf) l9 c9 k9
  have b9 := F9.binds (ps := ["number"]) fun _ _ _ _ _ _ us hl => match us, hl with | [_], _ => rfl
  have F10 := fun_mk (st := sLE) l10 c10 k10
  have b10 := F10.binds (ps := ["value"]) fun _ _ _ _ _ _ us hl => match us, hl with | [_], _ => rfl
  have F11 := fun_mk (st := sRE) l11 c11 k11
  have b11 := F11.binds (ps := ["value"]) fun _ _ _ _ _ _ us hl => match us, hl with | [_], _ => rfl
  have F12 := fun_mk (st := sNeigh) l12 c12 k12
  have b12 := F12.binds (ps := ["left", "right"]) fun _ _ _ _ _ _ us hl => match us, hl with | [_, _], _ => rfl
  have F13 := fun_mk (st := sPInit) l13 c13 k13
  have b13 := F13.binds (ps := ["self", "left", "right"]) fun _ _ _ _ _ _ us hl => match us, hl with | [_, _, _], _ => rfl
  have F14 := fun_mk (st := sSpot1) l14 c14 k14
  have b14 := F14.binds (ps := ["piece", "value"]) fun _ _ _ _ _ _ us hl => match us, hl with | [_, _], _ => rfl
  have F15 := fun_mk (st := sSpot) l15 c15 k15
  have b15 := F15.binds (ps := ["self", "fifth"]) fun _ _ _ _ _ _ us hl => match us, hl with | [_, _], _ => rfl
  have F16 := fun_mk (st := sKind) l16 c16 k16
  have b16 := F16.binds (ps := ["self", "fifth"]) fun _ _ _ _ _ _ us hl => match us, hl with | [_, _], _ => rfl
  have F17 := fun_mk (st := sPen) l17 c17 k17
  have b17 := F17.binds (ps := ["_law_script"]) fun _ _ _ _ _ _ us hl => match us, hl with | [_], _ => rfl
  have F18 := fun_mk (st := sDraw) l18 c18 k18
  have b18 := F18.binds (ps := ["_law_pen_here", "_law_many"]) fun _ _ _ _ _ _ us hl => match us, hl with | [_, _], _ => rfl
  have F19 := fun_mk (st := sPick) l19 c19 k19
  have b19 := F19.binds (ps := ["_law_pen_here", "_law_some"]) fun _ _ _ _ _ _ us hl => match us, hl with | [_, _], _ => rfl
  have F20 := fun_mk (st := sWalk) l20 c20 k20
  have b20 := F20.binds (ps := ["_law_pen_here", "_law_most"]) fun _ _ _ _ _ _ us hl => match us, hl with | [_, _], _ => rfl
  have F21 := fun_mk (st := sLPiece) l21 c21 k21
  have b21 := F21.binds (ps := ["_law_ends"]) fun _ _ _ _ _ _ us hl => match us, hl with | [_], _ => rfl
  have F22 := fun_mk (st := sCommon) l22 c22 k22
  have b22 := F22.binds (ps := ["_law_one", "_law_other"]) fun _ _ _ _ _ _ us hl => match us, hl with | [_, _], _ => rfl
  have F23 := fun_mk (st := sBes) l23 c23 k23
  have b23 := F23.binds (ps := ["_law_one", "_law_other"]) fun _ _ _ _ _ _ us hl => match us, hl with | [_, _], _ => rfl
  have F24 := fun_mk (st := sNear) l24 c24 k24
  have b24 := F24.binds (ps := ["_law_ends", "_law_top", "_law_bottom"]) fun _ _ _ _ _ _ us hl => match us, hl with | [_, _, _], _ => rfl
  have F25 := fun_mk (st := sLKind) l25 c25 k25
  have b25 := F25.binds (ps := ["_law_ends", "_law_top", "_law_bottom", "_law_deep"]) fun _ _ _ _ _ _ us hl => match us, hl with | [_, _, _, _], _ => rfl
  have F26 := fun_mk (st := sRight) l26 c26 k26
  have b26 := F26.binds (ps := ["_law_pen_here", "_law_ends", "_law_top", "_law_bottom"]) fun _ _ _ _ _ _ us hl => match us, hl with | [_, _, _, _], _ => rfl
  have F27 := fun_mk (st := sSmall) l27 c27 k27
  have b27 := F27.binds (ps := ["_law_ends", "_law_most"]) fun _ _ _ _ _ _ us hl => match us, hl with | [_, _], _ => rfl
  have F28 := fun_mk (st := sLaw) l28 c28 k28
  have b28 := F28.binds (ps := ["_law_script"]) fun _ _ _ _ _ _ us hl => match us, hl with | [_], _ => rfl
  have KB_Piece_kind_fifth : KBn K _ ["self", "fifth"] 1 ["fifth"] (fun us ws => us ++ ws) (fun vs zs => vs ++ zs) := F16.kbn1 fun _ _ _ _ _ _ us ws hu hw => match us, hu, ws, hw with | [_], _, [_], _ => rfl
  refine ⟨PySem.W.fnOf "law" "law" (defArgs sLaw) (defBody sLaw) (defScope sLaw) .none kV28 dc28 pm28 an28 cd28 ct28, fun s v => .of_eq rfl, fun base _ _ => ?_⟩
  have C_is_int : Cal l.prog w K mg base 1 "is_int" f0 _ ["value"] (spIsInt K) := ⟨(ok_isint F0 T), PySem.W.mg_of X G a0, k0, b0⟩
  have S_Ratio_is_number : Sta l.prog w K mg base 2 CR "is_number" p1 f1 _ ["value"] (spIsNum K CR) := ⟨⟨a1, ⟨_, r1⟩, k1⟩, (ok_isnum F1 T T_Ratio C_is_int), b1⟩
  have C_parts_of : Cal l.prog w K mg base 1 "parts_of" f2 _ ["number"] (spParts CR) := ⟨(ok_parts F2 T T_Ratio), PySem.W.mg_of X G a2, k2, b2⟩
  have C__lead : Cal l.prog w K mg base 2 "_lead" f3 _ ["one", "other"] (spLead CR) := ⟨(ok_lead F3 C_parts_of), PySem.W.mg_of X G a3, k3, b3⟩
  have M_Ratio : Mak l.prog w K mg base 2 "Ratio" CR f4 _ ["self", "top", "bottom"] (spRInit CR) := ⟨⟨mkCR, a4, i4, kcCR⟩, (ok_rinit F4 T T_Ratio C_is_int), PySem.W.mg_of X G aCR, b4⟩
  have O_lt : Opr l.prog w K mg base 3 CR "__lt__" f5 _ ["self", "other"] (spCmp CR fun z => decide (z < 0)) := ⟨a5, i5, (ok_lt F5 T_Ratio S_Ratio_is_number C__lead), b5⟩
  have O_le : Opr l.prog w K mg base 3 CR "__le__" f6 _ ["self", "other"] (spCmp CR fun z => decide (z ≤ 0)) := ⟨a6, i6, (ok_le F6 T_Ratio S_Ratio_is_number C__lead), b6⟩
  have O_gt : Opr l.prog w K mg base 3 CR "__gt__" f7 _ ["self", "other"] (spCmp CR fun z => decide (0 < z)) := ⟨a7, i7, (ok_gt F7 T_Ratio S_Ratio_is_number C__lead), b7⟩
  have O_ge : Opr l.prog w K mg base 3 CR "__ge__" f8 _ ["self", "other"] (spCmp CR fun z => decide (0 ≤ z)) := ⟨a8, i8, (ok_ge F8 T_Ratio S_Ratio_is_number C__lead), b8⟩
  have S_Ratio_of : Sta l.prog w K mg base 4 CR "of" p9 f9 _ ["number"] (spOf CR) := ⟨⟨a9, ⟨_, r9⟩, k9⟩, (ok_of F9 T T_Ratio C_is_int M_Ratio hdv4 bd4), b9⟩
  have C__is_left_end : Cal l.prog w K mg base 4 "_is_left_end" f10 _ ["value"] (spEnd CR fun n d => decide (0 ≤ n) && decide (n < d)) := ⟨(ok_lend F10 T_Ratio S_Ratio_is_number O_ge O_lt), PySem.W.mg_of X G a10, k10, b10⟩
  have C__is_right_end : Cal l.prog w K mg base 4 "_is_right_end" f11 _ ["value"] (spEnd CR fun n d => decide (0 < n) && decide (n ≤ d)) := ⟨(ok_rend F11 T_Ratio S_Ratio_is_number O_gt O_le), PySem.W.mg_of X G a11, k11, b11⟩
  have C__are_neighbours : Cal l.prog w K mg base 2 "_are_neighbours" f12 _ ["left", "right"] (spNeigh CR) := ⟨(ok_neigh F12 C_parts_of), PySem.W.mg_of X G a12, k12, b12⟩
  have M_Piece : Mak l.prog w K mg base 5 "Piece" CP f13 _ ["self", "left", "right"] (spPInit CP CR) := ⟨⟨mkCP, a13, i13, kcCP⟩, (ok_pinit F13 T_Ratio T_Piece S_Ratio_of C__is_left_end C__is_right_end C__are_neighbours), PySem.W.mg_of X G aCP, b13⟩
  have C__spot : Cal l.prog w K mg base 1 "_spot" f14 _ ["piece", "value"] (spSpot CP CR) := ⟨(ok_spot1 F14 T T_Ratio T_Piece), PySem.W.mg_of X G a14, k14, b14⟩
  have D_Piece_spot : Dot l.prog w K mg base 2 CP "spot" f15 _ ["self", "fifth"] (spSpot CP CR) := ⟨⟨a15, i15, k15⟩, (ok_spot F15 C__spot), b15⟩
  have D_Piece_kind : Dot l.prog w K mg base 3 CP "kind" f16 _ ["self", "fifth"] (spKind CP CR) := ⟨⟨a16, i16, k16⟩, (ok_kind F16 T_Piece D_Piece_spot), b16⟩
  have C__law_pen : Cal l.prog w K mg base 1 "_law_pen" f17 _ ["_law_script"] (spPen K) := ⟨(ok_pen F17 T), PySem.W.mg_of X G a17, k17, b17⟩
  have C__law_draw : Cal l.prog w K mg base 1 "_law_draw" f18 _ ["_law_pen_here", "_law_many"] spDraw := ⟨(ok_draw F18 T), PySem.W.mg_of X G a18, k18, b18⟩
  have C__law_pick : Cal l.prog w K mg base 2 "_law_pick" f19 _ ["_law_pen_here", "_law_some"] spPick := ⟨(ok_pick F19 T C__law_draw), PySem.W.mg_of X G a19, k19, b19⟩
  have C__law_walk : Cal l.prog w K mg base 2 "_law_walk" f20 _ ["_law_pen_here", "_law_most"] spWalk := ⟨(ok_walk F20 T C__law_draw), PySem.W.mg_of X G a20, k20, b20⟩
  have C__law_piece : Cal l.prog w K mg base 7 "_law_piece" f21 _ ["_law_ends"] (spLPiece K CP CR) := ⟨(ok_lpiece F21 M_Ratio M_Piece), PySem.W.mg_of X G a21, k21, b21⟩
  have C__law_common : Cal l.prog w K mg base 1 "_law_common" f22 _ ["_law_one", "_law_other"] spCommon := ⟨(ok_common F22 T), PySem.W.mg_of X G a22, k22, b22⟩
  have C__law_is_beside : Cal l.prog w K mg base 1 "_law_is_beside" f23 _ ["_law_one", "_law_other"] (spBeside K) := ⟨(ok_beside F23 ), PySem.W.mg_of X G a23, k23, b23⟩
  have C__law_near_kind : Cal l.prog w K mg base 2 "_law_near_kind" f24 _ ["_law_ends", "_law_top", "_law_bottom"] (spNear K) := ⟨(ok_near F24 C__law_is_beside), PySem.W.mg_of X G a24, k24, b24⟩
  have C__law_kind : Cal l.prog w K mg base 8 "_law_kind" f25 _ ["_law_ends", "_law_top", "_law_bottom", "_law_deep"] (spLKind K 5) := ⟨(ok_lkind F25 (PySem.W.mg_of X G a25) b25 C__law_near_kind 5), PySem.W.mg_of X G a25, k25, b25⟩
  have C__law_right : Cal l.prog w K mg base 9 "_law_right" f26 _ ["_law_pen_here", "_law_ends", "_law_top", "_law_bottom"] (spRight K) := ⟨(ok_right F26 T_Piece C__law_piece C__law_draw M_Ratio D_Piece_kind KB_Piece_kind_fifth C__law_kind C__law_is_beside), PySem.W.mg_of X G a26, k26, b26⟩
  have C__law_small : Cal l.prog w K mg base 2 "_law_small" f27 _ ["_law_ends", "_law_most"] (spSmall K) := ⟨(ok_small F27 T C__law_common), PySem.W.mg_of X G a27, k27, b27⟩
  exact ok_law F28 T C__law_pen C__law_walk C__law_small C__law_right C__law_draw C__law_pick C__law_common
theorem walk {l : PySem.W.OpenLaw} {q : Program} {loose : List Str} {XP : (Str → Option Value) → Heap → Prop} {YP : World → Heap → Prop} {d : DefRec} {K : Params → PySem.W.Frag} (hn : l.most = some 63) (hdf : d.params.defaults = [])
    (hY : ∀ (w : World) (h : Heap), YP w h → (K w.params).In h)
    (F : ∀ (w : World) (mg : Str → Option Value) (fa : Addr) (h : Heap), (K w.params).In h → h.Ns mainGlobals mg → mg d.name = some (.ref fa) →
      ∃ fd : FuncData, (∀ (s : Shared) (u : Value), BindsTo s fd ⟨[u], []⟩ [("_law_script", u)]) ∧ ∀ base : Heap, (K w.params).In base → base.Ns mainGlobals mg → FnOk l.prog w (K w.params) mg base CX0 10 fa fd ["_law_script"] (spLaw (K w.params))) :
    PySem.W.WalkO q loose XP YP l.row.toRowW d [] (fun f vs => PySem.call f vs) :=
  L2.walk_of (n := 63) (k := 10) (x := "_law_script") (CX := fun _ => CX0) (sp := fun w => spLaw (K w.params)) hn (by decide) hdf ⟨rfl, by decide, by decide⟩ hY F (fun _ _ a ns hl _ hS => ⟨a, ns, rfl, hS, hl, fun _ => rfl⟩) fun _ _ _ _ _ z => z
end Toy
open PySem PySem.W PyProof.Rows
set_option maxRecDepth 100000 in
set_option maxHeartbeats 0 in
theorem PySem.Challenge.cw_anyfifth_k08_whole_kinds_of_fifths_holds : PySem.Challenge.rw_anyfifth_k08_whole_kinds_of_fifths.Holds := by
  w_on; o_law; k_head; (case hw => w_witness2)
  k_fill
  refine Toy.walk (l := PySem.Challenge.rw_anyfifth_k08_whole_kinds_of_fifths) rfl rfl (fun w h Y => PySem.W.kIn_of Y) ?F
  case F =>
    intro w mg fa h KX G hmg
    refine' Toy.all_mk KX G hmg ?h_aCR ?h_pgCR ?h_hdCR ?h_poCR ?h_saCR ?h_rdCR ?h_gaCR ?h_caCR ?h_cmCR ?h_sICR ?h_nICR ?h_nCCR ?h_kICR ?h_kBCR ?h_iKCR ?h_kSCR ?h_n_topCR ?h_n_bottomCR ?h_mkCR ?h_kcCR ?h_aCP ?h_pgCP ?h_hdCP ?h_poCP ?h_saCP ?h_rdCP ?h_gaCP ?h_caCP ?h_cmCP ?h_sICP ?h_nICP ?h_nCCP ?h_kICP ?h_kBCP ?h_iKCP ?h_kSCP ?h_n_leftCP ?h_n_rightCP ?h_mkCP ?h_kcCP ?h_cn ?h_ct ?h_z_int ?h_z_len ?h_z_abs ?h_z_list ?h_z_range ?h_z_isinstance ?h_z_bool ?h_z_gcd ?h_a0 ?h_l0 ?h_c0 ?h_k0 ?h_a1 ?h_r1 ?h_l1 ?h_c1 ?h_k1 ?h_a2 ?h_l2 ?h_c2 ?h_k2 ?h_a3 ?h_l3 ?h_c3 ?h_k3 ?h_a4 ?h_i4 ?h_l4 ?h_c4 ?h_k4 ?h_d4 ?h_a5 ?h_i5 ?h_l5 ?h_c5 ?h_k5 ?h_a6 ?h_i6 ?h_l6 ?h_c6 ?h_k6 ?h_a7 ?h_i7 ?h_l7 ?h_c7 ?h_k7 ?h_a8 ?h_i8 ?h_l8 ?h_c8 ?h_k8 ?h_a9 ?h_r9 ?h_l9 ?h_c9 ?h_k9 ?h_a10 ?h_l10 ?h_c10 ?h_k10 ?h_a11 ?h_l11 ?h_c11 ?h_k11 ?h_a12 ?h_l12 ?h_c12 ?h_k12 ?h_a13 ?h_i13 ?h_l13 ?h_c13 ?h_k13 ?h_a14 ?h_l14 ?h_c14 ?h_k14 ?h_a15 ?h_i15 ?h_l15 ?h_c15 ?h_k15 ?h_a16 ?h_i16 ?h_l16 ?h_c16 ?h_k16 ?h_a17 ?h_l17 ?h_c17 ?h_k17 ?h_a18 ?h_l18 ?h_c18 ?h_k18 ?h_a19 ?h_l19 ?h_c19 ?h_k19 ?h_a20 ?h_l20 ?h_c20 ?h_k20 ?h_a21 ?h_l21 ?h_c21 ?h_k21 ?h_a22 ?h_l22 ?h_c22 ?h_k22 ?h_a23 ?h_l23 ?h_c23 ?h_k23 ?h_a24 ?h_l24 ?h_c24 ?h_k24 ?h_a25 ?h_l25 ?h_c25 ?h_k25 ?h_a26 ?h_l26 ?h_c26 ?h_k26 ?h_a27 ?h_l27 ?h_c27 ?h_k27 ?h_a28 ?h_l28 ?h_c28 ?h_k28
    (case h_aCR => k_is)
    (case h_pgCR => k_is)
    (case h_hdCR => k_is)
    (case h_poCR => k_is)
    (case h_saCR => k_is)
    (case h_rdCR => k_is)
    (case h_gaCR => k_is)
    (case h_caCR => k_is)
    (case h_cmCR => k_is)
    (case h_sICR => k_is)
    (case h_nICR => k_is)
    (case h_nCCR => k_is)
    (case h_kICR => kit_is)
    (case h_kBCR => kit_is)
    (case h_iKCR => kit_is)
    (case h_kSCR => kit_is)
    (case h_n_topCR => k_is)
    (case h_n_bottomCR => k_is)
    (case h_mkCR => k_is)
    (case h_kcCR => k_is)
    (case h_aCP => k_is)
    (case h_pgCP => k_is)
    (case h_hdCP => k_is)
    (case h_poCP => k_is)
    (case h_saCP => k_is)
    (case h_rdCP => k_is)
    (case h_gaCP => k_is)
    (case h_caCP => k_is)
    (case h_cmCP => k_is)
    (case h_sICP => k_is)
    (case h_nICP => k_is)
    (case h_nCCP => k_is)
    (case h_kICP => kit_is)
    (case h_kBCP => kit_is)
    (case h_iKCP => kit_is)
    (case h_kSCP => kit_is)
    (case h_n_leftCP => k_is)
    (case h_n_rightCP => k_is)
    (case h_mkCP => k_is)
    (case h_kcCP => k_is)
    (case h_cn => k_is)
    (case h_ct => k_is)
    (case h_z_int => k_is)
    (case h_z_len => k_is)
    (case h_z_abs => k_is)
    (case h_z_list => k_is)
    (case h_z_range => k_is)
    (case h_z_isinstance => k_is)
    (case h_z_bool => k_is)
    (case h_z_gcd => k_is)
    (case h_a0 => k_is)
    (case h_l0 => k_is)
    (case h_c0 => k_is)
    (case h_k0 => k_is)
    (case h_a1 => k_is)
    (case h_r1 => k_is)
    (case h_l1 => k_is)
    (case h_c1 => k_is)
    (case h_k1 => k_is)
    (case h_a2 => k_is)
    (case h_l2 => k_is)
    (case h_c2 => k_is)
    (case h_k2 => k_is)
    (case h_a3 => k_is)
    (case h_l3 => k_is)
    (case h_c3 => k_is)
    (case h_k3 => k_is)
    (case h_a4 => k_is)
    (case h_i4 => k_is)
    (case h_l4 => k_is)
    (case h_c4 => k_is)
    (case h_k4 => k_is)
    (case h_d4 => k_is)
    (case h_a5 => k_is)
    (case h_i5 => k_is)
    (case h_l5 => k_is)
    (case h_c5 => k_is)
    (case h_k5 => k_is)
    (case h_a6 => k_is)
    (case h_i6 => k_is)
    (case h_l6 => k_is)
    (case h_c6 => k_is)
    (case h_k6 => k_is)
    (case h_a7 => k_is)
    (case h_i7 => k_is)
    (case h_l7 => k_is)
    (case h_c7 => k_is)
    (case h_k7 => k_is)
    (case h_a8 => k_is)
    (case h_i8 => k_is)
    (case h_l8 => k_is)
    (case h_c8 => k_is)
    (case h_k8 => k_is)
    (case h_a9 => k_is)
    (case h_r9 => k_is)
    (case h_l9 => k_is)
    (case h_c9 => k_is)
    (case h_k9 => k_is)
    (case h_a10 => k_is)
    (case h_l10 => k_is)
    (case h_c10 => k_is)
    (case h_k10 => k_is)
    (case h_a11 => k_is)
    (case h_l11 => k_is)
    (case h_c11 => k_is)
    (case h_k11 => k_is)
    (case h_a12 => k_is)
    (case h_l12 => k_is)
    (case h_c12 => k_is)
    (case h_k12 => k_is)
    (case h_a13 => k_is)
    (case h_i13 => k_is)
    (case h_l13 => k_is)
    (case h_c13 => k_is)
    (case h_k13 => k_is)
    (case h_a14 => k_is)
    (case h_l14 => k_is)
    (case h_c14 => k_is)
    (case h_k14 => k_is)
    (case h_a15 => k_is)
    (case h_i15 => k_is)
    (case h_l15 => k_is)
    (case h_c15 => k_is)
    (case h_k15 => k_is)
    (case h_a16 => k_is)
    (case h_i16 => k_is)
    (case h_l16 => k_is)
    (case h_c16 => k_is)
    (case h_k16 => k_is)
    (case h_a17 => k_is)
    (case h_l17 => k_is)
    (case h_c17 => k_is)
    (case h_k17 => k_is)
    (case h_a18 => k_is)
    (case h_l18 => k_is)
    (case h_c18 => k_is)
    (case h_k18 => k_is)
    (case h_a19 => k_is)
    (case h_l19 => k_is)
    (case h_c19 => k_is)
    (case h_k19 => k_is)
    (case h_a20 => k_is)
    (case h_l20 => k_is)
    (case h_c20 => k_is)
    (case h_k20 => k_is)
    (case h_a21 => k_is)
    (case h_l21 => k_is)
    (case h_c21 => k_is)
    (case h_k21 => k_is)
    (case h_a22 => k_is)
    (case h_l22 => k_is)
    (case h_c22 => k_is)
    (case h_k22 => k_is)
    (case h_a23 => k_is)
    (case h_l23 => k_is)
    (case h_c23 => k_is)
    (case h_k23 => k_is)
    (case h_a24 => k_is)
    (case h_l24 => k_is)
    (case h_c24 => k_is)
    (case h_k24 => k_is)
    (case h_a25 => k_is)
    (case h_l25 => k_is)
    (case h_c25 => k_is)
    (case h_k25 => k_is)
    (case h_a26 => k_is)
    (case h_l26 => k_is)
    (case h_c26 => k_is)
    (case h_k26 => k_is)
    (case h_a27 => k_is)
    (case h_l27 => k_is)
    (case h_c27 => k_is)
    (case h_k27 => k_is)
    (case h_a28 => k_is)
    (case h_l28 => k_is)
    (case h_c28 => k_is)
    (case h_k28 => k_is)
