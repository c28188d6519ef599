import PyProof.Rows.All
import Wide.All
import OpenK.AllK
import Wide.FinOn
import PyProof.ExcClass
import HandS.Defaults
import HandS.Head0
import HandS.Head1
import HandS.Head2
import HandS.HeadHook4
import HandS.HeadNt
import HandS.ClsMeth
import HandS.More
import HandS.ForMost
import HandS.Wide
import HandS.Gcd
import HandS.Codes
import HandS.IsInst
import HandS.Property
import HandS.OwnEq
import KE.KEqSeq
import KE.KOpsOwn
import PyProof.InstEq
import HandS.Zip
import HandS.Text
import HandS.TupMul
import HandS.Star
import HandS.Exc
import HandS.TryMany
import HandS.EndTab
import HandS.List
import PyProof.ReprRoads
import HandS.FStr
import HandS.Strs
import KE.KFmtOwn
import HandS.Style
import KE.RegKIsAll
import KE.KNestM
import PySem.Challenge.RW_anyfifth_k16_whole_operators_of_regions
set_option Elab.async false
set_option maxRecDepth 100000
set_option maxHeartbeats 4000000
/-! A head by looks: what the end leans on is looked at behind one run of the top, in the kernel; facts of any kind as Bools, defs at any address, tables of code objects. -/
namespace Hz
open PySem PySem.W PySem.Calls PyProof.Rows He L2
/-- hands a number on once it is one -/
def withN {α : Type} (n : Nat) (k : Nat → α) : α := HandSHeadRun.frNat n k
/-- a set of addresses -/
inductive Tr where
  | nil
  | node (b : Bool) (l r : Tr)
def Tr.has : Tr → Nat → Bool
  | .nil, _ => false
  | .node b l r, i => match Nat.beq i 0 with
    | true => b
    | false => match Nat.beq (i % 2) 1 with
      | true => withN (i / 2) fun i => l.has i
      | false => withN (i / 2 - 1) fun i => r.has i
def Tr.arms : Tr → Bool × Tr × Tr
  | .nil => (false, .nil, .nil)
  | .node b l r => (b, l, r)
def Tr.put : Nat → Tr → Nat → Tr
  | 0, t, _ => t
  | n + 1, t, i => match t.arms with
    | (b, l, r) => match Nat.beq i 0 with
      | true => .node true l r
      | false => match Nat.beq (i % 2) 1 with
        | true => withN (i / 2) fun i => .node b (l.put n i) r
        | false => withN (i / 2 - 1) fun i => .node b l (r.put n i)
/-- the addresses that are not yet in the set -/
def sift : List Addr → Tr → List Addr → List Addr × Tr
  | [], t, r => (r, t)
  | a :: as, t, r => withN a fun a => match t.has a with
    | true => sift as t r
    | false => sift as (t.put 40 a) (a :: r)
/-- n rounds from the addresses that came last -/
def rounds (g : Addr → Option Obj) : Nat → List Addr → Tr → List Addr → List Addr
  | 0, _, _, all => all
  | n + 1, new, t, all => match sift (new.flatMap fun a => match g a with
      | some o => refsD o
      | none => []) t [] with
    | (nx, t2) => rounds g n nx t2 (nx ++ all)
/-- from what these names stand for -/
def reach (g : Addr → Option Obj) (xs : List Str) (n : Nat) : List Addr := match sift [mainGlobals, cStatics] .nil [] with
  | (first, t) => match sift (xs.map fun x => ga (frG g [mainGlobals]) x) t [] with
    | (nx, t) => rounds g n nx t (nx ++ first)
/-- the objects there -/
def objs (g : Addr → Option Obj) (xs : List Str) (n : Nat) : Frag := frT g (reach g xs n)
/-- hands a list of objects on once its cells stand -/
def laid {α : Type} : Frag → (Frag → α) → α
  | [], k => k []
  | (a, o) :: r, k => withN a fun a => laid r fun r => k ((a, o) :: r)
theorem withN_eq {α : Type} (n : Nat) (k : Nat → α) : withN n k = k n := HandSHeadRun.frNat_eq n k
theorem laid_eq {α : Type} : ∀ (K : Frag) (k : Frag → α), laid K k = k K
  | [], _ => rfl
  | (a, o) :: r, k => by
    show (withN a fun a => laid r fun r => k ((a, o) :: r)) = _
    rw [withN_eq, laid_eq r]
/-! ### what is looked at -/
def sees (fs : List (Frag → Bool)) (ds : List He5.DefA) (tf : List Defn) (g : Addr → Option Obj) (K : Frag) : AlD :=
  ((fs.all fun f => f K) && ((ds.all fun d => d.ok K) && tabsB g tf K), ds.map fun d => He5.fnA K (d.at_ K))
def due (ds : List He5.DefA) : AlD := (true, ds.map He5.DefA.val)
structure Says (fs : List (Frag → Bool)) (ds : List He5.DefA) (tf : List Defn) (h : Heap) (K : Frag) : Prop where
  f : ∀ f ∈ fs, f K = true
  d : ∀ d ∈ ds, d.ok K = true
  e : (ds.map fun d => He5.fnA K (d.at_ K)) = ds.map He5.DefA.val
  hd : ∀ p ∈ tf, codeHdIn K (cT K p).1 (cT K p).2 = true
  out : ∀ p ∈ tf, K.lookup (cT K p).2 = none
  em : ∀ p ∈ tf, h.get? (cT K p).2 = some (tabObj #[])
theorem says_of {xs : List Str} {n : Nat} {fs : List (Frag → Bool)} {ds : List He5.DefA} {tf : List Defn} {h : Heap} (e : laid (objs h.get? xs n) (sees fs ds tf h.get?) = due ds) : Says fs ds tf h (objs h.get? xs n) := by
  rw [laid_eq] at e
  have e1 := congrArg (fun z : AlD => z.1) e
  have e2 := congrArg (fun z : AlD => z.2) e
  obtain ⟨h1, h2⟩ := ba (show ((fs.all fun f => f (objs h.get? xs n)) && ((ds.all fun d => d.ok (objs h.get? xs n)) && tabsB h.get? tf (objs h.get? xs n))) = true from e1)
  obtain ⟨h2, h3⟩ := ba h2
  have key : ∀ p ∈ tf, codeHdIn (objs h.get? xs n) (cT (objs h.get? xs n) p).1 (cT (objs h.get? xs n) p).2 = true ∧ ∃ o, h.get? (cT (objs h.get? xs n) p).2 = some o ∧ emptyTab o = true := fun p hp => by
    obtain ⟨h4, h5⟩ := ba (List.all_eq_true.mp h3 p hp)
    refine ⟨h4, ?_⟩
    cases q : h.get? (cT (objs h.get? xs n) p).2 with
    | none => rw [q] at h5; cases h5
    | some o => rw [q] at h5; exact ⟨o, rfl, h5⟩
  refine ⟨fun f hf => List.all_eq_true.mp h1 f hf, fun d hd => List.all_eq_true.mp h2 d hd, e2, fun p hp => (key p hp).1, fun p hp => ?_, fun p hp => ?_⟩
  · obtain ⟨_, o, q, z⟩ := key p hp
    exact frT_none q z
  · obtain ⟨_, o, q, z⟩ := key p hp
    rw [q, emptyTab_eq z]
def hook (xs : List Str) (n : Nat) (fs : List (Frag → Bool)) (ds : List He5.DefA) (tf : List Defn) : PySem.W.Hook where
  α := AlD
  obs := fun s => laid (objs s.heap.get? xs n) (sees fs ds tf s.heap.get?)
  val := fun _ => due ds
  says := fun _ h => ∃ K : Frag, K.In h ∧ Says fs ds tf h K
  of := fun _ _ e => ⟨_, frT_in, says_of e⟩
  keeps := fun _ _ _ ⟨K, hK, c⟩ k => ⟨K, Frag.In.keeps hK k, ⟨c.f, c.d, c.e, c.hd, c.out, fun p hp => k _ _ (c.em p hp)⟩⟩
/-- the same off the tree -/
def ob (xs : List Str) (n : Nat) (fs : List (Frag → Bool)) (ds : List He5.DefA) (tf : List Defn) (s : SharedT) : AlD := laid (objs (HandSHeadRun.getT s) xs n) (sees fs ds tf (HandSHeadRun.getT s))
theorem ob_eq (xs : List Str) (n : Nat) (fs : List (Frag → Bool)) (ds : List He5.DefA) (tf : List Defn) (s : SharedT) : ob xs n fs ds tf s = (hook xs n fs ds tf).obs s.abs := by
  have e : HandSHeadRun.getT s = s.abs.heap.get? := funext (HandSHeadRun.getT_eq s)
  unfold ob
  rw [e]
  rfl
section
variable {fs : List (Frag → Bool)} {ds : List He5.DefA} {tf : List Defn} {h : Heap} {K : Frag}
theorem Says.fact (c : Says fs ds tf h K) (i : Nat) {f : Frag → Bool} (e : fs[i]? = some f := by rfl) : f K = true := c.f f (List.mem_of_getElem? e)
theorem Says.def_ (c : Says fs ds tf h K) (i : Nat) {d : He5.DefA} (e : ds[i]? = some d := by rfl) : ∃ fd, FunD K d.name d.qual d.params d.body d.scope (d.dvs K) (d.kws K) (d.at_ K) fd := by
  have e2 : (ds.map fun d => He5.fnA K (d.at_ K))[i]? = (ds.map He5.DefA.val)[i]? := by rw [c.e]
  rw [List.getElem?_map, List.getElem?_map, e] at e2
  exact He5.DefA.funD (Option.some.inj e2) (c.d d (List.mem_of_getElem? e))
end
/-! ### kinds of facts -/
def bO (a : Option (Option Value)) (b : Option (Option Value)) : Bool := eqO a b
theorem bO_ok {a b : Option (Option Value)} (h : bO a b = true) : a = b := eqO_ok h
def bV (a b : Option Value) : Bool := decide (a = b)
theorem bV_ok {a b : Option Value} (h : bV a b = true) : a = b := of_decide_eq_true h
def bB (a b : Option Bool) : Bool := decide (a = b)
theorem bB_ok {a b : Option Bool} (h : bB a b = true) : a = b := of_decide_eq_true h
/-- there is an answer -/
def bS (a : Option (Option Value)) : Bool := a.isSome
theorem bS_ok {a : Option (Option Value)} (h : bS a = true) : ∃ o, a = some o := by
  cases a with
  | none => cases h
  | some o => exact ⟨o, rfl⟩
/-- a record's first item -/
def bR (a : Option (List Value)) (f : Addr) : Bool := match a with
  | some (.ref x :: _) => decide (x = f)
  | _ => false
theorem bR_ok {a : Option (List Value)} {f : Addr} (h : bR a f = true) : ∃ rest, a = some (.ref f :: rest) := by
  unfold bR at h
  split at h
  · rename_i x r
    exact ⟨r, by rw [of_decide_eq_true h]⟩
  · cases h
/-- an error class with an __init__ of its own, below ValueError -/
def bE (K : Frag) (C : Addr) : Bool := match K.lookup C with
  | some ⟨.type t, _, .cls cd, sl⟩ => decide (t = "type") && ((cd.hasDict && !cd.hasDel) && ((match cd.mro with
      | .ref c :: bm => decide (c = C) && HandSPX.refsVE bm
      | _ => false) && (match sl.toList with
      | [_, _, _, _, some (.builtin b), _] => decide (b = "ValueError.__new__")
      | _ => false)))
  | _ => false
theorem bE_ok {K : Frag} {C : Addr} (h : bE K C = true) : ∃ nm q N bs bm sn sub ab col dd k0 k1 k2 k3 k5, K.lookup C = some (excClassObj nm q C N bs bm true sn sub ab col dd k0 k1 k2 k3 k5 "ValueError.__new__") ∧ HandSPX.refsVE bm = true := by
  unfold bE at h
  cases q : K.lookup C with
  | none => rw [q] at h; cases h
  | some o =>
    obtain ⟨oc, od, dt, sl⟩ := o
    rw [q] at h
    cases oc with
    | type t =>
      cases dt with
      | cls cd =>
        obtain ⟨nm, bs, mro, ns, qn, hdct, sn, sub, ab, col, hdel⟩ := cd
        obtain ⟨h1, h⟩ := ba h
        obtain ⟨h2, h⟩ := ba h
        obtain ⟨h3, h4⟩ := ba h
        obtain ⟨h5, h6⟩ := ba h2
        have e1 : t = "type" := of_decide_eq_true h1
        have e2 : hdct = true := h5
        have e3 : hdel = false := by
          cases hdel with
          | false => rfl
          | true => cases h6
        clear h2 h
        subst e1 e2 e3
        cases mro with
        | nil => cases h3
        | cons m bm =>
          cases m with
          | ref c =>
            obtain ⟨h7, h8⟩ := ba (show (decide (c = C) && HandSPX.refsVE bm) = true from h3)
            have e4 : c = C := of_decide_eq_true h7
            subst e4
            clear h3 h7 h1
            split at h4
            · rename_i k0 k1 k2 k3 b k5 es
              have e5 : b = "ValueError.__new__" := of_decide_eq_true h4
              have e6 : sl = #[k0, k1, k2, k3, some (.builtin b), k5] := by
                rw [← Array.toArray_toList (xs := sl), es]
              subst e5 e6
              exact ⟨nm, qn, ns, bs, bm, sn, sub, ab, col, od, k0, k1, k2, k3, k5, rfl, h8⟩
            · cases h4
          | _ => cases h3
      | _ => cases h
    | _ => cases dt <;> cases h
/-! ### looks one behind another -/
theorem sees_app {fs fs' : List (Frag → Bool)} {ds ds' : List He5.DefA} {tf tf' : List Defn} {g : Addr → Option Obj} {K : Frag} (h : sees fs ds tf g K = due ds) (h' : sees fs' ds' tf' g K = due ds') : sees (fs ++ fs') (ds ++ ds') (tf ++ tf') g K = due (ds ++ ds') := by
  have a1 := congrArg (fun z : AlD => z.1) h
  have a2 := congrArg (fun z : AlD => z.2) h
  have b1 := congrArg (fun z : AlD => z.1) h'
  have b2 := congrArg (fun z : AlD => z.2) h'
  have a1 : ((fs.all fun f => f K) && ((ds.all fun d => d.ok K) && tabsB g tf K)) = true := a1
  have b1 : ((fs'.all fun f => f K) && ((ds'.all fun d => d.ok K) && tabsB g tf' K)) = true := b1
  have a2 : (ds.map fun d => He5.fnA K (d.at_ K)) = ds.map He5.DefA.val := a2
  have b2 : (ds'.map fun d => He5.fnA K (d.at_ K)) = ds'.map He5.DefA.val := b2
  obtain ⟨p1, p2⟩ := ba a1
  obtain ⟨p2, p3⟩ := ba p2
  obtain ⟨q1, q2⟩ := ba b1
  obtain ⟨q2, q3⟩ := ba q2
  have p3 : (tf.all _) = true := p3
  have q3 : (tf'.all _) = true := q3
  unfold sees due tabsB
  rw [List.all_append, List.all_append, List.all_append, List.map_append, List.map_append, p1, p2, p3, q1, q2, q3, a2, b2]
  rfl
theorem ob_app {xs : List Str} {n : Nat} {fs fs' : List (Frag → Bool)} {ds ds' : List He5.DefA} {tf tf' : List Defn} {s : SharedT} (h : ob xs n fs ds tf s = due ds) (h' : ob xs n fs' ds' tf' s = due ds') : ob xs n (fs ++ fs') (ds ++ ds') (tf ++ tf') s = due (ds ++ ds') := by
  unfold ob at *
  rw [laid_eq] at *
  exact sees_app h h'
theorem map_app {α : Type} {A : Option α} {k : α → SharedT} {xs : List Str} {n : Nat} {fs fs' : List (Frag → Bool)} {ds ds' : List He5.DefA} {tf tf' : List Defn} (h : A.map (fun z => ob xs n fs ds tf (k z)) = some (due ds)) (h' : A.map (fun z => ob xs n fs' ds' tf' (k z)) = some (due ds')) : A.map (fun z => ob xs n (fs ++ fs') (ds ++ ds') (tf ++ tf') (k z)) = some (due (ds ++ ds')) := by
  obtain ⟨z, e, h⟩ := Option.map_eq_some_iff.mp h
  rw [e] at h' ⊢
  exact congrArg some (ob_app h (Option.some.inj h'))
end Hz
set_option maxRecDepth 100000
set_option maxHeartbeats 4000000
/-! Facts of the head: tuples that stand at the top, constants of classes. -/
namespace Hz
open PySem PySem.W PySem.Calls PyProof.Rows He L2
/-- a plain value as it stands -/
def pV : V → Value → Bool
  | .bl b, .bool c => decide (b = c)
  | .int i, .int j _ => decide (i = j)
  | .str x, .str y _ => decide (x = y)
  | .non, .none => true
  | _, _ => false
theorem pV_ok : ∀ {v : V} {u : Value}, pV v u = true → RelV v u
  | .bl b, .bool c, h => by
    have e : b = c := of_decide_eq_true h
    subst e
    rfl
  | .int i, .int j t, h => by
    have e : i = j := of_decide_eq_true h
    subst e
    exact ⟨t, rfl⟩
  | .str x, .str y t, h => by
    have e : x = y := of_decide_eq_true h
    subst e
    exact ⟨t, rfl⟩
  | .non, .none, _ => rfl
def pVs : List V → List Value → Bool
  | [], [] => true
  | x :: xs, u :: us => pV x u && pVs xs us
  | _, _ => false
theorem pVs_ok : ∀ {xs : List V} {us : List Value}, pVs xs us = true → Vals xs us
  | [], [], _ => .nil
  | x :: xs, u :: us, h => by
    obtain ⟨h1, h2⟩ := ba (show (pV x u && pVs xs us) = true from h)
    exact .cons (pV_ok h1) (pVs_ok h2)
/-- a tuple of plain values stands at a -/
def bT (K : Frag) (a : Addr) (xs : List V) : Bool := match K.lookup a with
  | some ⟨.type t, _, .seq its _, _⟩ => decide (t = "tuple") && (Nat.ble its.size sizeLine && pVs xs its.toList)
  | _ => false
theorem bT_ok {K : Frag} {a : Addr} {xs : List V} {H : Hp} (h : bT K a xs = true) : SqT K H a xs := by
  unfold bT at h
  split at h
  · rename_i t d its n sl e
    obtain ⟨h1, h2⟩ := ba h
    obtain ⟨h2, h3⟩ := ba h2
    have ht : t = "tuple" := of_decide_eq_true h1
    subst ht
    exact .inr ⟨_, its, n, e, rfl, rfl, Nat.le_of_ble_eq_true h2, pVs_ok h3⟩
  · cases h
/-- a constant of a class -/
def bC (K : Frag) (C : Addr) (f : Str) (v : V) : Bool := match findCls K (.ref C) (.type "type") f with
  | some (.val u) => pV v u
  | _ => false
theorem bC_ok {K : Frag} {C : Addr} {f : Str} {v : V} (h : bC K C f v = true) : ∃ u, ClX.CVal K C (.type "type") f v u := by
  unfold bC at h
  split at h
  · rename_i u e
    exact ⟨u, e, pV_ok h⟩
  · cases h
/-- no class of the line has the name -/
def nI (K : Frag) (C : Addr) (i : Str) : Bool := match clsIn K C with
  | some cd => cd.mro.all fun c => match findIn K c i with | some none => true | _ => false
  | none => false
end Hz
set_option linter.all false
set_option maxRecDepth 100000
set_option maxHeartbeats 4000000
/-! A head whose opening imports: the opening, the fence, the top, all in one run over the heap as a tree. -/
noncomputable section
namespace Hz
open PySem PySem.W PySem.Calls PyProof.Rows HandSHeadRun
/-- the opening, to where the program is through -/
def impF (st : SharedT → Thread → Option (SharedT × Thread)) : Nat → SharedT → Thread → Option SharedT
  | 0, _, _ => none
  | m + 1, s, t => match t.atExitBegin with
    | some [] => some s
    | some (_ :: _) => none
    | none => match st s t with
      | some (s', t') => frS s' fun s' => impF st m s' t'
      | none => none
theorem impF_ok {tb : String → Option Builtin} {p : Program} {w : World} : ∀ {m : Nat} {s s' : SharedT} {t : Thread}, impF (stepT (denote tb) p w) m s t = some s' → importEnds tb p w m s.abs t = some s'.abs
  | 0, _, _, _, h => by cases h
  | m + 1, s, s', t, h => by
    unfold impF at h
    unfold importEnds
    cases ha : t.atExitBegin with
    | some l =>
      rw [ha] at h
      cases l with
      | nil =>
        cases h
        rfl
      | cons x xs => cases h
    | none =>
      rw [ha] at h
      dsimp only at h ⊢
      cases hs : stepT (denote tb) p w s t with
      | none =>
        rw [hs] at h
        cases h
      | some r =>
        obtain ⟨s2, t2⟩ := r
        rw [hs] at h
        have h3 : (frS s2 fun s' => impF (stepT (denote tb) p w) m s' t2) = some s' := h
        rw [frS_eq] at h3
        rw [stepT_spec hs]
        exact impF_ok h3
/-- the fence of one module, on the tree -/
def fenceT (m : Str) (s : SharedT) : Option SharedT := match boundIn s.abs.heap sysModules m, tameNamesOf? m with
  | some (.ref a), some row => (match getT s a with
    | some o => (match o.dict with
      | some D => (match getT s D, s.tree.get D with
        | some od, some _ => (fenceDict? m row od).map fun u => { s with tree := s.tree.set D fun _ => u }
        | _, _ => none)
      | none => none)
    | none => none)
  | _, _ => none
theorem fenceT_ok {m : Str} {s s' : SharedT} (h : fenceT m s = some s') : fenceModule? m s.abs = some s'.abs := by
  unfold fenceT at h
  unfold fenceModule?
  split at h
  · rename_i a row e1 e2
    rw [e1, e2]
    dsimp only
    rw [← getT_eq]
    split at h
    · rename_i o e3
      rw [e3]
      dsimp only
      split at h
      · rename_i D e4
        rw [e4]
        dsimp only
        rw [← getT_eq]
        split at h
        · rename_i od u e5 e6
          rw [e5]
          dsimp only
          cases e7 : fenceDict? m row od with
          | none =>
            rw [e7] at h
            cases h
          | some v =>
            rw [e7] at h
            cases h
            refine congrArg some ?_
            show (⟨(absHeap s.tree s.n s.life).update D fun _ => v, s.gens, s.drawn, s.toks, s.os⟩ : Shared) = ⟨absHeap (s.tree.set D fun _ => v) s.n s.life, s.gens, s.drawn, s.toks, s.os⟩
            rw [absHeap_set e6]
        · cases h
      · cases h
    · cases h
  · cases h
def fencesT : List Str → SharedT → Option SharedT
  | [], s => some s
  | m :: r, s => match fenceT m s with
    | some s' => fencesT r s'
    | none => none
theorem fencesT_ok : ∀ {l : List Str} {s s' : SharedT}, fencesT l s = some s' → fenceAll? l s.abs = some s'.abs
  | [], _, _, h => by
    cases h
    rfl
  | m :: r, s, s', h => by
    unfold fencesT at h
    unfold fenceAll?
    split at h
    · rename_i u e
      rw [fenceT_ok e]
      exact fencesT_ok h
    · cases h
/-- ahead of the boot -/
def zeroT (p : Program) : SharedT := ⟨.nil, 0, (start p).1.heap.life, (start p).1.gens, (start p).1.drawn, (start p).1.toks, (start p).1.os⟩
theorem zeroT_abs (p : Program) : (zeroT p).abs = (start p).1 := rfl
/-- all of it: the state behind the fence, the state behind the top -/
def allF (st0 st : SharedT → Thread → Option (SharedT × Thread)) (M0 M1 : Nat) (p : Program) : Option (SharedT × SharedT) := match impF st0 M0 (zeroT (opening p)) (start (opening p)).2 with
  | some s => (match fencesT (importedModules p.main.body) s with
    | some f => frS f fun f => (match goF st f.n (f.abs.heap.nsMap mainGlobals "__annotations__") M1 f (topStub p) with
      | some e => some (f, e)
      | none => none)
    | none => none)
  | none => none
def looksA (p : Program) (f e : Shared) : Bool := (f.heap.isNs mainGlobals && f.gens.size == 0) && (staticsOk (importedModules p.main.body) f.heap e.heap && namesBound p e.heap && gensDone e && laidKept f.heap e.heap)
theorem importEnds_le {tb : String → Option Builtin} {p : Program} {w : World} {M N : Nat} {s r : Shared} {t : Thread} (le : Nat.ble M N = true) (h : importEnds tb p w M s t = some r) : importEnds tb p w N s t = some r := by
  have := importEnds_mono (N - M) _ _ _ _ h
  rwa [show M + (N - M) = N by have := Nat.le_of_ble_eq_true le; omega] at this
theorem topRun_le {tb : String → Option Builtin} {p : Program} {w : World} {n0 M N : Nat} {ann : Option Value} {s r : Shared} {t : Thread} (le : Nat.ble M N = true) (h : topRun tb p w n0 ann M s t = some r) : topRun tb p w n0 ann N s t = some r := by
  have := topRun_mono (N - M) _ _ _ _ h
  rwa [show M + (N - M) = N by have := Nat.le_of_ble_eq_true le; omega] at this
theorem left_all {p q : Program} {loose : List Str} {Xt : Shared → Bool} {α : Type} {Yf : Shared → α} {Ya : World → α} {N M0 M1 : Nat}
    (hnp : p.main.body.any namesNumpy = false) (le0 : Nat.ble M0 N = true) (le1 : Nat.ble M1 N = true)
    (run : ∀ w : World, (allF (stepT (denote treeTable) (opening p) w) (stepT (denote treeTable) p w) M0 M1 p).map (fun z => (looksA p z.1.abs z.2.abs, openSeen q loose (importedModules p.main.body) Xt true z.2.abs, Yf z.2.abs)) = some (true, openGood q loose, Ya w)) :
    LeftO p q loose Xt Yf Ya N true := fun w => by
  obtain ⟨⟨f, e⟩, hs, hv⟩ := Option.map_eq_some_iff.mp (run w)
  obtain ⟨l1, l2, l3⟩ : _ ∧ _ ∧ _ := by simpa only [Prod.mk.injEq] using hv
  unfold allF at hs
  split at hs
  · rename_i s e1
    split at hs
    · rename_i f2 e2
      rw [frS_eq] at hs
      split at hs
      · rename_i e3 e4
        cases hs
        have i1 := importEnds_le le0 (impF_ok e1)
        rw [zeroT_abs] at i1
        have i2 : fenceModules? p s.abs = some f.abs := by
          unfold fenceModules?
          rw [fencesT_ok e2]
          show (if p.main.body.any namesNumpy then _ else _) = _
          rw [hnp]
          rfl
        have a : fencedOpening treeTable p w N = some f.abs := by
          unfold fencedOpening
          rw [i1]
          exact i2
        have r := topRun_le le1 (goF_ok e4)
        obtain ⟨k1, k2⟩ := Bool.and_eq_true_iff.mp (show ((f.abs.heap.isNs mainGlobals && f.abs.gens.size == 0) && (staticsOk (importedModules p.main.body) f.abs.heap e.abs.heap && namesBound p e.abs.heap && gensDone e.abs && laidKept f.abs.heap e.abs.heap)) = true from l1)
        have t : topFrom treeTable p w N f.abs = some e.abs := by
          unfold topFrom
          rw [k1]
          have sz : f.abs.heap.objs.size = f.n := absHeap_size _ _ _
          dsimp only
          rw [sz, r]
          show (match staticsOk (importedModules p.main.body) f.abs.heap e.abs.heap && namesBound p e.abs.heap && gensDone e.abs && laidKept f.abs.heap e.abs.heap with | true => some e.abs | false => none) = _
          rw [k2]
        unfold openEnds
        rw [a]
        show (topFrom treeTable p w N _).map _ = _
        rw [t]
        exact congrArg some (Prod.ext l2 l3)
      · cases hs
    · cases hs
  · cases hs
/-- the run's equation at a world -/
def RunAll (r : OpenRow) (q : Program) (H : Hook) (ob : SharedT → H.α) (M0 M1 : Nat) (loose : List Str) (w : World) : Prop :=
  (allF (stepQ (denQ tabQ) (opening r.prog) w) (stepQ (denQ tabQ) r.prog w) M0 M1 r.prog).map (fun z => (looksA r.prog z.1.abs z.2.abs, seenQ q loose (importedModules r.prog.main.body) (fun s => xlAt q [] s && recOk r.toRowW.records s) z.2.abs, ob z.2)) = some (true, openGood q loose, H.val w)
/-- .. from its parts -/
theorem run_of {r : OpenRow} {q : Program} {H : Hook} {ob : SharedT → H.α} {M0 M1 : Nat} {loose : List Str} {w : World}
    (hL : (allF (stepQ (denQ tabQ) (opening r.prog) w) (stepQ (denQ tabQ) r.prog w) M0 M1 r.prog).map (fun z => looksA r.prog z.1.abs z.2.abs) = some true)
    (hS : (allF (stepQ (denQ tabQ) (opening r.prog) w) (stepQ (denQ tabQ) r.prog w) M0 M1 r.prog).map (fun z => seenQ q loose (importedModules r.prog.main.body) (fun s => xlAt q [] s && recOk r.toRowW.records s) z.2.abs) = some (openGood q loose))
    (hF : (allF (stepQ (denQ tabQ) (opening r.prog) w) (stepQ (denQ tabQ) r.prog w) M0 M1 r.prog).map (fun z => ob z.2) = some (H.val w)) : RunAll r q H ob M0 M1 loose w := by
  unfold RunAll
  obtain ⟨z, e, h1⟩ := Option.map_eq_some_iff.mp hL
  rw [e] at hS hF ⊢
  have h2 := Option.some.inj hS
  have h3 := Option.some.inj hF
  exact congrArg some (Prod.ext h1 (Prod.ext h2 h3))
theorem allQ_eq (M0 M1 : Nat) (p : Program) (w : World) : allF (stepT (denote treeTable) (opening p) w) (stepT (denote treeTable) p w) M0 M1 p = allF (stepQ (denQ tabQ) (opening p) w) (stepQ (denQ tabQ) p w) M0 M1 p := by
  rw [stepQ_eq, denQ_eq, tabQ_eq]
theorem head_all {r : OpenRow} {q : Program} {H : Hook} {ob : SharedT → H.α} {M0 M1 : Nat} {loose : List Str} {d : DefRec} {kwd : List (Str × PySem.Expr)} (ho : ∀ s : SharedT, ob s = H.obs s.abs)
    (hnp : r.prog.main.body.any namesNumpy = false) (run : ∀ w, RunAll r q H ob M0 M1 loose w)
    (hdef : defOf q r.name = some (d, kwd)) (hp : r.prog.theDef r.name = some (d.params, d.body, d.scope)) (hk : kwWritten? d.params.kwonlyargs d.params.kw_defaults = some kwd)
    (hwr : (!r.writes || r.records.isEmpty) = true) (k1 : r.wellSaid = true) (ok : (chainsOk q && opensWell r.prog && (frees r.toRowW && r.within.isEmpty)) = true) (hb : r.prog.bare) (hw : r.toRowW.promised)
    (call : WalkO q loose (XL q []) H.says r.toRowW d kwd fun f vs => PySem.call f vs) : r.Holds := by
  have left : LeftO r.prog q loose (fun s => xlAt q [] s && recOk r.toRowW.records s) H.obs H.val (M0 + M1) true :=
    left_all hnp (M0 := M0) (M1 := M1) (Nat.ble_eq_true_of_le (by omega)) (Nat.ble_eq_true_of_le (by omega)) fun w => by
      have z := run w
      have eo : ob = fun s => H.obs s.abs := funext ho
      unfold RunAll at z
      rw [eo] at z
      simp only [allQ_eq, seenQ_eq]
      exact z
  exact holds_open (r := r) (q := q) (loose := loose) (XP := XL q []) (YP := H.says) (d := d) (kwd := kwd) left H.of H.keeps (fun s z => xl_of s (Bool.and_eq_true_iff.mp z).1) XL.keeps hdef hp hk (fun s z => recFacts_of (Bool.and_eq_true_iff.mp z).2) hwr k1 ok hb hw call
end Hz
set_option linter.all false
set_option maxRecDepth 100000
set_option maxHeartbeats 4000000
namespace Toy
open PySem PySem.W PySem.Calls PyProof.Rows L2
/-! ### the head -/
def ztop (i : Nat) : Stmt := PySem.Challenge.pw_anyfifth_k16_whole_operators_of_regions.main.body.getD i (.Pass ⟨0, 0, 0, 0⟩)
abbrev zCR (K : PySem.W.Frag) : Addr := He.ga K "Ratio"
abbrev zCG (K : PySem.W.Frag) : Addr := He.ga K "Region"
abbrev zgvNONE (K : PySem.W.Frag) : Addr := He.ga K "NONE"
abbrev zgvEVERY (K : PySem.W.Frag) : Addr := He.ga K "EVERY"
abbrev zgvLESS (K : PySem.W.Frag) : Addr := He.ga K "LESS"
abbrev zgvAND (K : PySem.W.Frag) : Addr := He.ga K "AND"
abbrev zgvOR (K : PySem.W.Frag) : Addr := He.ga K "OR"
abbrev zgvUNLIKE (K : PySem.W.Frag) : Addr := He.ga K "UNLIKE"
abbrev zgvWHOLE (K : PySem.W.Frag) : Addr := He.ga K "WHOLE"
abbrev zf0 (K : PySem.W.Frag) : Addr := He.ga K "is_int"
abbrev zf1 (K : PySem.W.Frag) : Addr := He.ma K (zCR K) "__init__"
abbrev zf2 (K : PySem.W.Frag) : Addr := He.ga K "is_branch"
abbrev zf3 (K : PySem.W.Frag) : Addr := He.ga K "sizes_of"
abbrev zf4 (K : PySem.W.Frag) : Addr := He.ga K "halves_of"
abbrev zf5 (K : PySem.W.Frag) : Addr := He.ga K "branch_of"
abbrev zf6 (K : PySem.W.Frag) : Addr := He.ga K "combined"
abbrev zf7 (K : PySem.W.Frag) : Addr := He.ma K (zCG K) "__init__"
abbrev zf8 (K : PySem.W.Frag) : Addr := He.ga K "half_ends"
abbrev zf9 (K : PySem.W.Frag) : Addr := He.ga K "words_of"
abbrev zf10 (K : PySem.W.Frag) : Addr := He.ma K (zCG K) "__str__"
abbrev zp11 (K : PySem.W.Frag) : Addr := He.ma K (zCG K) "every"
abbrev zf11 (K : PySem.W.Frag) : Addr := He5.wf K (zCG K) "staticmethod" "every"
abbrev zp12 (K : PySem.W.Frag) : Addr := He.ma K (zCG K) "none"
abbrev zf12 (K : PySem.W.Frag) : Addr := He5.wf K (zCG K) "staticmethod" "none"
abbrev zp13 (K : PySem.W.Frag) : Addr := He.ma K (zCG K) "rational"
abbrev zf13 (K : PySem.W.Frag) : Addr := He5.wf K (zCG K) "staticmethod" "rational"
abbrev zp14 (K : PySem.W.Frag) : Addr := He.ma K (zCG K) "leaf"
abbrev zf14 (K : PySem.W.Frag) : Addr := He5.wf K (zCG K) "staticmethod" "leaf"
abbrev zp15 (K : PySem.W.Frag) : Addr := He.ma K (zCG K) "joined"
abbrev zf15 (K : PySem.W.Frag) : Addr := He5.wf K (zCG K) "staticmethod" "joined"
abbrev zf16 (K : PySem.W.Frag) : Addr := He.ma K (zCG K) "__invert__"
abbrev zf17 (K : PySem.W.Frag) : Addr := He.ga K "_is_within"
abbrev zf18 (K : PySem.W.Frag) : Addr := He.ma K (zCG K) "__eq__"
abbrev zp19 (K : PySem.W.Frag) : Addr := He.ma K (zCR K) "is_fifth"
abbrev zf19 (K : PySem.W.Frag) : Addr := He5.wf K (zCR K) "staticmethod" "is_fifth"
abbrev zf20 (K : PySem.W.Frag) : Addr := He.ga K "node_at"
abbrev zf21 (K : PySem.W.Frag) : Addr := He.ga K "truth_at"
abbrev zf22 (K : PySem.W.Frag) : Addr := He.ma K (zCG K) "__contains__"
abbrev zf23 (K : PySem.W.Frag) : Addr := He.ma K (zCG K) "__and__"
abbrev zf24 (K : PySem.W.Frag) : Addr := He.ma K (zCG K) "__or__"
abbrev zf25 (K : PySem.W.Frag) : Addr := He.ma K (zCG K) "__sub__"
abbrev zf26 (K : PySem.W.Frag) : Addr := He.ma K (zCG K) "__xor__"
abbrev zf27 (K : PySem.W.Frag) : Addr := He.ga K "_law_pen"
abbrev zf28 (K : PySem.W.Frag) : Addr := He.ga K "_law_draw"
abbrev zf29 (K : PySem.W.Frag) : Addr := He.ga K "_law_truths"
abbrev zf30 (K : PySem.W.Frag) : Addr := He.ga K "_law_tree"
abbrev zf31 (K : PySem.W.Frag) : Addr := He.ga K "_law_region"
abbrev zf32 (K : PySem.W.Frag) : Addr := He.ga K "_law_has"
abbrev zf33 (K : PySem.W.Frag) : Addr := He.ga K "_law_halves"
abbrev zf34 (K : PySem.W.Frag) : Addr := He.ga K "_law_least"
abbrev zf35 (K : PySem.W.Frag) : Addr := He.ga K "_law_words"
abbrev zf36 (K : PySem.W.Frag) : Addr := He.ga K "_law_split"
abbrev zf37 (K : PySem.W.Frag) : Addr := He.ga K "_law_merged"
abbrev zf38 (K : PySem.W.Frag) : Addr := He.ga K "_law_common"
abbrev zf39 (K : PySem.W.Frag) : Addr := He.ga K "_law_fractions"
abbrev zf40 (K : PySem.W.Frag) : Addr := He.ga K "_law_table"
abbrev zf41 (K : PySem.W.Frag) : Addr := He.ga K "_law_joined"
abbrev zf42 (K : PySem.W.Frag) : Addr := He.ga K "_law_bound"
abbrev zf43 (K : PySem.W.Frag) : Addr := He.ga K "_law_other"
abbrev zf44 (K : PySem.W.Frag) : Addr := He.ga K "_law_is"
abbrev zf45 (K : PySem.W.Frag) : Addr := He.ga K "_law_right"
abbrev zf46 (K : PySem.W.Frag) : Addr := He.ga K "law"
def zd0 : He5.DefA := ⟨zf0, "is_int", "is_int", defArgs (ztop 13), defBody (ztop 13), defScope (ztop 13), [], []⟩
def zd1 : He5.DefA := ⟨zf1, "__init__", "Ratio.__init__", defArgs (inClass (ztop 17) 0), defBody (inClass (ztop 17) 0), defScope (inClass (ztop 17) 0), [.int 1], []⟩
def zd2 : He5.DefA := ⟨zf2, "is_branch", "is_branch", defArgs (ztop 26), defBody (ztop 26), defScope (ztop 26), [], []⟩
def zd3 : He5.DefA := ⟨zf3, "sizes_of", "sizes_of", defArgs (ztop 29), defBody (ztop 29), defScope (ztop 29), [], []⟩
def zd4 : He5.DefA := ⟨zf4, "halves_of", "halves_of", defArgs (ztop 40), defBody (ztop 40), defScope (ztop 40), [], []⟩
def zd5 : He5.DefA := ⟨zf5, "branch_of", "branch_of", defArgs (ztop 39), defBody (ztop 39), defScope (ztop 39), [], []⟩
def zd6 : He5.DefA := ⟨zf6, "combined", "combined", defArgs (ztop 41), defBody (ztop 41), defScope (ztop 41), [], []⟩
def zd7 : He5.DefA := ⟨zf7, "__init__", "Region.__init__", defArgs (inClass (ztop 48) 3), defBody (inClass (ztop 48) 3), defScope (inClass (ztop 48) 3), [], []⟩
def zd8 : He5.DefA := ⟨zf8, "half_ends", "half_ends", defArgs (ztop 31), defBody (ztop 31), defScope (ztop 31), [], []⟩
def zd9 : He5.DefA := ⟨zf9, "words_of", "words_of", defArgs (ztop 45), defBody (ztop 45), defScope (ztop 45), [], []⟩
def zd10 : He5.DefA := ⟨zf10, "__str__", "Region.__str__", defArgs (inClass (ztop 48) 33), defBody (inClass (ztop 48) 33), defScope (inClass (ztop 48) 33), [], []⟩
def zd11 : He5.DefA := ⟨zf11, "every", "Region.every", defArgs (inClass (ztop 48) 4), defBody (inClass (ztop 48) 4), defScope (inClass (ztop 48) 4), [], []⟩
def zd12 : He5.DefA := ⟨zf12, "none", "Region.none", defArgs (inClass (ztop 48) 5), defBody (inClass (ztop 48) 5), defScope (inClass (ztop 48) 5), [], []⟩
def zd13 : He5.DefA := ⟨zf13, "rational", "Region.rational", defArgs (inClass (ztop 48) 6), defBody (inClass (ztop 48) 6), defScope (inClass (ztop 48) 6), [], []⟩
def zd14 : He5.DefA := ⟨zf14, "leaf", "Region.leaf", defArgs (inClass (ztop 48) 10), defBody (inClass (ztop 48) 10), defScope (inClass (ztop 48) 10), [], []⟩
def zd15 : He5.DefA := ⟨zf15, "joined", "Region.joined", defArgs (inClass (ztop 48) 11), defBody (inClass (ztop 48) 11), defScope (inClass (ztop 48) 11), [], []⟩
def zd16 : He5.DefA := ⟨zf16, "__invert__", "Region.__invert__", defArgs (inClass (ztop 48) 20), defBody (inClass (ztop 48) 20), defScope (inClass (ztop 48) 20), [], []⟩
def zd17 : He5.DefA := ⟨zf17, "_is_within", "_is_within", defArgs (ztop 49), defBody (ztop 49), defScope (ztop 49), [], []⟩
def zd18 : He5.DefA := ⟨zf18, "__eq__", "Region.__eq__", defArgs (inClass (ztop 48) 29), defBody (inClass (ztop 48) 29), defScope (inClass (ztop 48) 29), [], []⟩
def zd19 : He5.DefA := ⟨zf19, "is_fifth", "Ratio.is_fifth", defArgs (inClass (ztop 17) 2), defBody (inClass (ztop 17) 2), defScope (inClass (ztop 17) 2), [], []⟩
def zd20 : He5.DefA := ⟨zf20, "node_at", "node_at", defArgs (ztop 30), defBody (ztop 30), defScope (ztop 30), [], []⟩
def zd21 : He5.DefA := ⟨zf21, "truth_at", "truth_at", defArgs (ztop 42), defBody (ztop 42), defScope (ztop 42), [], []⟩
def zd22 : He5.DefA := ⟨zf22, "__contains__", "Region.__contains__", defArgs (inClass (ztop 48) 30), defBody (inClass (ztop 48) 30), defScope (inClass (ztop 48) 30), [], []⟩
def zd23 : He5.DefA := ⟨zf23, "__and__", "Region.__and__", defArgs (inClass (ztop 48) 21), defBody (inClass (ztop 48) 21), defScope (inClass (ztop 48) 21), [], []⟩
def zd24 : He5.DefA := ⟨zf24, "__or__", "Region.__or__", defArgs (inClass (ztop 48) 22), defBody (inClass (ztop 48) 22), defScope (inClass (ztop 48) 22), [], []⟩
def zd25 : He5.DefA := ⟨zf25, "__sub__", "Region.__sub__", defArgs (inClass (ztop 48) 23), defBody (inClass (ztop 48) 23), defScope (inClass (ztop 48) 23), [], []⟩
def zd26 : He5.DefA := ⟨zf26, "__xor__", "Region.__xor__", defArgs (inClass (ztop 48) 24), defBody (inClass (ztop 48) 24), defScope (inClass (ztop 48) 24), [], []⟩
def zd27 : He5.DefA := ⟨zf27, "_law_pen", "_law_pen", defArgs (ztop 51), defBody (ztop 51), defScope (ztop 51), [], []⟩
def zd28 : He5.DefA := ⟨zf28, "_law_draw", "_law_draw", defArgs (ztop 52), defBody (ztop 52), defScope (ztop 52), [], []⟩
def zd29 : He5.DefA := ⟨zf29, "_law_truths", "_law_truths", defArgs (ztop 54), defBody (ztop 54), defScope (ztop 54), [], []⟩
def zd30 : He5.DefA := ⟨zf30, "_law_tree", "_law_tree", defArgs (ztop 55), defBody (ztop 55), defScope (ztop 55), [], []⟩
def zd31 : He5.DefA := ⟨zf31, "_law_region", "_law_region", defArgs (ztop 56), defBody (ztop 56), defScope (ztop 56), [], []⟩
def zd32 : He5.DefA := ⟨zf32, "_law_has", "_law_has", defArgs (ztop 57), defBody (ztop 57), defScope (ztop 57), [], []⟩
def zd33 : He5.DefA := ⟨zf33, "_law_halves", "_law_halves", defArgs (ztop 58), defBody (ztop 58), defScope (ztop 58), [], []⟩
def zd34 : He5.DefA := ⟨zf34, "_law_least", "_law_least", defArgs (ztop 59), defBody (ztop 59), defScope (ztop 59), [], []⟩
def zd35 : He5.DefA := ⟨zf35, "_law_words", "_law_words", defArgs (ztop 60), defBody (ztop 60), defScope (ztop 60), [], []⟩
def zd36 : He5.DefA := ⟨zf36, "_law_split", "_law_split", defArgs (ztop 61), defBody (ztop 61), defScope (ztop 61), [], []⟩
def zd37 : He5.DefA := ⟨zf37, "_law_merged", "_law_merged", defArgs (ztop 62), defBody (ztop 62), defScope (ztop 62), [], []⟩
def zd38 : He5.DefA := ⟨zf38, "_law_common", "_law_common", defArgs (ztop 63), defBody (ztop 63), defScope (ztop 63), [], []⟩
def zd39 : He5.DefA := ⟨zf39, "_law_fractions", "_law_fractions", defArgs (ztop 64), defBody (ztop 64), defScope (ztop 64), [], []⟩
def zd40 : He5.DefA := ⟨zf40, "_law_table", "_law_table", defArgs (ztop 65), defBody (ztop 65), defScope (ztop 65), [], []⟩
def zd41 : He5.DefA := ⟨zf41, "_law_joined", "_law_joined", defArgs (ztop 66), defBody (ztop 66), defScope (ztop 66), [], []⟩
def zd42 : He5.DefA := ⟨zf42, "_law_bound", "_law_bound", defArgs (ztop 67), defBody (ztop 67), defScope (ztop 67), [], []⟩
def zd43 : He5.DefA := ⟨zf43, "_law_other", "_law_other", defArgs (ztop 68), defBody (ztop 68), defScope (ztop 68), [], []⟩
def zd44 : He5.DefA := ⟨zf44, "_law_is", "_law_is", defArgs (ztop 69), defBody (ztop 69), defScope (ztop 69), [], []⟩
def zd45 : He5.DefA := ⟨zf45, "_law_right", "_law_right", defArgs (ztop 70), defBody (ztop 70), defScope (ztop 70), [], []⟩
def zd46 : He5.DefA := ⟨zf46, "law", "law", defArgs (ztop 71), defBody (ztop 71), defScope (ztop 71), [], []⟩
def zfs0_0 : List (PySem.W.Frag → Bool) := [fun K => Hz.bO (PySem.W.nsIn K mainGlobals "Ratio") (some (some (.ref (zCR K)))),
  fun K => PySem.W.plainGet K (zCR K) Str.empty,
  fun K => PySem.W.hasDictIn K (zCR K),
  fun K => PySem.W.plainOver K (zCR K),
  fun K => Hz.bO (PySem.W.findIn K (.ref (zCR K)) "__setattr__") (some (some (.builtin "object.__setattr__"))),
  fun K => PySem.W.readsIn K (zCR K) (.type "type"),
  fun K => Hz.bO (PySem.W.specialIn K (.ref (zCR K)) "__getattribute__") (some (some (.builtin "type.__getattribute__"))),
  fun K => Hz.bO (PySem.W.findIn K (.ref (zCR K)) "__class__") (some (some (.builtin "object.__class__"))),
  fun K => Hz.bB (PySem.W.mroIn K (zCR K) (.type "object")) (some true),
  fun K => Hz.bB (PySem.W.subIn K (.ref (zCR K)) (.type "int")) (some false),
  fun K => PySem.W.notFirst K (zCR K) (.type "int"),
  fun K => PySem.W.notFirst K (zCR K) (.ref (zCR K)),
  fun K => Hz.bB (PySem.W.kitOne K (.ref (zCR K)) (.type "int")) (some false),
  fun K => Hz.bB (PySem.W.kitOne K (.ref (zCR K)) (.type "bool")) (some false),
  fun K => Hz.bB (PySem.W.kitOne K (.type "int") (.ref (zCR K))) (some false),
  fun K => Hz.bB (PySem.W.kitOne K (.ref (zCR K)) (.ref (zCR K))) (some true),
  fun K => Hz.bO (PySem.W.findIn K (.ref (zCR K)) "top") (some none),
  fun K => Hz.bO (PySem.W.findIn K (.ref (zCR K)) "bottom") (some none),
  fun K => PySem.W.makesIn K (zCR K),
  fun K => PySem.W.keepIn K (.ref (zCR K))]
def zfs0_1 : List (PySem.W.Frag → Bool) := [fun K => Hz.bO (PySem.W.nsIn K mainGlobals "Region") (some (some (.ref (zCG K)))),
  fun K => PySem.W.plainGet K (zCG K) Str.empty,
  fun K => PySem.W.hasDictIn K (zCG K),
  fun K => PySem.W.plainOver K (zCG K),
  fun K => Hz.bO (PySem.W.findIn K (.ref (zCG K)) "__setattr__") (some (some (.builtin "object.__setattr__"))),
  fun K => PySem.W.readsIn K (zCG K) (.type "type"),
  fun K => Hz.bO (PySem.W.specialIn K (.ref (zCG K)) "__getattribute__") (some (some (.builtin "type.__getattribute__"))),
  fun K => Hz.bO (PySem.W.findIn K (.ref (zCG K)) "__class__") (some (some (.builtin "object.__class__"))),
  fun K => Hz.bB (PySem.W.mroIn K (zCG K) (.type "object")) (some true),
  fun K => Hz.bB (PySem.W.subIn K (.ref (zCG K)) (.type "int")) (some false),
  fun K => PySem.W.notFirst K (zCG K) (.type "int"),
  fun K => PySem.W.notFirst K (zCG K) (.ref (zCG K)),
  fun K => Hz.bB (PySem.W.kitOne K (.ref (zCG K)) (.type "int")) (some false),
  fun K => Hz.bB (PySem.W.kitOne K (.ref (zCG K)) (.type "bool")) (some false),
  fun K => Hz.bB (PySem.W.kitOne K (.type "int") (.ref (zCG K))) (some false),
  fun K => Hz.bB (PySem.W.kitOne K (.ref (zCG K)) (.ref (zCG K))) (some true),
  fun K => Hz.bO (PySem.W.findIn K (.ref (zCG K)) "_tree") (some none),
  fun K => Hz.bC K (zCG K) "LEVELS" (V.int 200),
  fun K => Hz.bC K (zCG K) "MOST" (V.int 2000),
  fun K => PySem.W.makesIn K (zCG K)]
def zfs0_2 : List (PySem.W.Frag → Bool) := [fun K => PySem.W.keepIn K (.ref (zCG K)),
  fun K => Hz.bO (PySem.W.specialIn K (.builtin "object.__class__") "__get__") (some (some (.builtin "getset_descriptor.__get__"))),
  fun K => Hz.bB (PySem.W.takesIn K (.builtin "object.__class__")) (some true),
  fun K => Hz.bO (PySem.W.nsIn K mainGlobals "int") (some none),
  fun K => Hz.bO (PySem.W.nsIn K mainGlobals "len") (some none),
  fun K => Hz.bO (PySem.W.nsIn K mainGlobals "abs") (some none),
  fun K => Hz.bO (PySem.W.nsIn K mainGlobals "list") (some none),
  fun K => Hz.bO (PySem.W.nsIn K mainGlobals "range") (some none),
  fun K => Hz.bO (PySem.W.nsIn K mainGlobals "isinstance") (some none),
  fun K => Hz.bO (PySem.W.nsIn K mainGlobals "bool") (some none),
  fun K => Hz.bO (PySem.W.nsIn K mainGlobals "str") (some none),
  fun K => Hz.bO (PySem.W.nsIn K mainGlobals "zip") (some none),
  fun K => Hz.bO (PySem.W.nsIn K mainGlobals "tuple") (some none),
  fun K => Hz.bO (PySem.W.nsIn K mainGlobals "gcd") (some (some (.builtin "math.gcd"))),
  fun K => Hz.bO (PySem.W.findIn K (.ref (zCG K)) "__ne__") (some (some (.builtin "object.__ne__"))),
  fun K => Hz.bB (PySem.W.subIn K (.ref (zCG K)) (.type "object")) (some true),
  fun K => PySem.W.selfFirst K (zCG K),
  fun K => Hz.bB (PySem.W.subIn K (.type "int") (.ref (zCG K))) (some false),
  fun K => Hz.bO (PySem.W.findIn K (.ref (zCG K)) "__rand__") (some none),
  fun K => Hz.bS (PySem.W.findIn K (.type "int") "__and__")]
def zfs0_3 : List (PySem.W.Frag → Bool) := [fun K => Hz.bS (PySem.W.findIn K (.type "int") "__rand__"),
  fun K => Hz.nI K (zCG K) (dunderI "and"),
  fun K => Hz.bO (PySem.W.findIn K (.ref (zCG K)) "__ror__") (some none),
  fun K => Hz.bS (PySem.W.findIn K (.type "int") "__or__"),
  fun K => Hz.bS (PySem.W.findIn K (.type "int") "__ror__"),
  fun K => Hz.nI K (zCG K) (dunderI "or"),
  fun K => Hz.bO (PySem.W.findIn K (.ref (zCG K)) "__rsub__") (some none),
  fun K => Hz.bS (PySem.W.findIn K (.type "int") "__sub__"),
  fun K => Hz.bS (PySem.W.findIn K (.type "int") "__rsub__"),
  fun K => Hz.nI K (zCG K) (dunderI "sub"),
  fun K => Hz.bO (PySem.W.findIn K (.ref (zCG K)) "__rxor__") (some none),
  fun K => Hz.bS (PySem.W.findIn K (.type "int") "__xor__")]
def zfs0 : List (PySem.W.Frag → Bool) := zfs0_0 ++ (zfs0_1 ++ (zfs0_2 ++ (zfs0_3)))
def zds0_0 : List (He5.DefA) := [zd0,
  zd1,
  zd2,
  zd3,
  zd4,
  zd5,
  zd6,
  zd7,
  zd8,
  zd9,
  zd10,
  zd11,
  zd12,
  zd13,
  zd14,
  zd15,
  zd16,
  zd17,
  zd18,
  zd19]
def zds0_1 : List (He5.DefA) := [zd20,
  zd21,
  zd22]
def zds0 : List (He5.DefA) := zds0_0 ++ (zds0_1)
def zfs1_0 : List (PySem.W.Frag → Bool) := [fun K => Hz.bS (PySem.W.findIn K (.type "int") "__rxor__"),
  fun K => Hz.nI K (zCG K) (dunderI "xor"),
  fun K => Hz.bT K (zgvNONE K) [V.bl false, V.bl false, V.bl false, V.bl false, V.bl false],
  fun K => Hz.bT K (zgvEVERY K) [V.bl true, V.bl true, V.bl true, V.bl true, V.bl true],
  fun K => Hz.bT K (zgvLESS K) [V.bl false, V.bl false, V.bl true, V.bl false],
  fun K => Hz.bT K (zgvAND K) [V.bl false, V.bl false, V.bl false, V.bl true],
  fun K => Hz.bT K (zgvOR K) [V.bl false, V.bl true, V.bl true, V.bl true],
  fun K => Hz.bT K (zgvUNLIKE K) [V.bl false, V.bl true, V.bl true, V.bl false],
  fun K => Hz.bT K (zgvWHOLE K) [V.int 0, V.int 1, V.int 1, V.int 1],
  fun K => Hz.bO (PySem.W.nsIn K mainGlobals "NONE") (some (some (.ref (zgvNONE K)))),
  fun K => Hz.bO (PySem.W.nsIn K mainGlobals "EVERY") (some (some (.ref (zgvEVERY K)))),
  fun K => Hz.bO (PySem.W.nsIn K mainGlobals "LESS") (some (some (.ref (zgvLESS K)))),
  fun K => Hz.bO (PySem.W.nsIn K mainGlobals "AND") (some (some (.ref (zgvAND K)))),
  fun K => Hz.bO (PySem.W.nsIn K mainGlobals "OR") (some (some (.ref (zgvOR K)))),
  fun K => Hz.bO (PySem.W.nsIn K mainGlobals "UNLIKE") (some (some (.ref (zgvUNLIKE K)))),
  fun K => Hz.bO (PySem.W.nsIn K mainGlobals "WHOLE") (some (some (.ref (zgvWHOLE K)))),
  fun K => Hz.bO (PySem.W.nsIn K mainGlobals "is_int") (some (some (.ref (zf0 K)))),
  fun K => Hz.bO (PySem.W.findIn K (.ref (zCR K)) "__init__") (some (some (.ref (zf1 K)))),
  fun K => PySem.W.isFn K (.ref (zf1 K)),
  fun K => Hz.bO (PySem.W.nsIn K mainGlobals "is_branch") (some (some (.ref (zf2 K))))]
def zfs1_1 : List (PySem.W.Frag → Bool) := [fun K => Hz.bO (PySem.W.nsIn K mainGlobals "sizes_of") (some (some (.ref (zf3 K)))),
  fun K => Hz.bO (PySem.W.nsIn K mainGlobals "halves_of") (some (some (.ref (zf4 K)))),
  fun K => Hz.bO (PySem.W.nsIn K mainGlobals "branch_of") (some (some (.ref (zf5 K)))),
  fun K => Hz.bO (PySem.W.nsIn K mainGlobals "combined") (some (some (.ref (zf6 K)))),
  fun K => Hz.bO (PySem.W.findIn K (.ref (zCG K)) "__init__") (some (some (.ref (zf7 K)))),
  fun K => PySem.W.isFn K (.ref (zf7 K)),
  fun K => Hz.bO (PySem.W.nsIn K mainGlobals "half_ends") (some (some (.ref (zf8 K)))),
  fun K => Hz.bO (PySem.W.nsIn K mainGlobals "words_of") (some (some (.ref (zf9 K)))),
  fun K => Hz.bO (PySem.W.findIn K (.ref (zCG K)) "__str__") (some (some (.ref (zf10 K)))),
  fun K => PySem.W.isFn K (.ref (zf10 K)),
  fun K => He5.wrapB K (zCG K) "staticmethod" "staticmethod.__get__" "every",
  fun K => He5.wrapB K (zCG K) "staticmethod" "staticmethod.__get__" "none",
  fun K => He5.wrapB K (zCG K) "staticmethod" "staticmethod.__get__" "rational",
  fun K => He5.wrapB K (zCG K) "staticmethod" "staticmethod.__get__" "leaf",
  fun K => He5.wrapB K (zCG K) "staticmethod" "staticmethod.__get__" "joined",
  fun K => Hz.bO (PySem.W.findIn K (.ref (zCG K)) "__invert__") (some (some (.ref (zf16 K)))),
  fun K => PySem.W.isFn K (.ref (zf16 K)),
  fun K => Hz.bO (PySem.W.nsIn K mainGlobals "_is_within") (some (some (.ref (zf17 K)))),
  fun K => Hz.bO (PySem.W.findIn K (.ref (zCG K)) "__eq__") (some (some (.ref (zf18 K)))),
  fun K => PySem.W.isFn K (.ref (zf18 K))]
def zfs1_2 : List (PySem.W.Frag → Bool) := [fun K => He5.wrapB K (zCR K) "staticmethod" "staticmethod.__get__" "is_fifth",
  fun K => Hz.bO (PySem.W.nsIn K mainGlobals "node_at") (some (some (.ref (zf20 K)))),
  fun K => Hz.bO (PySem.W.nsIn K mainGlobals "truth_at") (some (some (.ref (zf21 K)))),
  fun K => Hz.bO (PySem.W.findIn K (.ref (zCG K)) "__contains__") (some (some (.ref (zf22 K)))),
  fun K => PySem.W.isFn K (.ref (zf22 K)),
  fun K => Hz.bO (PySem.W.findIn K (.ref (zCG K)) "__and__") (some (some (.ref (zf23 K)))),
  fun K => PySem.W.isFn K (.ref (zf23 K)),
  fun K => Hz.bO (PySem.W.findIn K (.ref (zCG K)) "__or__") (some (some (.ref (zf24 K)))),
  fun K => PySem.W.isFn K (.ref (zf24 K)),
  fun K => Hz.bO (PySem.W.findIn K (.ref (zCG K)) "__sub__") (some (some (.ref (zf25 K)))),
  fun K => PySem.W.isFn K (.ref (zf25 K)),
  fun K => Hz.bO (PySem.W.findIn K (.ref (zCG K)) "__xor__") (some (some (.ref (zf26 K)))),
  fun K => PySem.W.isFn K (.ref (zf26 K)),
  fun K => Hz.bO (PySem.W.nsIn K mainGlobals "_law_pen") (some (some (.ref (zf27 K)))),
  fun K => Hz.bO (PySem.W.nsIn K mainGlobals "_law_draw") (some (some (.ref (zf28 K)))),
  fun K => Hz.bO (PySem.W.nsIn K mainGlobals "_law_truths") (some (some (.ref (zf29 K)))),
  fun K => Hz.bO (PySem.W.nsIn K mainGlobals "_law_tree") (some (some (.ref (zf30 K)))),
  fun K => Hz.bO (PySem.W.nsIn K mainGlobals "_law_region") (some (some (.ref (zf31 K)))),
  fun K => Hz.bO (PySem.W.nsIn K mainGlobals "_law_has") (some (some (.ref (zf32 K)))),
  fun K => Hz.bO (PySem.W.nsIn K mainGlobals "_law_halves") (some (some (.ref (zf33 K))))]
def zfs1_3 : List (PySem.W.Frag → Bool) := [fun K => Hz.bO (PySem.W.nsIn K mainGlobals "_law_least") (some (some (.ref (zf34 K)))),
  fun K => Hz.bO (PySem.W.nsIn K mainGlobals "_law_words") (some (some (.ref (zf35 K)))),
  fun K => Hz.bO (PySem.W.nsIn K mainGlobals "_law_split") (some (some (.ref (zf36 K)))),
  fun K => Hz.bO (PySem.W.nsIn K mainGlobals "_law_merged") (some (some (.ref (zf37 K)))),
  fun K => Hz.bO (PySem.W.nsIn K mainGlobals "_law_common") (some (some (.ref (zf38 K)))),
  fun K => Hz.bO (PySem.W.nsIn K mainGlobals "_law_fractions") (some (some (.ref (zf39 K)))),
  fun K => Hz.bO (PySem.W.nsIn K mainGlobals "_law_table") (some (some (.ref (zf40 K)))),
  fun K => Hz.bO (PySem.W.nsIn K mainGlobals "_law_joined") (some (some (.ref (zf41 K)))),
  fun K => Hz.bO (PySem.W.nsIn K mainGlobals "_law_bound") (some (some (.ref (zf42 K)))),
  fun K => Hz.bO (PySem.W.nsIn K mainGlobals "_law_other") (some (some (.ref (zf43 K)))),
  fun K => Hz.bO (PySem.W.nsIn K mainGlobals "_law_is") (some (some (.ref (zf44 K)))),
  fun K => Hz.bO (PySem.W.nsIn K mainGlobals "_law_right") (some (some (.ref (zf45 K)))),
  fun K => Hz.bO (PySem.W.nsIn K mainGlobals "law") (some (some (.ref (zf46 K))))]
def zfs1 : List (PySem.W.Frag → Bool) := zfs1_0 ++ (zfs1_1 ++ (zfs1_2 ++ (zfs1_3)))
def zds1_0 : List (He5.DefA) := [zd23,
  zd24,
  zd25,
  zd26,
  zd27,
  zd28,
  zd29,
  zd30,
  zd31,
  zd32,
  zd33,
  zd34,
  zd35,
  zd36,
  zd37,
  zd38,
  zd39,
  zd40,
  zd41,
  zd42]
def zds1_1 : List (He5.DefA) := [zd43,
  zd44,
  zd45,
  zd46]
def zds1 : List (He5.DefA) := zds1_0 ++ (zds1_1)
def zfs : List (PySem.W.Frag → Bool) := zfs0 ++ (zfs1)
def zds : List He5.DefA := zds0 ++ (zds1)
def zxs : List Str := ([Str.ofString "Ratio", Str.ofString "Region", Str.ofString "is_int", Str.ofString "is_branch", Str.ofString "sizes_of", Str.ofString "halves_of", Str.ofString "branch_of", Str.ofString "combined", Str.ofString "half_ends", Str.ofString "words_of", Str.ofString "_is_within", Str.ofString "node_at", Str.ofString "truth_at", Str.ofString "_law_pen", Str.ofString "_law_draw", Str.ofString "_law_truths", Str.ofString "_law_tree", Str.ofString "_law_region", Str.ofString "_law_has", Str.ofString "_law_halves"] : List Str) ++ ([Str.ofString "_law_least", Str.ofString "_law_words", Str.ofString "_law_split", Str.ofString "_law_merged", Str.ofString "_law_common", Str.ofString "_law_fractions", Str.ofString "_law_table", Str.ofString "_law_joined", Str.ofString "_law_bound", Str.ofString "_law_other", Str.ofString "_law_is", Str.ofString "_law_right", Str.ofString "law", Str.ofString "NONE", Str.ofString "EVERY", Str.ofString "LESS", Str.ofString "AND", Str.ofString "OR", Str.ofString "UNLIKE", Str.ofString "WHOLE"] : List Str)
def ztf0 : List He.Defn := []
def ztf : List He.Defn := ztf0 ++ ([])
abbrev zR : OpenRow := OpenLaw.row PySem.Challenge.rw_anyfifth_k16_whole_operators_of_regions
abbrev zq : Program := PySem.W.view zR.prog [71]
abbrev zhk : PySem.W.Hook := Hz.hook zxs 4 zfs zds ztf
def zob (s : PySem.W.SharedT) : He.AlD := Hz.ob zxs 4 zfs zds ztf s
theorem zob_eq (s : PySem.W.SharedT) : zob s = zhk.obs s.abs := Hz.ob_eq _ _ _ _ _ s
def znames : List PySem.Str := ([PySem.Str.ofString "gcd", PySem.Str.ofString "_wall", PySem.Str.ofString "FifthError", PySem.Str.ofString "BadInput", PySem.Str.ofString "Refused", PySem.Str.ofString "BadRatio", PySem.Str.ofString "BadTruth", PySem.Str.ofString "BadRegion", PySem.Str.ofString "BadText", PySem.Str.ofString "NoDivisor", PySem.Str.ofString "TooMany", PySem.Str.ofString "is_int", PySem.Str.ofString "written", PySem.Str.ofString "integer_in", PySem.Str.ofString "Ratio", PySem.Str.ofString "parts_of", PySem.Str.ofString "ratio_in", PySem.Str.ofString "_lead", PySem.Str.ofString "_quotient", PySem.Str.ofString "Row"] : List PySem.Str) ++ ([PySem.Str.ofString "WHOLE", PySem.Str.ofString "is_branch", PySem.Str.ofString "nodes_of", PySem.Str.ofString "leaves_of", PySem.Str.ofString "sizes_of", PySem.Str.ofString "node_at", PySem.Str.ofString "half_ends", PySem.Str.ofString "NONE", PySem.Str.ofString "EVERY", PySem.Str.ofString "AND", PySem.Str.ofString "OR", PySem.Str.ofString "LESS", PySem.Str.ofString "UNLIKE", PySem.Str.ofString "branch_of", PySem.Str.ofString "halves_of", PySem.Str.ofString "combined", PySem.Str.ofString "truth_at", PySem.Str.ofString "tree_of", PySem.Str.ofString "tree_in", PySem.Str.ofString "words_of"] : List PySem.Str) ++ ([PySem.Str.ofString "_node_in", PySem.Str.ofString "Region", PySem.Str.ofString "_is_within", PySem.Str.ofString "_law_pen", PySem.Str.ofString "_law_draw", PySem.Str.ofString "_law_pick", PySem.Str.ofString "_law_truths", PySem.Str.ofString "_law_tree", PySem.Str.ofString "_law_region", PySem.Str.ofString "_law_has", PySem.Str.ofString "_law_halves", PySem.Str.ofString "_law_least", PySem.Str.ofString "_law_words", PySem.Str.ofString "_law_split", PySem.Str.ofString "_law_merged", PySem.Str.ofString "_law_common", PySem.Str.ofString "_law_fractions", PySem.Str.ofString "_law_table", PySem.Str.ofString "_law_joined", PySem.Str.ofString "_law_bound"] : List PySem.Str) ++ ([PySem.Str.ofString "_law_other", PySem.Str.ofString "_law_is", PySem.Str.ofString "_law_right"] : List PySem.Str)
set_option maxRecDepth 100000 in
set_option maxHeartbeats 0 in
theorem zL (w : World) : (Hz.allF (HandSHeadRun.stepQ (HandSHeadRun.denQ HandSHeadRun.tabQ) (opening zR.prog) w) (HandSHeadRun.stepQ (HandSHeadRun.denQ HandSHeadRun.tabQ) zR.prog w) 2000 20000 zR.prog).map (fun z => Hz.looksA zR.prog z.1.abs z.2.abs) = some true := by
  kernel_rfl
set_option maxRecDepth 100000 in
set_option maxHeartbeats 0 in
theorem zS (w : World) : (Hz.allF (HandSHeadRun.stepQ (HandSHeadRun.denQ HandSHeadRun.tabQ) (opening zR.prog) w) (HandSHeadRun.stepQ (HandSHeadRun.denQ HandSHeadRun.tabQ) zR.prog w) 2000 20000 zR.prog).map (fun z => HandSHeadRun.seenQ zq znames (importedModules zR.prog.main.body) (fun s => xlAt zq [] s && recOk zR.toRowW.records s) z.2.abs) = some (openGood zq znames) := by
  kernel_rfl
set_option maxRecDepth 100000 in
set_option maxHeartbeats 0 in
theorem zF0 (w : World) : (Hz.allF (HandSHeadRun.stepQ (HandSHeadRun.denQ HandSHeadRun.tabQ) (opening zR.prog) w) (HandSHeadRun.stepQ (HandSHeadRun.denQ HandSHeadRun.tabQ) zR.prog w) 2000 20000 zR.prog).map (fun z => Hz.ob zxs 4 zfs0 zds0 ztf0 z.2) = some (Hz.due zds0) := by
  kernel_rfl
set_option maxRecDepth 100000 in
set_option maxHeartbeats 0 in
theorem zF1 (w : World) : (Hz.allF (HandSHeadRun.stepQ (HandSHeadRun.denQ HandSHeadRun.tabQ) (opening zR.prog) w) (HandSHeadRun.stepQ (HandSHeadRun.denQ HandSHeadRun.tabQ) zR.prog w) 2000 20000 zR.prog).map (fun z => Hz.ob zxs 4 zfs1 zds1 [] z.2) = some (Hz.due zds1) := by
  kernel_rfl
theorem zrun (w : World) : Hz.RunAll zR zq zhk zob 2000 20000 znames w := Hz.run_of (zL w) (zS w) (Hz.map_app (zF0 w) (zF1 w))
end Toy
set_option maxRecDepth 100000
set_option maxHeartbeats 4000000
/-! Rules of our own: static methods, comparisons by the text's own operators. -/
namespace Own
open PySem PySem.Spec PyProof.Rows L2
open AutoSeq1 (wpAny_loadPart')

section
variable {X : Cx} {pins : List (Addr × Obj)} {σ : L2.St} {H : Hp} {s : Shared} {C p f : Addr} {mc : Value} {m : Str} {A : Around} {E : Value → Shared → Prop}
/-- C.m is a static method: its record at p, its def at f -/
structure SMet (K : PySem.W.Frag) (C : Addr) (mc : Value) (m : Str) (p f : Addr) : Prop where
  at_ : PySem.W.findCls K (.ref C) mc m = some (.get (.builtin "staticmethod.__get__") (.ref p) .none (.ref C))
  rc : ∃ rest, PySem.W.recIn K p "staticmethod" = some (.ref f :: rest)
  kp : PySem.W.keepIn K (.ref f) = true
theorem getsm_ok {b : Bool} {Q : Value → Shared → Prop} (I : Inv X pins σ H s) (r : ClX.CRead X.K C mc) (k : SMet X.K C mc m p f) (h : ∀ s', Inv X pins σ H s' → Q (.ref f) s') : wpAny (model X.prog X.w) A (getAttr (.ref C) m b) Q E s := by
  obtain ⟨rest, hp⟩ := k.rc
  refine PySem.W.cls_bind I.kIn r.rd k.at_ ?_
  refine wpAny_call (PySem.W.sm_get (s := { s with toks := s.toks + 1 }) I.kIn hp (PySem.W.handed_on rfl ?_))
  exact h _ (I.tok _)
def tSMeth (C : Addr) (sp : Sp) (E : XK) (ta : TE) (t : TA) : TE := fun σ H Q => ta σ H fun x H1 => x = .ref C ∧ t σ H1 fun vs H2 => sp (vs ++ []) H2 Q E
end
section
variable {X : Cx} {CX : CXT} {k : Nat} {C p f : Addr} {mc : Value} {sp : Sp} {E : XK} {o e : Expr} {es : List Expr} {m : Str} {pos apos : Pos} {ta : TE} {t : TA} {pl : Sem Bool} {fd : FuncData} {ps : List Str}
theorem pe_smeth (r : ClX.CRead X.K C mc) (c : SMet X.K C mc m p f) (F : FnOk X.prog X.w X.K X.mg X.base CX k f fd ps sp) (hr : Room k X.A) (hb : Binds X.K fd ps []) (hx : Passes CX X E) (he : PE X o ta) (ha : PA X (e :: es) t)
    (hst : starEach (e :: es) X.env = (false, eval e X.env) :: starEach es X.env := by rfl) (hpl : (backTo pos (starEach es X.env)).any (·.1) = false := by rfl)
    (ht : eval (.Call (.Attribute o m apos) (e :: es) [] pos) X.env = (do
      let ov ← eval o X.env
      standAt apos.atName
      let (f, first) ← holding [ov] (getMethod ov m pl)
      callWith pos f first (backTo pos (starEach (e :: es) X.env)) (backToKw pos (keywordEach [] X.env))) := by rfl) :
    PE X (.Call (.Attribute o m apos) (e :: es) [] pos) (tSMeth C sp E ta t) := by
  refine ⟨fun pins s σ H Q I h => ?_⟩
  refine PySem.W.methodCall_KW (pl := pl) (thn (he.run pins s σ H _ I h) fun u s1 ⟨x, H1, I1, rx, ex, q⟩ => ?_) ht
  subst ex
  obtain rfl : u = Value.ref C := rx
  refine PySem.W.method_cls I1.kIn r.ga (getsm_ok I1 r c fun s2 I2 => ?_)
  refine PySem.W.callWith_K (first := []) (h₀ := X.base) I.ok.mod.kin c.kp (thn (ha.run pos pins s2 σ H1 _ I2 q) fun us s3 ⟨vs, H2, I3, rv, q2⟩ => ⟨I3.kIn, ?_⟩) hst hpl
  exact run_fn F hr hb .nil hx I3 rv q2
end

theorem pe_gref {X : Cx} {x : Str} {a : Addr} {pos : Pos} (hg : Gl X x) (hm : X.mg x = some (.ref a)) (hd : (x == ("__debug__" : Str)) = false := by decide) : PE X (.Name x pos) (tC (.ref a)) := pe_glob hg hm rfl hd
/-! ### calls with keywords alone -/
def tMethK0 (C : Addr) (m : Str) (n : Nat) (sp : Sp) (gV : List V → List V → List V) (E : XK) (ta : TE) (tk : TA) : TE := fun σ H Q => ta σ H fun x H1 => ∃ a dx fs, x = .ref a ∧ H1 a = some (.ins C dx fs) ∧ fs.lookup m = none ∧
  tk σ H1 fun zs H2 => zs.length = n ∧ sp (gV [x] zs) H2 Q E
section
variable {X : Cx} {CX : CXT} {k : Nat} {C p f : Addr} {sp : Sp} {E : XK} {o : Expr} {m : Str} {pos apos : Pos} {ta : TE} {tk : TA} {pl : Sem Bool} {fd : FuncData} {ps ks : List Str} {kws : List Keyword}
  {g : List Value → List Value → List Value} {gV : List V → List V → List V}
theorem pe_methK0 (he : PE X o ta) (c : Cls X.K C) (hm : Meth X.K C m f) (F : FnOk X.prog X.w X.K X.mg X.base CX k f fd ps sp) (hr : Room k X.A) (hb : KBn X.K fd ps 1 ks g gV) (hx : Passes CX X E) (hkw : PK X kws tk)
    (hall : (backToKw pos (keywordEach kws X.env)).all (·.1.isSome) = true := by rfl) (hks : (backToKw pos (keywordEach kws X.env)).filterMap (·.1) = ks := by rfl)
    (hpl : ((backTo pos (starEach [] X.env)).any (·.1) || (backToKw pos (keywordEach kws X.env)).any (·.1.isNone)) = false := by rfl)
    (ht : eval (.Call (.Attribute o m apos) [] kws pos) X.env = (do
      let ov ← eval o X.env
      standAt apos.atName
      let (f, first) ← holding [ov] (getMethod ov m pl)
      callWith pos f first (backTo pos (starEach [] X.env)) (backToKw pos (keywordEach kws X.env))) := by rfl) :
    PE X (.Call (.Attribute o m apos) [] kws pos) (tMethK0 C m ks.length sp gV E ta tk) := by
  refine ⟨fun pins s σ H Q I h => ?_⟩
  refine PySem.W.methodCall_KW (pl := pl) (thn (he.run pins s σ H _ I h) fun u s1 ⟨x, H1, I1, rx, a, dx, fs, ex, ea, l, q⟩ => ?_) ht
  subst ex
  obtain rfl : u = Value.ref a := rx
  refine getmeth_ok I1 ea c hm l ?_
  refine PySem.W.callWith_KW0 (first := [.ref a]) (h₀ := X.base) I.ok.mod.kin hm.kp hall (thn (hkw.run pos pins s1 σ H1 _ I1 q) fun ws s2 ⟨zs, H2, I2, rz, hl, q2⟩ => ⟨I2.kIn, ?_⟩) hpl
  rw [hks]
  exact run_fnN (us := [.ref a]) (vs := [.ref a]) F hr hb hx I2 (.cons rfl .nil) rz rfl hl q2
end
/-! ### comparisons by own operators -/
section
variable {X : Cx} {CX : CXT} {k : Nat} {C f : Addr} {fd : FuncData} {ps : List Str} {sp : Sp} {E : XK} {op : CmpOp}
/-- the left one is an instance with the operator -/
def rOwnC (K : PySem.W.Frag) (C : Addr) (sp : Sp) (E : XK) : R2 := fun x y H Q => ∃ a dx fs t, x = .ref a ∧ H a = some (.ins C dx fs) ∧ TyX K H y t ∧ PySem.W.notFirst K C t = true ∧ sp [x, y] H (fun v H' => (∃ b, v = .bl b) ∧ Q v H') E
theorem op_ownC (F : FnOk X.prog X.w X.K X.mg X.base CX k f fd ps sp) (hr : Room k X.A) (hs : PySem.W.findIn X.K (.ref C) (cmpInfo op).2.1 = some (some (.ref f))) (hf : PySem.W.isFn X.K (.ref f) = true) (hb : Binds X.K fd ps []) (hx : Passes CX X E)
    (hop : ∀ a b, compareOp op a b = richCompare op a b := by intros; rfl) : OpR X (compareOp op) (rOwnC X.K C sp E) := by
  intro pins s σ H x y u v Q I rx ry h
  obtain ⟨a, dx, fs, t, rfl, ha, ty, nf, hsp⟩ := h
  cases rx
  obtain ⟨mA, J, _⟩ := ins_get I.hok ha
  obtain ⟨od, J, _⟩ := J.look
  obtain ⟨m, hF⟩ := I.fr
  obtain ⟨Pk, Z, pk, _⟩ := kit_of I ry ty
  rw [hop]
  refine PySem.W.cmp_K (op := op) (tb := t) hr.units0 hF I.ok.mod.kin J (Z.ty _ _ I.kIn pk) nf hs hf ?_
  have r2 : Vals [V.ref a, y] [Value.ref a, v] := .cons rfl (.cons ry .nil)
  refine wpAny_mono (run_fn F hr hb .nil hx I r2 hsp) (fun w s' q => ?_) fun _ _ e => e
  obtain ⟨v', H', I', rv, ⟨b, rfl⟩, q⟩ := q
  cases rv
  exact ⟨.bl b, H', I', rfl, q⟩

/-- an int on the left, an instance with the reflected operator on the right -/
def rReflC (C : Addr) (sp : Sp) (E : XK) : R2 := fun x y H Q => ∃ i a dx fs, x = .int i ∧ y = .ref a ∧ H a = some (.ins C dx fs) ∧ sp [y, x] H (fun v H' => (∃ b, v = .bl b) ∧ Q v H') E
theorem op_reflC {id : String} {B : Builtin} (F : FnOk X.prog X.w X.K X.mg X.base CX k f fd ps sp) (hr : Room k X.A) (hs : PySem.W.findIn X.K (.ref C) (cmpInfo op).2.2 = some (some (.ref f))) (hf : PySem.W.isFn X.K (.ref f) = true)
    (hsub : PySem.W.subIn X.K (.ref C) (.type "int") = some false) (hb : Binds X.K fd ps []) (hx : Passes CX X E)
    (slot : Slot "int" (cmpInfo op).2.1 id) (entry : entryFor table id = some B) (args : ∀ a b, argsOk id ⟨[a, b], []⟩)
    (dec : ∀ (b : Int) (u : Tok) (l : Addr) (C dx : Addr), Meets (B ⟨[.int b u, .ref l], []⟩) (fun _ R s => s.heap.get? l = some (PySem.W.instObj C dx) ∧ R (.ok (.ret .notImplemented)) s))
    (hne : op ≠ .Eq ∧ op ≠ .NotEq) (hop : ∀ a b, compareOp op a b = richCompare op a b := by intros; rfl) : OpR X (compareOp op) (rReflC C sp E) := by
  intro pins s σ H x y u v Q I rx ry h
  obtain ⟨i, a, dx, fs, rfl, rfl, ha, hsp⟩ := h
  obtain ⟨t, rfl⟩ := rx
  cases ry
  obtain ⟨mA, O, _⟩ := ins_get I.hok ha
  obtain ⟨od, J, _⟩ := O.look
  have ho : s.heap.get? a = some (PySem.W.instObj C dx) := by
    obtain ⟨_, _, _, e, _⟩ := I.hok a _ ha
    exact e
  have KX := I.kIn
  rw [hop]
  have one : wpAny (model X.prog X.w) X.A (tryCompare (.ref a) (cmpInfo op).2.2 (.int i t)) (fun r s' => ∃ v, r = some v ∧ EP X pins σ Q v s') X.xe s := by
    unfold tryCompare
    have r2 : Vals [V.ref a, V.int i] [Value.ref a, Value.int i t] := .cons rfl (.cons ⟨t, rfl⟩ .nil)
    refine wpAny_bind (PySem.W.ifBound_K KX J hs hf (wpAny_mono (run_fn F hr hb .nil hx I r2 hsp) (fun v s' hv => ?_) fun _ _ e => e))
    obtain ⟨v', H', I', rv, ⟨b, rfl⟩, q⟩ := hv
    cases rv
    exact wpAny_pure ⟨_, rfl, .bl b, H', I', rfl, q⟩
  have hT := typeIs_int s i t
  unfold richCompare
  simp only [hT.oneThing_none]
  refine wpAny_holding (wpAny_bind (wpAny_cRoomFor hr.units0 ?_))
  refine wpAny_bind (wpAny_typeOf hT (wpAny_bind (J.type.here ?_)))
  have hne1 : (Value.type "int" != Value.ref C) = true := rfl
  simp only [hne1, if_true]
  refine wpAny_bind ((PySem.W.looks_subIn KX hsub).here ?_)
  simp only [Bool.false_eq_true, if_false, Bool.not_false, if_true]
  refine wpAny_bind (m := tryCompare (.int i t) _ (.ref a)) (wpAny_tryCompare_declines hT slot (call_meets slot hT entry (args _ _) (dec i t a C dx) ⟨ho, rfl, ?_⟩))
  refine wpAny_bind (wpAny_mono one (fun r s' z => ?_) fun _ _ e => e)
  obtain ⟨v, rfl, hq⟩ := z
  exact wpAny_pure hq
end
theorem int_le_dec (b : Int) (u : Tok) (l : Addr) (C dx : Addr) :
    Meets (Builtin.«int.__le__» ⟨[.int b u, .ref l], []⟩) (fun _ R s => s.heap.get? l = some (PySem.W.instObj C dx) ∧ R (.ok (.ret .notImplemented)) s) :=
  .of_wp fun prog w A R s h => by obtain ⟨hp, g, d, tk, os⟩ := s; obtain ⟨hl, h⟩ := h; wp_walk using wpAny_loadPart' hl, wpAny_load hl; exact ⟨_, rfl, h⟩
theorem int_lt_dec (b : Int) (u : Tok) (l : Addr) (C dx : Addr) :
    Meets (Builtin.«int.__lt__» ⟨[.int b u, .ref l], []⟩) (fun _ R s => s.heap.get? l = some (PySem.W.instObj C dx) ∧ R (.ok (.ret .notImplemented)) s) :=
  .of_wp fun prog w A R s h => by obtain ⟨hp, g, d, tk, os⟩ := s; obtain ⟨hl, h⟩ := h; wp_walk using wpAny_loadPart' hl, wpAny_load hl; exact ⟨_, rfl, h⟩
end Own
set_option maxRecDepth 100000
set_option maxHeartbeats 4000000
/-! Rules of our own: arithmetic by the text's own operators, != by its own ==, abs and minus. -/
namespace Own
open PySem PySem.Spec PyProof.Rows L2
open AutoSeq1 (wpAny_loadPart')
theorem relV_back {v : V} {u : Value} {s' : Shared} {Q : Value → Shared → Prop} (r : RelV v u) (q : Q u s') : PySem.W.CmpBack Q u s' := by
  cases v <;> first | (obtain ⟨t, rfl⟩ := r; exact q) | (obtain rfl := r; exact q)
section
variable {X : Cx} {CX : CXT} {k : Nat} {C f : Addr} {fd : FuncData} {ps : List Str} {sp : Sp} {E : XK} {op : Operator}
/-- an own method in the place of an operator: an instance at the left, the same class or an int at the right -/
def rOwnB (C : Addr) (sp : Sp) (E : XK) : R2 := fun x y H Q => ∃ a dx fs, x = .ref a ∧ H a = some (.ins C dx fs) ∧ ((∃ j, y = .int j) ∨ ∃ b dy gs, y = .ref b ∧ H b = some (.ins C dy gs)) ∧ sp [x, y] H Q E
theorem op_ownB {fo ro rc : Option Value} (F : FnOk X.prog X.w X.K X.mg X.base CX k f fd ps sp) (hr : Room k X.A) (hs : PySem.W.findIn X.K (.ref C) (PySem.dunder op.info.2) = some (some (.ref f))) (hf : PySem.W.isFn X.K (.ref f) = true)
    (hc : PySem.W.selfFirst X.K C = true) (hR : PySem.W.findIn X.K (.ref C) (dunderR op.info.2) = some rc) (hp : rc = none ∨ ∃ g : Addr, rc = some (.ref g)) (h1 : PySem.W.findIn X.K (.type "int") (PySem.dunder op.info.2) = some fo)
    (h2 : PySem.W.findIn X.K (.type "int") (dunderR op.info.2) = some ro) (hsub : PySem.W.subIn X.K (.type "int") (.ref C) = some false) (hb : Binds X.K fd ps []) (hx : Passes CX X E) : OpR X (binaryOp op) (rOwnB C sp E) := by
  intro pins s σ H x y u v Q I rx ry h
  obtain ⟨a, dx, fs, rfl, ha, hy, hsp⟩ := h
  cases rx
  obtain ⟨mA, J, _⟩ := ins_get I.hok ha
  obtain ⟨od, J, _⟩ := J.look
  obtain ⟨m, hF⟩ := I.fr
  have r2 : Vals [V.ref a, y] [Value.ref a, v] := .cons rfl (.cons ry .nil)
  have fin : wpAny (model X.prog X.w) X.A (call (.ref f) [.ref a, v]) (PySem.W.CmpBack (EP X pins σ Q)) X.xe s := wpAny_mono (run_fn F hr hb .nil hx I r2 hsp) (fun w s' q => by
    obtain ⟨v', H', I', rv, q⟩ := q
    exact relV_back rv ⟨v', H', I', rv, q⟩) fun _ _ e => e
  rcases hy with ⟨j, rfl⟩ | ⟨b, dy, gs, rfl, hb'⟩
  · obtain ⟨t, rfl⟩ := ry
    exact PySem.W.ksp_binT (T := "int") hF I.ok.mod.kin J rfl hc hs hf hR hp h1 h2 hsub fin
  · cases ry
    obtain ⟨mB, J', _⟩ := ins_get I.hok hb'
    obtain ⟨od', J', _⟩ := J'.look
    exact PySem.W.binop_K hF I.ok.mod.kin J J'.type hc hs hf fin

/-- an int at the left, an instance with the reflected operator at the right -/
def rReflB (C : Addr) (sp : Sp) (E : XK) : R2 := fun x y H Q => ∃ i a dx fs, x = .int i ∧ y = .ref a ∧ H a = some (.ins C dx fs) ∧ sp [y, x] H Q E
theorem op_reflB {f0 : Addr} {id : String} {B : Builtin} (F : FnOk X.prog X.w X.K X.mg X.base CX k f fd ps sp) (hr : Room k X.A) (hs : PySem.W.findIn X.K (.ref C) (dunderR op.info.2) = some (some (.ref f))) (hf : PySem.W.isFn X.K (.ref f) = true)
    (hs0 : PySem.W.findIn X.K (.ref C) (PySem.dunder op.info.2) = some (some (.ref f0))) (hc : PySem.W.selfFirst X.K C = true) (hsub : PySem.W.subIn X.K (.ref C) (.type "int") = some false) (hb : Binds X.K fd ps []) (hx : Passes CX X E)
    (fills : fillsNumberSlot (.type "int") op.info.2 = pure true) (slot : Slot "int" (PySem.dunder op.info.2) id) (entry : entryFor table id = some B) (args : ∀ a b, argsOk id ⟨[a, b], []⟩)
    (dec : ∀ (b : Int) (u : Tok) (l : Addr) (C dx : Addr), Meets (B ⟨[.int b u, .ref l], []⟩) (fun _ R s => s.heap.get? l = some (PySem.W.instObj C dx) ∧ R (.ok (.ret .notImplemented)) s)) : OpR X (binaryOp op) (rReflB C sp E) := by
  intro pins s σ H x y u v Q I rx ry h
  obtain ⟨i, a, dx, fs, rfl, rfl, ha, hsp⟩ := h
  obtain ⟨t, rfl⟩ := rx
  cases ry
  obtain ⟨mA, O, _⟩ := ins_get I.hok ha
  obtain ⟨od, J, _⟩ := O.look
  have ho : s.heap.get? a = some (PySem.W.instObj C dx) := by
    obtain ⟨_, _, _, e, _⟩ := I.hok a _ ha
    exact e
  have KX := I.kIn
  obtain ⟨cd, rest, hcd, hm⟩ := PySem.W.ksp_first hc
  rcases hi : op.info with ⟨sym, nm⟩
  rw [hi] at hs hs0 fills slot
  dsimp only at hs hs0 fills slot
  have one : wpAny (model X.prog X.w) X.A (tryMethod (.ref a) (dunderR nm) (.int i t)) (fun r s' => ∃ v, r = some v ∧ EP X pins σ Q v s') X.xe s := by
    have r2 : Vals [V.ref a, V.int i] [Value.ref a, Value.int i t] := .cons rfl (.cons ⟨t, rfl⟩ .nil)
    refine PySem.W.ksp_try KX J hs hf (wpAny_mono (run_fn F hr hb .nil hx I r2 hsp) (fun v s' hv => ?_) fun _ _ e => e)
    obtain ⟨v', H', I', rv, q⟩ := hv
    exact relV_back rv ⟨v', H', I', rv, q⟩
  have hT := typeIs_int s i t
  have L3 : PySem.W.Looks (model X.prog X.w) s.heap (fillsNumberSlot (.ref C) nm) true := PySem.W.fills_K KX hcd hm hs0
  have hne : (Value.type "int" == Value.ref C) = false := Bool.eq_false_iff.mpr fun q => by cases beq_iff_eq.mp q
  have hpy : numberSlotInPython (.type "int") nm = pure false := rfl
  simp only [binaryOp, hi]
  refine wpAny_holding (wpAny_bind ?_)
  unfold binaryOp1
  refine wpAny_bind (wpAny_typeOf hT (wpAny_bind (J.type.here (wpAny_bind (wpAny_of_eq fills ?_)))))
  simp only [hne, Bool.false_eq_true, if_false]
  refine wpAny_bind (L3.here ?_)
  simp only [Bool.and_self, if_true]
  refine wpAny_bind ((PySem.W.looks_subIn KX hsub).here ?_)
  simp only [Bool.false_eq_true, if_false, pure_bind, Bool.not_false, Bool.and_self, if_true, hpy]
  refine wpAny_bind (wpAny_tryMethod_declines hT slot (call_meets slot hT entry (args _ _) (dec i t a C dx) ⟨ho, rfl, ?_⟩))
  dsimp only
  refine wpAny_bind (wpAny_mono one (fun r s' z => ?_) fun _ _ e => e)
  obtain ⟨v, rfl, hq⟩ := z
  exact wpAny_bind (wpAny_rule (wpAny_pure (wpAny_pure hq)))

/-- minus an instance -/
def rNeg (C : Addr) (sp : Sp) (E : XK) : V → Hp → VK → Prop := fun x H Q => ∃ a dx fs, x = .ref a ∧ H a = some (.ins C dx fs) ∧ sp [x] H Q E
theorem un_ownNeg (F : FnOk X.prog X.w X.K X.mg X.base CX k f fd ps sp) (hr : Room k X.A) (hs : PySem.W.findIn X.K (.ref C) "__neg__" = some (some (.ref f))) (hf : PySem.W.isFn X.K (.ref f) = true) (hb : Binds X.K fd ps []) (hx : Passes CX X E) :
    UnR X (unaryOp .USub) (rNeg C sp E) := by
  intro pins s σ H x v Q I rx h
  obtain ⟨a, dx, fs, rfl, ha, hsp⟩ := h
  cases rx
  obtain ⟨mA, J, _⟩ := ins_get I.hok ha
  obtain ⟨od, J, _⟩ := J.look
  obtain ⟨m, hF⟩ := I.fr
  exact PySem.W.ksp_neg hF I.ok.mod.kin J hs hf (run_fn F hr hb .nil hx I (vs := [.ref a]) (.cons rfl .nil) hsp)

/-- at any place below the body -/
theorem run_fnA {pins : List (Addr × Obj)} {σ : L2.St} {H : Hp} {s : Shared} {Q : VK} {us : List Value} {vs : List V} {A : Around} (F : FnOk X.prog X.w X.K X.mg X.base CX k f fd ps sp) (hr : Room k A) (hA : A.frames = X.A.frames) (hb : Binds X.K fd ps []) (hx : Passes CX X E)
    (I : Inv X pins σ H s) (r : Vals vs us) (h : sp vs H Q E) : wpAny (model X.prog X.w) A (call (.ref f) us) (EP X pins σ Q) X.xe s := by
  have hl : us.length = ps.length := by rw [← r.length]; exact F.len _ _ _ _ h
  have e0 : Env0 X.prog X.w X.K X.mg X.base A X.stack s H := by
    have e := I.env0
    exact ⟨by rw [hA]; exact e.frames, e.mod, e.bs, e.bsz, e.funs, e.frf, e.hok, e.bare⟩
  refine wpAny_call (codeAny_mono (F.run A X.stack s H ⟨us, []⟩ us vs Q E hr e0 (by
    have := hb s us I.kIn (by rw [List.append_nil]; exact hl)
    rwa [List.append_nil] at this) r h) fun r s' hq => ?_)
  cases r with
  | error e => exact hx pins σ H s e s' I hq
  | ok fl =>
    cases fl with
    | ret u => exact I.after hq
    | next => exact False.elim hq
    | brk => exact False.elim hq
    | cont => exact False.elim hq

/-! ### == and != by an own == -/
/-- an own ==: gives a bool -/
def rEqL (C : Addr) (sp : Sp) (E : XK) (g : Bool → Bool) : R2 := fun x y H Q => ∃ a dx fs, x = .ref a ∧ H a = some (.ins C dx fs) ∧ ((∃ j, y = .int j) ∨ ∃ b dy gs, y = .ref b ∧ H b = some (.ins C dy gs)) ∧ sp [x, y] H (fun v H' => ∃ b, v = .bl b ∧ Q (.bl (g b)) H') E
def rEqR (C : Addr) (sp : Sp) (E : XK) (g : Bool → Bool) : R2 := fun x y H Q => ∃ i a dx fs, x = .int i ∧ y = .ref a ∧ H a = some (.ins C dx fs) ∧ sp [y, x] H (fun v H' => ∃ b, v = .bl b ∧ Q (.bl (g b)) H') E
theorem op_eqL (F : FnOk X.prog X.w X.K X.mg X.base CX k f fd ps sp) (hr : Room k X.A) (hs : PySem.W.findIn X.K (.ref C) "__eq__" = some (some (.ref f))) (hf : PySem.W.isFn X.K (.ref f) = true) (hn : PySem.W.notFirst X.K C (.type "int") = true) (hb : Binds X.K fd ps []) (hx : Passes CX X E) :
    OpR X (compareOp .Eq) (rEqL C sp E fun b => b) := by
  intro pins s σ H x y u v Q I rx ry h
  obtain ⟨a, dx, fs, rfl, ha, hy, hsp⟩ := h
  cases rx
  obtain ⟨mA, J, _⟩ := ins_get I.hok ha
  obtain ⟨od, J, _⟩ := J.look
  obtain ⟨m, hF⟩ := I.fr
  have r2 : Vals [V.ref a, y] [Value.ref a, v] := .cons rfl (.cons ry .nil)
  have fin : wpAny (model X.prog X.w) X.A (call (.ref f) [.ref a, v]) (PySem.W.CmpBack (EP X pins σ Q)) X.xe s := wpAny_mono (run_fn F hr hb .nil hx I r2 hsp) (fun w s' q => by
    obtain ⟨v', H', I', rv, b, rfl, q⟩ := q
    cases rv
    exact ⟨.bl b, H', I', rfl, q⟩) fun _ _ e => e
  show wpAny (model X.prog X.w) X.A (richCompare .Eq (.ref a) v) (EP X pins σ Q) X.xe s
  rcases hy with ⟨j, rfl⟩ | ⟨b, dy, gs, rfl, hb'⟩
  · obtain ⟨t, rfl⟩ := ry
    exact PySem.W.cmp_K (op := .Eq) (tb := .type "int") hr.units0 hF I.ok.mod.kin J (PySem.W.Looks.of_pure rfl) hn hs hf fin
  · cases ry
    obtain ⟨mB, J', _⟩ := ins_get I.hok hb'
    obtain ⟨od', J', _⟩ := J'.look
    exact PySem.W.cmp_K (op := .Eq) (tb := .ref C) hr.units0 hF I.ok.mod.kin J J'.type (by simp [PySem.W.notFirst]) hs hf fin
theorem bind_ne (self : Value) : bindSpecial (.builtin "object.__ne__") self = pure (.builtin "object.__ne__", [self]) :=
  (Slot.of (T := "object") (name := "__ne__") (owner := "object") (n := "__ne__") (by rw [typeLookup_type, builtinLookup_eq_fast]; kernel_rfl) (by decide +kernel) (by decide +kernel) (by decide +kernel)
    (.inl (by decide +kernel)) (by rw [isSubtype_type]; kernel_rfl)).bind self
theorem plain_ne : plainId "object.__ne__" = true := by decide +kernel
/-- x.__ne__(y) of an instance without its own one -/
theorem try_ne {pins : List (Addr × Obj)} {σ : L2.St} {H : Hp} {s : Shared} {a dx : Addr} {fs : List (Str × V)} {y : V} {v : Value} {Q : VK} (F : FnOk X.prog X.w X.K X.mg X.base CX k f fd ps sp) (hr : Room (k + 1) X.A) (hs : PySem.W.findIn X.K (.ref C) "__eq__" = some (some (.ref f)))
    (hn : PySem.W.findIn X.K (.ref C) "__ne__" = some (some (.builtin "object.__ne__"))) (hO : PySem.W.subIn X.K (.ref C) (.type "object") = some true) (hf : PySem.W.isFn X.K (.ref f) = true) (hb : Binds X.K fd ps []) (hx : Passes CX X E) (I : Inv X pins σ H s)
    (ha : H a = some (.ins C dx fs)) (ry : RelV y v) (hsp : sp [.ref a, y] H (fun v H' => ∃ b, v = .bl b ∧ Q (.bl (!b)) H') E) :
    wpAny (model X.prog X.w) X.A (tryCompare (.ref a) "__ne__" v) (fun r s' => ∃ w, r = some w ∧ EP X pins σ Q w s') X.xe s := by
  obtain ⟨mA, J, _⟩ := ins_get I.hok ha
  obtain ⟨od, J, _⟩ := J.look
  have KX := I.kIn
  have r2 : Vals [V.ref a, y] [Value.ref a, v] := .cons rfl (.cons ry .nil)
  have inner : wpAny (model X.prog X.w) X.A.in1 (Builtin.«object.__ne__» ⟨[.ref a, v], []⟩) (fun fin s' => ∃ b, fin = .done (.ret (.bool b)) ∧ EP X pins σ Q (.bool b) s') X.xe s := by
    unfold Builtin.«object.__ne__»
    repeat (first | with_reducible refine wpAny_cRoomFor hr.in1.units0 ?_ | ((fail_if_success (with_reducible show wpAny _ _ (callSpecialIfBound? _ _ _) _ _ _)); wp_step))
    refine (PySem.W.ifBound_K KX J hs hf (wpAny_mono (run_fnA F hr.in1 rfl hb hx I r2 hsp) (fun w s' q => ?_) fun _ _ e => e))
    obtain ⟨v', H', I', rv, b, rfl, q⟩ := q
    cases rv
    exact wpAny_bind (wpAny_truthy_bool (wpAny_pure ⟨_, rfl, .bl (!b), H', I', rfl, q⟩))
  unfold tryCompare
  simp only [callSpecialIfBound?, bindSpecialIfBound?]
  refine wpAny_bind (wpAny_holding (wpAny_bind (wpAny_bind (wpAny_bind (J.type.here ((PySem.W.looks_findIn KX hn).here ?_))))))
  refine wpAny_bind (wpAny_askSetting (wpAny_ite ?_))
  have t2 : PySem.W.Looks (model X.prog X.w) s.heap (isInstance (.ref a) (.type "object")) true := J.type.andThen (PySem.W.looks_subIn KX hO)
  have fin : wpAny (model X.prog X.w) X.A (call (.builtin "object.__ne__") ([.ref a] ++ [v]) >>= fun v => pure (some v)) (fun r s' => wpAny (model X.prog X.w) X.A (match (motive := Option Value → Sem (Option Value)) r with
      | some .notImplemented | none => pure none
      | some v => pure (some v)) (fun r s' => ∃ w, r = some w ∧ EP X pins σ Q w s') X.xe s') X.xe s := by
    refine wpAny_bind (wpAny_call (codeAny_call_builtin plain_ne PySem.F.cmpEntry_ne (PySem.W.check_slot PySem.F.cmpKind_ne PySem.F.cmpSplit_ne t2 (PySem.F.cmpArgs_ne _ _) (wpAny_mono inner (fun fin s' q => ?_) fun _ _ e => e))))
    obtain ⟨b, rfl, q⟩ := q
    exact wpAny_pure (wpAny_pure ⟨_, rfl, q⟩)
  split
  · exact wpAny_bind (wpAny_of_eq (bind_ne _) (wpAny_pure (by exact fin)))
  · exact wpAny_tryCatch (wpAny_bind (wpAny_of_eq (bind_ne _) (wpAny_pure (by exact fin))))
end
end Own
set_option maxRecDepth 100000
set_option maxHeartbeats 4000000
namespace Own
open PySem PySem.Spec PyProof.Rows L2
open AutoSeq1 (wpAny_loadPart')
section
variable {X : Cx} {CX : CXT} {k : Nat} {C f : Addr} {fd : FuncData} {ps : List Str} {sp : Sp} {E : XK}
theorem op_neL (F : FnOk X.prog X.w X.K X.mg X.base CX k f fd ps sp) (hr : Room (k + 1) X.A) (hs : PySem.W.findIn X.K (.ref C) "__eq__" = some (some (.ref f))) (hn : PySem.W.findIn X.K (.ref C) "__ne__" = some (some (.builtin "object.__ne__")))
    (hO : PySem.W.subIn X.K (.ref C) (.type "object") = some true) (hf : PySem.W.isFn X.K (.ref f) = true) (hN : PySem.W.notFirst X.K C (.type "int") = true) (hb : Binds X.K fd ps []) (hx : Passes CX X E) : OpR X (compareOp .NotEq) (rEqL C sp E fun b => !b) := by
  intro pins s σ H x y u v Q I rx ry h
  obtain ⟨a, dx, fs, rfl, ha, hy, hsp⟩ := h
  cases rx
  have one := try_ne F hr hs hn hO hf hb hx I ha ry hsp
  obtain ⟨mA, J, _⟩ := ins_get I.hok ha
  obtain ⟨od, J, _⟩ := J.look
  have KX := I.kIn
  have go : ∀ t : Value, PySem.W.Looks (model X.prog X.w) s.heap (typeOf v) t → PySem.W.notFirst X.K C t = true → wpAny (model X.prog X.w) X.A (richCompare .NotEq (.ref a) v) (EP X pins σ Q) X.xe s := fun t hT hn => by
    unfold richCompare
    simp only [oneThing_ref, cmpInfo_NotEq]
    refine wpAny_holding (wpAny_bind (wpAny_cRoomFor hr.units0 ?_))
    refine wpAny_bind (J.type.here (wpAny_bind (hT.here ?_)))
    split
    · rename_i q
      have e : PySem.W.subIn X.K t (.ref C) = some false := by
        rcases Bool.or_eq_true_iff.mp hn with e | e
        · rw [beq_iff_eq.mp e] at q; simp at q
        · exact beq_iff_eq.mp e
      refine wpAny_bind ((PySem.W.looks_subIn KX e).here ?_)
      simp only [Bool.false_eq_true, if_false]
      refine wpAny_bind (wpAny_mono one (fun r s' z => ?_) fun _ _ e => e)
      obtain ⟨v, rfl, hq⟩ := z
      exact wpAny_pure hq
    · refine wpAny_bind (wpAny_pure ?_)
      simp only [Bool.false_eq_true, if_false]
      refine wpAny_bind (wpAny_mono one (fun r s' z => ?_) fun _ _ e => e)
      obtain ⟨v, rfl, hq⟩ := z
      exact wpAny_pure hq
  show wpAny (model X.prog X.w) X.A (richCompare .NotEq (.ref a) v) (EP X pins σ Q) X.xe s
  rcases hy with ⟨j, rfl⟩ | ⟨b, dy, gs, rfl, hb'⟩
  · obtain ⟨t, rfl⟩ := ry
    exact go (.type "int") (PySem.W.Looks.of_pure rfl) hN
  · cases ry
    obtain ⟨mB, J', _⟩ := ins_get I.hok hb'
    obtain ⟨od', J', _⟩ := J'.look
    exact go (.ref C) J'.type (by simp [PySem.W.notFirst])
/-- int == instance, int != instance: the int declines -/
theorem refl_cmp {op : CmpOp} {pins : List (Addr × Obj)} {σ : L2.St} {H : Hp} {s : Shared} {i : Int} {t : Tok} {a dx : Addr} {fs : List (Str × V)} {Q : VK} {id : String} {B : Builtin} (hr : Room k X.A) (I : Inv X pins σ H s) (ha : H a = some (.ins C dx fs))
    (hsub : PySem.W.subIn X.K (.ref C) (.type "int") = some false) (slot : Slot "int" (cmpInfo op).2.1 id) (entry : entryFor table id = some B) (args : ∀ a b, argsOk id ⟨[a, b], []⟩)
    (dec : ∀ (b : Int) (u : Tok) (l : Addr) (C dx : Addr), Meets (B ⟨[.int b u, .ref l], []⟩) (fun _ R s => s.heap.get? l = some (PySem.W.instObj C dx) ∧ R (.ok (.ret .notImplemented)) s))
    (one : wpAny (model X.prog X.w) X.A (tryCompare (.ref a) (cmpInfo op).2.2 (.int i t)) (fun r s' => ∃ v, r = some v ∧ EP X pins σ Q v s') X.xe s) :
    wpAny (model X.prog X.w) X.A (richCompare op (.int i t) (.ref a)) (EP X pins σ Q) X.xe s := by
  obtain ⟨mA, O, _⟩ := ins_get I.hok ha
  obtain ⟨od, J, _⟩ := O.look
  have ho : s.heap.get? a = some (PySem.W.instObj C dx) := by
    obtain ⟨_, _, _, e, _⟩ := I.hok a _ ha
    exact e
  have KX := I.kIn
  have hT := typeIs_int s i t
  unfold richCompare
  simp only [hT.oneThing_none]
  refine wpAny_holding (wpAny_bind (wpAny_cRoomFor hr.units0 ?_))
  refine wpAny_bind (wpAny_typeOf hT (wpAny_bind (J.type.here ?_)))
  have hne1 : (Value.type "int" != Value.ref C) = true := rfl
  simp only [hne1, if_true]
  refine wpAny_bind ((PySem.W.looks_subIn KX hsub).here ?_)
  simp only [Bool.false_eq_true, if_false, Bool.not_false, if_true]
  refine wpAny_bind (m := tryCompare (.int i t) _ (.ref a)) (wpAny_tryCompare_declines hT slot (call_meets slot hT entry (args _ _) (dec i t a C dx) ⟨ho, rfl, ?_⟩))
  refine wpAny_bind (wpAny_mono one (fun r s' z => ?_) fun _ _ e => e)
  obtain ⟨v, rfl, hq⟩ := z
  exact wpAny_pure hq
theorem int_eq_dec (b : Int) (u : Tok) (l : Addr) (C dx : Addr) :
    Meets (Builtin.«int.__eq__» ⟨[.int b u, .ref l], []⟩) (fun _ R s => s.heap.get? l = some (PySem.W.instObj C dx) ∧ R (.ok (.ret .notImplemented)) s) :=
  .of_wp fun prog w A R s h => by obtain ⟨hp, g, d, tk, os⟩ := s; obtain ⟨hl, h⟩ := h; wp_walk using wpAny_loadPart' hl, wpAny_load hl; exact ⟨_, rfl, h⟩
theorem int_ne_dec (b : Int) (u : Tok) (l : Addr) (C dx : Addr) :
    Meets (Builtin.«int.__ne__» ⟨[.int b u, .ref l], []⟩) (fun _ R s => s.heap.get? l = some (PySem.W.instObj C dx) ∧ R (.ok (.ret .notImplemented)) s) :=
  .of_wp fun prog w A R s h => by obtain ⟨hp, g, d, tk, os⟩ := s; obtain ⟨hl, h⟩ := h; wp_walk using wpAny_loadPart' hl, wpAny_load hl; exact ⟨_, rfl, h⟩
theorem int_ge_dec (b : Int) (u : Tok) (l : Addr) (C dx : Addr) :
    Meets (Builtin.«int.__ge__» ⟨[.int b u, .ref l], []⟩) (fun _ R s => s.heap.get? l = some (PySem.W.instObj C dx) ∧ R (.ok (.ret .notImplemented)) s) :=
  .of_wp fun prog w A R s h => by obtain ⟨hp, g, d, tk, os⟩ := s; obtain ⟨hl, h⟩ := h; wp_walk using wpAny_loadPart' hl, wpAny_load hl; exact ⟨_, rfl, h⟩
theorem int_gt_dec (b : Int) (u : Tok) (l : Addr) (C dx : Addr) :
    Meets (Builtin.«int.__gt__» ⟨[.int b u, .ref l], []⟩) (fun _ R s => s.heap.get? l = some (PySem.W.instObj C dx) ∧ R (.ok (.ret .notImplemented)) s) :=
  .of_wp fun prog w A R s h => by obtain ⟨hp, g, d, tk, os⟩ := s; obtain ⟨hl, h⟩ := h; wp_walk using wpAny_loadPart' hl, wpAny_load hl; exact ⟨_, rfl, h⟩
theorem int_add_dec (b : Int) (u : Tok) (l : Addr) (C dx : Addr) :
    Meets (Builtin.«int.__add__» ⟨[.int b u, .ref l], []⟩) (fun _ R s => s.heap.get? l = some (PySem.W.instObj C dx) ∧ R (.ok (.ret .notImplemented)) s) :=
  .of_wp fun prog w A R s h => by obtain ⟨hp, g, d, tk, os⟩ := s; obtain ⟨hl, h⟩ := h; wp_walk using wpAny_loadPart' hl, wpAny_load hl; exact ⟨_, rfl, h⟩
theorem int_sub_dec (b : Int) (u : Tok) (l : Addr) (C dx : Addr) :
    Meets (Builtin.«int.__sub__» ⟨[.int b u, .ref l], []⟩) (fun _ R s => s.heap.get? l = some (PySem.W.instObj C dx) ∧ R (.ok (.ret .notImplemented)) s) :=
  .of_wp fun prog w A R s h => by obtain ⟨hp, g, d, tk, os⟩ := s; obtain ⟨hl, h⟩ := h; wp_walk using wpAny_loadPart' hl, wpAny_load hl; exact ⟨_, rfl, h⟩
theorem int_mul_dec (b : Int) (u : Tok) (l : Addr) (C dx : Addr) :
    Meets (Builtin.«int.__mul__» ⟨[.int b u, .ref l], []⟩) (fun _ R s => s.heap.get? l = some (PySem.W.instObj C dx) ∧ R (.ok (.ret .notImplemented)) s) :=
  .of_wp fun prog w A R s h => by obtain ⟨hp, g, d, tk, os⟩ := s; obtain ⟨hl, h⟩ := h; wp_walk using wpAny_loadPart' hl, wpAny_load hl; exact ⟨_, rfl, h⟩
theorem op_eqR (F : FnOk X.prog X.w X.K X.mg X.base CX k f fd ps sp) (hr : Room k X.A) (hs : PySem.W.findIn X.K (.ref C) "__eq__" = some (some (.ref f))) (hf : PySem.W.isFn X.K (.ref f) = true) (hsub : PySem.W.subIn X.K (.ref C) (.type "int") = some false) (hb : Binds X.K fd ps []) (hx : Passes CX X E) :
    OpR X (compareOp .Eq) (rEqR C sp E fun b => b) := by
  intro pins s σ H x y u v Q I rx ry h
  obtain ⟨i, a, dx, fs, rfl, rfl, ha, hsp⟩ := h
  obtain ⟨t, rfl⟩ := rx
  cases ry
  obtain ⟨mA, O, _⟩ := ins_get I.hok ha
  obtain ⟨od, J, _⟩ := O.look
  refine refl_cmp (op := .Eq) hr I ha hsub PySem.F.slot_int_eq PySem.F.entry_int_eq PySem.F.args_int_eq_2 int_eq_dec ?_
  unfold tryCompare
  have r2 : Vals [V.ref a, V.int i] [Value.ref a, Value.int i t] := .cons rfl (.cons ⟨t, rfl⟩ .nil)
  refine wpAny_bind (PySem.W.ifBound_K I.kIn J hs hf (wpAny_mono (run_fn F hr hb .nil hx I r2 hsp) (fun v s' hv => ?_) fun _ _ e => e))
  obtain ⟨v', H', I', rv, b, rfl, q⟩ := hv
  cases rv
  exact wpAny_pure ⟨_, rfl, .bl b, H', I', rfl, q⟩
theorem op_neR (F : FnOk X.prog X.w X.K X.mg X.base CX k f fd ps sp) (hr : Room (k + 1) X.A) (hs : PySem.W.findIn X.K (.ref C) "__eq__" = some (some (.ref f))) (hn : PySem.W.findIn X.K (.ref C) "__ne__" = some (some (.builtin "object.__ne__")))
    (hO : PySem.W.subIn X.K (.ref C) (.type "object") = some true) (hf : PySem.W.isFn X.K (.ref f) = true) (hsub : PySem.W.subIn X.K (.ref C) (.type "int") = some false) (hb : Binds X.K fd ps []) (hx : Passes CX X E) : OpR X (compareOp .NotEq) (rEqR C sp E fun b => !b) := by
  intro pins s σ H x y u v Q I rx ry h
  obtain ⟨i, a, dx, fs, rfl, rfl, ha, hsp⟩ := h
  obtain ⟨t, rfl⟩ := rx
  cases ry
  exact refl_cmp (op := .NotEq) (hr.mono (Nat.le_succ k)) I ha hsub PySem.F.slot_int_ne PySem.F.entry_int_ne PySem.F.args_int_ne_2 int_ne_dec (try_ne F hr hs hn hO hf hb hx I ha (y := .int i) ⟨t, rfl⟩ hsp)
/-- abs of an instance -/
def rAbs (C : Addr) (sp : Sp) (E : XK) : List V → Hp → VK → Prop := fun xs H Q => ∃ a dx fs, xs = [.ref a] ∧ H a = some (.ins C dx fs) ∧ sp [.ref a] H Q E
theorem call_ownAbs (F : FnOk X.prog X.w X.K X.mg X.base CX k f fd ps sp) (hr : Room (k + 1) X.A) (hs : PySem.W.findIn X.K (.ref C) "__abs__" = some (some (.ref f))) (hf : PySem.W.isFn X.K (.ref f) = true) (hb : Binds X.K fd ps []) (hx : Passes CX X E) :
    CallR X (.builtin "abs") (rAbs C sp E) := by
  intro pins s σ H xs us Q I r h
  obtain ⟨a, dx, fs, rfl, ha, hsp⟩ := h
  obtain ⟨u, rfl, ru⟩ := vals1 r
  obtain rfl : u = Value.ref a := ru
  obtain ⟨mA, J, _⟩ := ins_get I.hok ha
  obtain ⟨od, J, _⟩ := J.look
  have inner : wpAny (model X.prog X.w) X.A.in1 (Builtin.«abs» ⟨[.ref a], []⟩) (fun fin s' => ∃ v, fin = .done (.ret v) ∧ EP X pins σ Q v s') X.xe s := by
    unfold Builtin.«abs»
    repeat (first | ((fail_if_success (with_reducible show wpAny _ _ (callSpecial? _ _ _) _ _ _)); wp_step))
    refine PySem.W.special_fn I.kIn J hs (beq_iff_eq.mp hf) (wpAny_mono (run_fnA F hr.in1 rfl hb hx I (vs := [.ref a]) (.cons rfl .nil) hsp) (fun w s' q => ?_) fun _ _ e => e)
    exact wpAny_pure ⟨_, rfl, q⟩
  refine wpAny_call (codeAny_call_builtin (b := Builtin.«abs») (by decide +kernel) (entryFor_of_tree (by kernel_rfl)) ?_)
  have hchk : checkBuiltinCall "abs" ⟨[.ref a], []⟩ = pure () := by kernel_rfl
  refine wpAny_of_eq hchk (wpAny_mono inner (fun fin s' q => ?_) fun _ _ e => e)
  obtain ⟨v, rfl, q⟩ := q
  exact q
end
end Own
set_option maxRecDepth 100000
set_option maxHeartbeats 4000000
namespace Toy
open PySem L2
def top (i : Nat) : Stmt := PySem.Challenge.pw_anyfifth_k16_whole_operators_of_regions.main.body.getD i (.Pass ⟨0, 0, 0, 0⟩)

structure Bl (mg : Str → Option Value) : Prop where
  int : mg "int" = none
  len : mg "len" = none
  abs : mg "abs" = none
  list : mg "list" = none
  range : mg "range" = none
  isinstance : mg "isinstance" = none
  bool : mg "bool" = none
  gcd : mg "gcd" = some (.builtin "math.gcd")

/-- all but what stands at p is as it was -/
def But (p : Addr) (H H' : Hp) : Prop := ∀ b o, H b = some o → b ≠ p → H' b = some o
theorem But.refl {p : Addr} {H : Hp} : But p H H := fun _ _ h _ => h
theorem But.upd {p : Addr} {H H1 : Hp} {o : HO} (h : But p H H1) : But p H (upd H1 p o) := fun b u e n => by rw [upd_ne n]; exact h b u e n
theorem But.new {p q : Addr} {H H1 : Hp} {o : HO} (h : But p H H1) (hq : H1 q = none) : But p H (L2.upd H1 q o) := fun b u e n => by
  rw [upd_ne (ne_of_none (h b u e n) hq)]; exact h b u e n
theorem But.trans {p : Addr} {H H1 H2 : Hp} (a : But p H H1) (b : But p H1 H2) : But p H H2 := fun c u e n => b c u (a c u e n) n
theorem But.same {p : Addr} {H H' : Hp} (h : Same H H') : But p H H' := fun b o e _ => h b o e

/-- the state of the drawing at p, behind at most k draws -/
structure PenW (H : Hp) (p c : Addr) (ns : List Int) (b l : Int) : Prop where
  hp : H p = some (.lst [.ref c, .int b, .int l])
  hc : H c = some (.lst (ns.map V.int))
  ln : ns.length ≤ 63
  b0 : 0 ≤ b
def Pen (H : Hp) (p c : Addr) (k : Nat) : Prop := ∃ ns b l, PenW H p c ns b l ∧ b ≤ k
theorem PenW.ne {H : Hp} {p c : Addr} {ns : List Int} {b l : Int} (h : PenW H p c ns b l) : c ≠ p := by
  intro e
  have h1 := h.hp
  have h2 := h.hc
  rw [e, h1] at h2
  have h3 := Option.some.inj h2
  injection h3 with h4
  cases ns with
  | nil => cases h4
  | cons a r => injection h4 with h5 h6; cases h5
theorem PenW.put {H : Hp} {p c : Addr} {ns : List Int} {b l b' l' : Int} (h : PenW H p c ns b l) (hb : 0 ≤ b') : PenW (upd H p (.lst [.ref c, .int b', .int l'])) p c ns b' l' :=
  ⟨upd_same, by rw [upd_ne h.ne]; exact h.hc, h.ln, hb⟩
theorem PenW.new {H : Hp} {p c q : Addr} {ns : List Int} {b l : Int} {o : HO} (h : PenW H p c ns b l) (hq : H q = none) : PenW (upd H q o) p c ns b l :=
  ⟨by rw [upd_ne (ne_of_none h.hp hq)]; exact h.hp, by rw [upd_ne (ne_of_none h.hc hq)]; exact h.hc, h.ln, h.b0⟩
theorem Pen.same {H H' : Hp} {p c : Addr} {k : Nat} (h : Pen H p c k) (e : Same H H') : Pen H' p c k := by
  obtain ⟨ns, b, l, h, hk⟩ := h
  exact ⟨ns, b, l, ⟨e _ _ h.hp, e _ _ h.hc, h.ln, h.b0⟩, hk⟩
theorem Pen.mono {H : Hp} {p c : Addr} {k j : Nat} (h : Pen H p c k) (e : k ≤ j) : Pen H p c j := by
  obtain ⟨ns, b, l, h, hk⟩ := h
  exact ⟨ns, b, l, h, by omega⟩
theorem dpInts {K : PySem.W.Frag} {H : Hp} : ∀ ns : List Int, DpAll K H (ns.map V.int) (ns.map PyData.int)
  | [] => .nil
  | n :: r => .cons (.int n) (dpInts r)
theorem shInts (ns : List Int) : SeqAt.shaped (.list (ns.map PyData.int)) = true := PySem.W.ke_shaped_ints ns
theorem eqvNil (ns : List Int) : PyData.eqv (.list (ns.map PyData.int)) (.list []) = decide (ns = []) := by
  cases ns <;> rfl
theorem modB (a : Int) {m : Int} (h : 0 < m) : 0 ≤ a % m ∧ a % m < m := ⟨Int.emod_nonneg _ (by omega), Int.emod_lt_of_pos _ h⟩
theorem wide_m {i m : Int} (h : 0 < m) (hb : m.natAbs < 2 ^ 2000) : CDivW i m := wide_div h hb (by decide) (by decide)

theorem atI_in {α : Type} {xs : List α} {i : Int} (h0 : 0 ≤ i) (h1 : i < (xs.length : Int)) : atI xs i = some (xs[i.toNat]'(by omega)) := by
  have e : i = ((i.toNat : Nat) : Int) := by omega
  exact (congrArg (atI xs) e).trans (atI_nat (List.getElem?_eq_getElem (by omega)))

theorem p0 {j : Int} (h : decide (0 < j) = true) : 0 < j := of_decide_eq_true h
theorem mulB {x y M N : Int} (hx : 0 ≤ x) (hxM : x ≤ M) (hy : 0 ≤ y) (hyN : y ≤ N) : 0 ≤ x * y ∧ x * y ≤ M * N := ⟨Int.mul_nonneg hx hy, Int.mul_le_mul hxM hyN hy (by omega)⟩
abbrev sDraw : Stmt := top 52
def spDraw : Sp := fun vs H Q _ => ∃ (p c : Addr) (m : Int) (k : Nat), vs = [.ref p, .int m] ∧ Pen H p c k ∧ k ≤ 1000000 ∧ 0 < m ∧ m.natAbs < 2 ^ 2000 ∧
  ∀ r H', 0 ≤ r → r < m → Pen H' p c (k + 1) → But p H H' → Q (.int r) H'
section
variable {P : Program} {w : World} {K : PySem.W.Frag} {mg : Str → Option Value} {base : Heap}
theorem scD : FnScope ["_law_pen_here", "_law_many", "_law_digit", "_law_spot", "_law_cell", "_law_great", "_law_mixed"] ["_law_pen_here", "_law_many"] (defScope sDraw) :=
  ⟨rfl, rfl, rfl, by decide +kernel, rfl, by decide +kernel, by decide +kernel⟩
theorem ok_draw {f : Addr} {fd : FuncData} (F : Fun K "_law_draw" "_law_draw" sDraw f fd) (T : Bl mg) : FnOk P w K mg base CX0 1 f fd ["_law_pen_here", "_law_many"] spDraw := by
  refine F.ok scD (fun vs H Q E h => ?_) (fun cdv A outer s H vs Q E hr h => ?_)
  · obtain ⟨p, c, m, k, rfl, _⟩ := h
    rfl
  · obtain ⟨p, c, m, k, rfl, ⟨ns, b, l, W, hb⟩, hk, hm, hmb, q⟩ := h
    have nd := scD.nd
    refine ⟨_, pss_cons (ps_if (pt_cmpR op_gt (pe_ix ix_list (pv 0) pe_int (fun _ _ => rfl)) pe_int (nomark _)) (pss_cons (ps_set (i := 2) nd rfl (Or.inl rfl) (pe_op op_mod (pe_callTy call_int1 (by rfl) T.int (by decide +kernel) (pa_cons (pe_ix ix_list (pv 0) pe_int (fun _ _ => rfl)) pa_nil)) (pv 1)))
      (pss_cons (ps_asg (pe_op op_fdivW (pe_callTy call_int1 (by rfl) T.int (by decide +kernel) (pa_cons (pe_ix ix_list (pv 0) pe_int (fun _ _ => rfl)) pa_nil)) (pv 1)) (pg_sub (pv 0) pe_int set_list))
      (pss_one (ps_ret (pv 2))))) pss_nil)
      (pss_cons (ps_set (i := 3) nd rfl (Or.inl rfl) (pe_ix ix_list (pv 0) pe_int (fun _ _ => rfl)))
      (pss_cons (ps_asg (pe_op op_add (pv 3) pe_int) (pg_sub (pv 0) pe_int set_list))
      (pss_cons (ps_set (i := 4) nd rfl (Or.inl rfl) (pe_op op_add (pe_op op_mul pe_int (pv 3)) pe_int))
      (C8.pss_cut (ps_if (pt_cmpR (op_neD hr.units) (pe_ix ix_list (pv 0) pe_int (fun _ _ => rfl)) (pe_lst pa_nil) (nomark _)) (pss_one (ps_set (i := 4) nd rfl (Or.inl rfl) (pe_ix ix_list (pe_ix ix_list (pv 0) pe_int (fun _ _ => rfl)) (pe_op op_mod (pe_callTy call_int1 (by rfl) T.int (by decide +kernel) (pa_cons (pv 3) pa_nil)) (pe_callB call_len (by rfl) T.len (by decide +kernel) (pa_cons (pe_ix ix_list (pv 0) pe_int (fun _ _ => rfl)) pa_nil))) (fun _ _ => rfl)))) pss_nil)
      (pss_cons (ps_if (PW.pt (pw_and (pt_cmpR op_lt (pv 3) (pe_callB call_len (by rfl) T.len (by decide +kernel) (pa_cons (pe_ix ix_list (pv 0) pe_int (fun _ _ => rfl)) pa_nil)) (nomark _)) (pw_and1 (pt_cmpR op_ge (pe_callB call_abs (by rfl) T.abs (by decide +kernel) (pa_cons (pv 4) pa_nil)) (pe_op op_pow pe_int pe_int) (nomark _))))) (pss_cons (ps_set (i := 5) nd rfl (Or.inl rfl) (pe_op op_add (pe_op op_mul pe_int (pe_op op_sub (pe_callB call_abs (by rfl) T.abs (by decide +kernel) (pa_cons (pv 4) pa_nil)) (pe_op op_pow pe_int pe_int))) (pe_callTy call_int1 (by rfl) T.int (by decide +kernel) (pa_cons (pe_cmpR op_lt (pv 4) pe_int (nomark _)) pa_nil))))
      (pss_cons (ps_asg (pe_op op_fdivW (pe_callTy call_int1 (by rfl) T.int (by decide +kernel) (pa_cons (pv 5) pa_nil)) (pv 1)) (pg_sub (pv 0) pe_int set_list))
      (pss_one (ps_ret (pe_op op_mod (pe_callTy call_int1 (by rfl) T.int (by decide +kernel) (pa_cons (pv 5) pa_nil)) (pv 1)))))) pss_nil)
      (pss_cons (ps_set (i := 6) nd rfl (Or.inl rfl) (pe_op op_mod (pe_callTy call_int1 (by rfl) T.int (by decide +kernel) (pa_cons (pe_op op_pow (pe_op op_add (pe_op op_add (pe_op op_mod (pe_callTy call_int1 (by rfl) T.int (by decide +kernel) (pa_cons (pv 4) pa_nil)) pe_int) (pe_op op_mul pe_int (pv 3))) pe_int) pe_int) pa_nil)) pe_int))
      (pss_cons (ps_set (i := 6) nd rfl (Or.inl rfl) (pe_op op_mod (pe_callTy call_int1 (by rfl) T.int (by decide +kernel) (pa_cons (pe_op op_pow (pe_op op_add (pe_op op_add (pe_op op_mul (pv 6) (pe_op op_add (pe_op op_mul pe_int (pv 3)) pe_int)) (pe_op op_mul (pe_op op_mul pe_int (pv 3)) (pv 3))) pe_int) pe_int) pa_nil)) pe_int))
      (pss_one (ps_ret (pe_op op_mod (pe_callTy call_int1 (by rfl) T.int (by decide +kernel) (pa_cons (pe_op op_fdivW (pv 6) pe_int) pa_nil)) (pv 1))))))))))), ?_⟩
    have hp := W.hp
    -- what is left of a great cell
    refine ⟨_, rfl, p, _, _, _, rfl, rfl, SqL.of hp, rfl, _, _, rfl, rfl, _, rfl, ?_⟩
    refine ite2 (fun _ => ?_) (fun _ => ?_)
    · refine ⟨_, rfl, p, _, _, _, rfl, rfl, SqL.of hp, rfl, .inl ⟨_, rfl, _, rfl, _, _, rfl, rfl, hm, ?_⟩⟩
      refine ⟨_, rfl, p, _, _, _, rfl, rfl, SqL.of hp, rfl, .inl ⟨_, rfl, _, rfl, _, _, rfl, rfl, wide_m hm hmb, ?_⟩⟩
      refine ⟨_, rfl, p, _, _, _, rfl, rfl, hp, rfl, ?_⟩
      refine ⟨_, rfl, ?_⟩
      exact q _ _ (modB _ hm).1 (modB _ hm).2 ⟨ns, b, _, W.put W.b0, by omega⟩ (But.refl.upd)
    · -- begun; the count goes up; cell
      refine ⟨_, rfl, p, _, _, _, rfl, rfl, SqL.of hp, rfl, ?_⟩
      refine ⟨_, rfl, _, _, rfl, rfl, ?_⟩
      refine ⟨_, rfl, p, _, _, _, rfl, rfl, hp, rfl, ?_⟩
      refine ⟨_, rfl, _, _, rfl, rfl, .inl ⟨by decide, by decide⟩, _, _, rfl, rfl, ?_⟩
      have W1 : PenW (upd H p (.lst [.ref c, .int (b + 1), .int l])) p c ns (b + 1) l := W.put (by have := W.b0; omega)
      refine ⟨fun σ' H' => ∃ z : Int, σ' = [some (.ref p), some (.int m), none, some (.int b), some (.int z), none, none] ∧ PenW H' p c ns (b + 1) l ∧ But p H H', ?_, ?_⟩
      · -- a cell of the script
        refine ⟨_, rfl, p, _, _, _, rfl, rfl, SqL.of W1.hp, rfl, by decide, fun e he => ?_⟩
        refine ⟨_, _, .lst (SqL.of (W1.new he).hc) (dpInts ns), .lst (SqL.of upd_same) .nil, shInts ns, by decide, _, rfl, ?_⟩
        have W2 := W1.new (o := .lst []) he
        have B2 : But p H (upd (upd H p (.lst [.ref c, .int (b + 1), .int l])) e (.lst [])) := (But.refl.upd).new he
        rw [eqvNil]
        by_cases hn : ns = []
        · rw [decide_eq_true hn]
          refine iteF ?_
          exact ⟨_, rfl, W2, B2⟩
        · rw [decide_eq_false hn]
          refine iteT ?_
          have hl0 : 0 < ns.length := List.length_pos_iff.mpr hn
          have hm0 : (0 : Int) < ((ns.map V.int).length : Int) := by rw [List.length_map]; omega
          refine ⟨_, rfl, p, _, _, _, rfl, rfl, SqL.of W2.hp, rfl, _, rfl, .inl ⟨_, rfl, _, rfl, p, _, _, _, rfl, rfl, SqL.of W2.hp, rfl, _, _, rfl, .inl ⟨_, SqL.of W2.hc, rfl⟩, _, _, rfl, rfl, hm0, ?_⟩⟩
          obtain ⟨z, hz⟩ : ∃ z, (ns.map V.int)[(b % ((ns.map V.int).length : Int)).toNat]'(by have := modB b hm0; omega) = .int z := ⟨_, List.getElem_map ..⟩
          exact ⟨c, _, _, .int z, rfl, rfl, SqL.of W2.hc, by rw [atI_in (modB b hm0).1 (modB b hm0).2, hz], ⟨_, rfl, W2, B2⟩⟩
      · rintro σ' H' ⟨z, rfl, W2, B2⟩
        have hp2 := W2.hp
        have hb1 := W.b0
        have hb2 : b ≤ 1000000 := by omega
        -- a great cell
        refine ⟨_, rfl, _, rfl, p, _, _, _, rfl, rfl, SqL.of hp2, rfl, _, _, rfl, .inl ⟨_, SqL.of W2.hc, rfl⟩, _, _, rfl, rfl, _, rfl, ?_⟩
        refine ite2 (fun _ => ?_) (fun _ => ?_)
        · refine ⟨_, rfl, _, rfl, _, _, rfl, rfl, ⟨by decide, by decide, by decide⟩, _, _, rfl, rfl, _, rfl, ?_⟩
          refine ite2 (fun _ => ?_) (fun _ => ?_)
          · refine ⟨_, rfl, _, rfl, _, _, rfl, rfl, ⟨by decide, by decide, by decide⟩, _, _, rfl, rfl, _, _, rfl, rfl, .inl ⟨by decide, by decide⟩, ?_⟩
            refine ⟨_, rfl, _, _, rfl, rfl, .inr ⟨_, rfl, _, _, rfl, rfl, ?_⟩⟩
            refine ⟨_, rfl, .inl ⟨_, rfl, _, rfl, _, _, rfl, rfl, wide_m hm hmb, ?_⟩⟩
            refine ⟨_, rfl, p, _, _, _, rfl, rfl, hp2, rfl, ?_⟩
            refine ⟨_, rfl, .inl ⟨_, rfl, _, rfl, _, _, rfl, rfl, hm, ?_⟩⟩
            exact q _ _ (modB _ hm).1 (modB _ hm).2 ⟨ns, b + 1, _, W2.put W2.b0, by omega⟩ B2.upd
          · refine ⟨_, rfl, .inl ⟨_, rfl, _, _, rfl, rfl, p0 rfl, _, rfl, _, _, rfl, rfl, .inl ⟨by decide, by decide⟩, _, _, rfl, rfl, _, _, rfl, rfl, _, _, rfl, rfl, ⟨by decide, by decide, ?_⟩, .inl ⟨_, rfl, _, _, rfl, rfl, p0 rfl, ?_⟩⟩⟩
            · have h1 := modB z (m := 2147483563) (by decide)
              omega
            have hx := modB ((z % 2147483563 + 1275 * b + 2492) ^ (5 : Int).toNat) (m := 2147483629) (by decide)
            generalize hxe : (z % 2147483563 + 1275 * b + 2492) ^ (5 : Int).toNat % 2147483629 = x at hx
            have p1 := mulB hx.1 (show x ≤ 2147483629 by omega) (show 0 ≤ 2 * b + 93 by omega) (show 2 * b + 93 ≤ 2100000 by omega)
            have p2 := mulB (show 0 ≤ 11513 * b by omega) (show 11513 * b ≤ 100000000000 by omega) hb1 hb2
            refine ⟨_, rfl, _, rfl, _, _, rfl, rfl, .inl ⟨by decide, by decide⟩, _, _, rfl, rfl, _, _, rfl, rfl, .inl ?_, _, rfl, _, _, rfl, rfl, .inl ⟨by decide, by decide⟩, _, rfl, _, _, rfl, rfl, .inl ?_, _, _, rfl, rfl, _, _, rfl, rfl, _, _, rfl, rfl, ⟨by decide, by decide, ?_⟩, .inl ⟨_, rfl, _, _, rfl, rfl, p0 rfl, ?_⟩⟩
            · rw [hxe]; omega
            · omega
            · rw [hxe]; omega
            refine ⟨_, rfl, _, _, rfl, rfl, ⟨by decide, by decide⟩, .inl ⟨_, rfl, _, rfl, _, _, rfl, rfl, hm, ?_⟩⟩
            exact q _ _ (modB _ hm).1 (modB _ hm).2 ⟨ns, b + 1, _, W2, by omega⟩ B2
        · refine ⟨_, rfl, .inl ⟨_, rfl, _, _, rfl, rfl, p0 rfl, _, rfl, _, _, rfl, rfl, .inl ⟨by decide, by decide⟩, _, _, rfl, rfl, _, _, rfl, rfl, _, _, rfl, rfl, ⟨by decide, by decide, ?_⟩, .inl ⟨_, rfl, _, _, rfl, rfl, p0 rfl, ?_⟩⟩⟩
          · have h1 := modB z (m := 2147483563) (by decide)
            omega
          have hx := modB ((z % 2147483563 + 1275 * b + 2492) ^ (5 : Int).toNat) (m := 2147483629) (by decide)
          generalize hxe : (z % 2147483563 + 1275 * b + 2492) ^ (5 : Int).toNat % 2147483629 = x at hx
          have p1 := mulB hx.1 (show x ≤ 2147483629 by omega) (show 0 ≤ 2 * b + 93 by omega) (show 2 * b + 93 ≤ 2100000 by omega)
          have p2 := mulB (show 0 ≤ 11513 * b by omega) (show 11513 * b ≤ 100000000000 by omega) hb1 hb2
          refine ⟨_, rfl, _, rfl, _, _, rfl, rfl, .inl ⟨by decide, by decide⟩, _, _, rfl, rfl, _, _, rfl, rfl, .inl ?_, _, rfl, _, _, rfl, rfl, .inl ⟨by decide, by decide⟩, _, rfl, _, _, rfl, rfl, .inl ?_, _, _, rfl, rfl, _, _, rfl, rfl, _, _, rfl, rfl, ⟨by decide, by decide, ?_⟩, .inl ⟨_, rfl, _, _, rfl, rfl, p0 rfl, ?_⟩⟩
          · rw [hxe]; omega
          · omega
          · rw [hxe]; omega
          refine ⟨_, rfl, _, _, rfl, rfl, ⟨by decide, by decide⟩, .inl ⟨_, rfl, _, rfl, _, _, rfl, rfl, hm, ?_⟩⟩
          exact q _ _ (modB _ hm).1 (modB _ hm).2 ⟨ns, b + 1, _, W2, by omega⟩ B2
end

/-! ### callees -/
structure Cal (P : Program) (w : World) (K : PySem.W.Frag) (mg : Str → Option Value) (base : Heap) (k : Nat) (x : Str) (f : Addr) (fd : FuncData) (ps : List Str) (sp : Sp) : Prop where
  F : FnOk P w K mg base CX0 k f fd ps sp
  mgf : mg x = some (.ref f)
  kp : PySem.W.keepIn K (.ref f) = true
  b : Binds K fd ps []
structure Mak (P : Program) (w : World) (K : PySem.W.Frag) (mg : Str → Option Value) (base : Heap) (k : Nat) (x : Str) (C f : Addr) (fd : FuncData) (ps : List Str) (sp : Sp) : Prop where
  M : Mk K C f
  F : FnOk P w K mg base CX0 k f fd ps sp
  mgC : mg x = some (.ref C)
  b : Binds K fd ps []
structure Sta (P : Program) (w : World) (K : PySem.W.Frag) (mg : Str → Option Value) (base : Heap) (k : Nat) (C : Addr) (m : Str) (p f : Addr) (fd : FuncData) (ps : List Str) (sp : Sp) : Prop where
  s : Own.SMet K C (.type "type") m p f
  F : FnOk P w K mg base CX0 k f fd ps sp
  b : Binds K fd ps []
structure Dot (P : Program) (w : World) (K : PySem.W.Frag) (mg : Str → Option Value) (base : Heap) (k : Nat) (C : Addr) (m : Str) (f : Addr) (fd : FuncData) (ps : List Str) (sp : Sp) : Prop where
  m : Meth K C m f
  F : FnOk P w K mg base CX0 k f fd ps sp
  b : Binds K fd ps []
/-- facts of an own class -/
structure ClT (K : PySem.W.Frag) (mg : Str → Option Value) (C : Addr) (x : Str) : Prop where
  cl : Cls K C
  mgC : mg x = some (.ref C)
  rd : ClX.CRead K C (.type "type")
  ca : PySem.W.findIn K (.ref C) "__class__" = some (some (.builtin "object.__class__"))
  cn : PySem.W.specialIn K (.builtin "object.__class__") "__get__" = some (some (.builtin "getset_descriptor.__get__"))
  ct : PySem.W.takesIn K (.builtin "object.__class__") = some true
  cm : PySem.W.mroIn K C (.type "object") = some true
  kI : PySem.W.kitOne K (.ref C) (.type "int") = some false
  kB : PySem.W.kitOne K (.ref C) (.type "bool") = some false
  kS : PySem.W.kitOne K (.ref C) (.ref C) = some true
  iK : PySem.W.kitOne K (.type "int") (.ref C) = some false
  sI : PySem.W.subIn K (.ref C) (.type "int") = some false
  nI : PySem.W.notFirst K C (.type "int") = true
  nC : PySem.W.notFirst K C (.ref C) = true
theorem ClT.ty {K : PySem.W.Frag} {mg : Str → Option Value} {C a dx : Addr} {x : Str} {H : Hp} {fs : List (Str × V)} (T : ClT K mg C x) (h : H a = some (.ins C dx fs)) : TyX K H (.ref a) (.ref C) :=
  .base (.ins h T.cl T.ca T.cn T.ct T.cm)
structure RatT (K : PySem.W.Frag) (mg : Str → Option Value) (C : Addr) : Prop extends ClT K mg C "Ratio" where
  nT : NoAttr K C "top"
  nB : NoAttr K C "bottom"
structure PieT (K : PySem.W.Frag) (mg : Str → Option Value) (C : Addr) : Prop extends ClT K mg C "Piece" where
  nL : NoAttr K C "left"
  nR : NoAttr K C "right"

/-! ### ratios -/
theorem tb_ne : ¬ (("bottom" : Str) = "top") := by decide +kernel
theorem bt_ne : ¬ (("top" : Str) = "bottom") := by decide +kernel
def ratF (n d : Int) : List (Str × V) := putF "bottom" (.int d) (putF "top" (.int n) [])
theorem ratF_top (n d : Int) : (ratF n d).lookup ("top" : Str) = some (.int n) := by
  unfold ratF
  rw [lookup_putF, if_neg bt_ne, lookup_putF, if_pos rfl]
theorem ratF_bot (n d : Int) : (ratF n d).lookup ("bottom" : Str) = some (.int d) := by
  unfold ratF
  rw [lookup_putF, if_pos rfl]
/-- a Ratio n / d stands at a -/
def RatAt (C : Addr) (H : Hp) (a : Addr) (n d : Int) : Prop := ∃ dx, H a = some (.ins C dx (ratF n d))
theorem RatAt.same {C : Addr} {H H' : Hp} {a : Addr} {n d : Int} (h : RatAt C H a n d) (e : Same H H') : RatAt C H' a n d := let ⟨dx, h⟩ := h; ⟨dx, e _ _ h⟩
theorem RatAt.but {C p : Addr} {H H' : Hp} {a : Addr} {n d : Int} (h : RatAt C H a n d) (e : But p H H') (hp : a ≠ p) : RatAt C H' a n d := let ⟨dx, h⟩ := h; ⟨dx, e _ _ h hp⟩
/-- a number: an int or a Ratio -/
inductive NumAt (C : Addr) (H : Hp) : V → Int → Int → Prop
  | int (i : Int) : NumAt C H (.int i) i 1
  | rat {a : Addr} {n d : Int} (h : RatAt C H a n d) : NumAt C H (.ref a) n d
theorem NumAt.same {C : Addr} {H H' : Hp} {v : V} {n d : Int} (h : NumAt C H v n d) (e : Same H H') : NumAt C H' v n d := by
  cases h with
  | int => exact .int _
  | rat h => exact .rat (h.same e)
theorem same_new {H : Hp} {p : Addr} {o : HO} (h : H p = none) : Same H (upd H p o) := fun b u e => by rw [upd_ne (ne_of_none e h)]; exact e
theorem same_two {H : Hp} {p q : Addr} {o u : HO} (h : H p = none) (h2 : H q = none) (n : p ≠ q) : Same H (upd (upd H p o) q u) := (same_new h).trans (same_new (by rw [upd_ne n.symm]; exact h2))
/-- small enough to reckon with -/
def Sz (z : Int) : Prop := z.natAbs < 2 ^ 8000
theorem Sz.mul {i j : Int} (a : Sz i) (b : Sz j) : CMulW i j := wide_mul a b (by decide) (by decide) (by decide)
theorem Sz.of {z : Int} (h : z.natAbs < 10 ^ 250) : Sz z := Nat.lt_trans h (by decide +kernel)

section
variable {P : Program} {w : World} {K : PySem.W.Frag} {mg : Str → Option Value} {base : Heap} {C : Addr}
def isIntK (K : PySem.W.Frag) (t : Value) (b : Bool) : Prop := ∃ b1 b2, PySem.W.kitOne K t (.type "int") = some b1 ∧ PySem.W.kitOne K t (.type "bool") = some b2 ∧ b = (b1 && !b2)
theorem isIntK_int : isIntK K (.type "int") true := ⟨true, false, kit_ty (by decide +kernel), kit_ty (by decide +kernel), rfl⟩
theorem isIntK_own {x : Str} (T : ClT K mg C x) : isIntK K (.ref C) false := ⟨false, false, T.kI, T.kB, rfl⟩
def spIsInt (K : PySem.W.Frag) : Sp := fun vs H Q _ => ∃ v t b, vs = [v] ∧ TyX K H v t ∧ isIntK K t b ∧ Q (.bl b) H

abbrev sIsInt : Stmt := top 13
theorem scII : FnScope ["value"] ["value"] (defScope sIsInt) := ⟨rfl, rfl, rfl, by decide +kernel, rfl, by decide +kernel, by decide +kernel⟩
theorem ok_isint {f : Addr} {fd : FuncData} (F : Fun K "is_int" "is_int" sIsInt f fd) (T : Bl mg) : FnOk P w K mg base CX0 1 f fd ["value"] (spIsInt K) := by
  refine F.ok scII (fun vs H Q E h => ?_) (fun cdv A outer s H vs Q E hr h => ?_)
  · obtain ⟨v, t, b, rfl, _⟩ := h
    rfl
  · obtain ⟨v, t, b, rfl, ty, ⟨b1, b2, h1, h2, rfl⟩, q⟩ := h
    have nd := scII.nd
    refine ⟨_, pss_one (ps_ret (pe_and (pe_callB call_isi (by rfl) T.isinstance (by decide +kernel) (pa_cons (pv 0) (pa_cons (pe_bltn (v := .ty "int") (u := .type "int") (by rfl) T.int (by decide +kernel) rfl) pa_nil))) (pe_one (pe_not (pe_callB call_isi (by rfl) T.isinstance (by decide +kernel) (pa_cons (pv 0) (pa_cons (pe_bltn (v := .ty "bool") (u := .type "bool") (by rfl) T.bool (by decide +kernel) rfl) pa_nil))))))), ?_⟩
    refine ⟨_, rfl, _, _, t, _, b1, rfl, .ty _, ty, h1, _, rfl, ?_⟩
    cases b1 with
    | true =>
      refine iteT ?_
      exact ⟨_, rfl, _, _, t, _, b2, rfl, .ty _, ty, h2, _, rfl, q⟩
    | false => exact iteF q

def spIsNum (K : PySem.W.Frag) (C : Addr) : Sp := fun vs H Q _ => ∃ v t b c, vs = [v] ∧ TyX K H v t ∧ isIntK K t b ∧ PySem.W.kitOne K t (.ref C) = some c ∧ Q (.bl (b || c)) H
theorem NumAt.spNum {x : Str} {H : Hp} {v : V} {n d : Int} {Q : VK} {E : XK} (T : ClT K mg C x) (h : NumAt C H v n d) (q : Q (.bl true) H) : spIsNum K C [v] H Q E := by
  cases h with
  | int => exact ⟨_, _, _, _, rfl, .base (.int _), isIntK_int, T.iK, q⟩
  | rat h => obtain ⟨dx, h⟩ := h; exact ⟨_, _, _, _, rfl, T.ty h, isIntK_own T, T.kS, q⟩
abbrev sIsNum : Stmt := inClass (top 17) 1
theorem scIN : FnScope ["value"] ["value"] (defScope sIsNum) := ⟨rfl, rfl, rfl, by decide +kernel, rfl, by decide +kernel, by decide +kernel⟩
theorem ok_isnum {f f1 : Addr} {fd fd1 : FuncData} (F : Fun K "is_number" "Ratio.is_number" sIsNum f fd) (T : Bl mg) (T_Ratio : RatT K mg C) (C_is_int : Cal P w K mg base 1 "is_int" f1 fd1 ["value"] (spIsInt K)) :
    FnOk P w K mg base CX0 2 f fd ["value"] (spIsNum K C) := by
  refine F.ok scIN (fun vs H Q E h => ?_) (fun cdv A outer s H vs Q E hr h => ?_)
  · obtain ⟨v, t, b, c, rfl, _⟩ := h
    rfl
  · obtain ⟨v, t, b, c, rfl, ty, hb, hc, q⟩ := h
    have nd := scIN.nd
    refine ⟨_, pss_one (ps_ret (pe_or (pe_call C_is_int.F (hr.mono (by decide)) (by rfl) C_is_int.mgf C_is_int.kp C_is_int.b .nil pass0 (pa_cons (pv 0) pa_nil)) (pe_one (pe_callB call_isi (by rfl) T.isinstance (by decide +kernel) (pa_cons (pv 0) (pa_cons (Own.pe_gref (by rfl) T_Ratio.mgC) pa_nil)))))), ?_⟩
    refine ⟨_, rfl, _, t, b, rfl, ty, hb, _, rfl, ?_⟩
    cases b with
    | true => exact iteT q
    | false =>
      refine iteF ?_
      exact ⟨_, rfl, _, _, t, _, c, rfl, .own _, ty, hc, q⟩

def spParts (C : Addr) : Sp := fun vs H Q _ => ∃ v n d, vs = [v] ∧ NumAt C H v n d ∧ ∀ p, H p = none → Q (.ref p) (upd H p (.tup [.int n, .int d]))
abbrev sParts : Stmt := top 18
theorem scPa : FnScope ["number"] ["number"] (defScope sParts) := ⟨rfl, rfl, rfl, by decide +kernel, rfl, by decide +kernel, by decide +kernel⟩
theorem ok_parts {f : Addr} {fd : FuncData} (F : Fun K "parts_of" "parts_of" sParts f fd) (T : Bl mg) (T_Ratio : RatT K mg C) : FnOk P w K mg base CX0 1 f fd ["number"] (spParts C) := by
  refine F.ok scPa (fun vs H Q E h => ?_) (fun cdv A outer s H vs Q E hr h => ?_)
  · obtain ⟨v, n, d, rfl, _⟩ := h
    rfl
  · obtain ⟨v, n, d, rfl, hn, q⟩ := h
    have nd := scPa.nd
    refine ⟨_, pss_cons (ps_if (pt_val (pe_callB call_isi (by rfl) T.isinstance (by decide +kernel) (pa_cons (pv 0) (pa_cons (Own.pe_gref (by rfl) T_Ratio.mgC) pa_nil)))) (pss_one (ps_ret (pe_tup (pa_cons (pe_fld (pv 0) rfl) (pa_cons (pe_fld (pv 0) rfl) pa_nil))))) pss_nil)
      (pss_one (ps_ret (pe_tup (pa_cons (pv 0) (pa_cons pe_int pa_nil))))), ?_⟩
    cases hn with
    | int =>
      refine ⟨_, rfl, _, _, _, _, false, rfl, .own _, .base (.int _), T_Ratio.iK, _, rfl, iteF ?_⟩
      exact ⟨_, rfl, (by decide : 2 ≤ sizeLine), fun p hp => q p hp⟩
    | rat h =>
      obtain ⟨dx, h⟩ := h
      refine ⟨_, rfl, _, _, _, _, true, rfl, .own _, T_Ratio.ty h, T_Ratio.kS, _, rfl, iteT ?_⟩
      exact ⟨_, rfl, _, C, dx, _, _, rfl, h, T_Ratio.cl, T_Ratio.nT, ratF_top _ _, _, rfl, _, C, dx, _, _, rfl, h, T_Ratio.cl, T_Ratio.nB, ratF_bot _ _, (by decide : 2 ≤ sizeLine), fun p hp => q p hp⟩

def spLead (C : Addr) : Sp := fun vs H Q _ => ∃ v u n d m e, vs = [v, u] ∧ NumAt C H v n d ∧ NumAt C H u m e ∧ (Sz n ∧ Sz d ∧ Sz m ∧ Sz e) ∧ ∀ H', Same H H' → Q (.int (n * e - m * d)) H'
abbrev sLead : Stmt := top 20
theorem scLe : FnScope ["one", "other", "top", "bottom", "other_top", "other_bottom"] ["one", "other"] (defScope sLead) := ⟨rfl, rfl, rfl, by decide +kernel, rfl, by decide +kernel, by decide +kernel⟩
theorem ok_lead {f f1 : Addr} {fd fd1 : FuncData} (F : Fun K "_lead" "_lead" sLead f fd) (C_parts_of : Cal P w K mg base 1 "parts_of" f1 fd1 ["number"] (spParts C)) : FnOk P w K mg base CX0 2 f fd ["one", "other"] (spLead C) := by
  refine F.ok scLe (fun vs H Q E h => ?_) (fun cdv A outer s H vs Q E hr h => ?_)
  · obtain ⟨v, u, n, d, m, e, rfl, _⟩ := h
    rfl
  · obtain ⟨v, u, n, d, m, e, rfl, hv, hu, ⟨z1, z2, z3, z4⟩, q⟩ := h
    have nd := scLe.nd
    refine ⟨_, pss_cons (ps_asg (pe_call C_parts_of.F (hr.mono (by decide)) (by rfl) C_parts_of.mgf C_parts_of.kp C_parts_of.b .nil pass0 (pa_cons (pv 0) pa_nil)) (pg_tup (by rfl) (pgs_cons (pg_name (i := 2) nd rfl (Or.inl rfl)) (pgs_cons (pg_name (i := 3) nd rfl (Or.inl rfl)) pgs_nil))))
      (pss_cons (ps_asg (pe_call C_parts_of.F (hr.mono (by decide)) (by rfl) C_parts_of.mgf C_parts_of.kp C_parts_of.b .nil pass0 (pa_cons (pv 1) pa_nil)) (pg_tup (by rfl) (pgs_cons (pg_name (i := 4) nd rfl (Or.inl rfl)) (pgs_cons (pg_name (i := 5) nd rfl (Or.inl rfl)) pgs_nil))))
      (pss_one (ps_ret (pe_op op_sub (pe_op op_mulW (pv 2) (pv 5)) (pe_op op_mulW (pv 4) (pv 3)))))), ?_⟩
    refine ⟨_, rfl, _, _, _, rfl, hv, fun p hp => ⟨_, _, rfl, SqT.of upd_same, rfl, _, _, rfl, _, _, rfl, rfl, ?_⟩⟩
    have s1 : Same H (upd H p (.tup [.int n, .int d])) := same_new hp
    refine ⟨_, rfl, _, _, _, rfl, hu.same s1, fun p2 hp2 => ⟨_, _, rfl, SqT.of upd_same, rfl, _, _, rfl, _, _, rfl, rfl, ?_⟩⟩
    exact ⟨_, rfl, _, rfl, _, _, rfl, rfl, z1.mul z4, _, rfl, _, rfl, _, _, rfl, rfl, z3.mul z2, _, _, rfl, rfl, q _ (s1.trans (same_new hp2))⟩
end
end Toy
set_option maxRecDepth 100000
set_option maxHeartbeats 4000000
namespace Toy
open PySem L2
/-! ### a ratio made -/
theorem vint_ne {b c : Int} (h : b ≠ c) : ¬ (decide (V.int b = V.int c) = true) := fun e => h (V.int.inj (of_decide_eq_true e))
def CDivZ (_ j : Int) : Prop := j ≠ 0 ∧ j.natAbs.log2 < 9000
theorem op_fdivZ {X : Cx} : OpR X (binaryOp .FloorDiv) (rI CDivZ fun i j => .int (i.fdiv j)) := opI fun i j _ _ _ _ _ hc q => PyProof.Rows.floordiv_int hc.1 q (.inl (PyProof.noPylong_of_log2 hc.2))
def gcdI (t b : Int) : Int := ((Nat.gcd t.natAbs b.natAbs : Nat) : Int)
def lowD (t b : Int) : Int := if 0 < b then gcdI t b else -gcdI t b
def lowT (t b : Int) : Int := t.fdiv (lowD t b)
def lowB (t b : Int) : Int := b.fdiv (lowD t b)
theorem gcdI_pos {t b : Int} (h : b ≠ 0) : 0 < gcdI t b := by
  have h1 : 0 < b.natAbs := by omega
  have h2 := Nat.gcd_pos_of_pos_right t.natAbs h1
  unfold gcdI
  omega
theorem gcdI_neg {t b : Int} (h : b ≠ 0) : -gcdI t b ≠ 0 := by
  have := gcdI_pos (t := t) h
  omega
theorem gcdI_le {t b : Int} (h : b ≠ 0) : (gcdI t b).natAbs ≤ b.natAbs := by
  have h1 : 0 < b.natAbs := by omega
  have h2 := Nat.gcd_le_right t.natAbs h1
  unfold gcdI
  omega
theorem Sz.div {i j : Int} (h : j ≠ 0) (z : Sz j) : CDivZ i j := ⟨h, Nat.lt_trans (PySem.Flt.log2_lt_of (by decide) z) (by decide)⟩
theorem Sz.gcd {t b : Int} (h : b ≠ 0) (z : Sz b) : Sz (gcdI t b) := Nat.lt_of_le_of_lt (gcdI_le h) z
theorem Sz.neg {b : Int} (z : Sz b) : Sz (-b) := by unfold Sz; rw [Int.natAbs_neg]; exact z
theorem lowT_one {t b : Int} (h : 0 < b) (g : gcdI t b = 1) : lowT t b = t := by
  unfold lowT lowD
  rw [if_pos h, g]
  exact Int.fdiv_one t
theorem lowB_one {t b : Int} (h : 0 < b) (g : gcdI t b = 1) : lowB t b = b := by
  unfold lowB lowD
  rw [if_pos h, g]
  exact Int.fdiv_one b
theorem iteNot {b : Bool} {A B : Prop} (h : b = true) (x : B) : if (!b) = true then A else B := by
  subst h
  exact iteF x
theorem NumAt.info {K : PySem.W.Frag} {mg : Str → Option Value} {C : Addr} {x : Str} {H : Hp} {v : V} {n d : Int} (T : ClT K mg C x) (h : NumAt C H v n d) :
    ∃ t b c, TyX K H v t ∧ isIntK K t b ∧ PySem.W.kitOne K t (.ref C) = some c ∧ (b || c) = true := by
  cases h with
  | int => exact ⟨_, _, _, .base (.int _), isIntK_int, T.iK, rfl⟩
  | rat h => obtain ⟨dx, h⟩ := h; exact ⟨_, _, _, T.ty h, isIntK_own T, T.kS, rfl⟩
section
variable {P : Program} {w : World} {K : PySem.W.Frag} {mg : Str → Option Value} {base : Heap} {C : Addr}
def spRInit (C : Addr) : Sp := fun vs H Q _ => ∃ x dx t b, vs = [.ref x, .int t, .int b] ∧ H x = some (.ins C dx []) ∧ b ≠ 0 ∧ Sz b ∧ ∀ H', RatAt C H' x (lowT t b) (lowB t b) → (∀ c o, H c = some o → c ≠ x → H' c = some o) → Q .non H'
theorem spRInit.make {H1 : Hp} {t b : Int} {Q : VK} {E : XK} (hb : b ≠ 0) (hz : Sz b) (q : ∀ x H', H1 x = none → Same H1 H' → RatAt C H' x (lowT t b) (lowB t b) → Q (.ref x) H') :
    ∀ x dx, H1 x = none → H1 dx = none → dx ≠ x → spRInit C [.ref x, .int t, .int b] (upd (upd H1 dx (.own x)) x (.ins C dx [])) (fun v H2 => v = .non ∧ Q (.ref x) H2) E := fun x dx hx hdx hne =>
  ⟨x, dx, t, b, rfl, upd_same, hb, hz, fun H' hR hk => ⟨rfl, q x H' hx (fun c o e => hk c o (by rw [upd_ne (ne_of_none e hx), upd_ne (ne_of_none e hdx)]; exact e) (ne_of_none e hx)) hR⟩⟩
abbrev sRInit : Stmt := inClass (top 17) 0
theorem scRI : FnScope ["self", "top", "bottom", "divisor"] ["self", "top", "bottom"] (defScope sRInit) := ⟨rfl, rfl, rfl, by decide +kernel, rfl, by decide +kernel, by decide +kernel⟩
theorem ok_rinit {f f1 : Addr} {fd fd1 : FuncData} (F : FunD K "__init__" "Ratio.__init__" (defArgs sRInit) (defBody sRInit) (defScope sRInit) [.int 1] [] f fd) (T : Bl mg) (T_Ratio : RatT K mg C) (C_is_int : Cal P w K mg base 1 "is_int" f1 fd1 ["value"] (spIsInt K)) :
    FnOk P w K mg base CX0 2 f fd ["self", "top", "bottom"] (spRInit C) := by
  refine F.ok scRI (fun vs H Q E h => ?_) (fun cdv A outer s H vs Q E hr h => ?_)
  · obtain ⟨x, dx, t, b, rfl, _⟩ := h
    rfl
  · obtain ⟨x, dx, t, b, rfl, hx, hb, hz, q⟩ := h
    have nd := scRI.nd
    refine ⟨_, pss_cons (ps_if (pt_not (pt_val (pe_call C_is_int.F (hr.mono (by decide)) (by rfl) C_is_int.mgf C_is_int.kp C_is_int.b .nil pass0 (pa_cons (pv 1) pa_nil)))) pss_never pss_nil)
      (pss_cons (ps_if (pt_not (pt_val (pe_call C_is_int.F (hr.mono (by decide)) (by rfl) C_is_int.mgf C_is_int.kp C_is_int.b .nil pass0 (pa_cons (pv 2) pa_nil)))) pss_never pss_nil)
      (pss_cons (ps_if (pt_cmpR op_eq (pv 2) pe_int (nomark _)) pss_never pss_nil)
      (pss_cons (ps_set (i := 3) nd rfl (Or.inl rfl) (pe_ifExp (pt_cmpR op_gt (pv 2) pe_int (nomark _)) (pe_callBfun cr_gcd (by rfl) T.gcd (pa_cons (pv 1) (pa_cons (pv 2) pa_nil))) (pe_un un_neg (pe_callBfun cr_gcd (by rfl) T.gcd (pa_cons (pv 1) (pa_cons (pv 2) pa_nil))))))
      (pss_cons (ps_fld (pv 0) (pe_op op_fdivZ (pv 1) (pv 3)) rfl)
      (pss_one (ps_fld (pv 0) (pe_op op_fdivZ (pv 2) (pv 3)) rfl)))))), ?_⟩
    refine ⟨_, rfl, _, _, true, rfl, .base (.int _), isIntK_int, _, rfl, iteF ?_⟩
    refine ⟨_, rfl, _, _, true, rfl, .base (.int _), isIntK_int, _, rfl, iteF ?_⟩
    refine ⟨_, rfl, rfl, _, rfl, ?_⟩
    refine ite2 (fun e => absurd e (vint_ne hb)) (fun _ => ?_)
    refine ⟨_, rfl, _, _, rfl, rfl, _, rfl, ?_⟩
    have fin : ∀ z : Int, z = lowD t b → Q .non (upd (upd H x (.ins C dx (putF "top" (.int (t.fdiv z)) []))) x (.ins C dx (putF "bottom" (.int (b.fdiv z)) (putF "top" (.int (t.fdiv z)) [])))) := fun z e =>
      q _ ⟨dx, by rw [e]; exact upd_same⟩ fun c o h n => by rw [upd_ne n, upd_ne n]; exact h
    refine ite2 (fun hp => ?_) (fun hp => ?_)
    · have hp1 : 0 < b := of_decide_eq_true hp
      refine ⟨_, rfl, _, rfl, _, _, rfl, ?_⟩
      refine ⟨_, rfl, _, rfl, _, _, rfl, rfl, (Sz.gcd hb hz).div (by have := gcdI_pos (t := t) hb; exact Int.ne_of_gt this), _, rfl, x, C, dx, _, rfl, hx, T_Ratio.cl, T_Ratio.nT, (by decide : 0 < 1000), ?_⟩
      refine ⟨_, rfl, _, rfl, _, _, rfl, rfl, (Sz.gcd hb hz).div (by have := gcdI_pos (t := t) hb; exact Int.ne_of_gt this), _, rfl, x, C, dx, _, rfl, upd_same, T_Ratio.cl, T_Ratio.nB, (by decide : 1 < 1000), ?_⟩
      exact fin _ (by unfold lowD; rw [if_pos hp1]; rfl)
    · have hp1 : ¬ 0 < b := fun e => hp (decide_eq_true e)
      refine ⟨_, rfl, _, rfl, _, _, rfl, _, rfl, ?_⟩
      refine ⟨_, rfl, _, rfl, _, _, rfl, rfl, (Sz.gcd hb hz).neg.div (gcdI_neg hb), _, rfl, x, C, dx, _, rfl, hx, T_Ratio.cl, T_Ratio.nT, (by decide : 0 < 1000), ?_⟩
      refine ⟨_, rfl, _, rfl, _, _, rfl, rfl, (Sz.gcd hb hz).neg.div (gcdI_neg hb), _, rfl, x, C, dx, _, rfl, upd_same, T_Ratio.cl, T_Ratio.nB, (by decide : 1 < 1000), ?_⟩
      exact fin _ (by unfold lowD; rw [if_neg hp1]; rfl)

/-- comparisons -/
def spCmp (C : Addr) (g : Int → Bool) : Sp := fun vs H Q _ => ∃ v u n d m e, vs = [v, u] ∧ NumAt C H v n d ∧ NumAt C H u m e ∧ (Sz n ∧ Sz d ∧ Sz m ∧ Sz e) ∧ ∀ H', Same H H' → Q (.bl (g (n * e - m * d))) H'
structure Opr (P : Program) (w : World) (K : PySem.W.Frag) (mg : Str → Option Value) (base : Heap) (k : Nat) (C : Addr) (m : Str) (f : Addr) (fd : FuncData) (ps : List Str) (sp : Sp) : Prop where
  at_ : PySem.W.findIn K (.ref C) m = some (some (.ref f))
  fn : PySem.W.isFn K (.ref f) = true
  F : FnOk P w K mg base CX0 k f fd ps sp
  b : Binds K fd ps []
abbrev sLt : Stmt := inClass (top 17) 22
theorem scLt : FnScope ["self", "other"] ["self", "other"] (defScope sLt) := ⟨rfl, rfl, rfl, by decide +kernel, rfl, by decide +kernel, by decide +kernel⟩
theorem ok_lt {f p1 f1 f2 : Addr} {fd fd1 fd2 : FuncData} (F : Fun K "__lt__" "Ratio.__lt__" sLt f fd) (T_Ratio : RatT K mg C)
    (S_Ratio_is_number : Sta P w K mg base 2 C "is_number" p1 f1 fd1 ["value"] (spIsNum K C)) (C__lead : Cal P w K mg base 2 "_lead" f2 fd2 ["one", "other"] (spLead C)) : FnOk P w K mg base CX0 3 f fd ["self", "other"] (spCmp C fun z => decide (z < 0)) := by
  refine F.ok scLt (fun vs H Q E h => ?_) (fun cdv A outer s H vs Q E hr h => ?_)
  · obtain ⟨v, u, n, d, m, e, rfl, _⟩ := h
    rfl
  · obtain ⟨v, u, n, d, m, e, rfl, hv, hu, hz, q⟩ := h
    have nd := scLt.nd
    refine ⟨_, pss_cons (ps_if (pt_not (pt_val (Own.pe_smeth T_Ratio.rd S_Ratio_is_number.s S_Ratio_is_number.F (hr.mono (by decide)) S_Ratio_is_number.b pass0 (Own.pe_gref (by rfl) T_Ratio.mgC) (pa_cons (pv 1) pa_nil)))) pss_never pss_nil)
      (pss_one (ps_ret (pe_cmpR op_lt (pe_call C__lead.F (hr.mono (by decide)) (by rfl) C__lead.mgf C__lead.kp C__lead.b .nil pass0 (pa_cons (pv 0) (pa_cons (pv 1) pa_nil))) pe_int (nomark _)))), ?_⟩
    obtain ⟨t, b, c, ty, hb, hc, hbc⟩ := hu.info T_Ratio.toClT
    refine ⟨rfl, _, rfl, _, t, b, c, rfl, ty, hb, hc, _, rfl, iteNot hbc ?_⟩
    exact ⟨_, rfl, _, rfl, v, u, n, d, m, e, rfl, hv, hu, hz, fun H' s1 => ⟨_, _, rfl, rfl, q H' s1⟩⟩
abbrev sLeq : Stmt := inClass (top 17) 23
theorem scLeq : FnScope ["self", "other"] ["self", "other"] (defScope sLeq) := ⟨rfl, rfl, rfl, by decide +kernel, rfl, by decide +kernel, by decide +kernel⟩
theorem ok_le {f p1 f1 f2 : Addr} {fd fd1 fd2 : FuncData} (F : Fun K "__le__" "Ratio.__le__" sLeq f fd) (T_Ratio : RatT K mg C)
    (S_Ratio_is_number : Sta P w K mg base 2 C "is_number" p1 f1 fd1 ["value"] (spIsNum K C)) (C__lead : Cal P w K mg base 2 "_lead" f2 fd2 ["one", "other"] (spLead C)) : FnOk P w K mg base CX0 3 f fd ["self", "other"] (spCmp C fun z => decide (z ≤ 0)) := by
  refine F.ok scLeq (fun vs H Q E h => ?_) (fun cdv A outer s H vs Q E hr h => ?_)
  · obtain ⟨v, u, n, d, m, e, rfl, _⟩ := h
    rfl
  · obtain ⟨v, u, n, d, m, e, rfl, hv, hu, hz, q⟩ := h
    have nd := scLeq.nd
    refine ⟨_, pss_cons (ps_if (pt_not (pt_val (Own.pe_smeth T_Ratio.rd S_Ratio_is_number.s S_Ratio_is_number.F (hr.mono (by decide)) S_Ratio_is_number.b pass0 (Own.pe_gref (by rfl) T_Ratio.mgC) (pa_cons (pv 1) pa_nil)))) pss_never pss_nil)
      (pss_one (ps_ret (pe_cmpR op_le (pe_call C__lead.F (hr.mono (by decide)) (by rfl) C__lead.mgf C__lead.kp C__lead.b .nil pass0 (pa_cons (pv 0) (pa_cons (pv 1) pa_nil))) pe_int (nomark _)))), ?_⟩
    obtain ⟨t, b, c, ty, hb, hc, hbc⟩ := hu.info T_Ratio.toClT
    refine ⟨rfl, _, rfl, _, t, b, c, rfl, ty, hb, hc, _, rfl, iteNot hbc ?_⟩
    exact ⟨_, rfl, _, rfl, v, u, n, d, m, e, rfl, hv, hu, hz, fun H' s1 => ⟨_, _, rfl, rfl, q H' s1⟩⟩
abbrev sGt : Stmt := inClass (top 17) 24
theorem scGt : FnScope ["self", "other"] ["self", "other"] (defScope sGt) := ⟨rfl, rfl, rfl, by decide +kernel, rfl, by decide +kernel, by decide +kernel⟩
theorem ok_gt {f p1 f1 f2 : Addr} {fd fd1 fd2 : FuncData} (F : Fun K "__gt__" "Ratio.__gt__" sGt f fd) (T_Ratio : RatT K mg C)
    (S_Ratio_is_number : Sta P w K mg base 2 C "is_number" p1 f1 fd1 ["value"] (spIsNum K C)) (C__lead : Cal P w K mg base 2 "_lead" f2 fd2 ["one", "other"] (spLead C)) : FnOk P w K mg base CX0 3 f fd ["self", "other"] (spCmp C fun z => decide (0 < z)) := by
  refine F.ok scGt (fun vs H Q E h => ?_) (fun cdv A outer s H vs Q E hr h => ?_)
  · obtain ⟨v, u, n, d, m, e, rfl, _⟩ := h
    rfl
  · obtain ⟨v, u, n, d, m, e, rfl, hv, hu, hz, q⟩ := h
    have nd := scGt.nd
    refine ⟨_, pss_cons (ps_if (pt_not (pt_val (Own.pe_smeth T_Ratio.rd S_Ratio_is_number.s S_Ratio_is_number.F (hr.mono (by decide)) S_Ratio_is_number.b pass0 (Own.pe_gref (by rfl) T_Ratio.mgC) (pa_cons (pv 1) pa_nil)))) pss_never pss_nil)
      (pss_one (ps_ret (pe_cmpR op_gt (pe_call C__lead.F (hr.mono (by decide)) (by rfl) C__lead.mgf C__lead.kp C__lead.b .nil pass0 (pa_cons (pv 0) (pa_cons (pv 1) pa_nil))) pe_int (nomark _)))), ?_⟩
    obtain ⟨t, b, c, ty, hb, hc, hbc⟩ := hu.info T_Ratio.toClT
    refine ⟨rfl, _, rfl, _, t, b, c, rfl, ty, hb, hc, _, rfl, iteNot hbc ?_⟩
    exact ⟨_, rfl, _, rfl, v, u, n, d, m, e, rfl, hv, hu, hz, fun H' s1 => ⟨_, _, rfl, rfl, q H' s1⟩⟩
abbrev sGe : Stmt := inClass (top 17) 25
theorem scGe : FnScope ["self", "other"] ["self", "other"] (defScope sGe) := ⟨rfl, rfl, rfl, by decide +kernel, rfl, by decide +kernel, by decide +kernel⟩
theorem ok_ge {f p1 f1 f2 : Addr} {fd fd1 fd2 : FuncData} (F : Fun K "__ge__" "Ratio.__ge__" sGe f fd) (T_Ratio : RatT K mg C)
    (S_Ratio_is_number : Sta P w K mg base 2 C "is_number" p1 f1 fd1 ["value"] (spIsNum K C)) (C__lead : Cal P w K mg base 2 "_lead" f2 fd2 ["one", "other"] (spLead C)) : FnOk P w K mg base CX0 3 f fd ["self", "other"] (spCmp C fun z => decide (0 ≤ z)) := by
  refine F.ok scGe (fun vs H Q E h => ?_) (fun cdv A outer s H vs Q E hr h => ?_)
  · obtain ⟨v, u, n, d, m, e, rfl, _⟩ := h
    rfl
  · obtain ⟨v, u, n, d, m, e, rfl, hv, hu, hz, q⟩ := h
    have nd := scGe.nd
    refine ⟨_, pss_cons (ps_if (pt_not (pt_val (Own.pe_smeth T_Ratio.rd S_Ratio_is_number.s S_Ratio_is_number.F (hr.mono (by decide)) S_Ratio_is_number.b pass0 (Own.pe_gref (by rfl) T_Ratio.mgC) (pa_cons (pv 1) pa_nil)))) pss_never pss_nil)
      (pss_one (ps_ret (pe_cmpR op_ge (pe_call C__lead.F (hr.mono (by decide)) (by rfl) C__lead.mgf C__lead.kp C__lead.b .nil pass0 (pa_cons (pv 0) (pa_cons (pv 1) pa_nil))) pe_int (nomark _)))), ?_⟩
    obtain ⟨t, b, c, ty, hb, hc, hbc⟩ := hu.info T_Ratio.toClT
    refine ⟨rfl, _, rfl, _, t, b, c, rfl, ty, hb, hc, _, rfl, iteNot hbc ?_⟩
    exact ⟨_, rfl, _, rfl, v, u, n, d, m, e, rfl, hv, hu, hz, fun H' s1 => ⟨_, _, rfl, rfl, q H' s1⟩⟩

end
end Toy
set_option maxRecDepth 100000
set_option maxHeartbeats 4000000
namespace Toy
open PySem L2
open Rat (divInt)
/-! ### numbers of the program as rationals -/
theorem gcdI_eq (t b : Int) : gcdI t b = (Int.gcd b t : Int) := by
  unfold gcdI Int.gcd
  rw [Nat.gcd_comm]
theorem low_num {t b : Int} (h : b ≠ 0) : lowT t b = (divInt t b).num := by
  rw [Rat.num_divInt]
  unfold lowT lowD
  rw [gcdI_eq]
  have hg : (0 : Int) < (Int.gcd b t : Int) := by
    rw [← gcdI_eq]; exact gcdI_pos h
  by_cases hb : 0 < b
  · rw [if_pos hb, Int.sign_eq_one_of_pos hb, Int.one_mul, Int.fdiv_eq_ediv_of_nonneg _ (by omega)]
  · have hb2 : b < 0 := by omega
    rw [if_neg hb, Int.sign_eq_neg_one_of_neg hb2, Int.neg_one_mul, ← Int.fdiv_eq_ediv_of_nonneg _ (by omega), ← Int.neg_fdiv_neg, Int.neg_neg]
theorem low_den {t b : Int} (h : b ≠ 0) : lowB t b = ((divInt t b).den : Int) := by
  rw [Rat.den_divInt, if_neg h]
  unfold lowB lowD
  rw [gcdI_eq]
  have hg : (0 : Int) < (Int.gcd b t : Int) := by
    rw [← gcdI_eq]; exact gcdI_pos h
  rw [Int.natCast_ediv]
  by_cases hb : 0 < b
  · rw [if_pos hb, Int.fdiv_eq_ediv_of_nonneg _ (by omega), Int.natAbs_of_nonneg (by omega)]
  · rw [if_neg hb, show ((b.natAbs : Nat) : Int) = -b by omega, ← Int.fdiv_eq_ediv_of_nonneg _ (by omega), ← Int.neg_fdiv_neg, Int.neg_neg]
/-- a number below 2 ^ k over one below 2 ^ k -/
def Sq (k : Nat) (q : Rat) : Prop := q.num.natAbs < 2 ^ k ∧ q.den < 2 ^ k
theorem Sq.mono {j k : Nat} {q : Rat} (h : Sq j q) (e : j ≤ k) : Sq k q := ⟨Nat.lt_of_lt_of_le h.1 (Nat.pow_le_pow_right (by decide) e), Nat.lt_of_lt_of_le h.2 (Nat.pow_le_pow_right (by decide) e)⟩
theorem Sq.n {k : Nat} {q : Rat} (h : Sq k q) (e : k ≤ 8000) : Sz q.num := (h.mono e).1
theorem Sq.d {k : Nat} {q : Rat} (h : Sq k q) (e : k ≤ 8000) : Sz (q.den : Int) := (h.mono e).2
theorem num_le (t b : Int) : (divInt t b).num.natAbs ≤ t.natAbs := by
  rw [Rat.num_divInt]
  refine Nat.le_trans (Int.natAbs_ediv_le_natAbs _ _) ?_
  rw [Int.natAbs_mul]
  rcases Int.lt_trichotomy b 0 with h | h | h
  · rw [Int.sign_eq_neg_one_of_neg h]; simp
  · subst h; simp
  · rw [Int.sign_eq_one_of_pos h]; simp
theorem den_le {t b : Int} (h : b ≠ 0) : (divInt t b).den ≤ b.natAbs := by
  rw [Rat.den_divInt, if_neg h]
  exact Nat.div_le_self _ _
theorem Sq.of {k : Nat} {t b : Int} (h : b ≠ 0) (ht : t.natAbs < 2 ^ k) (hb : b.natAbs < 2 ^ k) : Sq k (divInt t b) := ⟨Nat.lt_of_le_of_lt (num_le t b) ht, Nat.lt_of_le_of_lt (den_le h) hb⟩
theorem den_ne (q : Rat) : (q.den : Int) ≠ 0 := by have := q.den_pos; omega
theorem den_pos (q : Rat) : (0 : Int) < (q.den : Int) := by have := q.den_pos; omega
theorem q_add (p q : Rat) : divInt (p.num * q.den + q.num * p.den) (p.den * q.den) = p + q := by
  conv => rhs; rw [← Rat.num_divInt_den p, ← Rat.num_divInt_den q]
  rw [Rat.divInt_add_divInt _ _ (den_ne p) (den_ne q)]
theorem q_sub (p q : Rat) : divInt (p.num * q.den - q.num * p.den) (p.den * q.den) = p - q := by
  conv => rhs; rw [← Rat.num_divInt_den p, ← Rat.num_divInt_den q]
  rw [Rat.divInt_sub_divInt _ _ (den_ne p) (den_ne q)]
theorem q_mul (p q : Rat) : divInt (p.num * q.num) (p.den * q.den) = p * q := by
  conv => rhs; rw [← Rat.num_divInt_den p, ← Rat.num_divInt_den q]
  rw [Rat.divInt_mul_divInt]
theorem q_div {p q : Rat} : divInt (p.num * q.den) (p.den * q.num) = p / q := by
  rw [Rat.divInt_eq_div]
  conv => rhs; rw [← Rat.num_divInt_den p, ← Rat.num_divInt_den q]
  rw [Rat.divInt_eq_div, Rat.divInt_eq_div, Rat.intCast_mul, Rat.intCast_mul]
  have h1 : ((p.den : Int) : Rat) ≠ 0 := by simpa using den_ne p
  have h2 : ((q.den : Int) : Rat) ≠ 0 := by simpa using den_ne q
  grind
theorem q_neg (p : Rat) : divInt (-p.num) p.den = -p := by
  conv => rhs; rw [← Rat.num_divInt_den p]
  rw [Rat.neg_divInt]
theorem fdiv_pos (n d k : Int) (hd : 0 < d) (hk : 0 < k) : (n * k).fdiv (d * k) = n / d := by
  rw [Int.fdiv_eq_ediv_of_nonneg _ (by exact Int.le_of_lt (Int.mul_pos hd hk)), Int.mul_ediv_mul_of_pos_left _ _ hk]
theorem q_fdiv {t b : Int} (h : b ≠ 0) : t.fdiv b = (divInt t b).floor := by
  obtain ⟨m, hm, e1, e2⟩ := Rat.divInt_num_den (n := t) (n' := (divInt t b).num) (d' := (divInt t b).den) (z' := (divInt t b).den_nz) (c := (divInt t b).reduced) h rfl
  rw [Rat.floor_def]
  have hd := den_pos (divInt t b)
  generalize (divInt t b).num = n at *
  generalize ((divInt t b).den : Int) = d at *
  rw [e1, e2]
  by_cases hp : 0 < m
  · exact fdiv_pos n d m hd hp
  · rw [← Int.neg_fdiv_neg, ← Int.mul_neg, ← Int.mul_neg]
    exact fdiv_pos n d (-m) hd (by omega)
theorem q_lt (p q : Rat) : decide (p.num * q.den - q.num * p.den < 0) = decide (p < q) := decide_eq_decide.mpr ⟨fun h => (Rat.lt_iff p q).mpr (by omega), fun h => by have := (Rat.lt_iff p q).mp h; omega⟩
theorem q_le (p q : Rat) : decide (p.num * q.den - q.num * p.den ≤ 0) = decide (p ≤ q) := decide_eq_decide.mpr ⟨fun h => (Rat.le_iff p q).mpr (by omega), fun h => by have := (Rat.le_iff p q).mp h; omega⟩
theorem q_gt (p q : Rat) : decide (0 < p.num * q.den - q.num * p.den) = decide (q < p) := decide_eq_decide.mpr ⟨fun h => (Rat.lt_iff q p).mpr (by omega), fun h => by have := (Rat.lt_iff q p).mp h; omega⟩
theorem q_ge (p q : Rat) : decide (0 ≤ p.num * q.den - q.num * p.den) = decide (q ≤ p) := decide_eq_decide.mpr ⟨fun h => (Rat.le_iff q p).mpr (by omega), fun h => by have := (Rat.le_iff q p).mp h; omega⟩
theorem q_eq (p q : Rat) : (decide (p.num = q.num) && decide ((p.den : Int) = q.den)) = decide (p = q) := by
  by_cases h : p = q
  · subst h; simp
  · rw [decide_eq_false h]
    by_cases h1 : p.num = q.num
    · have h2 : (p.den : Int) ≠ q.den := fun e => h (Rat.ext h1 (by exact_mod_cast e))
      simp [h2]
    · simp [h1]
/-! ### sizes -/
theorem mul_lt {i j : Int} {a b : Nat} (ha : i.natAbs < 2 ^ a) (hb : j.natAbs < 2 ^ b) : (i * j).natAbs < 2 ^ (a + b) := wide_lt ha hb
theorem den_abs (q : Rat) : ((q.den : Int)).natAbs = q.den := Int.natAbs_natCast _
theorem add_lt {i j : Int} {a : Nat} (ha : i.natAbs < 2 ^ a) (hb : j.natAbs < 2 ^ a) : (i + j).natAbs < 2 ^ (a + 1) := by
  have := Int.natAbs_add_le i j
  rw [Nat.pow_succ]
  omega
theorem sub_lt {i j : Int} {a : Nat} (ha : i.natAbs < 2 ^ a) (hb : j.natAbs < 2 ^ a) : (i - j).natAbs < 2 ^ (a + 1) := by
  have := Int.natAbs_sub_le i j
  rw [Nat.pow_succ]
  omega
theorem Sq.dd {k : Nat} {q : Rat} (h : Sq k q) : ((q.den : Int)).natAbs < 2 ^ k := by rw [den_abs]; exact h.2
section
variable {j k : Nat} {p q : Rat}
theorem Sq.dm (a : Sq j p) (b : Sq k q) : ((p.den : Int) * q.den).natAbs < 2 ^ (j + k) := mul_lt a.dd b.dd
theorem Sq.tadd (a : Sq j p) (b : Sq k q) : (p.num * q.den + q.num * p.den).natAbs < 2 ^ (j + k + 1) := add_lt (mul_lt a.1 b.dd) (by rw [Nat.add_comm]; exact mul_lt b.1 a.dd)
theorem Sq.tsub (a : Sq j p) (b : Sq k q) : (p.num * q.den - q.num * p.den).natAbs < 2 ^ (j + k + 1) := sub_lt (mul_lt a.1 b.dd) (by rw [Nat.add_comm]; exact mul_lt b.1 a.dd)
theorem dm_ne (p q : Rat) : (p.den : Int) * q.den ≠ 0 := Int.mul_ne_zero (den_ne p) (den_ne q)
theorem Sq.add (a : Sq j p) (b : Sq k q) : Sq (j + k + 1) (p + q) := by rw [← q_add]; exact Sq.of (dm_ne p q) (a.tadd b) (Nat.lt_of_lt_of_le (a.dm b) (Nat.pow_le_pow_right (by decide) (by omega)))
theorem Sq.sub (a : Sq j p) (b : Sq k q) : Sq (j + k + 1) (p - q) := by rw [← q_sub]; exact Sq.of (dm_ne p q) (a.tsub b) (Nat.lt_of_lt_of_le (a.dm b) (Nat.pow_le_pow_right (by decide) (by omega)))
theorem Sq.mul (a : Sq j p) (b : Sq k q) : Sq (j + k) (p * q) := by rw [← q_mul]; exact Sq.of (dm_ne p q) (mul_lt a.1 b.1) (a.dm b)
theorem num_ne {q : Rat} (h : q ≠ 0) : q.num ≠ 0 := fun e => h (Rat.num_eq_zero.mp e)
theorem dn_ne (p : Rat) {q : Rat} (h : q ≠ 0) : (p.den : Int) * q.num ≠ 0 := Int.mul_ne_zero (den_ne p) (num_ne h)
theorem Sq.div (a : Sq j p) (b : Sq k q) (h : q ≠ 0) : Sq (j + k) (p / q) := by rw [← q_div]; exact Sq.of (dn_ne p h) (mul_lt a.1 b.dd) (mul_lt a.dd b.1)
theorem Sq.neg (a : Sq j p) : Sq j (-p) := by
  refine ⟨?_, a.2⟩
  show (-p.num).natAbs < _
  rw [Int.natAbs_neg]
  exact a.1
theorem Sq.abs (a : Sq j p) : Sq j p.abs := by
  unfold Rat.abs
  split
  · exact a
  · exact a.neg
theorem Sq.int {i : Int} (h : i.natAbs < 2 ^ k) (h0 : 0 < k) : Sq k (i : Rat) := ⟨by rw [Rat.num_intCast]; exact h, by rw [Rat.den_intCast]; exact Nat.one_lt_two_pow (by omega)⟩
end
end Toy
set_option maxRecDepth 100000
set_option maxHeartbeats 4000000
namespace Toy
open PySem L2
open Rat (divInt)
/-! ### what the operators of Ratio promise, in rationals -/
def RatQ (C : Addr) (H : Hp) (a : Addr) (q : Rat) : Prop := RatAt C H a q.num q.den
inductive NumQ (C : Addr) (H : Hp) : V → Rat → Prop
  | int (i : Int) : NumQ C H (.int i) (i : Rat)
  | rat {a : Addr} {q : Rat} (h : RatQ C H a q) : NumQ C H (.ref a) q
theorem RatQ.same {C : Addr} {H H' : Hp} {a : Addr} {q : Rat} (h : RatQ C H a q) (e : Same H H') : RatQ C H' a q := RatAt.same h e
theorem RatQ.but {C p : Addr} {H H' : Hp} {a : Addr} {q : Rat} (h : RatQ C H a q) (e : But p H H') (hp : a ≠ p) : RatQ C H' a q := RatAt.but h e hp
theorem NumQ.same {C : Addr} {H H' : Hp} {v : V} {q : Rat} (h : NumQ C H v q) (e : Same H H') : NumQ C H' v q := by
  cases h with
  | int => exact .int _
  | rat h => exact .rat (h.same e)
theorem NumQ.at_ {C : Addr} {H : Hp} {v : V} {q : Rat} (h : NumQ C H v q) : NumAt C H v q.num q.den := by
  cases h with
  | int i => exact .int i
  | rat h => exact .rat h
theorem RatQ.ins {C : Addr} {H : Hp} {a : Addr} {q : Rat} (h : RatQ C H a q) : ∃ dx fs, H a = some (.ins C dx fs) := let ⟨dx, h⟩ := h; ⟨dx, _, h⟩
/-- an int or an instance, as the operators' rules ask -/
theorem NumQ.ri {C : Addr} {H : Hp} {v : V} {q : Rat} (h : NumQ C H v q) : (∃ j, v = .int j) ∨ ∃ b dy gs, v = .ref b ∧ H b = some (.ins C dy gs) := by
  cases h with
  | int i => exact .inl ⟨i, rfl⟩
  | rat h => obtain ⟨dx, h⟩ := h; exact .inr ⟨_, dx, _, rfl, h⟩
theorem NumQ.cases {C : Addr} {H : Hp} {v : V} {q : Rat} (h : NumQ C H v q) : (∃ i : Int, v = .int i ∧ q = i) ∨ ∃ a, v = .ref a ∧ RatQ C H a q := by
  cases h with
  | int i => exact .inl ⟨i, rfl, rfl⟩
  | rat h => exact .inr ⟨_, rfl, h⟩
section
variable {P : Program} {w : World} {K : PySem.W.Frag} {mg : Str → Option Value} {base : Heap} {C : Addr}
theorem mkQ {H1 : Hp} {t b : Int} {Q : VK} {E : XK} {q : Rat} (hb : b ≠ 0) (hz : Sz b) (e : divInt t b = q) (k : ∀ x H', Same H1 H' → RatQ C H' x q → Q (.ref x) H') :
    ∀ x dx, H1 x = none → H1 dx = none → dx ≠ x → spRInit C [.ref x, .int t, .int b] (upd (upd H1 dx (.own x)) x (.ins C dx [])) (fun v H2 => v = .non ∧ Q (.ref x) H2) E :=
  spRInit.make hb hz fun x H' _ s r => k x H' s (by rw [low_num hb, low_den hb, e] at r; exact r)
/-- a Ratio and a number, a Ratio out -/
def spBin (C : Addr) (G : Rat → Rat → Prop) (f : Rat → Rat → Rat) : Sp := fun vs H Q _ => ∃ a u p q, vs = [.ref a, u] ∧ RatQ C H a p ∧ NumQ C H u q ∧ (Sq 3900 p ∧ Sq 3900 q) ∧ G p q ∧ ∀ x H', Same H H' → RatQ C H' x (f p q) → Q (.ref x) H'
def spUn (C : Addr) (f : Rat → Rat) : Sp := fun vs H Q _ => ∃ a p, vs = [.ref a] ∧ RatQ C H a p ∧ Sq 3900 p ∧ ∀ x H', Same H H' → RatQ C H' x (f p) → Q (.ref x) H'
abbrev GT : Rat → Rat → Prop := fun _ _ => True
theorem z4 {p : Rat} (h : Sq 3900 p) : Sz p.num ∧ Sz (p.den : Int) := ⟨h.n (by decide), h.d (by decide)⟩
theorem szd {p q : Rat} (a : Sq 3900 p) (b : Sq 3900 q) : Sz ((p.den : Int) * q.den) := Nat.lt_of_lt_of_le (a.dm b) (Nat.pow_le_pow_right (by decide) (by decide))
abbrev sAdd : Stmt := inClass (top 17) 8
theorem scAdd : FnScope ["self", "other", "top", "bottom"] ["self", "other"] (defScope sAdd) := ⟨rfl, rfl, rfl, by decide +kernel, rfl, by decide +kernel, by decide +kernel⟩
theorem ok_add {f p1 f1 f2 f3 : Addr} {fd fd1 fd2 fd3 : FuncData} (F : Fun K "__add__" "Ratio.__add__" sAdd f fd) (T_Ratio : RatT K mg C) (S_Ratio_is_number : Sta P w K mg base 2 C "is_number" p1 f1 fd1 ["value"] (spIsNum K C)) (C_parts_of : Cal P w K mg base 1 "parts_of" f2 fd2 ["number"] (spParts C)) (M_Ratio : Mak P w K mg base 2 "Ratio" C f3 fd3 ["self", "top", "bottom"] (spRInit C)) :
    FnOk P w K mg base CX0 4 f fd ["self", "other"] (spBin C GT fun p q => p + q) := by
  refine F.ok scAdd (fun vs H Q E h => ?_) (fun cdv A outer s H vs Q E hr h => ?_)
  · obtain ⟨a, u, p, q, rfl, _⟩ := h
    rfl
  · obtain ⟨a, u, p, q, rfl, hp, hq, ⟨zp, zq⟩, hG, k⟩ := h
    have nd := scAdd.nd
    refine ⟨_, pss_cons (ps_if (pt_not (pt_val (Own.pe_smeth T_Ratio.rd S_Ratio_is_number.s S_Ratio_is_number.F (hr.mono (by decide)) S_Ratio_is_number.b pass0 (Own.pe_gref (by rfl) T_Ratio.mgC) (pa_cons (pv 1) pa_nil)))) pss_never pss_nil)
      (pss_cons (ps_asg (pe_call C_parts_of.F (hr.mono (by decide)) (by rfl) C_parts_of.mgf C_parts_of.kp C_parts_of.b .nil pass0 (pa_cons (pv 1) pa_nil)) (pg_tup (by rfl) (pgs_cons (pg_name (i := 2) nd rfl (Or.inl rfl)) (pgs_cons (pg_name (i := 3) nd rfl (Or.inl rfl)) pgs_nil))))
      (pss_one (ps_ret (pe_make M_Ratio.M M_Ratio.F (hr.mono (by decide)) (by rfl) M_Ratio.mgC M_Ratio.b .nil pass0 (pa_cons (pe_op op_add (pe_op op_mulW (pe_fld (pv 0) rfl) (pv 3)) (pe_op op_mulW (pv 2) (pe_fld (pv 0) rfl))) (pa_cons (pe_op op_mulW (pe_fld (pv 0) rfl) (pv 3)) pa_nil)))))), ?_⟩
    have hv := hq.at_
    obtain ⟨dx, h0⟩ := id hp
    obtain ⟨t, b, c, ty, hb, hc, hbc⟩ := hv.info T_Ratio.toClT
    refine ⟨rfl, _, rfl, _, t, b, c, rfl, ty, hb, hc, _, rfl, iteNot hbc ?_⟩
    refine ⟨_, rfl, _, _, _, rfl, hv, fun p1 hp1 => ⟨_, _, rfl, SqT.of upd_same, rfl, _, _, rfl, _, _, rfl, rfl, ?_⟩⟩
    have s1 : Same H (upd H p1 (.tup [.int q.num, .int (q.den : Int)])) := same_new hp1
    have h1 := s1 _ _ h0
    refine ⟨_, rfl, _, C, dx, _, _, rfl, h1, T_Ratio.cl, T_Ratio.nT, ratF_top _ _, _, rfl, _, _, rfl, rfl, ((z4 zp).1.mul (z4 zq).2), _, rfl, _, rfl, _, C, dx, _, _, rfl, h1, T_Ratio.cl, T_Ratio.nB, ratF_bot _ _, _, _, rfl, rfl, ((z4 zq).1.mul (z4 zp).2), _, _, rfl, rfl, _, rfl, _, C, dx, _, _, rfl, h1, T_Ratio.cl, T_Ratio.nB, ratF_bot _ _, _, rfl, _, _, rfl, rfl, ((z4 zp).2.mul (z4 zq).2), ?_⟩
    exact mkQ (dm_ne p q) (szd zp zq) (q_add p q) fun x H' s2 r => k x H' (s1.trans s2) r
abbrev sSub : Stmt := inClass (top 17) 10
theorem scSub : FnScope ["self", "other", "top", "bottom"] ["self", "other"] (defScope sSub) := ⟨rfl, rfl, rfl, by decide +kernel, rfl, by decide +kernel, by decide +kernel⟩
theorem ok_sub {f p1 f1 f2 f3 : Addr} {fd fd1 fd2 fd3 : FuncData} (F : Fun K "__sub__" "Ratio.__sub__" sSub f fd) (T_Ratio : RatT K mg C) (S_Ratio_is_number : Sta P w K mg base 2 C "is_number" p1 f1 fd1 ["value"] (spIsNum K C)) (C_parts_of : Cal P w K mg base 1 "parts_of" f2 fd2 ["number"] (spParts C)) (M_Ratio : Mak P w K mg base 2 "Ratio" C f3 fd3 ["self", "top", "bottom"] (spRInit C)) :
    FnOk P w K mg base CX0 4 f fd ["self", "other"] (spBin C GT fun p q => p - q) := by
  refine F.ok scSub (fun vs H Q E h => ?_) (fun cdv A outer s H vs Q E hr h => ?_)
  · obtain ⟨a, u, p, q, rfl, _⟩ := h
    rfl
  · obtain ⟨a, u, p, q, rfl, hp, hq, ⟨zp, zq⟩, hG, k⟩ := h
    have nd := scSub.nd
    refine ⟨_, pss_cons (ps_if (pt_not (pt_val (Own.pe_smeth T_Ratio.rd S_Ratio_is_number.s S_Ratio_is_number.F (hr.mono (by decide)) S_Ratio_is_number.b pass0 (Own.pe_gref (by rfl) T_Ratio.mgC) (pa_cons (pv 1) pa_nil)))) pss_never pss_nil)
      (pss_cons (ps_asg (pe_call C_parts_of.F (hr.mono (by decide)) (by rfl) C_parts_of.mgf C_parts_of.kp C_parts_of.b .nil pass0 (pa_cons (pv 1) pa_nil)) (pg_tup (by rfl) (pgs_cons (pg_name (i := 2) nd rfl (Or.inl rfl)) (pgs_cons (pg_name (i := 3) nd rfl (Or.inl rfl)) pgs_nil))))
      (pss_one (ps_ret (pe_make M_Ratio.M M_Ratio.F (hr.mono (by decide)) (by rfl) M_Ratio.mgC M_Ratio.b .nil pass0 (pa_cons (pe_op op_sub (pe_op op_mulW (pe_fld (pv 0) rfl) (pv 3)) (pe_op op_mulW (pv 2) (pe_fld (pv 0) rfl))) (pa_cons (pe_op op_mulW (pe_fld (pv 0) rfl) (pv 3)) pa_nil)))))), ?_⟩
    have hv := hq.at_
    obtain ⟨dx, h0⟩ := id hp
    obtain ⟨t, b, c, ty, hb, hc, hbc⟩ := hv.info T_Ratio.toClT
    refine ⟨rfl, _, rfl, _, t, b, c, rfl, ty, hb, hc, _, rfl, iteNot hbc ?_⟩
    refine ⟨_, rfl, _, _, _, rfl, hv, fun p1 hp1 => ⟨_, _, rfl, SqT.of upd_same, rfl, _, _, rfl, _, _, rfl, rfl, ?_⟩⟩
    have s1 : Same H (upd H p1 (.tup [.int q.num, .int (q.den : Int)])) := same_new hp1
    have h1 := s1 _ _ h0
    refine ⟨_, rfl, _, C, dx, _, _, rfl, h1, T_Ratio.cl, T_Ratio.nT, ratF_top _ _, _, rfl, _, _, rfl, rfl, ((z4 zp).1.mul (z4 zq).2), _, rfl, _, rfl, _, C, dx, _, _, rfl, h1, T_Ratio.cl, T_Ratio.nB, ratF_bot _ _, _, _, rfl, rfl, ((z4 zq).1.mul (z4 zp).2), _, _, rfl, rfl, _, rfl, _, C, dx, _, _, rfl, h1, T_Ratio.cl, T_Ratio.nB, ratF_bot _ _, _, rfl, _, _, rfl, rfl, ((z4 zp).2.mul (z4 zq).2), ?_⟩
    exact mkQ (dm_ne p q) (szd zp zq) (q_sub p q) fun x H' s2 r => k x H' (s1.trans s2) r
abbrev sMul : Stmt := inClass (top 17) 12
theorem scMul : FnScope ["self", "other", "top", "bottom"] ["self", "other"] (defScope sMul) := ⟨rfl, rfl, rfl, by decide +kernel, rfl, by decide +kernel, by decide +kernel⟩
theorem ok_mul {f p1 f1 f2 f3 : Addr} {fd fd1 fd2 fd3 : FuncData} (F : Fun K "__mul__" "Ratio.__mul__" sMul f fd) (T_Ratio : RatT K mg C) (S_Ratio_is_number : Sta P w K mg base 2 C "is_number" p1 f1 fd1 ["value"] (spIsNum K C)) (C_parts_of : Cal P w K mg base 1 "parts_of" f2 fd2 ["number"] (spParts C)) (M_Ratio : Mak P w K mg base 2 "Ratio" C f3 fd3 ["self", "top", "bottom"] (spRInit C)) :
    FnOk P w K mg base CX0 4 f fd ["self", "other"] (spBin C GT fun p q => p * q) := by
  refine F.ok scMul (fun vs H Q E h => ?_) (fun cdv A outer s H vs Q E hr h => ?_)
  · obtain ⟨a, u, p, q, rfl, _⟩ := h
    rfl
  · obtain ⟨a, u, p, q, rfl, hp, hq, ⟨zp, zq⟩, hG, k⟩ := h
    have nd := scMul.nd
    refine ⟨_, pss_cons (ps_if (pt_not (pt_val (Own.pe_smeth T_Ratio.rd S_Ratio_is_number.s S_Ratio_is_number.F (hr.mono (by decide)) S_Ratio_is_number.b pass0 (Own.pe_gref (by rfl) T_Ratio.mgC) (pa_cons (pv 1) pa_nil)))) pss_never pss_nil)
      (pss_cons (ps_asg (pe_call C_parts_of.F (hr.mono (by decide)) (by rfl) C_parts_of.mgf C_parts_of.kp C_parts_of.b .nil pass0 (pa_cons (pv 1) pa_nil)) (pg_tup (by rfl) (pgs_cons (pg_name (i := 2) nd rfl (Or.inl rfl)) (pgs_cons (pg_name (i := 3) nd rfl (Or.inl rfl)) pgs_nil))))
      (pss_one (ps_ret (pe_make M_Ratio.M M_Ratio.F (hr.mono (by decide)) (by rfl) M_Ratio.mgC M_Ratio.b .nil pass0 (pa_cons (pe_op op_mulW (pe_fld (pv 0) rfl) (pv 2)) (pa_cons (pe_op op_mulW (pe_fld (pv 0) rfl) (pv 3)) pa_nil)))))), ?_⟩
    have hv := hq.at_
    obtain ⟨dx, h0⟩ := id hp
    obtain ⟨t, b, c, ty, hb, hc, hbc⟩ := hv.info T_Ratio.toClT
    refine ⟨rfl, _, rfl, _, t, b, c, rfl, ty, hb, hc, _, rfl, iteNot hbc ?_⟩
    refine ⟨_, rfl, _, _, _, rfl, hv, fun p1 hp1 => ⟨_, _, rfl, SqT.of upd_same, rfl, _, _, rfl, _, _, rfl, rfl, ?_⟩⟩
    have s1 : Same H (upd H p1 (.tup [.int q.num, .int (q.den : Int)])) := same_new hp1
    have h1 := s1 _ _ h0
    refine ⟨_, rfl, _, C, dx, _, _, rfl, h1, T_Ratio.cl, T_Ratio.nT, ratF_top _ _, _, rfl, _, _, rfl, rfl, ((z4 zp).1.mul (z4 zq).1), _, rfl, _, C, dx, _, _, rfl, h1, T_Ratio.cl, T_Ratio.nB, ratF_bot _ _, _, rfl, _, _, rfl, rfl, ((z4 zp).2.mul (z4 zq).2), ?_⟩
    exact mkQ (dm_ne p q) (szd zp zq) (q_mul p q) fun x H' s2 r => k x H' (s1.trans s2) r
end
end Toy
set_option maxRecDepth 100000
set_option maxHeartbeats 4000000
set_option exponentiation.threshold 3000
namespace Toy
open PySem L2
open Rat (divInt)
theorem q_abs (p : Rat) : divInt (if p.num < 0 then -p.num else p.num) p.den = p.abs := by
  by_cases h : p.num < 0
  · rw [if_pos h, q_neg, Rat.abs, if_neg]
    intro z
    have := Rat.num_nonneg.mpr z
    omega
  · rw [if_neg h, Rat.num_divInt_den, Rat.abs, if_pos (Rat.num_nonneg.mp (by omega))]
theorem eqvT (n m x y : Int) : PyData.eqv (.tuple [.int n, .int m]) (.tuple [.int x, .int y]) = (decide (n = x) && decide (m = y)) := by
  show (n == x && (m == y && true)) = _
  rw [Bool.and_true]
  rfl
section
variable {P : Program} {w : World} {K : PySem.W.Frag} {mg : Str → Option Value} {base : Heap} {C : Addr}
/-- facts for an operator of Ratio with a Ratio at the left -/
structure BinF (K : PySem.W.Frag) (C : Addr) (op : Operator) : Prop where
  hc : PySem.W.selfFirst K C = true
  hR : ∃ rc, PySem.W.findIn K (.ref C) (dunderR op.info.2) = some rc ∧ (rc = none ∨ ∃ g : Addr, rc = some (.ref g))
  h1 : ∃ fo, PySem.W.findIn K (.type "int") (PySem.dunder op.info.2) = some fo
  h2 : ∃ ro, PySem.W.findIn K (.type "int") (dunderR op.info.2) = some ro
  hs : PySem.W.subIn K (.type "int") (.ref C) = some false
theorem op_B {X : Cx} {CX : CXT} {k : Nat} {f : Addr} {fd : FuncData} {ps : List Str} {sp : Sp} {E : XK} {op : Operator} (B : BinF X.K C op) (F : FnOk X.prog X.w X.K X.mg X.base CX k f fd ps sp) (hr : Room k X.A)
    (hs : PySem.W.findIn X.K (.ref C) (PySem.dunder op.info.2) = some (some (.ref f))) (hf : PySem.W.isFn X.K (.ref f) = true) (hb : Binds X.K fd ps []) (hx : Passes CX X E) : OpR X (binaryOp op) (Own.rOwnB C sp E) := by
  obtain ⟨rc, hR, hp⟩ := B.hR
  obtain ⟨fo, h1⟩ := B.h1
  obtain ⟨ro, h2⟩ := B.h2
  exact Own.op_ownB F hr hs hf B.hc hR hp h1 h2 B.hs hb hx
abbrev sNeg : Stmt := inClass (top 17) 18
theorem scNeg : FnScope ["self"] ["self"] (defScope sNeg) := ⟨rfl, rfl, rfl, by decide +kernel, rfl, by decide +kernel, by decide +kernel⟩
theorem ok_neg {f f3 : Addr} {fd fd3 : FuncData} (F : Fun K "__neg__" "Ratio.__neg__" sNeg f fd) (T_Ratio : RatT K mg C) (M_Ratio : Mak P w K mg base 2 "Ratio" C f3 fd3 ["self", "top", "bottom"] (spRInit C)) :
    FnOk P w K mg base CX0 4 f fd ["self"] (spUn C fun p => -p) := by
  refine F.ok scNeg (fun vs H Q E h => ?_) (fun cdv A outer s H vs Q E hr h => ?_)
  · obtain ⟨a, p, rfl, _⟩ := h
    rfl
  · obtain ⟨a, p, rfl, hp, zp, k⟩ := h
    have nd := scNeg.nd
    refine ⟨_, pss_one (ps_ret (pe_make M_Ratio.M M_Ratio.F (hr.mono (by decide)) (by rfl) M_Ratio.mgC M_Ratio.b .nil pass0 (pa_cons (pe_un un_neg (pe_fld (pv 0) rfl)) (pa_cons (pe_fld (pv 0) rfl) pa_nil)))), ?_⟩
    obtain ⟨dx, h1⟩ := id hp
    refine ⟨_, rfl, _, C, dx, _, _, rfl, h1, T_Ratio.cl, T_Ratio.nT, ratF_top _ _, _, rfl, _, rfl, _, C, dx, _, _, rfl, h1, T_Ratio.cl, T_Ratio.nB, ratF_bot _ _, ?_⟩
    exact mkQ (den_ne p) (z4 zp).2 (q_neg p) k
abbrev sAbs : Stmt := inClass (top 17) 19
theorem scAbs : FnScope ["self"] ["self"] (defScope sAbs) := ⟨rfl, rfl, rfl, by decide +kernel, rfl, by decide +kernel, by decide +kernel⟩
theorem ok_abs {f f3 : Addr} {fd fd3 : FuncData} (F : Fun K "__abs__" "Ratio.__abs__" sAbs f fd) (T : Bl mg) (T_Ratio : RatT K mg C) (M_Ratio : Mak P w K mg base 2 "Ratio" C f3 fd3 ["self", "top", "bottom"] (spRInit C)) :
    FnOk P w K mg base CX0 4 f fd ["self"] (spUn C Rat.abs) := by
  refine F.ok scAbs (fun vs H Q E h => ?_) (fun cdv A outer s H vs Q E hr h => ?_)
  · obtain ⟨a, p, rfl, _⟩ := h
    rfl
  · obtain ⟨a, p, rfl, hp, zp, k⟩ := h
    have nd := scAbs.nd
    refine ⟨_, pss_one (ps_ret (pe_make M_Ratio.M M_Ratio.F (hr.mono (by decide)) (by rfl) M_Ratio.mgC M_Ratio.b .nil pass0 (pa_cons (pe_callB call_abs (by rfl) T.abs (by decide +kernel) (pa_cons (pe_fld (pv 0) rfl) pa_nil)) (pa_cons (pe_fld (pv 0) rfl) pa_nil)))), ?_⟩
    obtain ⟨dx, h1⟩ := id hp
    refine ⟨_, rfl, _, C, dx, _, _, rfl, h1, T_Ratio.cl, T_Ratio.nT, ratF_top _ _, _, rfl, _, rfl, _, C, dx, _, _, rfl, h1, T_Ratio.cl, T_Ratio.nB, ratF_bot _ _, ?_⟩
    exact mkQ (den_ne p) (z4 zp).2 (q_abs p) k
/-- == with a number -/
def spEqQ (C : Addr) : Sp := fun vs H Q _ => ∃ a u p q, vs = [.ref a, u] ∧ RatQ C H a p ∧ NumQ C H u q ∧ ∀ H', Same H H' → Q (.bl (decide (p = q))) H'
abbrev sEq : Stmt := inClass (top 17) 21
theorem scEq : FnScope ["self", "other"] ["self", "other"] (defScope sEq) := ⟨rfl, rfl, rfl, by decide +kernel, rfl, by decide +kernel, by decide +kernel⟩
theorem ok_eq {f p1 f1 f2 : Addr} {fd fd1 fd2 : FuncData} (F : Fun K "__eq__" "Ratio.__eq__" sEq f fd) (T_Ratio : RatT K mg C) (S_Ratio_is_number : Sta P w K mg base 2 C "is_number" p1 f1 fd1 ["value"] (spIsNum K C)) (C_parts_of : Cal P w K mg base 1 "parts_of" f2 fd2 ["number"] (spParts C)) :
    FnOk P w K mg base CX0 3 f fd ["self", "other"] (spEqQ C) := by
  refine F.ok scEq (fun vs H Q E h => ?_) (fun cdv A outer s H vs Q E hr h => ?_)
  · obtain ⟨a, u, p, q, rfl, _⟩ := h
    rfl
  · obtain ⟨a, u, p, q, rfl, hp, hq, k⟩ := h
    have nd := scEq.nd
    refine ⟨_, pss_cons (ps_if (pt_not (pt_val (Own.pe_smeth T_Ratio.rd S_Ratio_is_number.s S_Ratio_is_number.F (hr.mono (by decide)) S_Ratio_is_number.b pass0 (Own.pe_gref (by rfl) T_Ratio.mgC) (pa_cons (pv 1) pa_nil)))) (pss_one (ps_ret pe_bl)) pss_nil)
      (pss_one (ps_ret (pe_cmpR (op_eqD hr.units) (pe_call C_parts_of.F (hr.mono (by decide)) (by rfl) C_parts_of.mgf C_parts_of.kp C_parts_of.b .nil pass0 (pa_cons (pv 0) pa_nil)) (pe_call C_parts_of.F (hr.mono (by decide)) (by rfl) C_parts_of.mgf C_parts_of.kp C_parts_of.b .nil pass0 (pa_cons (pv 1) pa_nil)) (nomark _)))), ?_⟩
    obtain ⟨t, b, c, ty, hb, hc, hbc⟩ := hq.at_.info T_Ratio.toClT
    refine ⟨rfl, _, rfl, _, t, b, c, rfl, ty, hb, hc, _, rfl, iteNot hbc ?_⟩
    refine ⟨_, rfl, _, _, _, rfl, (NumQ.rat hp).at_, fun x1 hx1 => ?_⟩
    have s1 : Same H (upd H x1 (.tup [.int p.num, .int (p.den : Int)])) := same_new hx1
    refine ⟨_, rfl, _, _, _, rfl, (hq.same s1).at_, fun x2 hx2 => ?_⟩
    have s2 := same_new (o := .tup [.int q.num, .int (q.den : Int)]) hx2
    refine ⟨_, _, .tup (SqT.of (s2 _ _ upd_same)) (.cons (.int _) (.cons (.int _) .nil)), .tup (SqT.of upd_same) (.cons (.int _) (.cons (.int _) .nil)), rfl, rfl, ?_⟩
    rw [eqvT, q_eq]
    exact k _ (s1.trans s2)
/-- the whole quotient -/
def spQuo (C : Addr) : Sp := fun vs H Q _ => ∃ v u p q, vs = [v, u] ∧ NumQ C H v p ∧ NumQ C H u q ∧ (Sq 3900 p ∧ Sq 3900 q) ∧ q ≠ 0 ∧ ∀ H', Same H H' → Q (.int (p / q).floor) H'
abbrev sQuo : Stmt := top 21
theorem scQuo : FnScope ["one", "other", "top", "bottom", "other_top", "other_bottom"] ["one", "other"] (defScope sQuo) := ⟨rfl, rfl, rfl, by decide +kernel, rfl, by decide +kernel, by decide +kernel⟩
theorem ok_quo {f f2 : Addr} {fd fd2 : FuncData} (F : Fun K "_quotient" "_quotient" sQuo f fd) (C_parts_of : Cal P w K mg base 1 "parts_of" f2 fd2 ["number"] (spParts C)) :
    FnOk P w K mg base CX0 2 f fd ["one", "other"] (spQuo C) := by
  refine F.ok scQuo (fun vs H Q E h => ?_) (fun cdv A outer s H vs Q E hr h => ?_)
  · obtain ⟨v, u, p, q, rfl, _⟩ := h
    rfl
  · obtain ⟨v, u, p, q, rfl, hp, hq, ⟨zp, zq⟩, h0, k⟩ := h
    have nd := scQuo.nd
    refine ⟨_, pss_cons (ps_asg (pe_call C_parts_of.F (hr.mono (by decide)) (by rfl) C_parts_of.mgf C_parts_of.kp C_parts_of.b .nil pass0 (pa_cons (pv 0) pa_nil)) (pg_tup (by rfl) (pgs_cons (pg_name (i := 2) nd rfl (Or.inl rfl)) (pgs_cons (pg_name (i := 3) nd rfl (Or.inl rfl)) pgs_nil))))
      (pss_cons (ps_asg (pe_call C_parts_of.F (hr.mono (by decide)) (by rfl) C_parts_of.mgf C_parts_of.kp C_parts_of.b .nil pass0 (pa_cons (pv 1) pa_nil)) (pg_tup (by rfl) (pgs_cons (pg_name (i := 4) nd rfl (Or.inl rfl)) (pgs_cons (pg_name (i := 5) nd rfl (Or.inl rfl)) pgs_nil))))
      (pss_cons (ps_if (pt_cmpR op_eq (pv 4) pe_int (nomark _)) pss_never pss_nil)
      (pss_one (ps_ret (pe_op op_fdivZ (pe_op op_mulW (pv 2) (pv 5)) (pe_op op_mulW (pv 3) (pv 4))))))), ?_⟩
    refine ⟨_, rfl, _, _, _, rfl, hp.at_, fun x1 hx1 => ⟨_, _, rfl, SqT.of upd_same, rfl, _, _, rfl, _, _, rfl, rfl, ?_⟩⟩
    have s1 : Same H (upd H x1 (.tup [.int p.num, .int (p.den : Int)])) := same_new hx1
    refine ⟨_, rfl, _, _, _, rfl, (hq.same s1).at_, fun x2 hx2 => ⟨_, _, rfl, SqT.of upd_same, rfl, _, _, rfl, _, _, rfl, rfl, ?_⟩⟩
    have s2 := same_new (o := .tup [.int q.num, .int (q.den : Int)]) hx2
    refine ⟨_, rfl, rfl, _, rfl, ?_⟩
    refine ite2 (fun e => absurd e (vint_ne (num_ne h0))) (fun _ => ?_)
    have hd : (p.den : Int) * q.num ≠ 0 := dn_ne p h0
    have zd : Sz ((p.den : Int) * q.num) := Nat.lt_of_lt_of_le (mul_lt zp.dd zq.1) (Nat.pow_le_pow_right (by decide) (by decide))
    refine ⟨_, rfl, _, rfl, _, _, rfl, rfl, (z4 zp).1.mul (z4 zq).2, _, rfl, _, rfl, _, _, rfl, rfl, (z4 zp).2.mul (z4 zq).1, _, _, rfl, rfl, zd.div hd, ?_⟩
    show Q (.int ((p.num * (q.den : Int)).fdiv ((p.den : Int) * q.num))) _
    rw [q_fdiv hd, q_div]
    exact k _ (s1.trans s2)
abbrev sRAdd : Stmt := inClass (top 17) 9
theorem scRAdd : FnScope ["self", "other"] ["self", "other"] (defScope sRAdd) := ⟨rfl, rfl, rfl, by decide +kernel, rfl, by decide +kernel, by decide +kernel⟩
theorem ok_radd {f g : Addr} {fd gd : FuncData} (F : Fun K "__radd__" "Ratio.__radd__" sRAdd f fd) (B : BinF K C .Add) (O : Opr P w K mg base 4 C "__add__" g gd ["self", "other"] (spBin C GT fun p q => p + q)) :
    FnOk P w K mg base CX0 5 f fd ["self", "other"] (spBin C GT fun p q => p + q) := by
  refine F.ok scRAdd (fun vs H Q E h => ?_) (fun cdv A outer s H vs Q E hr h => ?_)
  · obtain ⟨a, u, p, q, rfl, _⟩ := h
    rfl
  · obtain ⟨a, u, p, q, rfl, hp, hq, z, g, k⟩ := h
    have nd := scRAdd.nd
    refine ⟨_, pss_one (ps_ret (pe_op (op_B B O.F (hr.mono (by decide)) O.at_ O.fn O.b pass0) (pv 0) (pv 1))), ?_⟩
    obtain ⟨dx, fs, h1⟩ := hp.ins
    exact ⟨_, rfl, _, rfl, a, dx, fs, rfl, h1, hq.ri, a, u, p, q, rfl, hp, hq, z, g, k⟩
abbrev sRMul : Stmt := inClass (top 17) 13
theorem scRMul : FnScope ["self", "other"] ["self", "other"] (defScope sRMul) := ⟨rfl, rfl, rfl, by decide +kernel, rfl, by decide +kernel, by decide +kernel⟩
theorem ok_rmul {f g : Addr} {fd gd : FuncData} (F : Fun K "__rmul__" "Ratio.__rmul__" sRMul f fd) (B : BinF K C .Mult) (O : Opr P w K mg base 4 C "__mul__" g gd ["self", "other"] (spBin C GT fun p q => p * q)) :
    FnOk P w K mg base CX0 5 f fd ["self", "other"] (spBin C GT fun p q => p * q) := by
  refine F.ok scRMul (fun vs H Q E h => ?_) (fun cdv A outer s H vs Q E hr h => ?_)
  · obtain ⟨a, u, p, q, rfl, _⟩ := h
    rfl
  · obtain ⟨a, u, p, q, rfl, hp, hq, z, g, k⟩ := h
    have nd := scRMul.nd
    refine ⟨_, pss_one (ps_ret (pe_op (op_B B O.F (hr.mono (by decide)) O.at_ O.fn O.b pass0) (pv 0) (pv 1))), ?_⟩
    obtain ⟨dx, fs, h1⟩ := hp.ins
    exact ⟨_, rfl, _, rfl, a, dx, fs, rfl, h1, hq.ri, a, u, p, q, rfl, hp, hq, z, g, k⟩
abbrev sFDiv : Stmt := inClass (top 17) 14
theorem scFDiv : FnScope ["self", "other"] ["self", "other"] (defScope sFDiv) := ⟨rfl, rfl, rfl, by decide +kernel, rfl, by decide +kernel, by decide +kernel⟩
theorem ok_fdiv {f p1 f1 f2 : Addr} {fd fd1 fd2 : FuncData} (F : Fun K "__floordiv__" "Ratio.__floordiv__" sFDiv f fd) (T_Ratio : RatT K mg C) (S_Ratio_is_number : Sta P w K mg base 2 C "is_number" p1 f1 fd1 ["value"] (spIsNum K C)) (C__quotient : Cal P w K mg base 2 "_quotient" f2 fd2 ["one", "other"] (spQuo C)) :
    FnOk P w K mg base CX0 3 f fd ["self", "other"] (spQuo C) := by
  refine F.ok scFDiv (fun vs H Q E h => ?_) (fun cdv A outer s H vs Q E hr h => ?_)
  · obtain ⟨v, u, p, q, rfl, _⟩ := h
    rfl
  · obtain ⟨v, u, p, q, rfl, hp, hq, z, h0, k⟩ := h
    have nd := scFDiv.nd
    refine ⟨_, pss_cons (ps_if (pt_not (pt_val (Own.pe_smeth T_Ratio.rd S_Ratio_is_number.s S_Ratio_is_number.F (hr.mono (by decide)) S_Ratio_is_number.b pass0 (Own.pe_gref (by rfl) T_Ratio.mgC) (pa_cons (pv 1) pa_nil)))) pss_never pss_nil)
      (pss_one (ps_ret (pe_call C__quotient.F (hr.mono (by decide)) (by rfl) C__quotient.mgf C__quotient.kp C__quotient.b .nil pass0 (pa_cons (pv 0) (pa_cons (pv 1) pa_nil))))), ?_⟩
    obtain ⟨t, b, c, ty, hb, hc, hbc⟩ := hq.at_.info T_Ratio.toClT
    refine ⟨rfl, _, rfl, _, t, b, c, rfl, ty, hb, hc, _, rfl, iteNot hbc ?_⟩
    exact ⟨_, rfl, _, rfl, v, u, p, q, rfl, hp, hq, z, h0, k⟩
/-- a number as a Ratio -/
def spOfQ (C : Addr) : Sp := fun vs H Q _ => ∃ v q, vs = [v] ∧ NumQ C H v q ∧ ∀ r H', RatQ C H' r q → Same H H' → Q (.ref r) H'
theorem gcdI_one (i : Int) : gcdI i 1 = 1 := by
  unfold gcdI
  show ((Nat.gcd i.natAbs 1 : Nat) : Int) = 1
  rw [Nat.gcd_one_right]
  rfl
theorem Sz1 : Sz 1 := by unfold Sz; decide +kernel
theorem q_int (i : Int) : divInt i 1 = (i : Rat) := by
  rw [Rat.divInt_eq_div]
  have h : ((1 : Int) : Rat) = 1 := rfl
  grind
abbrev sOf : Stmt := inClass (top 17) 3
theorem scOf : FnScope ["number"] ["number"] (defScope sOf) := ⟨rfl, rfl, rfl, by decide +kernel, rfl, by decide +kernel, by decide +kernel⟩
theorem ok_of {f f1 f2 : Addr} {fd fd1 fd2 : FuncData} {dvs : List Value} (F : Fun K "of" "Ratio.of" sOf f fd) (T : Bl mg) (T_Ratio : RatT K mg C) (C_is_int : Cal P w K mg base 1 "is_int" f1 fd1 ["value"] (spIsInt K))
    (M_Ratio : Mak P w K mg base 2 "Ratio" C f2 fd2 ["self", "top", "bottom"] (spRInit C)) (hd : Vals [V.int 1] dvs) (hb1 : Binds K fd2 ["self", "top", "bottom"] dvs) : FnOk P w K mg base CX0 4 f fd ["number"] (spOfQ C) := by
  refine F.ok scOf (fun vs H Q E h => ?_) (fun cdv A outer s H vs Q E hr h => ?_)
  · obtain ⟨v, q, rfl, _⟩ := h
    rfl
  · obtain ⟨v, q, rfl, hv, k⟩ := h
    have nd := scOf.nd
    refine ⟨_, pss_cons (ps_if (pt_val (pe_callB call_isi (by rfl) T.isinstance (by decide +kernel) (pa_cons (pv 0) (pa_cons (Own.pe_gref (by rfl) T_Ratio.mgC) pa_nil)))) (pss_one (ps_ret (pv 0))) pss_nil)
      (pss_cons (ps_if (pt_not (pt_val (pe_call C_is_int.F (hr.mono (by decide)) (by rfl) C_is_int.mgf C_is_int.kp C_is_int.b .nil pass0 (pa_cons (pv 0) pa_nil)))) pss_never pss_nil)
      (pss_one (ps_ret (pe_make M_Ratio.M M_Ratio.F (hr.mono (by decide)) (by rfl) M_Ratio.mgC hb1 hd pass0 (pa_cons (pv 0) pa_nil))))), ?_⟩
    rcases hv.cases with ⟨i, rfl, rfl⟩ | ⟨a, rfl, hR⟩
    · refine ⟨_, rfl, _, _, _, _, false, rfl, .own _, .base (.int _), T_Ratio.iK, _, rfl, iteF ?_⟩
      refine ⟨_, rfl, _, _, true, rfl, .base (.int _), isIntK_int, _, rfl, iteF ?_⟩
      exact ⟨_, rfl, mkQ (by decide) Sz1 (q_int i) fun x H' s1 hR => k x H' hR s1⟩
    · obtain ⟨dx, h⟩ := id hR
      refine ⟨_, rfl, _, _, _, _, true, rfl, .own _, T_Ratio.ty h, T_Ratio.kS, _, rfl, iteT ?_⟩
      exact ⟨_, rfl, k a H hR (Same.refl H)⟩
/-- the rest -/
def qmod (p q : Rat) : Rat := p - ((p / q).floor : Rat) * q
def spMod (C : Addr) : Sp := spBin C (fun p q => q ≠ 0 ∧ Sq 1000 p ∧ Sq 1000 q) qmod
/-- int at the left, the reflected operator -/
theorem op_R {X : Cx} {CX : CXT} {k : Nat} {f f0 : Addr} {fd : FuncData} {ps : List Str} {sp : Sp} {E : XK} {op : Operator} {id : String} {Bi : Builtin} (B : BinF X.K C op) (F : FnOk X.prog X.w X.K X.mg X.base CX k f fd ps sp) (hr : Room k X.A)
    (hs : PySem.W.findIn X.K (.ref C) (dunderR op.info.2) = some (some (.ref f))) (hf : PySem.W.isFn X.K (.ref f) = true) (hs0 : PySem.W.findIn X.K (.ref C) (PySem.dunder op.info.2) = some (some (.ref f0))) (hsub : PySem.W.subIn X.K (.ref C) (.type "int") = some false)
    (hb : Binds X.K fd ps []) (hx : Passes CX X E) (fills : fillsNumberSlot (.type "int") op.info.2 = pure true) (slot : Slot "int" (PySem.dunder op.info.2) id) (entry : entryFor table id = some Bi) (args : ∀ a b, argsOk id ⟨[a, b], []⟩)
    (dec : ∀ (b : Int) (u : Tok) (l : Addr) (C dx : Addr), Meets (Bi ⟨[.int b u, .ref l], []⟩) (fun _ R s => s.heap.get? l = some (PySem.W.instObj C dx) ∧ R (.ok (.ret .notImplemented)) s)) : OpR X (binaryOp op) (Own.rReflB C sp E) :=
  Own.op_reflB F hr hs hf hs0 B.hc hsub hb hx fills slot entry args dec
theorem floor_sz {p q : Rat} (zp : Sq 1000 p) (zq : Sq 1000 q) (h : q ≠ 0) : (p / q).floor.natAbs < 2 ^ 2001 := by
  have h1 := (zp.div zq h).1
  rw [Rat.floor_def]
  have h2 := Int.natAbs_ediv_le_natAbs (p / q).num ((p / q).den : Int)
  exact Nat.lt_of_le_of_lt h2 (Nat.lt_of_lt_of_le h1 (Nat.pow_le_pow_right (by decide) (by decide)))
abbrev sMod : Stmt := inClass (top 17) 16
theorem scMod : FnScope ["self", "other"] ["self", "other"] (defScope sMod) := ⟨rfl, rfl, rfl, by decide +kernel, rfl, by decide +kernel, by decide +kernel⟩
theorem ok_mod {f p1 f1 f2 f3 p3 f4 f5 f6 : Addr} {fd fd1 fd2 fd3 fd4 fd5 fd6 : FuncData} (F : Fun K "__mod__" "Ratio.__mod__" sMod f fd) (T_Ratio : RatT K mg C) (S_Ratio_is_number : Sta P w K mg base 2 C "is_number" p1 f1 fd1 ["value"] (spIsNum K C)) (C__quotient : Cal P w K mg base 2 "_quotient" f2 fd2 ["one", "other"] (spQuo C))
    (S_Ratio_of : Sta P w K mg base 4 C "of" p3 f3 fd3 ["number"] (spOfQ C)) (BM : BinF K C .Mult) (BS : BinF K C .Sub) (O_mul : Opr P w K mg base 4 C "__mul__" f4 fd4 ["self", "other"] (spBin C GT fun p q => p * q)) (O_rmul : Opr P w K mg base 5 C "__rmul__" f5 fd5 ["self", "other"] (spBin C GT fun p q => p * q))
    (O_sub : Opr P w K mg base 4 C "__sub__" f6 fd6 ["self", "other"] (spBin C GT fun p q => p - q)) :
    FnOk P w K mg base CX0 6 f fd ["self", "other"] (spMod C) := by
  refine F.ok scMod (fun vs H Q E h => ?_) (fun cdv A outer s H vs Q E hr h => ?_)
  · obtain ⟨v, u, p, q, rfl, _⟩ := h
    rfl
  · obtain ⟨v, u, p, q, rfl, hp, hq, z, ⟨h0, yp, yq⟩, k⟩ := h
    have nd := scMod.nd
    refine ⟨_, pss_cons (ps_if (pt_not (pt_val (Own.pe_smeth T_Ratio.rd S_Ratio_is_number.s S_Ratio_is_number.F (hr.mono (by decide)) S_Ratio_is_number.b pass0 (Own.pe_gref (by rfl) T_Ratio.mgC) (pa_cons (pv 1) pa_nil)))) pss_never pss_nil)
      (pss_one (ps_ret (pe_op (op_B BS O_sub.F (hr.mono (by decide)) O_sub.at_ O_sub.fn O_sub.b pass0) (pv 0) (pe_op (op_R BM O_rmul.F (hr.mono (by decide)) O_rmul.at_ O_rmul.fn O_mul.at_ T_Ratio.sI O_rmul.b pass0 PySem.F.fills_int_mul PySem.F.slot_int_mul PySem.F.entry_int_mul PySem.F.args_int_mul_2 Own.int_mul_dec) (pe_call C__quotient.F (hr.mono (by decide)) (by rfl) C__quotient.mgf C__quotient.kp C__quotient.b .nil pass0 (pa_cons (pv 0) (pa_cons (pv 1) pa_nil))) (Own.pe_smeth T_Ratio.rd S_Ratio_of.s S_Ratio_of.F (hr.mono (by decide)) S_Ratio_of.b pass0 (Own.pe_gref (by rfl) T_Ratio.mgC) (pa_cons (pv 1) pa_nil)))))), ?_⟩
    obtain ⟨t, b, c, ty, hb, hc, hbc⟩ := hq.at_.info T_Ratio.toClT
    refine ⟨rfl, _, rfl, _, t, b, c, rfl, ty, hb, hc, _, rfl, iteNot hbc ?_⟩
    refine ⟨_, rfl, _, rfl, _, rfl, _, _, p, q, rfl, .rat hp, hq, z, h0, fun H1 s1 => ?_⟩
    refine ⟨rfl, _, rfl, _, q, rfl, hq.same s1, fun r H2 hr2 s2 => ?_⟩
    obtain ⟨dx, fs, h1⟩ := hr2.ins
    have zf : Sq 2001 ((p / q).floor : Rat) := Sq.int (floor_sz yp yq h0) (by decide)
    refine ⟨_, r, dx, fs, rfl, rfl, h1, r, _, q, _, rfl, hr2, .int _, ⟨z.2, zf.mono (by decide)⟩, True.intro, fun x H3 s3 hx => ?_⟩
    have hp3 := hp.same (s1.trans (s2.trans s3))
    obtain ⟨dv, gs, hv1⟩ := hp3.ins
    obtain ⟨dx2, fs2, hx2⟩ := hx.ins
    refine ⟨v, dv, gs, rfl, hv1, .inr ⟨x, dx2, fs2, rfl, hx2⟩, v, _, p, _, rfl, hp3, .rat hx, ⟨z.1, (yq.mul zf).mono (by decide)⟩, True.intro, fun y H4 s4 hy => ?_⟩
    refine k y H4 (s1.trans (s2.trans (s3.trans s4))) ?_
    unfold qmod
    rw [Rat.mul_comm _ q]
    exact hy
end
end Toy
set_option maxRecDepth 100000
set_option maxHeartbeats 4000000
set_option exponentiation.threshold 3000
namespace Toy
open PySem L2
open Rat (divInt)
/-! ### comparisons, read in rationals -/
theorem q_self {q : Rat} (h : (q.den : Int) = 1) : q = (q.num : Rat) := by
  apply Rat.ext
  · rw [Rat.num_intCast]
  · rw [Rat.den_intCast]
    omega
section
variable {P : Program} {w : World} {K : PySem.W.Frag} {mg : Str → Option Value} {base : Heap} {C : Addr} {H : Hp} {a : Addr} {u : V} {p q : Rat} {Q : VK} {E : XK} {g g1 g2 : Int → Bool} {r : Bool}
theorem cmpL (T : RatT K mg C) (hp : RatQ C H a p) (hq : NumQ C H u q) (zp : Sq 3900 p) (zq : Sq 3900 q) (e : g (p.num * q.den - q.num * p.den) = r) (k : ∀ H', Same H H' → Q (.bl r) H') : Own.rOwnC K C (spCmp C g) E (.ref a) u H Q := by
  obtain ⟨dx, h⟩ := id hp
  have ty : ∃ t, TyX K H u t ∧ PySem.W.notFirst K C t = true := by
    rcases hq.cases with ⟨i, rfl, _⟩ | ⟨b, rfl, hb⟩
    · exact ⟨_, .base (.int _), T.nI⟩
    · obtain ⟨dy, h2⟩ := hb
      exact ⟨_, T.ty h2, T.nC⟩
  obtain ⟨t, t1, t2⟩ := ty
  exact ⟨a, dx, _, t, rfl, h, t1, t2, _, _, _, _, _, _, rfl, (NumQ.rat hp).at_, hq.at_, ⟨(z4 zp).1, (z4 zp).2, (z4 zq).1, (z4 zq).2⟩, fun H' s => ⟨⟨_, rfl⟩, by rw [e]; exact k H' s⟩⟩
theorem cmpB (T : RatT K mg C) (hp : RatQ C H a p) (hq : NumQ C H u q) (zp : Sq 3900 p) (zq : Sq 3900 q) (e1 : g1 (q.num * p.den - p.num * q.den) = r) (e2 : g2 (p.num * q.den - q.num * p.den) = r) (k : ∀ H', Same H H' → Q (.bl r) H') :
    Own.rOwnC K C (spCmp C g1) E u (.ref a) H Q ∨ Own.rReflC C (spCmp C g2) E u (.ref a) H Q := by
  rcases hq.cases with ⟨i, rfl, rfl⟩ | ⟨b, rfl, hb⟩
  · obtain ⟨dx, h⟩ := id hp
    exact .inr ⟨i, a, dx, _, rfl, rfl, h, _, _, _, _, _, _, rfl, (NumQ.rat hp).at_, hq.at_, ⟨(z4 zp).1, (z4 zp).2, (z4 zq).1, (z4 zq).2⟩, fun H' s => ⟨⟨_, rfl⟩, by rw [e2]; exact k H' s⟩⟩
  · exact .inl (cmpL T hb (.rat hp) zq zp e1 k)
theorem eqLq {g : Bool → Bool} (hp : RatQ C H a p) (hq : NumQ C H u q) (k : ∀ H', Same H H' → Q (.bl (g (decide (p = q)))) H') : Own.rEqL C (spEqQ C) E g (.ref a) u H Q := by
  obtain ⟨dx, h⟩ := id hp
  exact ⟨a, dx, _, rfl, h, hq.ri, a, u, p, q, rfl, hp, hq, fun H' s => ⟨_, rfl, k H' s⟩⟩
theorem eqBq {g : Bool → Bool} (hp : RatQ C H a p) (hq : NumQ C H u q) (k : ∀ H', Same H H' → Q (.bl (g (decide (p = q)))) H') : Own.rEqL C (spEqQ C) E g u (.ref a) H Q ∨ Own.rEqR C (spEqQ C) E g u (.ref a) H Q := by
  rcases hq.cases with ⟨i, rfl, rfl⟩ | ⟨b, rfl, hb⟩
  · obtain ⟨dx, h⟩ := id hp
    exact .inr ⟨i, a, dx, _, rfl, rfl, h, a, _, p, _, rfl, hp, hq, fun H' s => ⟨_, rfl, k H' s⟩⟩
  · refine .inl (eqLq hb (.rat hp) fun H' s => ?_)
    rw [show decide (q = p) = decide (p = q) from decide_eq_decide.mpr eq_comm]
    exact k H' s
theorem mk_same {H1 H' : Hp} {x dx C : Addr} (hx : H1 x = none) (hdx : H1 dx = none) (hk : ∀ c o, (upd (upd H1 dx (.own x)) x (.ins C dx [])) c = some o → c ≠ x → H' c = some o) : Same H1 H' := fun c o e =>
  hk c o (by rw [upd_ne (ne_of_none e hx), upd_ne (ne_of_none e hdx)]; exact e) (ne_of_none e hx)
theorem asQ {x : Addr} {t b : Int} (hb : b ≠ 0) (e : divInt t b = q) (h : RatAt C H x (lowT t b) (lowB t b)) : RatQ C H x q := by
  rw [low_num hb, low_den hb, e] at h
  exact h
theorem dec_sub1 (x y : Int) : decide (x - y < 0) = decide (x < y) := decide_eq_decide.mpr (by omega)
theorem dec_sub2 (x y : Int) : decide (x - y ≤ 0) = decide (x ≤ y) := decide_eq_decide.mpr (by omega)
theorem dec_sub3 (x y : Int) : decide (0 < x - y) = decide (y < x) := decide_eq_decide.mpr (by omega)
theorem dec_sub4 (x y : Int) : decide (0 ≤ x - y) = decide (y ≤ x) := decide_eq_decide.mpr (by omega)
end
end Toy
set_option maxRecDepth 100000
set_option maxHeartbeats 4000000
set_option exponentiation.threshold 3000
namespace Toy
open PySem L2
open Rat (divInt)
theorem vdec (a b : Int) : decide (V.int a = V.int b) = decide (a = b) := by
  by_cases h : a = b
  · rw [decide_eq_true h, decide_eq_true (congrArg V.int h)]
  · rw [decide_eq_false h, decide_eq_false fun e => h (V.int.inj e)]
theorem iteTb {b : Bool} {A B : Prop} (h : b = true) (x : A) : if b = true then A else B := by
  subst h
  exact iteT x
theorem iteFb {b : Bool} {A B : Prop} (h : b = false) (x : B) : if b = true then A else B := by
  subst h
  exact iteF x
theorem cm {i j : Int} (h : i.natAbs ≤ 1000000000) : CMul i j := .inl ⟨by omega, by omega⟩
theorem cmr {i j : Int} (h : j.natAbs ≤ 1000000000) : CMul i j := .inr ⟨by omega, by omega⟩
theorem Sz.divW {i j : Int} (h0 : 0 < j) (z : Sz j) : CDivW i j := wide_div h0 z (by decide) (by decide)
theorem gcd_step {x y : Int} (hx : 0 ≤ x) (hy : 0 < y) : gcdI y (x % y) = gcdI x y := by
  obtain ⟨n, rfl⟩ := Int.eq_ofNat_of_zero_le hx
  obtain ⟨m, rfl⟩ := Int.eq_ofNat_of_zero_le (show 0 ≤ y by omega)
  unfold gcdI
  have e : ((n : Int) % (m : Int)) = ((n % m : Nat) : Int) := rfl
  rw [e, Int.natAbs_natCast, Int.natAbs_natCast, Int.natAbs_natCast, Nat.gcd_comm n m, Nat.gcd_rec m n, Nat.gcd_comm m]
theorem gcd_zero {x : Int} (hx : 0 ≤ x) : gcdI x 0 = x := by
  unfold gcdI
  show ((Nat.gcd x.natAbs 0 : Nat) : Int) = x
  rw [Nat.gcd_zero_right]
  omega
section
variable {P : Program} {w : World} {K : PySem.W.Frag} {mg : Str → Option Value} {base : Heap} {C : Addr}
def spPen (K : PySem.W.Frag) : Sp := fun vs H Q _ => ∃ (a : Addr) (ns : List Int), vs = [.ref a] ∧ SqL K H a (ns.map V.int) ∧ ns.length ≤ 63 ∧ ∀ p c H', Same H H' → H p = none → Pen H' p c 0 → Q (.ref p) H'
abbrev sPen : Stmt := top 51
theorem scPe : FnScope ["_law_script"] ["_law_script"] (defScope sPen) := ⟨rfl, rfl, rfl, by decide +kernel, rfl, by decide +kernel, by decide +kernel⟩
theorem cutV_ints (ns : List Int) (lo hi : Option Int) : ∃ ms : List Int, cutV (ns.map V.int) lo hi = ms.map V.int ∧ ms.length ≤ ns.length := by
  refine ⟨(ns.drop (HT.sIx (ns.map V.int).length 0 lo)).take (HT.sIx (ns.map V.int).length (ns.map V.int).length hi - HT.sIx (ns.map V.int).length 0 lo), ?_, ?_⟩
  · unfold cutV
    rw [← List.map_drop, ← List.map_take]
  · rw [List.length_take, List.length_drop]
    omega
theorem ok_pen {f : Addr} {fd : FuncData} (F : Fun K "_law_pen" "_law_pen" sPen f fd) (T : Bl mg) : FnOk P w K mg base CX0 1 f fd ["_law_script"] (spPen K) := by
  refine F.ok scPe (fun vs H Q E h => ?_) (fun cdv A outer s H vs Q E hr h => ?_)
  · obtain ⟨a, ns, rfl, _⟩ := h
    rfl
  · obtain ⟨a, ns, rfl, hS, hl, q⟩ := h
    have nd := scPe.nd
    refine ⟨_, pss_one (ps_ret (pe_lst (pa_cons (pe_callTy call_list_of (by rfl) T.list (by decide +kernel) (pa_cons (pe_slice sl_list (pv 0) po_none (po_some pe_int)) pa_nil)) (pa_cons pe_int (pa_cons pe_int pa_nil))))), ?_⟩
    obtain ⟨ms, e, hm⟩ := cutV_ints ns none (some 63)
    refine ⟨_, rfl, _, rfl, a, _, rfl, hS, fun c1 h1 => ⟨c1, _, rfl, .inl (SqL.of upd_same), fun c2 h2 => ⟨(by decide : 3 ≤ sizeLine), fun p hp => ?_⟩⟩⟩
    have s1 : Same H (upd H c1 (.lst (cutV (ns.map V.int) none (some 63)))) := same_new h1
    have s2 := s1.trans (same_new (o := .lst (cutV (ns.map V.int) none (some 63))) h2)
    have s3 := s2.trans (same_new (o := .lst [.ref c2, .int 0, .int 0]) hp)
    refine q p c2 _ s3 (s2.free hp) ⟨ms, 0, 0, ⟨upd_same, ?_, by omega, by decide⟩, by decide⟩
    have n2 : c2 ≠ p := by
      intro e2
      rw [← e2, upd_same] at hp
      cases hp
    rw [upd_ne n2, upd_same, e]
def spPick : Sp := fun vs H Q _ => ∃ p c s xs k, vs = [.ref p, .ref s] ∧ Pen H p c k ∧ k ≤ 1000000 ∧ H s = some (.lst xs) ∧ s ≠ p ∧ 0 < xs.length ∧ xs.length ≤ 1000 ∧ ∀ v H', v ∈ xs → Pen H' p c (k + 1) → But p H H' → Q v H'
abbrev sPick : Stmt := top 53
theorem scPk : FnScope ["_law_pen_here", "_law_some"] ["_law_pen_here", "_law_some"] (defScope sPick) := ⟨rfl, rfl, rfl, by decide +kernel, rfl, by decide +kernel, by decide +kernel⟩
theorem small_i {z : Int} (h : z.natAbs ≤ 1000000000) : z.natAbs < 2 ^ 2000 := Nat.lt_of_le_of_lt h (by decide +kernel)
theorem small_len {n : Nat} (h : n ≤ 1000000000) : (n : Int).natAbs < 2 ^ 2000 := Nat.lt_of_le_of_lt (show (n : Int).natAbs ≤ 1000000000 by omega) (by decide +kernel)
theorem ok_pick {f f1 : Addr} {fd fd1 : FuncData} (F : Fun K "_law_pick" "_law_pick" sPick f fd) (T : Bl mg) (C__law_draw : Cal P w K mg base 1 "_law_draw" f1 fd1 ["_law_pen_here", "_law_many"] spDraw) : FnOk P w K mg base CX0 2 f fd ["_law_pen_here", "_law_some"] spPick := by
  refine F.ok scPk (fun vs H Q E h => ?_) (fun cdv A outer s H vs Q E hr h => ?_)
  · obtain ⟨p, c, l, xs, k, rfl, _⟩ := h
    rfl
  · obtain ⟨p, c, l, xs, k, rfl, hP, hk, hl, hne, h0, h1, q⟩ := h
    have nd := scPk.nd
    refine ⟨_, pss_one (ps_ret (pe_ix ix_list (pv 1) (pe_call C__law_draw.F (hr.mono (by decide)) (by rfl) C__law_draw.mgf C__law_draw.kp C__law_draw.b .nil pass0 (pa_cons (pv 0) (pa_cons (pe_callB call_len (by rfl) T.len (by decide +kernel) (pa_cons (pv 1) pa_nil)) pa_nil))) (fun _ _ => rfl))), ?_⟩
    refine ⟨_, rfl, _, rfl, _, rfl, _, _, rfl, .inl ⟨_, SqL.of hl, rfl⟩, p, c, _, k, rfl, hP, hk, by omega, small_len (by omega), fun r H' r0 r1 hP' hB => ?_⟩
    exact ⟨l, xs, r, _, rfl, rfl, SqL.of (hB _ _ hl hne), atI_in r0 r1, q _ H' (List.getElem_mem _) hP' hB⟩

theorem Pen.ne_none {H : Hp} {p c a : Addr} {k : Nat} (h : Pen H p c k) (e : H a = none) : a ≠ p := by
  obtain ⟨_, _, _, W, _⟩ := h
  exact (ne_of_none W.hp e).symm
theorem Pen.ne_cell {H : Hp} {p c a : Addr} {k : Nat} (h : Pen H p c k) (e : H a = none) : a ≠ c := by
  obtain ⟨_, _, _, W, _⟩ := h
  exact (ne_of_none W.hc e).symm
theorem Pen.put {H : Hp} {p c a : Addr} {o : HO} {k : Nat} (h : Pen H p c k) (h1 : a ≠ p) (h2 : a ≠ c) : Pen (upd H a o) p c k := by
  obtain ⟨ns, b, l, W, hk⟩ := h
  exact ⟨ns, b, l, ⟨by rw [upd_ne h1.symm]; exact W.hp, by rw [upd_ne h2.symm]; exact W.hc, W.ln, W.b0⟩, hk⟩
theorem small_t {m : Int} (h0 : 0 < m) (h : m ≤ 10 ^ 38) : m.natAbs < 2 ^ 2000 := Nat.lt_of_le_of_lt (show m.natAbs ≤ 10 ^ 38 by omega) (by decide +kernel)
/-- a drawn integer -/
def spInteger : Sp := fun vs H Q _ => ∃ p c k, vs = [.ref p] ∧ Pen H p c k ∧ k ≤ 900000 ∧ ∀ z H', z.natAbs < 10 ^ 38 → Pen H' p c (k + 3) → But p H H' → Q (.int z) H'
/-- a drawn pair, the second not 0 -/
def spPair : Sp := fun vs H Q _ => ∃ p c k, vs = [.ref p] ∧ Pen H p c k ∧ k ≤ 800000 ∧ ∀ t b x H', t.natAbs < 10 ^ 38 → b.natAbs < 10 ^ 38 → b ≠ 0 → Pen H' p c (k + 6) → But p H H' → H' x = some (.tup [.int t, .int b]) → Q (.ref x) H'
/-- lowest terms -/
def spLowest : Sp := fun vs H Q _ => ∃ t b, vs = [.int t, .int b] ∧ b ≠ 0 ∧ Sz t ∧ Sz b ∧ ∀ c, H c = none → Q (.ref c) (upd H c (.tup [.int (divInt t b).num, .int ((divInt t b).den : Int)]))
theorem low_pos {t b : Int} (h : 0 < b) : (1 * t) / gcdI t b = (divInt t b).num ∧ (1 * b) / gcdI t b = ((divInt t b).den : Int) := by
  have hg := gcdI_pos (t := t) (b := b) (by omega)
  rw [← low_num (by omega), ← low_den (by omega), Int.one_mul, Int.one_mul]
  unfold lowT lowB lowD
  rw [if_pos h, Int.fdiv_eq_ediv_of_nonneg _ (by omega), Int.fdiv_eq_ediv_of_nonneg _ (by omega)]
  exact ⟨rfl, rfl⟩
theorem low_neg {t b : Int} (h : b < 0) : (-1 * t) / gcdI t b = (divInt t b).num ∧ (-1 * b) / gcdI t b = ((divInt t b).den : Int) := by
  have hg := gcdI_pos (t := t) (b := b) (by omega)
  rw [← low_num (by omega), ← low_den (by omega)]
  unfold lowT lowB lowD
  rw [if_neg (by omega), ← Int.fdiv_eq_ediv_of_nonneg _ (by omega), ← Int.fdiv_eq_ediv_of_nonneg _ (by omega), ← Int.neg_fdiv_neg t, ← Int.neg_fdiv_neg b, Int.neg_neg, Int.neg_one_mul, Int.neg_one_mul]
  exact ⟨rfl, rfl⟩
end
end Toy
/-! Trees of truths over the halves of pieces: joined, taken together, in their least form. -/
namespace Tre
structure Lf where
  m : Bool
  l : Bool
  r : Bool
  o : Bool
  b : Bool
deriving DecidableEq
inductive Tr where
  | leaf (f : Lf)
  | node (t : Bool) (x y : Tr)
deriving DecidableEq
def h1 (f : Lf) : Lf := ⟨f.l, f.l, f.o, f.o, f.b⟩
def h2 (f : Lf) : Lf := ⟨f.r, f.o, f.r, f.o, f.b⟩
/-- the leaf of which two leaves may be the halves -/
def up (t : Bool) (x y : Lf) : Lf := ⟨t, x.m, y.m, x.r, x.b⟩
def branch (t : Bool) : Tr → Tr → Tr
  | .leaf x, .leaf y => if h1 (up t x y) = x ∧ h2 (up t x y) = y then .leaf (up t x y) else .node t (.leaf x) (.leaf y)
  | x, y => .node t x y
def least : Tr → Tr
  | .leaf f => .leaf f
  | .node t x y => branch t (least x) (least y)
/-- two truths by a table -/
def map2 (T : Bool → Bool → Bool) (f g : Lf) : Lf := ⟨T f.m g.m, T f.l g.l, T f.r g.r, T f.o g.o, T f.b g.b⟩
section
variable (T : Bool → Bool → Bool)
def mergeL : Lf → Tr → Tr
  | f, .leaf g => .leaf (map2 T f g)
  | f, .node t x y => .node (T f.m t) (mergeL (h1 f) x) (mergeL (h2 f) y)
def merge : Tr → Tr → Tr
  | .leaf f, z => mergeL T f z
  | .node t x y, .leaf g => .node (T t g.m) (merge x (.leaf (h1 g))) (merge y (.leaf (h2 g)))
  | .node t x y, .node u v w => .node (T t u) (merge x v) (merge y w)
def combL : Lf → Tr → Tr
  | f, .leaf g => .leaf (map2 T f g)
  | f, .node t x y => branch (T f.m t) (combL (h1 f) x) (combL (h2 f) y)
def comb : Tr → Tr → Tr
  | .leaf f, z => combL T f z
  | .node t x y, .leaf g => branch (T t g.m) (comb x (.leaf (h1 g))) (comb y (.leaf (h2 g)))
  | .node t x y, .node u v w => branch (T t u) (comb x v) (comb y w)
end
variable {T : Bool → Bool → Bool}
theorem up_half (f : Lf) : up f.m (h1 f) (h2 f) = f := rfl
theorem branch_half (f : Lf) : branch f.m (.leaf (h1 f)) (.leaf (h2 f)) = .leaf f := by
  show (if h1 (up f.m (h1 f) (h2 f)) = h1 f ∧ h2 (up f.m (h1 f) (h2 f)) = h2 f then Tr.leaf (up f.m (h1 f) (h2 f)) else _) = _
  exact if_pos ⟨rfl, rfl⟩
theorem map2_h1 (f g : Lf) : map2 T (h1 f) (h1 g) = h1 (map2 T f g) := rfl
theorem map2_h2 (f g : Lf) : map2 T (h2 f) (h2 g) = h2 (map2 T f g) := rfl
theorem combL_least : ∀ (z : Tr) (f : Lf), combL T f z = least (mergeL T f z)
  | .leaf g, f => rfl
  | .node t x y, f => by
    show branch _ _ _ = branch _ (least _) (least _)
    rw [combL_least x, combL_least y]
theorem comb_least : ∀ a b : Tr, comb T a b = least (merge T a b)
  | .leaf f, z => combL_least z f
  | .node t x y, .leaf g => by
    show branch _ _ _ = branch _ (least _) (least _)
    rw [comb_least x, comb_least y]
  | .node t x y, .node u v w => by
    show branch _ _ _ = branch _ (least _) (least _)
    rw [comb_least x, comb_least y]
theorem branch_cases (t : Bool) (x y : Tr) : branch t x y = .node t x y ∨ ∃ f, t = f.m ∧ x = .leaf (h1 f) ∧ y = .leaf (h2 f) ∧ branch t x y = .leaf f := by
  cases x with
  | leaf x =>
    cases y with
    | leaf y =>
      by_cases e : h1 (up t x y) = x ∧ h2 (up t x y) = y
      · refine .inr ⟨up t x y, rfl, by rw [e.1], by rw [e.2], ?_⟩
        unfold branch
        exact if_pos e
      · left
        unfold branch
        exact if_neg e
    | node => exact .inl rfl
  | node => cases y <;> exact .inl rfl
theorem mergeL_leaf (f : Lf) (b : Tr) : mergeL T f b = merge T (.leaf f) b := rfl
theorem least_node (t : Bool) (x y : Tr) : least (.node t x y) = branch t (least x) (least y) := rfl
/-- the left one may be taken in its least form -/
theorem merge_left : ∀ a b : Tr, least (merge T (least a) b) = least (merge T a b)
  | .leaf f, b => rfl
  | .node t x y, b => by
    have hx := merge_left x
    have hy := merge_left y
    rw [least_node]
    rcases branch_cases t (least x) (least y) with e | ⟨f, rfl, ex, ey, e⟩
    · rw [e]
      cases b with
      | leaf g =>
        show branch _ (least (merge T (least x) _)) (least (merge T (least y) _)) = branch _ (least (merge T x _)) (least (merge T y _))
        rw [hx, hy]
      | node u v w =>
        show branch _ (least (merge T (least x) _)) (least (merge T (least y) _)) = branch _ (least (merge T x _)) (least (merge T y _))
        rw [hx, hy]
    · rw [e]
      cases b with
      | leaf g =>
        show Tr.leaf (map2 T f g) = branch _ (least (merge T x _)) (least (merge T y _))
        rw [← hx, ← hy, ex, ey]
        exact (branch_half (map2 T f g)).symm
      | node u v w =>
        show branch _ (least (merge T (.leaf (h1 f)) v)) (least (merge T (.leaf (h2 f)) w)) = branch _ (least (merge T x _)) (least (merge T y _))
        rw [← hx, ← hy, ex, ey]
theorem mergeL_swap : ∀ (z : Tr) (f : Lf), mergeL T f z = merge (fun x y => T y x) z (.leaf f)
  | .leaf g, f => rfl
  | .node t x y, f => by
    show Tr.node _ (mergeL T (h1 f) x) (mergeL T (h2 f) y) = Tr.node _ _ _
    rw [mergeL_swap x, mergeL_swap y]
theorem merge_swap : ∀ a b : Tr, merge T a b = merge (fun x y => T y x) b a
  | .leaf f, z => mergeL_swap z f
  | .node t x y, .leaf g => by
    show Tr.node _ (merge T x (.leaf (h1 g))) (merge T y (.leaf (h2 g))) = Tr.node _ (merge _ (.leaf (h1 g)) x) (merge _ (.leaf (h2 g)) y)
    rw [merge_swap x, merge_swap y]
  | .node t x y, .node u v w => by
    show Tr.node _ (merge T x v) (merge T y w) = Tr.node _ _ _
    rw [merge_swap x, merge_swap y]
theorem merge_right (a b : Tr) : least (merge T a (least b)) = least (merge T a b) := by
  rw [merge_swap, merge_swap a b]
  exact merge_left b a
/-- what the program makes of least forms is the least form of what is made part by part -/
theorem comb_of_least (a b : Tr) : comb T (least a) (least b) = least (merge T a b) := by
  rw [comb_least, merge_left, merge_right]
/-- a finer tree of the same truths -/
inductive Finer : Tr → Tr → Prop where
  | leaf (f : Lf) : Finer (.leaf f) (.leaf f)
  | split {f : Lf} {x y : Tr} (a : Finer (.leaf (h1 f)) x) (b : Finer (.leaf (h2 f)) y) : Finer (.leaf f) (.node f.m x y)
  | node {t : Bool} {x y x' y' : Tr} (a : Finer x x') (b : Finer y y') : Finer (.node t x y) (.node t x' y')
theorem Finer.least {x y : Tr} (h : Finer x y) : Tre.least y = Tre.least x := by
  induction h with
  | leaf => rfl
  | @split f x y a b ha hb =>
    rw [least_node, ha, hb]
    exact branch_half f
  | node a b ha hb => rw [least_node, ha, hb, least_node]
/-- all truths of one are truths of the other, part by part -/
inductive Le : Tr → Tr → Prop where
  | leaf {f g : Lf} (a : f.m = true → g.m = true) (b : f.l = true → g.l = true) (c : f.r = true → g.r = true) (d : f.o = true → g.o = true) (e : f.b = true → g.b = true) : Le (.leaf f) (.leaf g)
  | node {t u : Bool} {x y x' y' : Tr} (h : t = true → u = true) (a : Le x x') (b : Le y y') : Le (.node t x y) (.node u x' y')
def NoneL : Lf := ⟨false, false, false, false, false⟩
theorem half_none : h1 NoneL = NoneL ∧ h2 NoneL = NoneL := ⟨rfl, rfl⟩
theorem le_none {x y : Tr} (h : Le x y) : Tre.least (merge (fun a b => a && !b) x y) = .leaf NoneL := by
  have k : ∀ {p q : Bool}, (p = true → q = true) → (p && !q) = false := fun {p q} h => by cases p <;> cases q <;> simp_all
  induction h with
  | @leaf f g a b c d e =>
    show Tr.leaf ⟨f.m && !g.m, f.l && !g.l, f.r && !g.r, f.o && !g.o, f.b && !g.b⟩ = _
    rw [k a, k b, k c, k d, k e]
    rfl
  | @node t u x y x' y' h a b ha hb =>
    show branch (t && !u) (Tre.least (merge _ x x')) (Tre.least (merge _ y y')) = _
    rw [ha, hb, k h]
    exact branch_half NoneL
end Tre
set_option maxRecDepth 100000
set_option maxHeartbeats 4000000
namespace Toy
open PySem L2 Tre
/-! ### trees of truths -/
def lfV (f : Lf) : List V := [.bl f.m, .bl f.l, .bl f.r, .bl f.o, .bl f.b]
/-- the tree stands at v -/
def TrAt (K : PySem.W.Frag) (H : Hp) : Tr → V → Prop
  | .leaf f, v => ∃ a, v = .ref a ∧ SqT K H a (lfV f)
  | .node t x y, v => ∃ a u w, v = .ref a ∧ SqT K H a [.bl t, u, w] ∧ TrAt K H x u ∧ TrAt K H y w
theorem TrAt.same {K : PySem.W.Frag} {H H' : Hp} (e : Same H H') : ∀ {z : Tr} {v : V}, TrAt K H z v → TrAt K H' z v
  | .leaf f, v, ⟨a, e1, h⟩ => ⟨a, e1, h.ext e⟩
  | .node t x y, v, ⟨a, u, w, e1, h, hx, hy⟩ => ⟨a, u, w, e1, h.ext e, TrAt.same e hx, TrAt.same e hy⟩
def isN : Tr → Bool
  | .leaf _ => false
  | .node .. => true
def lfD (f : Lf) : PyData := .tuple [.bool f.m, .bool f.l, .bool f.r, .bool f.o, .bool f.b]
theorem lf_dp {K : PySem.W.Frag} {H : Hp} {f : Lf} {v : V} (h : TrAt K H (.leaf f) v) : Dp K H v (lfD f) := by
  obtain ⟨a, rfl, h⟩ := h
  exact .tup h (.cons (.bl _) (.cons (.bl _) (.cons (.bl _) (.cons (.bl _) (.cons (.bl _) .nil)))))
theorem bools5 : ∀ a b c d e a' b' c' d' e' : Bool, PyData.eqv (.tuple [.bool a, .bool b, .bool c, .bool d, .bool e]) (.tuple [.bool a', .bool b', .bool c', .bool d', .bool e']) = decide (Lf.mk a b c d e = Lf.mk a' b' c' d' e') := by decide +kernel
theorem eqv_lf (f g : Lf) : PyData.eqv (lfD f) (lfD g) = decide (f = g) := bools5 ..
theorem eqv_three (t : Bool) (f g f' g' : Lf) : PyData.eqv (.tuple [.bool t, lfD f, lfD g]) (.tuple [.bool t, lfD f', lfD g']) = decide (f = f' ∧ g = g') := by
  have e : PyData.eqv (.tuple [.bool t, lfD f, lfD g]) (.tuple [.bool t, lfD f', lfD g']) = (PyData.eqv (.bool t) (.bool t) && (PyData.eqv (lfD f) (lfD f') && PyData.eqv (lfD g) (lfD g'))) := by
    simp [PyData.eqv, PyData.eqvAll]
  have e0 : PyData.eqv (.bool t) (.bool t) = true := by cases t <;> rfl
  rw [e, e0, eqv_lf, eqv_lf, Bool.true_and, Bool.decide_and]
section
variable {P : Program} {w : World} {K : PySem.W.Frag} {mg : Str → Option Value} {base : Heap} {C : Addr}
def spIsB (K : PySem.W.Frag) : Sp := fun vs H Q _ => ∃ v z, vs = [v] ∧ TrAt K H z v ∧ Q (.bl (isN z)) H
abbrev sIsB : Stmt := top 26
theorem scIB : FnScope ["tree"] ["tree"] (defScope sIsB) := ⟨rfl, rfl, rfl, by decide +kernel, rfl, by decide +kernel, by decide +kernel⟩
theorem ok_isb {f : Addr} {fd : FuncData} (F : Fun K "is_branch" "is_branch" sIsB f fd) (T : Bl mg) : FnOk P w K mg base CX0 1 f fd ["tree"] (spIsB K) := by
  refine F.ok scIB (fun vs H Q E h => ?_) (fun cdv Ar outer s H vs Q E hr h => ?_)
  · obtain ⟨v, z, rfl, _⟩ := h
    rfl
  · obtain ⟨v, z, rfl, hz, q⟩ := h
    have nd := scIB.nd
    refine ⟨_, pss_one (ps_ret (pe_cmpR op_eq (pe_callB call_len (by rfl) T.len (by decide +kernel) (pa_cons (pv 0) pa_nil)) pe_int (nomark _))), ?_⟩
    cases z with
    | leaf f =>
      obtain ⟨a, rfl, h⟩ := hz
      refine ⟨_, rfl, _, _, rfl, .inr ⟨_, h, rfl⟩, rfl, ?_⟩
      rw [vdec]
      exact q
    | node t x y =>
      obtain ⟨a, u, w, rfl, h, hx, hy⟩ := hz
      refine ⟨_, rfl, _, _, rfl, .inr ⟨_, h, rfl⟩, rfl, ?_⟩
      rw [vdec]
      exact q
def spHalf (K : PySem.W.Frag) : Sp := fun vs H Q _ => ∃ v f, vs = [v] ∧ TrAt K H (.leaf f) v ∧ ∀ a x y H', Same H H' → H' a = some (.tup [.bl f.m, x, y]) → TrAt K H' (.leaf (h1 f)) x → TrAt K H' (.leaf (h2 f)) y → Q (.ref a) H'
abbrev sHalf : Stmt := top 40
theorem scHv : FnScope ["leaf", "middle", "left", "right", "other", "bare"] ["leaf"] (defScope sHalf) := ⟨rfl, rfl, rfl, by decide +kernel, rfl, by decide +kernel, by decide +kernel⟩
theorem ok_half {f : Addr} {fd : FuncData} (F : Fun K "halves_of" "halves_of" sHalf f fd) : FnOk P w K mg base CX0 1 f fd ["leaf"] (spHalf K) := by
  refine F.ok scHv (fun vs H Q E h => ?_) (fun cdv Ar outer s H vs Q E hr h => ?_)
  · obtain ⟨v, z, rfl, _⟩ := h
    rfl
  · obtain ⟨v, f, rfl, ⟨a, rfl, h⟩, q⟩ := h
    have nd := scHv.nd
    refine ⟨_, pss_cons (ps_asg (pv 0) (pg_tup (by rfl) (pgs_cons (pg_name (i := 1) nd rfl (Or.inl rfl)) (pgs_cons (pg_name (i := 2) nd rfl (Or.inl rfl)) (pgs_cons (pg_name (i := 3) nd rfl (Or.inl rfl)) (pgs_cons (pg_name (i := 4) nd rfl (Or.inl rfl)) (pgs_cons (pg_name (i := 5) nd rfl (Or.inl rfl)) pgs_nil)))))))
      (pss_one (ps_ret (pe_tup (pa_cons (pv 1) (pa_cons (pe_tup (pa_cons (pv 2) (pa_cons (pv 2) (pa_cons (pv 4) (pa_cons (pv 4) (pa_cons (pv 5) pa_nil)))))) (pa_cons (pe_tup (pa_cons (pv 3) (pa_cons (pv 4) (pa_cons (pv 3) (pa_cons (pv 4) (pa_cons (pv 5) pa_nil)))))) pa_nil)))))), ?_⟩
    refine ⟨_, rfl, _, _, rfl, h, rfl, _, _, rfl, _, _, rfl, _, _, rfl, _, _, rfl, _, _, rfl, rfl, ?_⟩
    refine ⟨_, rfl, _, rfl, _, rfl, _, rfl, _, rfl, _, rfl, (by decide : 5 ≤ sizeLine), fun a1 e1 => ?_⟩
    refine ⟨_, rfl, _, rfl, _, rfl, _, rfl, _, rfl, (by decide : 5 ≤ sizeLine), fun a2 e2 => ⟨(by decide : 3 ≤ sizeLine), fun a3 e3 => ?_⟩⟩
    have s1 := same_new (o := .tup (lfV (h1 f))) e1
    have s2 := same_new (o := .tup (lfV (h2 f))) e2
    have s3 := same_new (o := .tup [.bl f.m, .ref a1, .ref a2]) e3
    exact q a3 (.ref a1) (.ref a2) _ (s1.trans (s2.trans s3)) upd_same ⟨a1, rfl, SqT.of (s3 _ _ (s2 _ _ upd_same))⟩ ⟨a2, rfl, SqT.of (s3 _ _ upd_same)⟩
def spBr (K : PySem.W.Frag) : Sp := fun vs H Q _ => ∃ t x y u w, vs = [.bl t, u, w] ∧ TrAt K H x u ∧ TrAt K H y w ∧ ∀ v H', Same H H' → TrAt K H' (branch t x y) v → Q v H'
abbrev sBr : Stmt := top 39
theorem scBo : FnScope ["truth", "left", "right", "leaf"] ["truth", "left", "right"] (defScope sBr) := ⟨rfl, rfl, rfl, by decide +kernel, rfl, by decide +kernel, by decide +kernel⟩
theorem ok_br {f f1 f2 : Addr} {fd fd1 fd2 : FuncData} (F : Fun K "branch_of" "branch_of" sBr f fd) (C_is_branch : Cal P w K mg base 1 "is_branch" f1 fd1 ["tree"] (spIsB K)) (C_halves_of : Cal P w K mg base 1 "halves_of" f2 fd2 ["leaf"] (spHalf K)) : FnOk P w K mg base CX0 2 f fd ["truth", "left", "right"] (spBr K) := by
  refine F.ok scBo (fun vs H Q E h => ?_) (fun cdv Ar outer s H vs Q E hr h => ?_)
  · obtain ⟨t, x, y, u, w, rfl, _⟩ := h
    rfl
  · obtain ⟨t, x, y, u, w, rfl, hx, hy, q⟩ := h
    have nd := scBo.nd
    refine ⟨_, C8.pss_cut (ps_if (PW.pt (pw_and (pt_not (pt_val (pe_call C_is_branch.F (hr.mono (by decide)) (by rfl) C_is_branch.mgf C_is_branch.kp C_is_branch.b .nil pass0 (pa_cons (pv 1) pa_nil)))) (pw_and1 (pt_not (pt_val (pe_call C_is_branch.F (hr.mono (by decide)) (by rfl) C_is_branch.mgf C_is_branch.kp C_is_branch.b .nil pass0 (pa_cons (pv 2) pa_nil))))))) (pss_cons (ps_set (i := 3) nd rfl (Or.inl rfl) (pe_tup (pa_cons (pv 0) (pa_cons (pe_ix ix_tup (pv 1) pe_int (fun _ _ => rfl)) (pa_cons (pe_ix ix_tup (pv 2) pe_int (fun _ _ => rfl)) (pa_cons (pe_ix ix_tup (pv 1) pe_int (fun _ _ => rfl)) (pa_cons (pe_ix ix_tup (pv 1) pe_int (fun _ _ => rfl)) pa_nil)))))))
      (pss_one (ps_if (pt_cmpR (op_eqD hr.units) (pe_call C_halves_of.F (hr.mono (by decide)) (by rfl) C_halves_of.mgf C_halves_of.kp C_halves_of.b .nil pass0 (pa_cons (pv 3) pa_nil)) (pe_tup (pa_cons (pv 0) (pa_cons (pv 1) (pa_cons (pv 2) pa_nil)))) (nomark _)) (pss_one (ps_ret (pv 3))) pss_nil))) pss_nil)
      (pss_one (ps_ret (pe_tup (pa_cons (pv 0) (pa_cons (pv 1) (pa_cons (pv 2) pa_nil)))))), ?_⟩
    have fin : branch t x y = .node t x y → ∀ H1, Same H H1 → ∀ p, H1 p = none → Q (.ref p) (upd H1 p (.tup [.bl t, u, w])) := fun e H1 s1 p hp => by
      have s2 := s1.trans (same_new (o := .tup [.bl t, u, w]) hp)
      refine q _ _ s2 ?_
      rw [e]
      exact ⟨p, u, w, rfl, SqT.of upd_same, hx.same s2, hy.same s2⟩
    refine ⟨fun σ H' => ∃ v3, σ = [some (.bl t), some u, some w, v3] ∧ Same H H' ∧ branch t x y = .node t x y, ?_, ?_⟩
    · cases x with
      | node t' x1 x2 =>
        refine ⟨_, rfl, u, _, rfl, hx, _, rfl, iteFb rfl ?_⟩
        exact ⟨_, rfl, Same.refl _, by cases y <;> rfl⟩
      | leaf fx =>
        refine ⟨_, rfl, u, _, rfl, hx, _, rfl, iteTb rfl ?_⟩
        cases y with
        | node t' y1 y2 =>
          refine ⟨_, rfl, w, _, rfl, hy, _, rfl, iteFb rfl ?_⟩
          exact ⟨_, rfl, Same.refl _, rfl⟩
        | leaf fy =>
          refine ⟨_, rfl, w, _, rfl, hy, _, rfl, iteTb rfl ?_⟩
          obtain ⟨a, rfl, ha⟩ := id hx
          obtain ⟨b, rfl, hb⟩ := id hy
          refine ⟨_, rfl, _, rfl, a, _, _, _, rfl, rfl, ha, rfl, _, rfl, b, _, _, _, rfl, rfl, hb, rfl, _, rfl, a, _, _, _, rfl, rfl, ha, rfl, _, rfl, a, _, _, _, rfl, rfl, ha, rfl, (by decide : 5 ≤ sizeLine), fun p hp => ?_⟩
          have s1 := same_new (o := .tup (lfV (up t fx fy))) hp
          have hL : TrAt K (upd H p (.tup (lfV (up t fx fy)))) (.leaf (up t fx fy)) (.ref p) := ⟨p, rfl, SqT.of upd_same⟩
          refine ⟨_, rfl, _, up t fx fy, rfl, hL, fun p3 u3 w3 H3 s3 h3 hu3 hw3 => ?_⟩
          refine ⟨_, rfl, _, rfl, _, rfl, (by decide : 3 ≤ sizeLine), fun p4 hp4 => ?_⟩
          have s4 := same_new (o := .tup [.bl t, .ref a, .ref b]) hp4
          have s14 := (s1.trans s3).trans s4
          refine ⟨_, _, .tup (SqT.of (s4 _ _ h3)) (.cons (.bl _) (.cons (lf_dp (hu3.same s4)) (.cons (lf_dp (hw3.same s4)) .nil))), .tup (SqT.of upd_same) (.cons (.bl _) (.cons (lf_dp (hx.same s14)) (.cons (lf_dp (hy.same s14)) .nil))), rfl, rfl, ?_⟩
          rw [show (up t fx fy).m = t from rfl, eqv_three]
          refine ⟨_, rfl, ?_⟩
          by_cases e : h1 (up t fx fy) = fx ∧ h2 (up t fx fy) = fy
          · refine iteTb (decide_eq_true e) ?_
            refine ⟨_, rfl, ?_⟩
            refine q _ _ s14 ?_
            have eb : branch t (.leaf fx) (.leaf fy) = .leaf (up t fx fy) := if_pos e
            rw [eb]
            exact hL.same (s3.trans s4)
          · refine iteFb (decide_eq_false e) ?_
            exact ⟨_, rfl, s14, if_neg e⟩
    · rintro σ H1 ⟨v3, rfl, s1, e⟩
      refine ⟨_, rfl, _, rfl, _, rfl, (by decide : 3 ≤ sizeLine), fun p hp => ?_⟩
      exact fin e H1 s1 p hp
end
end Toy
set_option maxRecDepth 100000
set_option maxHeartbeats 4000000
namespace Toy
open PySem L2 Tre
def deep : Tr → Nat
  | .leaf _ => 0
  | .node _ x y => max (deep x) (deep y) + 1
def leafs : Tr → Nat
  | .leaf _ => 1
  | .node _ x y => leafs x + leafs y
theorem leafs_pos : ∀ z : Tr, 0 < leafs z
  | .leaf _ => Nat.one_pos
  | .node _ x y => by have := leafs_pos x; show 0 < leafs x + leafs y; omega
/-- what waits: where its pair stands, its level, the tree, where that stands -/
structure Wt where
  a : Addr
  k : Nat
  v : V
  z : Tr
def lefs : List Wt → Nat
  | [] => 0
  | e :: r => leafs e.z + lefs r
def hig (m : Nat) : List Wt → Nat
  | [] => m
  | e :: r => hig (max m (e.k + deep e.z)) r
theorem lefs_ge : ∀ st : List Wt, st.length ≤ lefs st
  | [] => Nat.le_refl 0
  | e :: r => by
    have h1 := lefs_ge r
    have h2 := leafs_pos e.z
    show r.length + 1 ≤ leafs e.z + lefs r
    omega
theorem lastx {xs : List V} {y : V} : (xs ++ [y])[(xs ++ [y]).length - 1]? = some y := by simp
theorem hig_max (m n : Nat) : ∀ st : List Wt, hig (max m n) st = max m (hig n st)
  | [] => rfl
  | e :: r => by
    show hig (max (max m n) _) r = max m (hig (max n _) r)
    rw [Nat.max_assoc, hig_max m]
section
variable {P : Program} {w : World} {K : PySem.W.Frag} {mg : Str → Option Value} {base : Heap} {C : Addr}
def spSiz (K : PySem.W.Frag) : Sp := fun vs H Q _ => ∃ v z, vs = [v] ∧ TrAt K H z v ∧ leafs z ≤ 100000 ∧ deep z ≤ 100000 ∧ ∀ p H', Same H H' → H' p = some (.tup [.int (deep z : Nat), .int (leafs z : Nat)]) → Q (.ref p) H'
/-- what waits, behind m turns at most -/
def SzInv (K : PySem.W.Frag) (H : Hp) (v : V) (l : Addr) (z : Tr) (m : Nat) (σ : St) (H' : Hp) : Prop :=
  ∃ (lv lf : Nat) (v4 v5 : Option V) (st : List Wt), σ = [some v, some (.int lv), some (.int lf), some (.ref l), v4, v5] ∧ H' l = some (.lst (st.reverse.map fun e => .ref e.a)) ∧ Same H H' ∧ (∀ e ∈ st, H' e.a = some (.tup [.int e.k, e.v]) ∧ TrAt K H e.z e.v) ∧ lf + lefs st = leafs z ∧ hig lv st = deep z ∧ m + st.length = 2 * lefs st
abbrev sSiz : Stmt := top 29
theorem scSz : FnScope ["tree", "levels", "leaves", "waiting", "level", "node"] ["tree"] (defScope sSiz) := ⟨rfl, rfl, rfl, by decide +kernel, rfl, by decide +kernel, by decide +kernel⟩
theorem ok_siz {f f1 : Addr} {fd fd1 : FuncData} (F : Fun K "sizes_of" "sizes_of" sSiz f fd) (C_is_branch : Cal P w K mg base 1 "is_branch" f1 fd1 ["tree"] (spIsB K)) : FnOk P w K mg base CX0 2 f fd ["tree"] (spSiz K) := by
  refine F.ok scSz (fun vs H Q E h => ?_) (fun cdv Ar outer s H vs Q E hr h => ?_)
  · obtain ⟨v, z, rfl, _⟩ := h
    rfl
  · obtain ⟨v, z, rfl, hz, lz, dz, q⟩ := h
    have nd := scSz.nd
    refine ⟨_, pss_cons (ps_asg (pe_tup (pa_cons pe_int (pa_cons pe_int pa_nil))) (pg_tup (by rfl) (pgs_cons (pg_name (i := 1) nd rfl (Or.inl rfl)) (pgs_cons (pg_name (i := 2) nd rfl (Or.inl rfl)) pgs_nil))))
      (pss_cons (ps_set (i := 3) nd rfl (Or.inl rfl) (pe_lst (pa_cons (pe_tup (pa_cons pe_int (pa_cons (pv 0) pa_nil))) pa_nil)))
      (pss_cons (ps_while PassesOwn.never (pt_truth (pv 3) (fun _ => rfl)) (pss_cons (ps_asg (pe_bm0 PySem.F.plainAttrs_list PySem.F.slot_list_pop PySem.F.type_list_pop mt_pop (pv 3)) (pg_tup (by rfl) (pgs_cons (pg_name (i := 4) nd rfl (Or.inl rfl)) (pgs_cons (pg_name (i := 5) nd rfl (Or.inl rfl)) pgs_nil))))
      (pss_one (ps_if (pt_val (pe_call C_is_branch.F (hr.mono (by decide)) (by rfl) C_is_branch.mgf C_is_branch.kp C_is_branch.b .nil pass0 (pa_cons (pv 5) pa_nil))) (pss_cons (ps_expr (pe_bm PySem.F.plainAttrs_list PySem.F.slot_list_append PySem.F.type_list_append mt_append (pv 3) (pa_cons (pe_tup (pa_cons (pe_op op_add (pv 4) pe_int) (pa_cons (pe_ix ix_tup (pv 5) pe_int (fun _ _ => rfl)) pa_nil))) pa_nil)))
      (pss_one (ps_expr (pe_bm PySem.F.plainAttrs_list PySem.F.slot_list_append PySem.F.type_list_append mt_append (pv 3) (pa_cons (pe_tup (pa_cons (pe_op op_add (pv 4) pe_int) (pa_cons (pe_ix ix_tup (pv 5) pe_int (fun _ _ => rfl)) pa_nil))) pa_nil))))) (pss_cons (ps_set (i := 2) nd rfl (Or.inl rfl) (pe_op op_add (pv 2) pe_int))
      (pss_one (ps_set (i := 1) nd rfl (Or.inl rfl) (pe_ifExp (pt_cmpR op_gt (pv 4) (pv 1) (nomark _)) (pv 4) (pv 1)))))))))
      (pss_one (ps_ret (pe_tup (pa_cons (pv 1) (pa_cons (pv 2) pa_nil))))))), ?_⟩
    refine ⟨(by decide : 2 ≤ sizeLine), fun e0 he0 => ⟨_, _, rfl, SqT.of upd_same, rfl, _, _, rfl, _, _, rfl, rfl, ?_⟩⟩
    have s0 := same_new (o := .tup [.int 0, .int 0]) he0
    refine ⟨_, rfl, (by decide : 2 ≤ sizeLine), fun e1 he1 => ⟨(by decide : 1 ≤ sizeLine), fun l hl => ?_⟩⟩
    have s1 := same_new (o := .tup [.int 0, v]) he1
    have s2 := same_new (o := .lst [.ref e1]) hl
    have s02 := s0.trans (s1.trans s2)
    have hl0 : H l = none := (s0.trans s1).free hl
    refine ⟨SzInv K H v l z, ⟨2 * leafs z - 1, 0, 0, none, none, [⟨e1, 0, v, z⟩], rfl, upd_same, s02, fun e he => ?_, ?_, ?_, ?_⟩, ?_⟩
    · rw [List.mem_singleton.mp he]
      exact ⟨s2 _ _ upd_same, hz⟩
    · show 0 + (leafs z + 0) = _
      omega
    · show max 0 (0 + deep z) = _
      omega
    · show 2 * leafs z - 1 + 1 = 2 * (leafs z + 0)
      have := leafs_pos z
      omega
    · rintro m σ H1 ⟨lv, lf, v4, v5, st, rfl, hl1, sH, hst, hsum, htop, hm⟩
      refine ⟨_, rfl, _, .inl ⟨_, SqL.of hl1, rfl⟩, ?_⟩
      cases st with
      | nil =>
        refine iteF ?_
        refine ⟨_, rfl, _, rfl, (by decide : 2 ≤ sizeLine), fun p hp => ?_⟩
        have e1 : lf = leafs z := by have h : lf + 0 = leafs z := hsum; omega
        have e2 : lv = deep z := htop
        rw [e1, e2]
        exact q p _ (sH.trans (same_new hp)) upd_same
      | cons e r =>
        refine iteTb (by rw [List.reverse_cons, List.map_append]; cases (List.map (fun e : Wt => V.ref e.a) r.reverse) <;> rfl) ?_
        refine ⟨fun σ' H' => ∃ m', m' < m ∧ SzInv K H v l z m' σ' H', fun _ _ h => h, ?_⟩
        obtain ⟨ha, hz'⟩ := hst e (List.mem_cons_self ..)
        have hl2 : H1 l = some (.lst ((r.reverse.map fun e => V.ref e.a) ++ [.ref e.a])) := by
          rw [hl1, List.reverse_cons, List.map_append]
          rfl
        have na : e.a ≠ l := fun x => by rw [x, hl2] at ha; cases ha
        have sU : ∀ (xs : List V), Same H (upd H1 l (.lst xs)) := fun xs b o h => by
          rw [upd_ne (ne_of_none h hl0)]
          exact sH _ _ h
        have hr : ∀ xs, ∀ e' ∈ r, (upd H1 l (.lst xs)) e'.a = some (.tup [.int e'.k, e'.v]) ∧ TrAt K H e'.z e'.v := fun xs e' he' => by
          obtain ⟨h1, h2⟩ := hst e' (List.mem_cons_of_mem _ he')
          refine ⟨?_, h2⟩
          rw [upd_ne fun x => by rw [x, hl2] at h1; cases h1]
          exact h1
        have lenr : r.length ≤ 200000 := by
          have h1 : (e :: r).length = r.length + 1 := rfl
          omega
        refine ⟨_, rfl, .inl ⟨rfl, _, SqL.of hl2⟩, l, _, _, rfl, rfl, hl2, lastx, ?_⟩
        rw [List.dropLast_concat]
        have h2 := upd_same (H := H1) (a := l) (o := .lst (r.reverse.map fun e => V.ref e.a))
        have hr2 := hr (r.reverse.map fun e => V.ref e.a)
        have sH2 := sU (r.reverse.map fun e => V.ref e.a)
        have ha2 : (upd H1 l (.lst (r.reverse.map fun e => V.ref e.a))) e.a = some (.tup [.int e.k, e.v]) := by rw [upd_ne na]; exact ha
        generalize upd H1 l (.lst (r.reverse.map fun e => V.ref e.a)) = H2 at *
        refine ⟨_, _, rfl, SqT.of ha2, rfl, _, _, rfl, _, _, rfl, rfl, ?_⟩
        refine ⟨_, rfl, e.v, e.z, rfl, hz'.same sH2, _, rfl, ?_⟩
        have lg := lefs_ge r
        obtain ⟨ea, ek, ev, ez⟩ := e
        cases ez with
        | leaf f =>
          refine iteFb rfl ?_
          refine ⟨_, rfl, _, _, rfl, rfl, ?_⟩
          have hm' : m + (r.length + 1) = 2 * (1 + lefs r) := hm
          have hs' : lf + (1 + lefs r) = leafs z := hsum
          have ht' : hig (max lv (ek + 0)) r = deep z := htop
          refine ⟨_, rfl, _, rfl, _, _, rfl, rfl, _, rfl, ?_⟩
          refine ite2 (fun hp => ?_) (fun hp => ?_)
          · have hp1 : (lv : Int) < (ek : Int) := of_decide_eq_true hp
            refine ⟨_, rfl, m - 1, by omega, ek, lf + 1, _, _, r, rfl, h2, sH2, hr2, by omega, ?_, by omega⟩
            rw [show ek = max lv (ek + 0) by omega]
            exact ht'
          · have hp1 : ¬ (lv : Int) < (ek : Int) := fun e => hp (decide_eq_true e)
            refine ⟨_, rfl, m - 1, by omega, lv, lf + 1, _, _, r, rfl, h2, sH2, hr2, by omega, ?_, by omega⟩
            rw [show lv = max lv (ek + 0) by omega]
            exact ht'
        | node t x y =>
          refine iteTb rfl ?_
          obtain ⟨b, u, w', rfl, hb, hx, hy⟩ := hz'
          have hb2 := hb.ext sH2
          refine ⟨_, rfl, .inl ⟨rfl, _, SqL.of h2⟩, _, rfl, _, _, rfl, rfl, _, rfl, b, _, _, _, rfl, rfl, hb2, rfl, (by decide : 2 ≤ sizeLine), fun p1 hp1 => ?_⟩
          have s3 := same_new (o := .tup [.int (ek + 1), u]) hp1
          refine ⟨l, _, _, rfl, rfl, s3 _ _ h2, by rw [List.length_map, List.length_reverse]; exact Nat.lt_of_le_of_lt lenr (by decide +kernel), ?_⟩
          have h5 := upd_same (H := upd H2 p1 (.tup [.int (ek + 1), u])) (a := l) (o := .lst ((r.reverse.map fun e => V.ref e.a) ++ [.ref p1]))
          have n1 : p1 ≠ l := fun x => by rw [x, h2] at hp1; cases hp1
          have nr : ∀ e' ∈ r, e'.a ≠ l ∧ e'.a ≠ p1 := fun e' he' => by
            have h := (hr2 e' he').1
            exact ⟨fun x => (by rw [x, h2] at h; cases h), fun x => (by rw [x, hp1] at h; cases h)⟩
          have r5 : ∀ e' ∈ r, (upd (upd H2 p1 (.tup [.int (ek + 1), u])) l (.lst ((r.reverse.map fun e => V.ref e.a) ++ [.ref p1]))) e'.a = some (.tup [.int e'.k, e'.v]) := fun e' he' => by
            rw [upd_ne (nr e' he').1, upd_ne (nr e' he').2]
            exact (hr2 e' he').1
          have g5 : (upd (upd H2 p1 (.tup [.int (ek + 1), u])) l (.lst ((r.reverse.map fun e => V.ref e.a) ++ [.ref p1]))) p1 = some (.tup [.int (ek + 1), u]) := by
            rw [upd_ne n1]
            exact upd_same
          have sH5 : Same H (upd (upd H2 p1 (.tup [.int (ek + 1), u])) l (.lst ((r.reverse.map fun e => V.ref e.a) ++ [.ref p1]))) := fun c o h => by
            rw [upd_ne (ne_of_none h hl0)]
            exact s3 _ _ (sH2 _ _ h)
          generalize upd (upd H2 p1 (.tup [.int (ek + 1), u])) l (.lst ((r.reverse.map fun e => V.ref e.a) ++ [.ref p1])) = H5 at *
          have hb5 := hb.ext sH5
          refine ⟨_, rfl, .inl ⟨rfl, _, SqL.of h5⟩, _, rfl, _, _, rfl, rfl, _, rfl, b, _, _, _, rfl, rfl, hb5, rfl, (by decide : 2 ≤ sizeLine), fun p2 hp2 => ?_⟩
          have s6 := same_new (o := .tup [.int (ek + 1), w']) hp2
          refine ⟨l, _, _, rfl, rfl, s6 _ _ h5, by rw [List.length_append, List.length_map, List.length_reverse]; exact Nat.lt_of_le_of_lt (Nat.add_le_add_right lenr 1) (by decide +kernel), ?_⟩
          have n2 : p2 ≠ l := fun x => by rw [x, h5] at hp2; cases hp2
          have hm' : m + (r.length + 1) = 2 * (leafs x + leafs y + lefs r) := hm
          have hs' : lf + (leafs x + leafs y + lefs r) = leafs z := hsum
          have px := leafs_pos x
          have py := leafs_pos y
          have ht' : hig (max lv (ek + (max (deep x) (deep y) + 1))) r = deep z := htop
          refine ⟨m - 1, by omega, lv, lf, _, _, ⟨p2, ek + 1, w', y⟩ :: ⟨p1, ek + 1, u, x⟩ :: r, rfl, ?_, fun c o h => ?_, fun e' he' => ?_, ?_, ?_, ?_⟩
          · rw [upd_same, List.reverse_cons, List.reverse_cons, List.map_append, List.map_append]
            rfl
          · rw [upd_ne (ne_of_none h hl0)]
            exact s6 _ _ (sH5 _ _ h)
          · rcases List.mem_cons.mp he' with rfl | he'
            · refine ⟨?_, hy⟩
              rw [upd_ne n2]
              exact upd_same
            rcases List.mem_cons.mp he' with rfl | he'
            · refine ⟨?_, hx⟩
              rw [upd_ne n1]
              exact s6 _ _ g5
            · refine ⟨?_, (hr2 e' he').2⟩
              rw [upd_ne (nr e' he').1]
              exact s6 _ _ (r5 e' he')
          · show lf + (leafs y + (leafs x + lefs r)) = _
            omega
          · show hig (max (max lv (ek + 1 + deep y)) (ek + 1 + deep x)) r = _
            rw [show max (max lv (ek + 1 + deep y)) (ek + 1 + deep x) = max lv (ek + (max (deep x) (deep y) + 1)) by omega]
            exact ht'
          · show m - 1 + (r.length + 2) = 2 * (leafs y + (leafs x + lefs r))
            omega
end
end Toy
set_option maxRecDepth 100000
set_option maxHeartbeats 4000000
namespace Toy
open PySem PySem.Spec PyProof.Rows L2 Tre
theorem ix_tupK {X : Cx} {K : PySem.W.Frag} (e : X.K = K) : IxR X (rIxT K) := by
  subst e
  exact ix_tup
theorem op_mulIB {X : Cx} : OpR X (binaryOp .Mult) (fun x y H Q => ∃ i k, x = .int i ∧ y = .bl k ∧ Q (.int (i * if k = true then 1 else 0)) H) := by
  intro pins s σ H x y v u Q I rx ry h
  obtain ⟨i, k, rfl, rfl, q⟩ := h
  obtain ⟨t, rfl⟩ := rx
  cases ry
  exact IntBool.mul_int_bool ⟨.int _, H, I.tok _, ⟨_, rfl⟩, q⟩
theorem op_addIB {X : Cx} : OpR X (binaryOp .Add) (fun x y H Q => ∃ i k, x = .int i ∧ y = .bl k ∧ Q (.int (i + if k = true then 1 else 0)) H) := by
  intro pins s σ H x y v u Q I rx ry h
  obtain ⟨i, k, rfl, rfl, q⟩ := h
  obtain ⟨t, rfl⟩ := rx
  cases ry
  exact add_int_bool ⟨.int _, H, I.tok _, ⟨_, rfl⟩, q⟩
section
variable {P : Program} {w : World} {K : PySem.W.Frag} {mg : Str → Option Value} {base : Heap} {C : Addr}
/-- a table of truths -/
def TabAt (K : PySem.W.Frag) (H : Hp) (T : Bool → Bool → Bool) (v : V) : Prop := ∃ a, v = .ref a ∧ SqT K H a [.bl (T false false), .bl (T false true), .bl (T true false), .bl (T true true)]
theorem TabAt.same {H H' : Hp} {T : Bool → Bool → Bool} {v : V} (h : TabAt K H T v) (e : Same H H') : TabAt K H' T v := let ⟨a, e1, h⟩ := h; ⟨a, e1, h.ext e⟩
theorem tab_at {T : Bool → Bool → Bool} (x y : Bool) : atI [V.bl (T false false), .bl (T false true), .bl (T true false), .bl (T true true)] (2 * (if x = true then (1 : Int) else 0) + if y = true then 1 else 0) = some (.bl (T x y)) := by
  cases x <;> cases y <;> rfl
/-- two trees taken together, of so many levels at most -/
def spComb (K : PySem.W.Frag) (d : Nat) : Sp := fun vs H Q _ => ∃ T x y u w' tb, vs = [u, w', tb] ∧ TrAt K H x u ∧ TrAt K H y w' ∧ TabAt K H T tb ∧ deep x ≤ d ∧ deep y ≤ d ∧ ∀ v H', Same H H' → TrAt K H' (comb T x y) v → Q v H'
abbrev sComb : Stmt := top 41
theorem scCb : FnScope ["one", "other", "table", "truth", "left", "right", "other_truth", "other_left", "other_right", "a", "b"] ["one", "other", "table"] (defScope sComb) := ⟨rfl, rfl, rfl, by decide +kernel, rfl, by decide +kernel, by decide +kernel⟩
theorem ok_comb {f f1 f2 f3 : Addr} {fd fd1 fd2 fd3 : FuncData} (F : Fun K "combined" "combined" sComb f fd) (mgf : mg "combined" = some (.ref f)) (b : Binds K fd ["one", "other", "table"] []) (zz : mg "zip" = none) (zt : mg "tuple" = none)
    (C_is_branch : Cal P w K mg base 1 "is_branch" f1 fd1 ["tree"] (spIsB K)) (C_halves_of : Cal P w K mg base 1 "halves_of" f2 fd2 ["leaf"] (spHalf K)) (C_branch_of : Cal P w K mg base 2 "branch_of" f3 fd3 ["truth", "left", "right"] (spBr K)) : ∀ d, FnOk P w K mg base CX0 (3 + d) f fd ["one", "other", "table"] (spComb K d) := by
  intro d
  induction d with
  | zero =>
    refine F.ok scCb (fun vs H Q E h => ?_) (fun cdv Ar outer s H vs Q E hr h => ?_)
    · obtain ⟨T, x, y, u, w', tb, rfl, _⟩ := h
      rfl
    · obtain ⟨T, x, y, u, w', tb, rfl, hx, hy, ht, dx, dy, q⟩ := h
      have nd := scCb.nd
      obtain ⟨fx, rfl⟩ : ∃ f, x = .leaf f := by
        cases x with
        | leaf f => exact ⟨f, rfl⟩
        | node t x1 x2 => exact absurd dx (Nat.not_succ_le_zero _)
      obtain ⟨fy, rfl⟩ : ∃ f, y = .leaf f := by
        cases y with
        | leaf f => exact ⟨f, rfl⟩
        | node t x1 x2 => exact absurd dy (Nat.not_succ_le_zero _)
      refine ⟨_, pss_cons (ps_if (PW.pt (pw_and (pt_not (pt_val (pe_call C_is_branch.F (hr.mono (by first | decide | omega | (simp only [Nat.add_eq]; omega))) (by rfl) C_is_branch.mgf C_is_branch.kp C_is_branch.b .nil pass0 (pa_cons (pv 0) pa_nil)))) (pw_and1 (pt_not (pt_val (pe_call C_is_branch.F (hr.mono (by first | decide | omega | (simp only [Nat.add_eq]; omega))) (by rfl) C_is_branch.mgf C_is_branch.kp C_is_branch.b .nil pass0 (pa_cons (pv 1) pa_nil))))))) (pss_one (ps_ret (pe_callTy call_tuple_of (by rfl) zt (by decide +kernel) (pa_cons (by exact (pe_lc (g := gTup K 2 (gCons (gName 9) (gCons (gName 10) gNil))) (own := [("a", 9), ("b", 10)]) (tt := tYes) rfl nd (RZ.pi_zipA (by rfl) zz (pa_cons (pv 0) (pa_cons (pv 1) pa_nil))) (blkOk_by (N := ["one", "other", "table", "truth", "left", "right", "other_truth", "other_left", "other_right", "a", "b"]) (sc := defScope (top 41)) (by decide +kernel)) (fun _ _ _ _ _ => pg_tup (by rfl) (pgs_cons (pg_name (i := 9) nd rfl (Or.inl rfl)) (pgs_cons (pg_name (i := 10) nd rfl (Or.inl rfl)) pgs_nil))) (fun _ _ _ _ _ => pts_nil) (fun _ _ _ _ _ => (pe_ix (ix_tupK (K := K) rfl) (pv 2) (pe_op op_addIB (pe_op op_mulIB pe_int (pv 9)) (pv 10)) (fun _ _ => rfl))))) pa_nil)))) pss_nil) pss_never, ?_⟩
      refine ⟨_, rfl, u, _, rfl, hx, _, rfl, iteTb rfl ?_⟩
      refine ⟨_, rfl, w', _, rfl, hy, _, rfl, iteTb rfl ?_⟩
      obtain ⟨a, rfl, ha⟩ := hx
      obtain ⟨c, rfl, hc⟩ := hy
      obtain ⟨tb, rfl, htb⟩ := ht
      refine ⟨_, rfl, _, rfl, a, c, _, _, rfl, .inr ⟨ha, hc, fun D hD => ?_⟩⟩
      have sD := same_new (o := .lst []) hD
      have step : ∀ i, i < 5 → ∃ p q', (lfV fx)[i]? = some (.bl p) ∧ (lfV fy)[i]? = some (.bl q') ∧ (lfV (map2 T fx fy)).take (i + 1) = (lfV (map2 T fx fy)).take i ++ [.bl (T p q')] := fun i hi => match i, hi with
        | 0, _ => ⟨_, _, rfl, rfl, rfl⟩
        | 1, _ => ⟨_, _, rfl, rfl, rfl⟩
        | 2, _ => ⟨_, _, rfl, rfl, rfl⟩
        | 3, _ => ⟨_, _, rfl, rfl, rfl⟩
        | 4, _ => ⟨_, _, rfl, rfl, rfl⟩
        | n + 5, h => absurd h (by omega)
      refine ⟨fun i m H' => m = 5 - i ∧ i ≤ 5 ∧ H' D = some (.lst ((lfV (map2 T fx fy)).take i)) ∧ Same H H', ⟨5, rfl, by omega, upd_same, sD⟩, ?_⟩
      rintro i m H1 ⟨rfl, hi, hD1, s1⟩
      by_cases h5 : i = 5
      · subst h5
        refine .inl ⟨⟨_, _, ha.ext s1, hc.ext s1, .inl (Nat.le_refl 5)⟩, ?_⟩
        refine ⟨D, _, rfl, .inl ⟨SqL.of hD1, fun l hl => ?_⟩⟩
        have s2 := same_new (o := .tup (lfV (map2 T fx fy))) hl
        exact q _ _ (s1.trans s2) ⟨l, rfl, SqT.of upd_same⟩
      · obtain ⟨p, q', e1, e2, e3⟩ := step i (by omega)
        refine .inr ⟨⟨_, _, _, _, ha.ext s1, hc.ext s1, e1, e2⟩, fun H' => ∃ m', m' < 5 - i ∧ (m' = 5 - (i + 1) ∧ i + 1 ≤ 5 ∧ H' D = some (.lst ((lfV (map2 T fx fy)).take (i + 1))) ∧ Same H H'), fun _ h => h, ?_⟩
        rintro v H2 ⟨Tp, x, y, rfl, hT, rfl, k1, k2⟩
        have ex := Option.some.inj ((k1 _ (ha.ext s1)).symm.trans e1)
        have ey := Option.some.inj ((k2 _ (hc.ext s1)).symm.trans e2)
        subst ex ey
        have s2 := s1.trans (same_new (o := .tup [.bl p, .bl q']) hT)
        have nD : D ≠ Tp := fun z => by rw [z, hT] at hD1; cases hD1
        have hD2 : (upd H1 Tp (.tup [.bl p, .bl q'])) D = some (.lst ((lfV (map2 T fx fy)).take i)) := by rw [upd_ne nD]; exact hD1
        refine ⟨Tp, _, rfl, SqT.of upd_same, rfl, _, _, rfl, _, _, rfl, rfl, ?_⟩
        refine ⟨rfl, ?_⟩
        refine ⟨_, rfl, _, rfl, _, _, rfl, rfl, _, rfl, _, _, rfl, rfl, tb, _, _, _, rfl, rfl, htb.ext s2, tab_at p q', ?_⟩
        refine ⟨_, hD2, Nat.lt_of_le_of_lt (List.length_take_le ..) (Nat.lt_of_le_of_lt hi (by decide +kernel)), _, ?_, rfl, by omega, ?_, ?_⟩
        · omega
        · rw [upd_same, e3]
        · intro b' o hb'
          rw [upd_ne (ne_of_none hb' hD)]
          exact s2 _ _ hb'
  | succ d ih =>
    have C_combined : Cal P w K mg base (3 + d) "combined" f fd ["one", "other", "table"] (spComb K d) := ⟨ih, mgf, F.kp, b⟩
    refine F.ok scCb (fun vs H Q E h => ?_) (fun cdv Ar outer s H vs Q E hr h => ?_)
    · obtain ⟨T, x, y, u, w', tb, rfl, _⟩ := h
      rfl
    · obtain ⟨T, x, y, u, w', tb, rfl, hx, hy, ht, dx, dy, q⟩ := h
      have nd := scCb.nd
      refine ⟨_, pss_cons (ps_if (PW.pt (pw_and (pt_not (pt_val (pe_call C_is_branch.F (hr.mono (by first | decide | omega | (simp only [Nat.add_eq]; omega))) (by rfl) C_is_branch.mgf C_is_branch.kp C_is_branch.b .nil pass0 (pa_cons (pv 0) pa_nil)))) (pw_and1 (pt_not (pt_val (pe_call C_is_branch.F (hr.mono (by first | decide | omega | (simp only [Nat.add_eq]; omega))) (by rfl) C_is_branch.mgf C_is_branch.kp C_is_branch.b .nil pass0 (pa_cons (pv 1) pa_nil))))))) (pss_one (ps_ret (pe_callTy call_tuple_of (by rfl) zt (by decide +kernel) (pa_cons (by exact (pe_lc (g := gTup K 2 (gCons (gName 9) (gCons (gName 10) gNil))) (own := [("a", 9), ("b", 10)]) (tt := tYes) rfl nd (RZ.pi_zipA (by rfl) zz (pa_cons (pv 0) (pa_cons (pv 1) pa_nil))) (blkOk_by (N := ["one", "other", "table", "truth", "left", "right", "other_truth", "other_left", "other_right", "a", "b"]) (sc := defScope (top 41)) (by decide +kernel)) (fun _ _ _ _ _ => pg_tup (by rfl) (pgs_cons (pg_name (i := 9) nd rfl (Or.inl rfl)) (pgs_cons (pg_name (i := 10) nd rfl (Or.inl rfl)) pgs_nil))) (fun _ _ _ _ _ => pts_nil) (fun _ _ _ _ _ => (pe_ix (ix_tupK (K := K) rfl) (pv 2) (pe_op op_addIB (pe_op op_mulIB pe_int (pv 9)) (pv 10)) (fun _ _ => rfl))))) pa_nil)))) pss_nil)
      (pss_cons (ps_asg (pe_ifExp (pt_val (pe_call C_is_branch.F (hr.mono (by first | decide | omega | (simp only [Nat.add_eq]; omega))) (by rfl) C_is_branch.mgf C_is_branch.kp C_is_branch.b .nil pass0 (pa_cons (pv 0) pa_nil))) (pv 0) (pe_call C_halves_of.F (hr.mono (by first | decide | omega | (simp only [Nat.add_eq]; omega))) (by rfl) C_halves_of.mgf C_halves_of.kp C_halves_of.b .nil pass0 (pa_cons (pv 0) pa_nil))) (pg_tup (by rfl) (pgs_cons (pg_name (i := 3) nd rfl (Or.inl rfl)) (pgs_cons (pg_name (i := 4) nd rfl (Or.inl rfl)) (pgs_cons (pg_name (i := 5) nd rfl (Or.inl rfl)) pgs_nil)))))
      (pss_cons (ps_asg (pe_ifExp (pt_val (pe_call C_is_branch.F (hr.mono (by first | decide | omega | (simp only [Nat.add_eq]; omega))) (by rfl) C_is_branch.mgf C_is_branch.kp C_is_branch.b .nil pass0 (pa_cons (pv 1) pa_nil))) (pv 1) (pe_call C_halves_of.F (hr.mono (by first | decide | omega | (simp only [Nat.add_eq]; omega))) (by rfl) C_halves_of.mgf C_halves_of.kp C_halves_of.b .nil pass0 (pa_cons (pv 1) pa_nil))) (pg_tup (by rfl) (pgs_cons (pg_name (i := 6) nd rfl (Or.inl rfl)) (pgs_cons (pg_name (i := 7) nd rfl (Or.inl rfl)) (pgs_cons (pg_name (i := 8) nd rfl (Or.inl rfl)) pgs_nil)))))
      (pss_one (ps_ret (pe_call C_branch_of.F (hr.mono (by first | decide | omega | (simp only [Nat.add_eq]; omega))) (by rfl) C_branch_of.mgf C_branch_of.kp C_branch_of.b .nil pass0 (pa_cons (pe_ix ix_tup (pv 2) (pe_op op_addIB (pe_op op_mulIB pe_int (pv 3)) (pv 6)) (fun _ _ => rfl)) (pa_cons (pe_call C_combined.F (hr.mono (by first | decide | omega | (simp only [Nat.add_eq]; omega))) (by rfl) C_combined.mgf C_combined.kp C_combined.b .nil pass0 (pa_cons (pv 4) (pa_cons (pv 7) (pa_cons (pv 2) pa_nil)))) (pa_cons (pe_call C_combined.F (hr.mono (by first | decide | omega | (simp only [Nat.add_eq]; omega))) (by rfl) C_combined.mgf C_combined.kp C_combined.b .nil pass0 (pa_cons (pv 5) (pa_cons (pv 8) (pa_cons (pv 2) pa_nil)))) pa_nil)))))))), ?_⟩
      cases x with
      | node t x1 x2 =>
        refine ⟨_, rfl, u, _, rfl, hx, _, rfl, iteFb rfl ?_⟩
        refine ⟨_, rfl, u, _, rfl, hx, _, rfl, iteTb rfl ?_⟩
        obtain ⟨a, u1, u2, rfl, ha, hx1, hx2⟩ := id hx
        have dx' : max (deep x1) (deep x2) + 1 ≤ d + 1 := dx
        refine ⟨_, rfl, _, _, rfl, ha, rfl, _, _, rfl, _, _, rfl, _, _, rfl, rfl, ?_⟩
        cases y with
        | node t' y1 y2 =>
          refine ⟨_, rfl, w', _, rfl, hy, _, rfl, iteTb rfl ?_⟩
          obtain ⟨c, w1, w2, rfl, hc, hy1, hy2⟩ := id hy
          have dy' : max (deep y1) (deep y2) + 1 ≤ d + 1 := dy
          refine ⟨_, rfl, _, _, rfl, hc, rfl, _, _, rfl, _, _, rfl, _, _, rfl, rfl, ?_⟩
          obtain ⟨tb, rfl, htb⟩ := ht
          refine ⟨_, rfl, _, rfl, _, _, rfl, rfl, _, rfl, _, _, rfl, rfl, tb, _, _, _, rfl, rfl, htb.ext (Same.refl H), tab_at t t', ?_⟩
          refine ⟨_, rfl, _, rfl, _, rfl, T, x1, y1, _, _, _, rfl, hx1, hy1, ⟨tb, rfl, htb.ext (Same.refl H)⟩, (by omega), (by omega), fun v1 G1 g1 hv1 => ?_⟩
          refine ⟨_, rfl, _, rfl, _, rfl, T, x2, y2, _, _, _, rfl, (hx2).same g1, (hy2).same g1, ⟨tb, rfl, (htb.ext (Same.refl H)).ext g1⟩, (by omega), (by omega), fun v2 G2 g2 hv2 => ?_⟩
          exact ⟨_, _, _, v1, v2, rfl, hv1.same g2, hv2, fun v G3 g3 hv => q v G3 (((Same.refl H).trans (g1.trans g2)).trans g3) hv⟩
        | leaf fy =>
          refine ⟨_, rfl, w', _, rfl, hy, _, rfl, iteFb rfl ?_⟩
          refine ⟨_, rfl, w', fy, rfl, hy, fun c w1 w2 H1 s1 hc hy1 hy2 => ?_⟩
          refine ⟨_, _, rfl, SqT.of hc, rfl, _, _, rfl, _, _, rfl, _, _, rfl, rfl, ?_⟩
          obtain ⟨tb, rfl, htb⟩ := ht
          refine ⟨_, rfl, _, rfl, _, _, rfl, rfl, _, rfl, _, _, rfl, rfl, tb, _, _, _, rfl, rfl, htb.ext s1, tab_at t fy.m, ?_⟩
          refine ⟨_, rfl, _, rfl, _, rfl, T, x1, (.leaf (h1 fy)), _, _, _, rfl, (hx1.same s1), hy1, ⟨tb, rfl, htb.ext s1⟩, (by omega), (Nat.zero_le _), fun v1 G1 g1 hv1 => ?_⟩
          refine ⟨_, rfl, _, rfl, _, rfl, T, x2, (.leaf (h2 fy)), _, _, _, rfl, ((hx2.same s1)).same g1, (hy2).same g1, ⟨tb, rfl, (htb.ext s1).ext g1⟩, (by omega), (Nat.zero_le _), fun v2 G2 g2 hv2 => ?_⟩
          exact ⟨_, _, _, v1, v2, rfl, hv1.same g2, hv2, fun v G3 g3 hv => q v G3 ((s1.trans (g1.trans g2)).trans g3) hv⟩
      | leaf fx =>
        refine ⟨_, rfl, u, _, rfl, hx, _, rfl, iteTb rfl ?_⟩
        cases y with
        | node t' y1 y2 =>
          refine ⟨_, rfl, w', _, rfl, hy, _, rfl, iteFb rfl ?_⟩
          refine ⟨_, rfl, u, _, rfl, hx, _, rfl, iteFb rfl ?_⟩
          refine ⟨_, rfl, u, fx, rfl, hx, fun a u1 u2 H1 s1 ha hx1 hx2 => ?_⟩
          refine ⟨_, _, rfl, SqT.of ha, rfl, _, _, rfl, _, _, rfl, _, _, rfl, rfl, ?_⟩
          have hy' := hy.same s1
          refine ⟨_, rfl, w', _, rfl, hy', _, rfl, iteTb rfl ?_⟩
          obtain ⟨c, w1, w2, rfl, hc, hy1, hy2⟩ := id hy'
          have dy' : max (deep y1) (deep y2) + 1 ≤ d + 1 := dy
          refine ⟨_, rfl, _, _, rfl, hc, rfl, _, _, rfl, _, _, rfl, _, _, rfl, rfl, ?_⟩
          obtain ⟨tb, rfl, htb⟩ := ht
          refine ⟨_, rfl, _, rfl, _, _, rfl, rfl, _, rfl, _, _, rfl, rfl, tb, _, _, _, rfl, rfl, htb.ext s1, tab_at fx.m t', ?_⟩
          refine ⟨_, rfl, _, rfl, _, rfl, T, (.leaf (h1 fx)), y1, _, _, _, rfl, hx1, hy1, ⟨tb, rfl, htb.ext s1⟩, (Nat.zero_le _), (by omega), fun v1 G1 g1 hv1 => ?_⟩
          refine ⟨_, rfl, _, rfl, _, rfl, T, (.leaf (h2 fx)), y2, _, _, _, rfl, (hx2).same g1, (hy2).same g1, ⟨tb, rfl, (htb.ext s1).ext g1⟩, (Nat.zero_le _), (by omega), fun v2 G2 g2 hv2 => ?_⟩
          exact ⟨_, _, _, v1, v2, rfl, hv1.same g2, hv2, fun v G3 g3 hv => q v G3 ((s1.trans (g1.trans g2)).trans g3) hv⟩
        | leaf fy =>
          refine ⟨_, rfl, w', _, rfl, hy, _, rfl, iteTb rfl ?_⟩
          obtain ⟨a, rfl, ha⟩ := hx
          obtain ⟨c, rfl, hc⟩ := hy
          obtain ⟨tb, rfl, htb⟩ := ht
          refine ⟨_, rfl, _, rfl, a, c, _, _, rfl, .inr ⟨ha, hc, fun D hD => ?_⟩⟩
          have sD := same_new (o := .lst []) hD
          have step : ∀ i, i < 5 → ∃ p q', (lfV fx)[i]? = some (.bl p) ∧ (lfV fy)[i]? = some (.bl q') ∧ (lfV (map2 T fx fy)).take (i + 1) = (lfV (map2 T fx fy)).take i ++ [.bl (T p q')] := fun i hi => match i, hi with
            | 0, _ => ⟨_, _, rfl, rfl, rfl⟩
            | 1, _ => ⟨_, _, rfl, rfl, rfl⟩
            | 2, _ => ⟨_, _, rfl, rfl, rfl⟩
            | 3, _ => ⟨_, _, rfl, rfl, rfl⟩
            | 4, _ => ⟨_, _, rfl, rfl, rfl⟩
            | n + 5, h => absurd h (by omega)
          refine ⟨fun i m H' => m = 5 - i ∧ i ≤ 5 ∧ H' D = some (.lst ((lfV (map2 T fx fy)).take i)) ∧ Same H H', ⟨5, rfl, by omega, upd_same, sD⟩, ?_⟩
          rintro i m H1 ⟨rfl, hi, hD1, s1⟩
          by_cases h5 : i = 5
          · subst h5
            refine .inl ⟨⟨_, _, ha.ext s1, hc.ext s1, .inl (Nat.le_refl 5)⟩, ?_⟩
            refine ⟨D, _, rfl, .inl ⟨SqL.of hD1, fun l hl => ?_⟩⟩
            have s2 := same_new (o := .tup (lfV (map2 T fx fy))) hl
            exact q _ _ (s1.trans s2) ⟨l, rfl, SqT.of upd_same⟩
          · obtain ⟨p, q', e1, e2, e3⟩ := step i (by omega)
            refine .inr ⟨⟨_, _, _, _, ha.ext s1, hc.ext s1, e1, e2⟩, fun H' => ∃ m', m' < 5 - i ∧ (m' = 5 - (i + 1) ∧ i + 1 ≤ 5 ∧ H' D = some (.lst ((lfV (map2 T fx fy)).take (i + 1))) ∧ Same H H'), fun _ h => h, ?_⟩
            rintro v H2 ⟨Tp, x, y, rfl, hT, rfl, k1, k2⟩
            have ex := Option.some.inj ((k1 _ (ha.ext s1)).symm.trans e1)
            have ey := Option.some.inj ((k2 _ (hc.ext s1)).symm.trans e2)
            subst ex ey
            have s2 := s1.trans (same_new (o := .tup [.bl p, .bl q']) hT)
            have nD : D ≠ Tp := fun z => by rw [z, hT] at hD1; cases hD1
            have hD2 : (upd H1 Tp (.tup [.bl p, .bl q'])) D = some (.lst ((lfV (map2 T fx fy)).take i)) := by rw [upd_ne nD]; exact hD1
            refine ⟨Tp, _, rfl, SqT.of upd_same, rfl, _, _, rfl, _, _, rfl, rfl, ?_⟩
            refine ⟨rfl, ?_⟩
            refine ⟨_, rfl, _, rfl, _, _, rfl, rfl, _, rfl, _, _, rfl, rfl, tb, _, _, _, rfl, rfl, htb.ext s2, tab_at p q', ?_⟩
            refine ⟨_, hD2, Nat.lt_of_le_of_lt (List.length_take_le ..) (Nat.lt_of_le_of_lt hi (by decide +kernel)), _, ?_, rfl, by omega, ?_, ?_⟩
            · omega
            · rw [upd_same, e3]
            · intro b' o hb'
              rw [upd_ne (ne_of_none hb' hD)]
              exact s2 _ _ hb'
end
end Toy
set_option maxRecDepth 100000
set_option maxHeartbeats 4000000
namespace Toy
open PySem L2 Tre
/-! ### regions -/
structure RegT (K : PySem.W.Frag) (mg : Str → Option Value) (C : Addr) : Prop extends ClT K mg C "Region" where
  nT : NoAttr K C "_tree"
  cr : ClX.CRead K C (.type "type")
  cL : ∃ u, ClX.CVal K C (.type "type") "LEVELS" (.int 200) u
  cM : ∃ u, ClX.CVal K C (.type "type") "MOST" (.int 2000) u
def regF (v : V) : List (Str × V) := putF "_tree" v []
theorem regF_tree (v : V) : (regF v).lookup ("_tree" : Str) = some v := by
  unfold regF
  rw [lookup_putF, if_pos rfl]
/-- the Region of this tree stands at x -/
def RegAt (K : PySem.W.Frag) (C : Addr) (H : Hp) (x : Addr) (z : Tr) : Prop := ∃ dx v, H x = some (.ins C dx (regF v)) ∧ TrAt K H z v
theorem RegAt.same {K : PySem.W.Frag} {C : Addr} {H H' : Hp} {x : Addr} {z : Tr} (h : RegAt K C H x z) (e : Same H H') : RegAt K C H' x z := let ⟨dx, v, h, t⟩ := h; ⟨dx, v, e _ _ h, t.same e⟩
/-- what does not change what a tree is read from -/
theorem TrAt.but {K : PySem.W.Frag} {H H' : Hp} {x : Addr} {C dx : Addr} {fs : List (Str × V)} (hx : H x = some (.ins C dx fs)) (e : ∀ c o, H c = some o → c ≠ x → H' c = some o) : ∀ {z : Tr} {v : V}, TrAt K H z v → TrAt K H' z v := by
  have k : ∀ {a : Addr} {xs : List V}, SqT K H a xs → SqT K H' a xs := fun {a xs} h => by
    rcases h with (h | ⟨o, h⟩) | h
    · exact .inl (.inl (e _ _ h fun z => by rw [z, hx] at h; cases h))
    · exact .inl (.inr ⟨o, e _ _ h fun z => by rw [z, hx] at h; cases h⟩)
    · exact .inr h
  intro z
  induction z with
  | leaf f =>
    rintro v ⟨a, e1, h⟩
    exact ⟨a, e1, k h⟩
  | node t x y hx hy =>
    rintro v ⟨a, u, w, e1, h, h1, h2⟩
    exact ⟨a, u, w, e1, k h, hx h1, hy h2⟩
/-! ### a tree as a value -/
def trD : Tr → PyData
  | .leaf f => lfD f
  | .node t x y => .tuple [.bool t, trD x, trD y]
theorem tr_dp {K : PySem.W.Frag} {H : Hp} : ∀ {z : Tr} {v : V}, TrAt K H z v → Dp K H v (trD z)
  | .leaf f, v, h => lf_dp h
  | .node t x y, v, ⟨a, u, w, e, h, hx, hy⟩ => by
    subst e
    exact .tup h (.cons (.bl _) (.cons (tr_dp hx) (.cons (tr_dp hy) .nil)))
theorem eqv_node (t t' : Bool) (a b a' b' : PyData) : PyData.eqv (.tuple [.bool t, a, b]) (.tuple [.bool t', a', b']) = (decide (t = t') && (PyData.eqv a a' && PyData.eqv b b')) := by
  have e : PyData.eqv (.tuple [.bool t, a, b]) (.tuple [.bool t', a', b']) = (PyData.eqv (.bool t) (.bool t') && (PyData.eqv a a' && PyData.eqv b b')) := by
    simp [PyData.eqv, PyData.eqvAll]
  have e0 : PyData.eqv (.bool t) (.bool t') = decide (t = t') := by cases t <;> cases t' <;> rfl
  rw [e, e0]
theorem eqv_53 (a b c d e t : Bool) (x y : PyData) : PyData.eqv (.tuple [.bool a, .bool b, .bool c, .bool d, .bool e]) (.tuple [.bool t, x, y]) = false := by
  rw [PyData.eqv, PyData.eqvAll, PyData.eqvAll, PyData.eqvAll, PyData.eqvAll, Bool.and_false, Bool.and_false, Bool.and_false]
theorem eqv_35 (a b c d e t : Bool) (x y : PyData) : PyData.eqv (.tuple [.bool t, x, y]) (.tuple [.bool a, .bool b, .bool c, .bool d, .bool e]) = false := by
  rw [PyData.eqv, PyData.eqvAll, PyData.eqvAll, PyData.eqvAll, PyData.eqvAll, Bool.and_false, Bool.and_false, Bool.and_false]
theorem eqv_tr : ∀ x y : Tr, PyData.eqv (trD x) (trD y) = decide (x = y)
  | .leaf f, .leaf g => by
    show PyData.eqv (lfD f) (lfD g) = _
    rw [eqv_lf]
    exact decide_eq_decide.mpr ⟨fun e => by rw [e], fun e => by injection e⟩
  | .node t x y, .node t' x' y' => by
    show PyData.eqv (.tuple [.bool t, trD x, trD y]) (.tuple [.bool t', trD x', trD y']) = _
    rw [eqv_node, eqv_tr x x', eqv_tr y y', ← Bool.decide_and, ← Bool.decide_and]
    exact decide_eq_decide.mpr ⟨fun ⟨a, b, c⟩ => by rw [a, b, c], fun e => by injection e with a b c; exact ⟨a, b, c⟩⟩
  | .leaf f, .node t x y => by
    rw [decide_eq_false fun e => Tr.noConfusion e]
    exact eqv_53 ..
  | .node t x y, .leaf f => by
    rw [decide_eq_false fun e => Tr.noConfusion e]
    exact eqv_35 ..
theorem lay_tr : ∀ z : Tr, (trD z).canLay0 = true
  | .leaf f => rfl
  | .node t x y => by
    have hx := lay_tr x
    have hy := lay_tr y
    show (PyData.tuple [.bool t, trD x, trD y]).canLay0 = true
    simp [PyData.canLay0, PyData.canLayAll0, hx, hy]
theorem dep_tr : ∀ z : Tr, (trD z).depth ≤ deep z + 1
  | .leaf f => by show (lfD f).depth ≤ 0 + 1; simp [lfD, PyData.depth, PyData.depthAll]
  | .node t x y => by
    have hx := dep_tr x
    have hy := dep_tr y
    show (PyData.tuple [.bool t, trD x, trD y]).depth ≤ max (deep x) (deep y) + 1 + 1
    simp only [PyData.depth, PyData.depthAll]
    omega
theorem sh_tr {z : Tr} (h : deep z ≤ 60) : SeqAt.shaped (trD z) = true := by
  unfold SeqAt.shaped
  rw [lay_tr, Bool.true_and]
  exact decide_eq_true (Nat.le_trans (dep_tr z) (by omega))
theorem deep_branch (t : Bool) (x y : Tr) : deep (branch t x y) ≤ max (deep x) (deep y) + 1 := by
  rcases branch_cases t x y with e | ⟨f, _, _, _, e⟩
  · rw [e]
    exact Nat.le_refl _
  · rw [e]
    exact Nat.zero_le _
theorem deep_combL {T : Bool → Bool → Bool} : ∀ (z : Tr) (f : Lf), deep (combL T f z) ≤ deep z
  | .leaf g, f => Nat.le_refl 0
  | .node t x y, f => by
    have hx := deep_combL (T := T) x (h1 f)
    have hy := deep_combL (T := T) y (h2 f)
    refine Nat.le_trans (deep_branch _ _ _) ?_
    show _ ≤ max (deep x) (deep y) + 1
    omega
theorem deep_comb {T : Bool → Bool → Bool} : ∀ a b : Tr, deep (comb T a b) ≤ max (deep a) (deep b)
  | .leaf f, z => Nat.le_trans (deep_combL z f) (Nat.le_max_right _ _)
  | .node t x y, .leaf g => by
    have hx := deep_comb (T := T) x (.leaf (h1 g))
    have hy := deep_comb (T := T) y (.leaf (h2 g))
    refine Nat.le_trans (deep_branch _ _ _) ?_
    show _ ≤ max (max (deep x) (deep y) + 1) 0
    have e1 : deep (.leaf (h1 g)) = 0 := rfl
    have e2 : deep (.leaf (h2 g)) = 0 := rfl
    omega
  | .node t x y, .node u v w => by
    have hx := deep_comb (T := T) x v
    have hy := deep_comb (T := T) y w
    refine Nat.le_trans (deep_branch _ _ _) ?_
    show _ ≤ max (max (deep x) (deep y) + 1) (max (deep v) (deep w) + 1)
    omega
section
variable {P : Program} {w : World} {K : PySem.W.Frag} {mg : Str → Option Value} {base : Heap} {C CG : Addr}
def spRegI (K : PySem.W.Frag) (C : Addr) : Sp := fun vs H Q _ => ∃ x dx v z, vs = [.ref x, v] ∧ H x = some (.ins C dx []) ∧ TrAt K H z v ∧ leafs z ≤ 2000 ∧ deep z ≤ 200 ∧ ∀ H', RegAt K C H' x z → (∀ c o, H c = some o → c ≠ x → H' c = some o) → Q .non H'
abbrev sRegI : Stmt := inClass (top 48) 3
theorem scGI : FnScope ["self", "tree", "levels", "leaves"] ["self", "tree"] (defScope sRegI) := ⟨rfl, rfl, rfl, by decide +kernel, rfl, by decide +kernel, by decide +kernel⟩
theorem ok_regi {f f1 : Addr} {fd fd1 : FuncData} (F : Fun K "__init__" "Region.__init__" sRegI f fd) (T_Region : RegT K mg CG) (C_sizes_of : Cal P w K mg base 2 "sizes_of" f1 fd1 ["tree"] (spSiz K)) : FnOk P w K mg base CX0 3 f fd ["self", "tree"] (spRegI K CG) := by
  refine F.ok scGI (fun vs H Q E h => ?_) (fun cdv Ar outer s H vs Q E hr h => ?_)
  · obtain ⟨x, dx, v, z, rfl, _⟩ := h
    rfl
  · obtain ⟨x, dx, v, z, rfl, hx, hz, lz, dz, q⟩ := h
    have nd := scGI.nd
    refine ⟨_, pss_cons (ps_asg (pe_call C_sizes_of.F (hr.mono (by decide)) (by rfl) C_sizes_of.mgf C_sizes_of.kp C_sizes_of.b .nil pass0 (pa_cons (pv 1) pa_nil)) (pg_tup (by rfl) (pgs_cons (pg_name (i := 2) nd rfl (Or.inl rfl)) (pgs_cons (pg_name (i := 3) nd rfl (Or.inl rfl)) pgs_nil))))
      (pss_cons (ps_if (pt_cmpR op_gt (pv 2) (ClX.pe_cval (Own.pe_gref (by rfl) T_Region.mgC)) (nomark _)) pss_never pss_nil)
      (pss_cons (ps_if (pt_cmpR op_gt (pv 3) (ClX.pe_cval (Own.pe_gref (by rfl) T_Region.mgC)) (nomark _)) pss_never pss_nil)
      (pss_one (ps_fld (pv 0) (pv 1) rfl)))), ?_⟩
    obtain ⟨u1, c1⟩ := T_Region.cL
    obtain ⟨u2, c2⟩ := T_Region.cM
    refine ⟨_, rfl, v, z, rfl, hz, by omega, by omega, fun p H1 s1 hp => ⟨_, _, rfl, SqT.of hp, rfl, _, _, rfl, _, _, rfl, rfl, ?_⟩⟩
    refine ⟨_, rfl, CG, _, _, _, rfl, T_Region.cr, c1, _, _, rfl, rfl, _, rfl, iteFb (decide_eq_false (by omega)) ?_⟩
    refine ⟨_, rfl, CG, _, _, _, rfl, T_Region.cr, c2, _, _, rfl, rfl, _, rfl, iteFb (decide_eq_false (by omega)) ?_⟩
    refine ⟨_, rfl, _, rfl, x, CG, dx, _, rfl, s1 _ _ hx, T_Region.cl, T_Region.nT, (by decide : 0 < 1000), ?_⟩
    have b1 : ∀ c o, H1 c = some o → c ≠ x → (upd H1 x (.ins CG dx (regF v))) c = some o := fun c o h n => by rw [upd_ne n]; exact h
    exact q _ ⟨dx, v, upd_same, TrAt.but (s1 _ _ hx) b1 (hz.same s1)⟩ fun c o h n => b1 c o (s1 _ _ h) n
def LESSf : Bool → Bool → Bool := fun a b => a && !b
def spWi (K : PySem.W.Frag) : Sp := fun vs H Q _ => ∃ x y u v, vs = [u, v] ∧ TrAt K H x u ∧ TrAt K H y v ∧ deep x ≤ 40 ∧ deep y ≤ 40 ∧ ∀ H', Same H H' → Q (.bl (decide (comb LESSf x y = .leaf NoneL))) H'
abbrev sWi : Stmt := top 49
theorem scWi : FnScope ["one", "other"] ["one", "other"] (defScope sWi) := ⟨rfl, rfl, rfl, by decide +kernel, rfl, by decide +kernel, by decide +kernel⟩
theorem ok_wi {f f1 aL aN : Addr} {fd fd1 : FuncData} (F : Fun K "_is_within" "_is_within" sWi f fd) (mL : mg "LESS" = some (.ref aL)) (mN : mg "NONE" = some (.ref aN)) (hL : SqT K (fun _ => none) aL [.bl false, .bl false, .bl true, .bl false]) (hN : SqT K (fun _ => none) aN (lfV NoneL))
    (C_combined : Cal P w K mg base 43 "combined" f1 fd1 ["one", "other", "table"] (spComb K 40)) : FnOk P w K mg base CX0 44 f fd ["one", "other"] (spWi K) := by
  refine F.ok scWi (fun vs H Q E h => ?_) (fun cdv Ar outer s H vs Q E hr h => ?_)
  · obtain ⟨x, y, u, v, rfl, _⟩ := h
    rfl
  · obtain ⟨x, y, u, v, rfl, hx, hy, dx, dy, q⟩ := h
    have nd := scWi.nd
    refine ⟨_, pss_one (ps_ret (pe_cmpR (op_eqD hr.units) (pe_call C_combined.F (hr.mono (by decide)) (by rfl) C_combined.mgf C_combined.kp C_combined.b .nil pass0 (pa_cons (pv 0) (pa_cons (pv 1) (pa_cons (Own.pe_gref (by rfl) mL) pa_nil)))) (Own.pe_gref (by rfl) mN) (nomark _))), ?_⟩
    have up : ∀ {a : Addr} {xs : List V} (H : Hp), SqT K (fun _ => none) a xs → SqT K H a xs := fun H h => h.ext fun _ _ e => nomatch e
    refine ⟨_, rfl, _, rfl, LESSf, x, y, u, v, _, rfl, hx, hy, ⟨aL, rfl, up H hL⟩, dx, dy, fun v' H1 s1 hv => ?_⟩
    have dz := deep_comb (T := LESSf) x y
    refine ⟨_, _, tr_dp hv, tr_dp (z := .leaf NoneL) ⟨aN, rfl, up H1 hN⟩, sh_tr (by omega), sh_tr (Nat.zero_le _), ?_⟩
    rw [eqv_tr]
    exact q H1 s1
end
end Toy
set_option maxRecDepth 100000
set_option maxHeartbeats 4000000
namespace Toy
open PySem L2 Tre
theorem leafs_branch (t : Bool) (x y : Tr) : leafs (branch t x y) ≤ leafs x + leafs y := by
  rcases branch_cases t x y with e | ⟨f, _, _, _, e⟩
  · rw [e]
    exact Nat.le_refl _
  · rw [e]
    have := leafs_pos x
    show 1 ≤ _
    omega
section
variable {P : Program} {w : World} {K : PySem.W.Frag} {mg : Str → Option Value} {base : Heap} {C CG : Addr}
theorem regMk {H1 : Hp} {v : V} {z : Tr} {Q : VK} {E : XK} (hz : TrAt K H1 z v) (lz : leafs z ≤ 2000) (dz : deep z ≤ 200) (q : ∀ x H', Same H1 H' → RegAt K CG H' x z → Q (.ref x) H') :
    ∀ x dx, H1 x = none → H1 dx = none → dx ≠ x → spRegI K CG [.ref x, v] (upd (upd H1 dx (.own x)) x (.ins CG dx [])) (fun v H2 => v = .non ∧ Q (.ref x) H2) E := fun x dx hx hdx hne =>
  ⟨x, dx, v, z, rfl, upd_same, hz.same (same_two hdx hx hne), lz, dz, fun H' hR hk => ⟨rfl, q x H' (mk_same hx hdx hk) hR⟩⟩
def EveryL : Lf := ⟨true, true, true, true, true⟩
def RatnL : Lf := ⟨true, true, true, true, false⟩
def spRegC (K : PySem.W.Frag) (C : Addr) (f : Lf) : Sp := fun vs H Q _ => vs = [] ∧ ∀ x H', Same H H' → RegAt K C H' x (.leaf f) → Q (.ref x) H'
theorem up0 {a : Addr} {xs : List V} (H : Hp) (h : SqT K (fun _ => none) a xs) : SqT K H a xs := h.ext fun _ _ e => nomatch e
abbrev sRegEv : Stmt := inClass (top 48) 4
theorem scGEv : FnScope [] [] (defScope sRegEv) := ⟨rfl, rfl, rfl, by decide +kernel, rfl, by decide +kernel, by decide +kernel⟩
theorem ok_regevery {f f1 : Addr} {fd fd1 : FuncData} {aE : Addr} (mE : mg "EVERY" = some (.ref aE)) (hE : SqT K (fun _ => none) aE (lfV EveryL)) (F : Fun K "every" "Region.every" sRegEv f fd) (M_Region : Mak P w K mg base 3 "Region" CG f1 fd1 ["self", "tree"] (spRegI K CG)) : FnOk P w K mg base CX0 5 f fd [] (spRegC K CG EveryL) := by
  refine F.ok scGEv (fun vs H Q E h => ?_) (fun cdv Ar outer s H vs Q E hr h => ?_)
  · obtain ⟨rfl, _⟩ := h
    rfl
  · obtain ⟨rfl, q⟩ := h
    have nd := scGEv.nd
    refine ⟨_, pss_one (ps_ret (pe_make M_Region.M M_Region.F (hr.mono (by decide)) (by rfl) M_Region.mgC M_Region.b .nil pass0 (pa_cons (Own.pe_gref (by rfl) mE) pa_nil))), ?_⟩
    exact regMk (z := .leaf EveryL) ⟨aE, rfl, up0 H hE⟩ (by decide) (by decide) q
abbrev sRegNo : Stmt := inClass (top 48) 5
theorem scGNo : FnScope [] [] (defScope sRegNo) := ⟨rfl, rfl, rfl, by decide +kernel, rfl, by decide +kernel, by decide +kernel⟩
theorem ok_regnone {f f1 : Addr} {fd fd1 : FuncData} {aE : Addr} (mN : mg "NONE" = some (.ref aE)) (hE : SqT K (fun _ => none) aE (lfV NoneL)) (F : Fun K "none" "Region.none" sRegNo f fd) (M_Region : Mak P w K mg base 3 "Region" CG f1 fd1 ["self", "tree"] (spRegI K CG)) : FnOk P w K mg base CX0 5 f fd [] (spRegC K CG NoneL) := by
  refine F.ok scGNo (fun vs H Q E h => ?_) (fun cdv Ar outer s H vs Q E hr h => ?_)
  · obtain ⟨rfl, _⟩ := h
    rfl
  · obtain ⟨rfl, q⟩ := h
    have nd := scGNo.nd
    refine ⟨_, pss_one (ps_ret (pe_make M_Region.M M_Region.F (hr.mono (by decide)) (by rfl) M_Region.mgC M_Region.b .nil pass0 (pa_cons (Own.pe_gref (by rfl) mN) pa_nil))), ?_⟩
    exact regMk (z := .leaf NoneL) ⟨aE, rfl, up0 H hE⟩ (by decide) (by decide) q
abbrev sRegRa : Stmt := inClass (top 48) 6
theorem scGRa : FnScope [] [] (defScope sRegRa) := ⟨rfl, rfl, rfl, by decide +kernel, rfl, by decide +kernel, by decide +kernel⟩
theorem ok_regrational {f f1 : Addr} {fd fd1 : FuncData} (F : Fun K "rational" "Region.rational" sRegRa f fd) (M_Region : Mak P w K mg base 3 "Region" CG f1 fd1 ["self", "tree"] (spRegI K CG)) : FnOk P w K mg base CX0 5 f fd [] (spRegC K CG RatnL) := by
  refine F.ok scGRa (fun vs H Q E h => ?_) (fun cdv Ar outer s H vs Q E hr h => ?_)
  · obtain ⟨rfl, _⟩ := h
    rfl
  · obtain ⟨rfl, q⟩ := h
    have nd := scGRa.nd
    refine ⟨_, pss_one (ps_ret (pe_make M_Region.M M_Region.F (hr.mono (by decide)) (by rfl) M_Region.mgC M_Region.b .nil pass0 (pa_cons (pe_tup (pa_cons pe_bl (pa_cons pe_bl (pa_cons pe_bl (pa_cons pe_bl (pa_cons pe_bl pa_nil)))))) pa_nil))), ?_⟩
    refine ⟨(by decide : 5 ≤ sizeLine), fun p hp => ?_⟩
    have s1 := same_new (o := .tup (lfV RatnL)) hp
    exact regMk (z := .leaf RatnL) ⟨p, rfl, SqT.of upd_same⟩ (by decide) (by decide) fun x H' s2 hR => q x H' (s1.trans s2) hR
def spRegLe (K : PySem.W.Frag) (C : Addr) : Sp := fun vs H Q _ => ∃ a b x y, vs = [.ref a, .ref b] ∧ RegAt K C H a x ∧ RegAt K C H b y ∧ (deep x ≤ 40 ∧ deep y ≤ 40) ∧ ∀ H', Same H H' → Q (.bl (decide (comb LESSf x y = .leaf NoneL))) H'
abbrev sRegLe : Stmt := inClass (top 48) 25
theorem scGLe : FnScope ["self", "other"] ["self", "other"] (defScope sRegLe) := ⟨rfl, rfl, rfl, by decide +kernel, rfl, by decide +kernel, by decide +kernel⟩
theorem ok_regle {f f1 : Addr} {fd fd1 : FuncData} (F : Fun K "__le__" "Region.__le__" sRegLe f fd) (T : Bl mg) (T_Region : RegT K mg CG) (C__is_within : Cal P w K mg base 44 "_is_within" f1 fd1 ["one", "other"] (spWi K)) : FnOk P w K mg base CX0 45 f fd ["self", "other"] (spRegLe K CG) := by
  refine F.ok scGLe (fun vs H Q E h => ?_) (fun cdv Ar outer s H vs Q E hr h => ?_)
  · obtain ⟨a, b, x, y, rfl, _⟩ := h
    rfl
  · obtain ⟨a, b, x, y, rfl, ⟨dx, u, hx, tx⟩, ⟨dy, v, hy, ty⟩, ⟨d1, d2⟩, q⟩ := h
    have nd := scGLe.nd
    refine ⟨_, pss_cons (ps_if (pt_not (pt_val (pe_callB call_isi (by rfl) T.isinstance (by decide +kernel) (pa_cons (pv 1) (pa_cons (Own.pe_gref (by rfl) T_Region.mgC) pa_nil))))) pss_never pss_nil)
      (pss_one (ps_ret (pe_call C__is_within.F (hr.mono (by decide)) (by rfl) C__is_within.mgf C__is_within.kp C__is_within.b .nil pass0 (pa_cons (pe_fld (pv 0) rfl) (pa_cons (pe_fld (pv 1) rfl) pa_nil))))), ?_⟩
    refine ⟨_, rfl, _, _, _, _, true, rfl, .own _, T_Region.ty hy, T_Region.kS, _, rfl, iteF ?_⟩
    exact ⟨_, rfl, _, CG, dx, _, _, rfl, hx, T_Region.cl, T_Region.nT, regF_tree _, _, rfl, _, CG, dy, _, _, rfl, hy, T_Region.cl, T_Region.nT, regF_tree _, x, y, u, v, rfl, tx, ty, d1, d2, q⟩
def spRegGe (K : PySem.W.Frag) (C : Addr) : Sp := fun vs H Q _ => ∃ a b x y, vs = [.ref a, .ref b] ∧ RegAt K C H a x ∧ RegAt K C H b y ∧ (deep x ≤ 40 ∧ deep y ≤ 40) ∧ ∀ H', Same H H' → Q (.bl (decide (comb LESSf y x = .leaf NoneL))) H'
abbrev sRegGe : Stmt := inClass (top 48) 27
theorem scGGe : FnScope ["self", "other"] ["self", "other"] (defScope sRegGe) := ⟨rfl, rfl, rfl, by decide +kernel, rfl, by decide +kernel, by decide +kernel⟩
theorem ok_regge {f f1 : Addr} {fd fd1 : FuncData} (F : Fun K "__ge__" "Region.__ge__" sRegGe f fd) (T : Bl mg) (T_Region : RegT K mg CG) (C__is_within : Cal P w K mg base 44 "_is_within" f1 fd1 ["one", "other"] (spWi K)) : FnOk P w K mg base CX0 45 f fd ["self", "other"] (spRegGe K CG) := by
  refine F.ok scGGe (fun vs H Q E h => ?_) (fun cdv Ar outer s H vs Q E hr h => ?_)
  · obtain ⟨a, b, x, y, rfl, _⟩ := h
    rfl
  · obtain ⟨a, b, x, y, rfl, ⟨dx, u, hx, tx⟩, ⟨dy, v, hy, ty⟩, ⟨d1, d2⟩, q⟩ := h
    have nd := scGGe.nd
    refine ⟨_, pss_cons (ps_if (pt_not (pt_val (pe_callB call_isi (by rfl) T.isinstance (by decide +kernel) (pa_cons (pv 1) (pa_cons (Own.pe_gref (by rfl) T_Region.mgC) pa_nil))))) pss_never pss_nil)
      (pss_one (ps_ret (pe_call C__is_within.F (hr.mono (by decide)) (by rfl) C__is_within.mgf C__is_within.kp C__is_within.b .nil pass0 (pa_cons (pe_fld (pv 1) rfl) (pa_cons (pe_fld (pv 0) rfl) pa_nil))))), ?_⟩
    refine ⟨_, rfl, _, _, _, _, true, rfl, .own _, T_Region.ty hy, T_Region.kS, _, rfl, iteF ?_⟩
    exact ⟨_, rfl, _, CG, dy, _, _, rfl, hy, T_Region.cl, T_Region.nT, regF_tree _, _, rfl, _, CG, dx, _, _, rfl, hx, T_Region.cl, T_Region.nT, regF_tree _, y, x, v, u, rfl, ty, tx, d2, d1, q⟩
def spRegLt (K : PySem.W.Frag) (C : Addr) : Sp := fun vs H Q _ => ∃ a b x y, vs = [.ref a, .ref b] ∧ RegAt K C H a x ∧ RegAt K C H b y ∧ (deep x ≤ 40 ∧ deep y ≤ 40) ∧ ∀ H', Same H H' → Q (.bl (!decide (x = y) && decide (comb LESSf x y = .leaf NoneL))) H'
abbrev sRegLt : Stmt := inClass (top 48) 26
theorem scGLt : FnScope ["self", "other"] ["self", "other"] (defScope sRegLt) := ⟨rfl, rfl, rfl, by decide +kernel, rfl, by decide +kernel, by decide +kernel⟩
theorem ok_reglt {f f1 : Addr} {fd fd1 : FuncData} (F : Fun K "__lt__" "Region.__lt__" sRegLt f fd) (T : Bl mg) (T_Region : RegT K mg CG) (C__is_within : Cal P w K mg base 44 "_is_within" f1 fd1 ["one", "other"] (spWi K)) : FnOk P w K mg base CX0 45 f fd ["self", "other"] (spRegLt K CG) := by
  refine F.ok scGLt (fun vs H Q E h => ?_) (fun cdv Ar outer s H vs Q E hr h => ?_)
  · obtain ⟨a, b, x, y, rfl, _⟩ := h
    rfl
  · obtain ⟨a, b, x, y, rfl, ⟨dx, u, hx, tx⟩, ⟨dy, v, hy, ty⟩, ⟨d1, d2⟩, q⟩ := h
    have nd := scGLt.nd
    refine ⟨_, pss_cons (ps_if (pt_not (pt_val (pe_callB call_isi (by rfl) T.isinstance (by decide +kernel) (pa_cons (pv 1) (pa_cons (Own.pe_gref (by rfl) T_Region.mgC) pa_nil))))) pss_never pss_nil)
      (pss_one (ps_ret (pe_and (pe_cmpR (op_neD hr.units) (pe_fld (pv 0) rfl) (pe_fld (pv 1) rfl) (nomark _)) (pe_one (pe_call C__is_within.F (hr.mono (by decide)) (by rfl) C__is_within.mgf C__is_within.kp C__is_within.b .nil pass0 (pa_cons (pe_fld (pv 0) rfl) (pa_cons (pe_fld (pv 1) rfl) pa_nil))))))), ?_⟩
    refine ⟨_, rfl, _, _, _, _, true, rfl, .own _, T_Region.ty hy, T_Region.kS, _, rfl, iteF ?_⟩
    refine ⟨_, rfl, _, CG, dx, _, _, rfl, hx, T_Region.cl, T_Region.nT, regF_tree _, _, rfl, _, CG, dy, _, _, rfl, hy, T_Region.cl, T_Region.nT, regF_tree _, _, _, tr_dp tx, tr_dp ty, sh_tr (by omega), sh_tr (by omega), ?_⟩
    rw [eqv_tr]
    refine ⟨_, rfl, ?_⟩
    by_cases e : x = y
    · have q' := q H (Same.refl H)
      rw [decide_eq_true e, Bool.not_true, Bool.false_and] at q'
      refine iteFb (by rw [decide_eq_true e]; rfl) ?_
      exact q'
    · rw [decide_eq_false e, Bool.not_false, Bool.true_and] at q
      refine iteTb (by rw [decide_eq_false e]; rfl) ?_
      exact ⟨_, rfl, _, CG, dx, _, _, rfl, hx, T_Region.cl, T_Region.nT, regF_tree _, _, rfl, _, CG, dy, _, _, rfl, hy, T_Region.cl, T_Region.nT, regF_tree _, x, y, u, v, rfl, tx, ty, d1, d2, q⟩
def spRegGt (K : PySem.W.Frag) (C : Addr) : Sp := fun vs H Q _ => ∃ a b x y, vs = [.ref a, .ref b] ∧ RegAt K C H a x ∧ RegAt K C H b y ∧ (deep x ≤ 40 ∧ deep y ≤ 40) ∧ ∀ H', Same H H' → Q (.bl (!decide (x = y) && decide (comb LESSf y x = .leaf NoneL))) H'
abbrev sRegGt : Stmt := inClass (top 48) 28
theorem scGGt : FnScope ["self", "other"] ["self", "other"] (defScope sRegGt) := ⟨rfl, rfl, rfl, by decide +kernel, rfl, by decide +kernel, by decide +kernel⟩
theorem ok_reggt {f f1 : Addr} {fd fd1 : FuncData} (F : Fun K "__gt__" "Region.__gt__" sRegGt f fd) (T : Bl mg) (T_Region : RegT K mg CG) (C__is_within : Cal P w K mg base 44 "_is_within" f1 fd1 ["one", "other"] (spWi K)) : FnOk P w K mg base CX0 45 f fd ["self", "other"] (spRegGt K CG) := by
  refine F.ok scGGt (fun vs H Q E h => ?_) (fun cdv Ar outer s H vs Q E hr h => ?_)
  · obtain ⟨a, b, x, y, rfl, _⟩ := h
    rfl
  · obtain ⟨a, b, x, y, rfl, ⟨dx, u, hx, tx⟩, ⟨dy, v, hy, ty⟩, ⟨d1, d2⟩, q⟩ := h
    have nd := scGGt.nd
    refine ⟨_, pss_cons (ps_if (pt_not (pt_val (pe_callB call_isi (by rfl) T.isinstance (by decide +kernel) (pa_cons (pv 1) (pa_cons (Own.pe_gref (by rfl) T_Region.mgC) pa_nil))))) pss_never pss_nil)
      (pss_one (ps_ret (pe_and (pe_cmpR (op_neD hr.units) (pe_fld (pv 0) rfl) (pe_fld (pv 1) rfl) (nomark _)) (pe_one (pe_call C__is_within.F (hr.mono (by decide)) (by rfl) C__is_within.mgf C__is_within.kp C__is_within.b .nil pass0 (pa_cons (pe_fld (pv 1) rfl) (pa_cons (pe_fld (pv 0) rfl) pa_nil))))))), ?_⟩
    refine ⟨_, rfl, _, _, _, _, true, rfl, .own _, T_Region.ty hy, T_Region.kS, _, rfl, iteF ?_⟩
    refine ⟨_, rfl, _, CG, dx, _, _, rfl, hx, T_Region.cl, T_Region.nT, regF_tree _, _, rfl, _, CG, dy, _, _, rfl, hy, T_Region.cl, T_Region.nT, regF_tree _, _, _, tr_dp tx, tr_dp ty, sh_tr (by omega), sh_tr (by omega), ?_⟩
    rw [eqv_tr]
    refine ⟨_, rfl, ?_⟩
    by_cases e : x = y
    · have q' := q H (Same.refl H)
      rw [decide_eq_true e, Bool.not_true, Bool.false_and] at q'
      refine iteFb (by rw [decide_eq_true e]; rfl) ?_
      exact q'
    · rw [decide_eq_false e, Bool.not_false, Bool.true_and] at q
      refine iteTb (by rw [decide_eq_false e]; rfl) ?_
      exact ⟨_, rfl, _, CG, dy, _, _, rfl, hy, T_Region.cl, T_Region.nT, regF_tree _, _, rfl, _, CG, dx, _, _, rfl, hx, T_Region.cl, T_Region.nT, regF_tree _, y, x, v, u, rfl, ty, tx, d2, d1, q⟩
def spRegEq (K : PySem.W.Frag) (C : Addr) : Sp := fun vs H Q _ => ∃ a b x y, vs = [.ref a, .ref b] ∧ RegAt K C H a x ∧ RegAt K C H b y ∧ (deep x ≤ 40 ∧ deep y ≤ 40) ∧ ∀ H', Same H H' → Q (.bl (decide (x = y))) H'
abbrev sRegEq : Stmt := inClass (top 48) 29
theorem scGEq : FnScope ["self", "other"] ["self", "other"] (defScope sRegEq) := ⟨rfl, rfl, rfl, by decide +kernel, rfl, by decide +kernel, by decide +kernel⟩
theorem ok_regeq {f f1 : Addr} {fd fd1 : FuncData} (F : Fun K "__eq__" "Region.__eq__" sRegEq f fd) (T : Bl mg) (T_Region : RegT K mg CG) (C__is_within : Cal P w K mg base 44 "_is_within" f1 fd1 ["one", "other"] (spWi K)) : FnOk P w K mg base CX0 45 f fd ["self", "other"] (spRegEq K CG) := by
  refine F.ok scGEq (fun vs H Q E h => ?_) (fun cdv Ar outer s H vs Q E hr h => ?_)
  · obtain ⟨a, b, x, y, rfl, _⟩ := h
    rfl
  · obtain ⟨a, b, x, y, rfl, ⟨dx, u, hx, tx⟩, ⟨dy, v, hy, ty⟩, ⟨d1, d2⟩, q⟩ := h
    have nd := scGEq.nd
    refine ⟨_, pss_cons (ps_if (pt_not (pt_val (pe_callB call_isi (by rfl) T.isinstance (by decide +kernel) (pa_cons (pv 1) (pa_cons (Own.pe_gref (by rfl) T_Region.mgC) pa_nil))))) (pss_one (ps_ret pe_bl)) pss_nil)
      (pss_one (ps_ret (pe_cmpR (op_eqD hr.units) (pe_fld (pv 0) rfl) (pe_fld (pv 1) rfl) (nomark _)))), ?_⟩
    refine ⟨_, rfl, _, _, _, _, true, rfl, .own _, T_Region.ty hy, T_Region.kS, _, rfl, iteF ?_⟩
    refine ⟨_, rfl, _, CG, dx, _, _, rfl, hx, T_Region.cl, T_Region.nT, regF_tree _, _, rfl, _, CG, dy, _, _, rfl, hy, T_Region.cl, T_Region.nT, regF_tree _, _, _, tr_dp tx, tr_dp ty, sh_tr (by omega), sh_tr (by omega), ?_⟩
    rw [eqv_tr]
    exact q H (Same.refl H)
end
end Toy
set_option maxRecDepth 100000
set_option maxHeartbeats 4000000
namespace Toy
open PySem L2 Tre
theorem leafs_combL {T : Bool → Bool → Bool} : ∀ (z : Tr) (f : Lf), leafs (combL T f z) ≤ leafs z
  | .leaf g, f => Nat.le_refl 1
  | .node t x y, f => by
    have hx := leafs_combL (T := T) x (h1 f)
    have hy := leafs_combL (T := T) y (h2 f)
    refine Nat.le_trans (leafs_branch _ _ _) ?_
    show _ ≤ leafs x + leafs y
    omega
section
variable {P : Program} {w : World} {K : PySem.W.Frag} {mg : Str → Option Value} {base : Heap} {C CG : Addr}
def spLeaf (K : PySem.W.Frag) (C : Addr) : Sp := fun vs H Q _ => ∃ f, vs = lfV f ∧ ∀ x H', Same H H' → RegAt K C H' x (.leaf f) → Q (.ref x) H'
abbrev sRegF : Stmt := inClass (top 48) 10
theorem scGF : FnScope ["middle", "left", "right", "other", "bare", "truths", "truth"] ["middle", "left", "right", "other", "bare"] (defScope sRegF) := ⟨rfl, rfl, rfl, by decide +kernel, rfl, by decide +kernel, by decide +kernel⟩
theorem ok_regleaf {f f1 : Addr} {fd fd1 : FuncData} (F : Fun K "leaf" "Region.leaf" sRegF f fd) (T : Bl mg) (M_Region : Mak P w K mg base 3 "Region" CG f1 fd1 ["self", "tree"] (spRegI K CG)) : FnOk P w K mg base CX0 5 f fd ["middle", "left", "right", "other", "bare"] (spLeaf K CG) := by
  refine F.ok scGF (fun vs H Q E h => ?_) (fun cdv Ar outer s H vs Q E hr h => ?_)
  · obtain ⟨f, rfl, _⟩ := h
    rfl
  · obtain ⟨f, rfl, q⟩ := h
    have nd := scGF.nd
    refine ⟨_, pss_cons (ps_set (i := 5) nd rfl (Or.inl rfl) (pe_tup (pa_cons (pv 0) (pa_cons (pv 1) (pa_cons (pv 2) (pa_cons (pv 3) (pa_cons (pv 4) pa_nil)))))))
      (pss_cons (ps_for PassesOwn.never rfl (pi_tup (pv 5)) (pg_name (i := 6) nd rfl (Or.inl rfl)) (pss_one (ps_if (pt_not (pt_val (pe_callB call_isi (by rfl) T.isinstance (by decide +kernel) (pa_cons (pv 6) (pa_cons (pe_bltn (v := .ty "bool") (u := .type "bool") (by rfl) T.bool (by decide +kernel) rfl) pa_nil))))) pss_never pss_nil)))
      (pss_one (ps_ret (pe_make M_Region.M M_Region.F (hr.mono (by decide)) (by rfl) M_Region.mgC M_Region.b .nil pass0 (pa_cons (pv 5) pa_nil))))), ?_⟩
    refine ⟨_, rfl, _, rfl, _, rfl, _, rfl, _, rfl, (by decide : 5 ≤ sizeLine), fun p hp => ?_⟩
    have s1 := same_new (o := .tup (lfV f)) hp
    refine ⟨_, rfl, p, rfl, ⟨_, SqT.of upd_same⟩, ?_⟩
    refine for_tup (xs := lfV f) (fun i σ H' => ∃ v6, σ = [some (.bl f.m), some (.bl f.l), some (.bl f.r), some (.bl f.o), some (.bl f.b), some (.ref p), v6] ∧ H' = upd H p (.tup (lfV f))) ⟨_, rfl, rfl⟩ (fun i σ H' _ h => by obtain ⟨_, _, rfl⟩ := h; exact SqT.of upd_same) ?_ ?_
    · rintro i x σ H1 hx ⟨v6, rfl, rfl⟩
      obtain ⟨b, rfl⟩ : ∃ b, x = .bl b := by
        match i, hx with
        | 0, hx => exact ⟨_, (Option.some.inj hx).symm⟩
        | 1, hx => exact ⟨_, (Option.some.inj hx).symm⟩
        | 2, hx => exact ⟨_, (Option.some.inj hx).symm⟩
        | 3, hx => exact ⟨_, (Option.some.inj hx).symm⟩
        | 4, hx => exact ⟨_, (Option.some.inj hx).symm⟩
        | n + 5, hx => exact absurd hx (by simp [lfV])
      exact ⟨_, rfl, _, _, _, _, true, rfl, .ty _, .base (.bl _), kit_ty (by decide +kernel), _, rfl, iteF ⟨_, rfl, rfl⟩⟩
    · rintro σ H1 ⟨v6, rfl, rfl⟩
      refine ⟨_, rfl, ?_⟩
      exact regMk (z := .leaf f) ⟨p, rfl, SqT.of upd_same⟩ (by show 1 ≤ 2000; decide) (Nat.zero_le _) fun x H' s2 hR => q x H' (s1.trans s2) hR
def spJoin (K : PySem.W.Frag) (C : Addr) : Sp := fun vs H Q _ => ∃ t a b x y, vs = [.bl t, .ref a, .ref b] ∧ RegAt K C H a x ∧ RegAt K C H b y ∧ (leafs x + leafs y ≤ 2000 ∧ deep x ≤ 100 ∧ deep y ≤ 100) ∧ ∀ r H', Same H H' → RegAt K C H' r (branch t x y) → Q (.ref r) H'
abbrev sRegJ : Stmt := inClass (top 48) 11
theorem scGJ : FnScope ["truth", "left", "right"] ["truth", "left", "right"] (defScope sRegJ) := ⟨rfl, rfl, rfl, by decide +kernel, rfl, by decide +kernel, by decide +kernel⟩
theorem ok_regjoin {f f1 f2 : Addr} {fd fd1 fd2 : FuncData} (F : Fun K "joined" "Region.joined" sRegJ f fd) (T : Bl mg) (T_Region : RegT K mg CG) (M_Region : Mak P w K mg base 3 "Region" CG f1 fd1 ["self", "tree"] (spRegI K CG)) (C_branch_of : Cal P w K mg base 2 "branch_of" f2 fd2 ["truth", "left", "right"] (spBr K)) : FnOk P w K mg base CX0 5 f fd ["truth", "left", "right"] (spJoin K CG) := by
  refine F.ok scGJ (fun vs H Q E h => ?_) (fun cdv Ar outer s H vs Q E hr h => ?_)
  · obtain ⟨t, a, b, x, y, rfl, _⟩ := h
    rfl
  · obtain ⟨t, a, b, x, y, rfl, ⟨dx, u, hx, tx⟩, ⟨dy, v, hy, ty⟩, ⟨l1, d1, d2⟩, q⟩ := h
    have nd := scGJ.nd
    refine ⟨_, pss_cons (ps_if (pt_not (pt_val (pe_callB call_isi (by rfl) T.isinstance (by decide +kernel) (pa_cons (pv 0) (pa_cons (pe_bltn (v := .ty "bool") (u := .type "bool") (by rfl) T.bool (by decide +kernel) rfl) pa_nil))))) pss_never pss_nil)
      (pss_cons (ps_if (pt_not (pt_val (pe_callB call_isi (by rfl) T.isinstance (by decide +kernel) (pa_cons (pv 1) (pa_cons (Own.pe_gref (by rfl) T_Region.mgC) pa_nil))))) pss_never pss_nil)
      (pss_cons (ps_if (pt_not (pt_val (pe_callB call_isi (by rfl) T.isinstance (by decide +kernel) (pa_cons (pv 2) (pa_cons (Own.pe_gref (by rfl) T_Region.mgC) pa_nil))))) pss_never pss_nil)
      (pss_one (ps_ret (pe_make M_Region.M M_Region.F (hr.mono (by decide)) (by rfl) M_Region.mgC M_Region.b .nil pass0 (pa_cons (pe_call C_branch_of.F (hr.mono (by decide)) (by rfl) C_branch_of.mgf C_branch_of.kp C_branch_of.b .nil pass0 (pa_cons (pv 0) (pa_cons (pe_fld (pv 1) rfl) (pa_cons (pe_fld (pv 2) rfl) pa_nil)))) pa_nil)))))), ?_⟩
    refine ⟨_, rfl, _, _, _, _, true, rfl, .ty _, .base (.bl _), kit_ty (by decide +kernel), _, rfl, iteF ?_⟩
    refine ⟨_, rfl, _, _, _, _, true, rfl, .own _, T_Region.ty hx, T_Region.kS, _, rfl, iteF ?_⟩
    refine ⟨_, rfl, _, _, _, _, true, rfl, .own _, T_Region.ty hy, T_Region.kS, _, rfl, iteF ?_⟩
    refine ⟨_, rfl, _, rfl, _, CG, dx, _, _, rfl, hx, T_Region.cl, T_Region.nT, regF_tree _, _, rfl, _, CG, dy, _, _, rfl, hy, T_Region.cl, T_Region.nT, regF_tree _, t, x, y, u, v, rfl, tx, ty, fun v' H1 s1 hv => ?_⟩
    have lb := leafs_branch t x y
    have db := deep_branch t x y
    exact regMk hv (by omega) (by omega) fun r H' s2 hR => q r H' (s1.trans s2) hR
theorem leafs_comb {T : Bool → Bool → Bool} : ∀ a b : Tr, leafs (comb T a b) ≤ leafs a * leafs b
  | .leaf f, z => by
    have := leafs_combL (T := T) z f
    show leafs (combL T f z) ≤ 1 * leafs z
    omega
  | .node t x y, .leaf g => by
    have hx : leafs (comb T x (.leaf (h1 g))) ≤ leafs x * 1 := leafs_comb x (.leaf (h1 g))
    have hy : leafs (comb T y (.leaf (h2 g))) ≤ leafs y * 1 := leafs_comb y (.leaf (h2 g))
    refine Nat.le_trans (leafs_branch _ _ _) ?_
    show _ ≤ (leafs x + leafs y) * 1
    omega
  | .node t x y, .node u v w => by
    have hx := leafs_comb (T := T) x v
    have hy := leafs_comb (T := T) y w
    refine Nat.le_trans (leafs_branch _ _ _) ?_
    show _ ≤ (leafs x + leafs y) * (leafs v + leafs w)
    rw [Nat.add_mul, Nat.mul_add, Nat.mul_add]
    omega
/-- ~region: what is true at all places, less it -/
def spRegN (K : PySem.W.Frag) (C : Addr) : Sp := fun vs H Q _ => ∃ a x, vs = [.ref a] ∧ RegAt K C H a x ∧ (leafs x ≤ 2000 ∧ deep x ≤ 40) ∧ ∀ r H', Same H H' → RegAt K C H' r (comb LESSf (.leaf EveryL) x) → Q (.ref r) H'
abbrev sRegN : Stmt := inClass (top 48) 20
theorem scGN : FnScope ["self"] ["self"] (defScope sRegN) := ⟨rfl, rfl, rfl, by decide +kernel, rfl, by decide +kernel, by decide +kernel⟩
theorem ok_reginv {f f1 f2 aE aL : Addr} {fd fd1 fd2 : FuncData} (F : Fun K "__invert__" "Region.__invert__" sRegN f fd) (T_Region : RegT K mg CG) (mE : mg "EVERY" = some (.ref aE)) (hE : SqT K (fun _ => none) aE (lfV EveryL)) (mL : mg "LESS" = some (.ref aL)) (hL : SqT K (fun _ => none) aL [.bl false, .bl false, .bl true, .bl false])
    (M_Region : Mak P w K mg base 3 "Region" CG f1 fd1 ["self", "tree"] (spRegI K CG)) (C_combined : Cal P w K mg base 43 "combined" f2 fd2 ["one", "other", "table"] (spComb K 40)) : FnOk P w K mg base CX0 44 f fd ["self"] (spRegN K CG) := by
  refine F.ok scGN (fun vs H Q E h => ?_) (fun cdv Ar outer s H vs Q E hr h => ?_)
  · obtain ⟨a, x, rfl, _⟩ := h
    rfl
  · obtain ⟨a, x, rfl, ⟨dx, u, hx, tx⟩, ⟨l1, d1⟩, q⟩ := h
    have nd := scGN.nd
    refine ⟨_, pss_one (ps_ret (pe_make M_Region.M M_Region.F (hr.mono (by decide)) (by rfl) M_Region.mgC M_Region.b .nil pass0 (pa_cons (pe_call C_combined.F (hr.mono (by decide)) (by rfl) C_combined.mgf C_combined.kp C_combined.b .nil pass0 (pa_cons (Own.pe_gref (by rfl) mE) (pa_cons (pe_fld (pv 0) rfl) (pa_cons (Own.pe_gref (by rfl) mL) pa_nil)))) pa_nil))), ?_⟩
    refine ⟨_, rfl, _, CG, dx, _, _, rfl, hx, T_Region.cl, T_Region.nT, regF_tree _, LESSf, .leaf EveryL, x, _, _, _, rfl, ⟨aE, rfl, up0 H hE⟩, tx, ⟨aL, rfl, up0 H hL⟩, Nat.zero_le _, d1, fun v' H1 s1 hv => ?_⟩
    have lb := leafs_combL (T := LESSf) x EveryL
    have db := deep_combL (T := LESSf) x EveryL
    exact regMk hv (Nat.le_trans lb l1) (by have h : deep (comb LESSf (.leaf EveryL) x) ≤ deep x := db; omega) fun r H' s2 hR => q r H' (s1.trans s2) hR
end
end Toy
set_option maxRecDepth 100000
set_option maxHeartbeats 4000000
namespace Toy
open PySem L2 Tre
/-! ### the trees that the law draws -/
def LtAt (K : PySem.W.Frag) (H : Hp) : Tr → V → Prop
  | .leaf f, v => ∃ a b, v = .ref a ∧ SqT K H a [.str "leaf", .ref b] ∧ SqT K H b (lfV f)
  | .node t x y, v => ∃ a u w, v = .ref a ∧ SqT K H a [.str "at", .bl t, u, w] ∧ LtAt K H x u ∧ LtAt K H y w
theorem LtAt.same {K : PySem.W.Frag} {H H' : Hp} (e : Same H H') : ∀ {z : Tr} {v : V}, LtAt K H z v → LtAt K H' z v
  | .leaf f, v, ⟨a, b, e1, h, g⟩ => ⟨a, b, e1, h.ext e, g.ext e⟩
  | .node t x y, v, ⟨a, u, w, e1, h, hx, hy⟩ => ⟨a, u, w, e1, h.ext e, LtAt.same e hx, LtAt.same e hy⟩
theorem deep_least : ∀ z : Tr, deep (least z) ≤ deep z
  | .leaf f => Nat.le_refl 0
  | .node t x y => by
    have hx := deep_least x
    have hy := deep_least y
    refine Nat.le_trans (deep_branch _ _ _) ?_
    show _ ≤ max (deep x) (deep y) + 1
    omega
theorem leafs_least : ∀ z : Tr, leafs (least z) ≤ leafs z
  | .leaf f => Nat.le_refl 1
  | .node t x y => by
    have hx := leafs_least x
    have hy := leafs_least y
    refine Nat.le_trans (leafs_branch _ _ _) ?_
    show _ ≤ leafs x + leafs y
    omega
section
variable {P : Program} {w : World} {K : PySem.W.Frag} {mg : Str → Option Value} {base : Heap} {C CG : Addr}
def spLReg (K : PySem.W.Frag) (C : Addr) (d : Nat) : Sp := fun vs H Q _ => ∃ v z, vs = [v] ∧ LtAt K H z v ∧ deep z < d ∧ leafs z ≤ 2000 ∧ ∀ x H', Same H H' → RegAt K C H' x (least z) → Q (.ref x) H'
abbrev sLReg : Stmt := top 56
theorem scLg : FnScope ["_law_tree_here", "_law_middle", "_law_left", "_law_right_here", "_law_other_here", "_law_bare"] ["_law_tree_here"] (defScope sLReg) := ⟨rfl, rfl, rfl, by decide +kernel, rfl, by decide +kernel, by decide +kernel⟩
theorem ok_lreg {f p1 f1 p2 f2 : Addr} {fd fd1 fd2 : FuncData} (F : Fun K "_law_region" "_law_region" sLReg f fd) (mgf : mg "_law_region" = some (.ref f)) (b : Binds K fd ["_law_tree_here"] []) (T_Region : RegT K mg CG)
    (S_Region_joined : Sta P w K mg base 5 CG "joined" p1 f1 fd1 ["truth", "left", "right"] (spJoin K CG)) (S_Region_leaf : Sta P w K mg base 5 CG "leaf" p2 f2 fd2 ["middle", "left", "right", "other", "bare"] (spLeaf K CG)) : ∀ d, d ≤ 90 → FnOk P w K mg base CX0 (6 + d) f fd ["_law_tree_here"] (spLReg K CG d) := by
  intro d
  induction d with
  | zero =>
    intro _
    refine F.ok scLg (fun vs H Q E h => ?_) (fun cdv Ar outer s H vs Q E hr h => ?_)
    · obtain ⟨v, z, rfl, _⟩ := h
      rfl
    · obtain ⟨v, z, rfl, hz, dz, _⟩ := h
      exact absurd dz (Nat.not_lt_zero _)
  | succ d ih =>
    intro h90
    have C__law_region : Cal P w K mg base (6 + d) "_law_region" f fd ["_law_tree_here"] (spLReg K CG d) := ⟨ih (by omega), mgf, F.kp, b⟩
    refine F.ok scLg (fun vs H Q E h => ?_) (fun cdv Ar outer s H vs Q E hr h => ?_)
    · obtain ⟨v, z, rfl, _⟩ := h
      rfl
    · obtain ⟨v, z, rfl, hz, dz, lz, q⟩ := h
      have nd := scLg.nd
      refine ⟨_, pss_cons (ps_if (pt_cmpR op_eq (pe_ix ix_tup (pv 0) pe_int (fun _ _ => rfl)) pe_str (nomark _)) (pss_one (ps_ret (Own.pe_smeth T_Region.rd S_Region_joined.s S_Region_joined.F (hr.mono (by first | decide | omega | (simp only [Nat.add_eq]; omega))) S_Region_joined.b pass0 (Own.pe_gref (by rfl) T_Region.mgC) (pa_cons (pe_ix ix_tup (pv 0) pe_int (fun _ _ => rfl)) (pa_cons (pe_call C__law_region.F (hr.mono (by first | decide | omega | (simp only [Nat.add_eq]; omega))) (by rfl) C__law_region.mgf C__law_region.kp C__law_region.b .nil pass0 (pa_cons (pe_ix ix_tup (pv 0) pe_int (fun _ _ => rfl)) pa_nil)) (pa_cons (pe_call C__law_region.F (hr.mono (by first | decide | omega | (simp only [Nat.add_eq]; omega))) (by rfl) C__law_region.mgf C__law_region.kp C__law_region.b .nil pass0 (pa_cons (pe_ix ix_tup (pv 0) pe_int (fun _ _ => rfl)) pa_nil)) pa_nil)))))) pss_nil)
      (pss_cons (ps_asg (pe_ix ix_tup (pv 0) pe_int (fun _ _ => rfl)) (pg_tup (by rfl) (pgs_cons (pg_name (i := 1) nd rfl (Or.inl rfl)) (pgs_cons (pg_name (i := 2) nd rfl (Or.inl rfl)) (pgs_cons (pg_name (i := 3) nd rfl (Or.inl rfl)) (pgs_cons (pg_name (i := 4) nd rfl (Or.inl rfl)) (pgs_cons (pg_name (i := 5) nd rfl (Or.inl rfl)) pgs_nil)))))))
      (pss_one (ps_ret (Own.pe_smeth T_Region.rd S_Region_leaf.s S_Region_leaf.F (hr.mono (by first | decide | omega | (simp only [Nat.add_eq]; omega))) S_Region_leaf.b pass0 (Own.pe_gref (by rfl) T_Region.mgC) (pa_cons (pv 1) (pa_cons (pv 2) (pa_cons (pv 3) (pa_cons (pv 4) (pa_cons (pv 5) pa_nil))))))))), ?_⟩
      cases z with
      | leaf g =>
        obtain ⟨a, c, rfl, ha, hc⟩ := hz
        refine ⟨_, rfl, a, _, _, _, rfl, rfl, ha, rfl, rfl, _, rfl, iteFb rfl ?_⟩
        refine ⟨_, rfl, a, _, _, _, rfl, rfl, ha, rfl, _, _, rfl, hc, rfl, _, _, rfl, _, _, rfl, _, _, rfl, _, _, rfl, _, _, rfl, rfl, ?_⟩
        exact ⟨rfl, _, rfl, _, rfl, _, rfl, _, rfl, _, rfl, g, rfl, fun x H1 s1 hR => q x H1 s1 hR⟩
      | node t x y =>
        obtain ⟨a, u, w', rfl, ha, hx, hy⟩ := hz
        refine ⟨_, rfl, a, _, _, _, rfl, rfl, ha, rfl, rfl, _, rfl, iteTb rfl ?_⟩
        have dz' : max (deep x) (deep y) + 1 < d + 1 := dz
        have lz' : leafs x + leafs y ≤ 2000 := lz
        have px := deep_least x
        have py := deep_least y
        have qx := leafs_least x
        have qy := leafs_least y
        refine ⟨rfl, _, rfl, a, _, _, _, rfl, rfl, ha, rfl, _, rfl, a, _, _, _, rfl, rfl, ha, rfl, u, x, rfl, hx, by omega, by omega, fun r1 H1 s1 g1 => ?_⟩
        refine ⟨_, rfl, a, _, _, _, rfl, rfl, ha.ext s1, rfl, w', y, rfl, hy.same s1, by omega, by omega, fun r2 H2 s2 g2 => ?_⟩
        exact ⟨t, r1, r2, least x, least y, rfl, g1.same s2, g2, ⟨by omega, by omega, by omega⟩, fun r H3 s3 hR => q r H3 ((s1.trans s2).trans s3) hR⟩
end
end Toy
set_option maxRecDepth 100000
set_option maxHeartbeats 4000000
namespace Toy
open PySem L2 Tre
section
variable {P : Program} {w : World} {K : PySem.W.Frag} {mg : Str → Option Value} {base : Heap} {C CG : Addr}
def spLHv (K : PySem.W.Frag) : Sp := fun vs H Q _ => ∃ a f, vs = [.ref a] ∧ SqT K H a (lfV f) ∧ ∀ p x y H', Same H H' → H' p = some (.tup [.ref x, .ref y]) → SqT K H' x (lfV (h1 f)) → SqT K H' y (lfV (h2 f)) → Q (.ref p) H'
abbrev sLHv : Stmt := top 58
theorem scLh : FnScope ["_law_truths_here", "_law_middle", "_law_left", "_law_right_here", "_law_other_here", "_law_bare"] ["_law_truths_here"] (defScope sLHv) := ⟨rfl, rfl, rfl, by decide +kernel, rfl, by decide +kernel, by decide +kernel⟩
theorem ok_lhv {f : Addr} {fd : FuncData} (F : Fun K "_law_halves" "_law_halves" sLHv f fd) : FnOk P w K mg base CX0 1 f fd ["_law_truths_here"] (spLHv K) := by
  refine F.ok scLh (fun vs H Q E h => ?_) (fun cdv Ar outer s H vs Q E hr h => ?_)
  · obtain ⟨a, g, rfl, _⟩ := h
    rfl
  · obtain ⟨a, g, rfl, h, q⟩ := h
    have nd := scLh.nd
    refine ⟨_, pss_cons (ps_asg (pv 0) (pg_tup (by rfl) (pgs_cons (pg_name (i := 1) nd rfl (Or.inl rfl)) (pgs_cons (pg_name (i := 2) nd rfl (Or.inl rfl)) (pgs_cons (pg_name (i := 3) nd rfl (Or.inl rfl)) (pgs_cons (pg_name (i := 4) nd rfl (Or.inl rfl)) (pgs_cons (pg_name (i := 5) nd rfl (Or.inl rfl)) pgs_nil)))))))
      (pss_one (ps_ret (pe_tup (pa_cons (pe_tup (pa_cons (pv 2) (pa_cons (pv 2) (pa_cons (pv 4) (pa_cons (pv 4) (pa_cons (pv 5) pa_nil)))))) (pa_cons (pe_tup (pa_cons (pv 3) (pa_cons (pv 4) (pa_cons (pv 3) (pa_cons (pv 4) (pa_cons (pv 5) pa_nil)))))) pa_nil))))), ?_⟩
    refine ⟨_, rfl, _, _, rfl, h, rfl, _, _, rfl, _, _, rfl, _, _, rfl, _, _, rfl, _, _, rfl, rfl, ?_⟩
    refine ⟨_, rfl, _, rfl, _, rfl, _, rfl, _, rfl, (by decide : 5 ≤ sizeLine), fun a1 e1 => ?_⟩
    refine ⟨_, rfl, _, rfl, _, rfl, _, rfl, _, rfl, (by decide : 5 ≤ sizeLine), fun a2 e2 => ⟨(by decide : 2 ≤ sizeLine), fun a3 e3 => ?_⟩⟩
    have s1 := same_new (o := .tup (lfV (h1 g))) e1
    have s2 := same_new (o := .tup (lfV (h2 g))) e2
    have s3 := same_new (o := .tup [.ref a1, .ref a2]) e3
    exact q a3 a1 a2 _ (s1.trans (s2.trans s3)) upd_same (SqT.of (s3 _ _ (s2 _ _ upd_same))) (SqT.of (s3 _ _ upd_same))
/-- the three parts of a tree, a leaf's by its halves -/
def split : Tr → Bool × Tr × Tr
  | .leaf f => (f.m, .leaf (h1 f), .leaf (h2 f))
  | .node t x y => (t, x, y)
def spLSp (K : PySem.W.Frag) : Sp := fun vs H Q _ => ∃ v z, vs = [v] ∧ LtAt K H z v ∧ ∀ p u w' H', Same H H' → SqT K H' p [.bl (split z).1, u, w'] → LtAt K H' (split z).2.1 u → LtAt K H' (split z).2.2 w' → Q (.ref p) H'
abbrev sLSp : Stmt := top 61
theorem scLs : FnScope ["_law_tree_here", "_law_low", "_law_high"] ["_law_tree_here"] (defScope sLSp) := ⟨rfl, rfl, rfl, by decide +kernel, rfl, by decide +kernel, by decide +kernel⟩
theorem ok_lsp {f f1 : Addr} {fd fd1 : FuncData} (F : Fun K "_law_split" "_law_split" sLSp f fd) (C__law_halves : Cal P w K mg base 1 "_law_halves" f1 fd1 ["_law_truths_here"] (spLHv K)) : FnOk P w K mg base CX0 2 f fd ["_law_tree_here"] (spLSp K) := by
  refine F.ok scLs (fun vs H Q E h => ?_) (fun cdv Ar outer s H vs Q E hr h => ?_)
  · obtain ⟨v, z, rfl, _⟩ := h
    rfl
  · obtain ⟨v, z, rfl, hz, q⟩ := h
    have nd := scLs.nd
    refine ⟨_, pss_cons (ps_if (pt_cmpR op_eq (pe_ix ix_tup (pv 0) pe_int (fun _ _ => rfl)) pe_str (nomark _)) (pss_one (ps_ret (pe_slice sl_tup (pv 0) (po_some pe_int) po_none))) pss_nil)
      (pss_cons (ps_asg (pe_call C__law_halves.F (hr.mono (by first | decide | omega | (simp only [Nat.add_eq]; omega))) (by rfl) C__law_halves.mgf C__law_halves.kp C__law_halves.b .nil pass0 (pa_cons (pe_ix ix_tup (pv 0) pe_int (fun _ _ => rfl)) pa_nil)) (pg_tup (by rfl) (pgs_cons (pg_name (i := 1) nd rfl (Or.inl rfl)) (pgs_cons (pg_name (i := 2) nd rfl (Or.inl rfl)) pgs_nil))))
      (pss_one (ps_ret (pe_tup (pa_cons (pe_ix ix_tup (pe_ix ix_tup (pv 0) pe_int (fun _ _ => rfl)) pe_int (fun _ _ => rfl)) (pa_cons (pe_tup (pa_cons pe_str (pa_cons (pv 1) pa_nil))) (pa_cons (pe_tup (pa_cons pe_str (pa_cons (pv 2) pa_nil))) pa_nil))))))), ?_⟩
    cases z with
    | node t x y =>
      obtain ⟨a, u, w', rfl, ha, hx, hy⟩ := hz
      refine ⟨_, rfl, a, _, _, _, rfl, rfl, ha, rfl, rfl, _, rfl, iteTb rfl ?_⟩
      refine ⟨_, rfl, 1, rfl, a, _, rfl, ha, (show ¬(HT.sIx 4 0 (some 1) = 0 ∧ HT.sIx 4 4 none = 4) by decide +kernel), fun p hp => ?_⟩
      have s1 := same_new (o := .tup [.bl t, u, w']) hp
      exact q p u w' _ s1 (SqT.of upd_same) (hx.same s1) (hy.same s1)
    | leaf g =>
      obtain ⟨a, c, rfl, ha, hc⟩ := hz
      refine ⟨_, rfl, a, _, _, _, rfl, rfl, ha, rfl, rfl, _, rfl, iteFb rfl ?_⟩
      refine ⟨_, rfl, a, _, _, _, rfl, rfl, ha, rfl, c, g, rfl, hc, fun p x y H1 s1 hp hx hy => ?_⟩
      refine ⟨_, _, rfl, SqT.of hp, rfl, _, _, rfl, _, _, rfl, rfl, ?_⟩
      refine ⟨_, rfl, a, _, _, _, rfl, rfl, ha.ext s1, rfl, c, _, _, _, rfl, rfl, hc.ext s1, rfl, _, rfl, (by decide : 2 ≤ sizeLine), fun p1 e1 => ?_⟩
      refine ⟨_, rfl, (by decide : 2 ≤ sizeLine), fun p2 e2 => ⟨(by decide : 3 ≤ sizeLine), fun p3 e3 => ?_⟩⟩
      have s2 := same_new (o := .tup [.str "leaf", .ref x]) e1
      have s3 := same_new (o := .tup [.str "leaf", .ref y]) e2
      have s4 := same_new (o := .tup [.bl g.m, .ref p1, .ref p2]) e3
      exact q p3 (.ref p1) (.ref p2) _ (s1.trans (s2.trans (s3.trans s4))) (SqT.of upd_same) ⟨p1, x, rfl, SqT.of (s4 _ _ (s3 _ _ upd_same)), hx.ext (s2.trans (s3.trans s4))⟩ ⟨p2, y, rfl, SqT.of (s4 _ _ upd_same), hy.ext (s2.trans (s3.trans s4))⟩
theorem eqv_two (f g f' g' : Lf) : PyData.eqv (.tuple [lfD f, lfD g]) (.tuple [lfD f', lfD g']) = decide (f = f' ∧ g = g') := by
  have e : PyData.eqv (.tuple [lfD f, lfD g]) (.tuple [lfD f', lfD g']) = (PyData.eqv (lfD f) (lfD f') && PyData.eqv (lfD g) (lfD g')) := by
    simp [PyData.eqv, PyData.eqvAll]
  rw [e, eqv_lf, eqv_lf, Bool.decide_and]
theorem sq_dp {H : Hp} {a : Addr} {f : Lf} (h : SqT K H a (lfV f)) : Dp K H (.ref a) (lfD f) := lf_dp (f := f) ⟨a, rfl, h⟩
def spLLe (K : PySem.W.Frag) (d : Nat) : Sp := fun vs H Q _ => ∃ v z, vs = [v] ∧ LtAt K H z v ∧ deep z < d ∧ ∀ v' H', Same H H' → LtAt K H' (least z) v' → Q v' H'
abbrev sLLe : Stmt := top 59
theorem scLl : FnScope ["_law_tree_here", "_law_low", "_law_high", "_law_found"] ["_law_tree_here"] (defScope sLLe) := ⟨rfl, rfl, rfl, by decide +kernel, rfl, by decide +kernel, by decide +kernel⟩
theorem ok_lle {f f1 : Addr} {fd fd1 : FuncData} (F : Fun K "_law_least" "_law_least" sLLe f fd) (mgf : mg "_law_least" = some (.ref f)) (b : Binds K fd ["_law_tree_here"] []) (C__law_halves : Cal P w K mg base 1 "_law_halves" f1 fd1 ["_law_truths_here"] (spLHv K)) : ∀ d, FnOk P w K mg base CX0 (2 + d) f fd ["_law_tree_here"] (spLLe K d) := by
  intro d
  induction d with
  | zero =>
    refine F.ok scLl (fun vs H Q E h => ?_) (fun cdv Ar outer s H vs Q E hr h => ?_)
    · obtain ⟨v, z, rfl, _⟩ := h
      rfl
    · obtain ⟨v, z, rfl, hz, dz, _⟩ := h
      exact absurd dz (Nat.not_lt_zero _)
  | succ d ih =>
    have C__law_least : Cal P w K mg base (2 + d) "_law_least" f fd ["_law_tree_here"] (spLLe K d) := ⟨ih, mgf, F.kp, b⟩
    refine F.ok scLl (fun vs H Q E h => ?_) (fun cdv Ar outer s H vs Q E hr h => ?_)
    · obtain ⟨v, z, rfl, _⟩ := h
      rfl
    · obtain ⟨v, z, rfl, hz, dz, q⟩ := h
      have nd := scLl.nd
      refine ⟨_, pss_cons (ps_if (pt_cmpR op_eq (pe_ix ix_tup (pv 0) pe_int (fun _ _ => rfl)) pe_str (nomark _)) (pss_one (ps_ret (pv 0))) pss_nil)
      (pss_cons (ps_par (i := 1) (j := 2) (by rfl) nd rfl rfl (by decide) rfl rfl (pa_cons (pe_call C__law_least.F (hr.mono (by first | decide | omega | (simp only [Nat.add_eq]; omega))) (by rfl) C__law_least.mgf C__law_least.kp C__law_least.b .nil pass0 (pa_cons (pe_ix ix_tup (pv 0) pe_int (fun _ _ => rfl)) pa_nil)) (pa_cons (pe_call C__law_least.F (hr.mono (by first | decide | omega | (simp only [Nat.add_eq]; omega))) (by rfl) C__law_least.mgf C__law_least.kp C__law_least.b .nil pass0 (pa_cons (pe_ix ix_tup (pv 0) pe_int (fun _ _ => rfl)) pa_nil)) pa_nil)) (by rfl))
      (C8.pss_cut (ps_if (PW.pt (pw_and (pt_cmpR op_eq (pe_ix ix_tup (pv 1) pe_int (fun _ _ => rfl)) pe_str (nomark _)) (pw_and1 (pt_cmpR op_eq (pe_ix ix_tup (pv 2) pe_int (fun _ _ => rfl)) pe_str (nomark _))))) (pss_cons (ps_set (i := 3) nd rfl (Or.inl rfl) (pe_tup (pa_cons (pe_ix ix_tup (pv 0) pe_int (fun _ _ => rfl)) (pa_cons (pe_ix ix_tup (pe_ix ix_tup (pv 1) pe_int (fun _ _ => rfl)) pe_int (fun _ _ => rfl)) (pa_cons (pe_ix ix_tup (pe_ix ix_tup (pv 2) pe_int (fun _ _ => rfl)) pe_int (fun _ _ => rfl)) (pa_cons (pe_ix ix_tup (pe_ix ix_tup (pv 1) pe_int (fun _ _ => rfl)) pe_int (fun _ _ => rfl)) (pa_cons (pe_ix ix_tup (pe_ix ix_tup (pv 1) pe_int (fun _ _ => rfl)) pe_int (fun _ _ => rfl)) pa_nil)))))))
      (pss_one (ps_if (pt_cmpR (op_eqD hr.units) (pe_call C__law_halves.F (hr.mono (by first | decide | omega | (simp only [Nat.add_eq]; omega))) (by rfl) C__law_halves.mgf C__law_halves.kp C__law_halves.b .nil pass0 (pa_cons (pv 3) pa_nil)) (pe_tup (pa_cons (pe_ix ix_tup (pv 1) pe_int (fun _ _ => rfl)) (pa_cons (pe_ix ix_tup (pv 2) pe_int (fun _ _ => rfl)) pa_nil))) (nomark _)) (pss_one (ps_ret (pe_tup (pa_cons pe_str (pa_cons (pv 3) pa_nil))))) pss_nil))) pss_nil)
      (pss_one (ps_ret (pe_tup (pa_cons pe_str (pa_cons (pe_ix ix_tup (pv 0) pe_int (fun _ _ => rfl)) (pa_cons (pv 1) (pa_cons (pv 2) pa_nil))))))))), ?_⟩
      cases z with
      | leaf g =>
        have hz' := hz
        obtain ⟨a, c, rfl, ha, hc⟩ := hz
        refine ⟨_, rfl, a, _, _, _, rfl, rfl, ha, rfl, rfl, _, rfl, iteTb rfl ?_⟩
        exact ⟨_, rfl, q _ H (Same.refl H) hz'⟩
      | node t x y =>
        obtain ⟨a, u, w', rfl, ha, hx, hy⟩ := hz
        have dz' : max (deep x) (deep y) + 1 < d + 1 := dz
        refine ⟨_, rfl, a, _, _, _, rfl, rfl, ha, rfl, rfl, _, rfl, iteFb rfl ?_⟩
        refine ⟨_, rfl, a, _, _, _, rfl, rfl, ha, rfl, u, x, rfl, hx, by omega, fun v1 H1 s1 g1 => ?_⟩
        refine ⟨_, rfl, a, _, _, _, rfl, rfl, ha.ext s1, rfl, w', y, rfl, hy.same s1, by omega, fun v2 H2 s2 g2 => ⟨_, _, rfl, ?_⟩⟩
        have g1' := g1.same s2
        have ha2 := ha.ext (s1.trans s2)
        have q2 : ∀ v' H', Same H2 H' → LtAt K H' (branch t (least x) (least y)) v' → Q v' H' := fun v' H' e h => q v' H' ((s1.trans s2).trans e) h
        generalize least x = x' at *
        generalize least y = y' at *
        refine ⟨fun σ H' => ∃ v3, σ = [some (.ref a), some v1, some v2, v3] ∧ Same H2 H' ∧ branch t x' y' = .node t x' y', ?_, ?_⟩
        · cases x' with
          | node t1 x1 x2 =>
            obtain ⟨a1, u1, w1, rfl, k1, _⟩ := g1'
            refine ⟨_, rfl, a1, _, _, _, rfl, rfl, k1, rfl, rfl, _, rfl, iteFb rfl ?_⟩
            exact ⟨_, rfl, Same.refl _, by cases y' <;> rfl⟩
          | leaf f1 =>
            obtain ⟨a1, c1, rfl, k1, m1⟩ := g1'
            refine ⟨_, rfl, a1, _, _, _, rfl, rfl, k1, rfl, rfl, _, rfl, iteTb rfl ?_⟩
            cases y' with
            | node t1 y1 y2 =>
              obtain ⟨a2, u2, w2, rfl, k2, _⟩ := g2
              refine ⟨_, rfl, a2, _, _, _, rfl, rfl, k2, rfl, rfl, _, rfl, iteFb rfl ?_⟩
              exact ⟨_, rfl, Same.refl _, rfl⟩
            | leaf f2 =>
              obtain ⟨a2, c2, rfl, k2, m2⟩ := g2
              refine ⟨_, rfl, a2, _, _, _, rfl, rfl, k2, rfl, rfl, _, rfl, iteTb rfl ?_⟩
              refine ⟨_, rfl, a, _, _, _, rfl, rfl, ha2, rfl, _, rfl, a1, _, _, _, rfl, rfl, k1, rfl, c1, _, _, _, rfl, rfl, m1, rfl, _, rfl, a2, _, _, _, rfl, rfl, k2, rfl, c2, _, _, _, rfl, rfl, m2, rfl, _, rfl, a1, _, _, _, rfl, rfl, k1, rfl, c1, _, _, _, rfl, rfl, m1, rfl, _, rfl, a1, _, _, _, rfl, rfl, k1, rfl, c1, _, _, _, rfl, rfl, m1, rfl, (by decide : 5 ≤ sizeLine), fun p hp => ?_⟩
              have t1 := same_new (o := .tup (lfV (up t f1 f2))) hp
              refine ⟨_, rfl, p, up t f1 f2, rfl, SqT.of upd_same, fun p3 x3 y3 H3 t3 h3 hx3 hy3 => ?_⟩
              have t13 := t1.trans t3
              have hp3 := t3 _ _ (upd_same (H := H2) (a := p) (o := .tup (lfV (up t f1 f2))))
              refine ⟨_, rfl, a1, _, _, _, rfl, rfl, k1.ext t13, rfl, _, rfl, a2, _, _, _, rfl, rfl, k2.ext t13, rfl, (by decide : 2 ≤ sizeLine), fun p4 hp4 => ?_⟩
              have t4 := same_new (o := .tup [.ref c1, .ref c2]) hp4
              have t14 := t13.trans t4
              refine ⟨_, _, .tup (SqT.of (t4 _ _ h3)) (.cons (sq_dp (hx3.ext t4)) (.cons (sq_dp (hy3.ext t4)) .nil)), .tup (SqT.of upd_same) (.cons (sq_dp (m1.ext t14)) (.cons (sq_dp (m2.ext t14)) .nil)), rfl, rfl, ?_⟩
              rw [eqv_two]
              refine ⟨_, rfl, ?_⟩
              by_cases e : h1 (up t f1 f2) = f1 ∧ h2 (up t f1 f2) = f2
              · refine iteTb (decide_eq_true e) ?_
                refine ⟨_, rfl, (by decide : 2 ≤ sizeLine), fun p5 hp5 => ?_⟩
                have t5 := same_new (o := .tup [.str "leaf", .ref p]) hp5
                refine q2 _ _ (t14.trans t5) ?_
                rw [show branch t (.leaf f1) (.leaf f2) = .leaf (up t f1 f2) from if_pos e]
                exact ⟨p5, p, rfl, SqT.of upd_same, SqT.of (t5 _ _ (t4 _ _ hp3))⟩
              · refine iteFb (decide_eq_false e) ?_
                exact ⟨_, rfl, t14, if_neg e⟩
        · rintro σ H3 ⟨v3, rfl, s3, e⟩
          refine ⟨_, rfl, a, _, _, _, rfl, rfl, ha2.ext s3, rfl, _, rfl, _, rfl, (by decide : 4 ≤ sizeLine), fun p hp => ?_⟩
          have s4 := s3.trans (same_new (o := .tup [.str "at", .bl t, v1, v2]) hp)
          refine q2 _ _ s4 ?_
          rw [e]
          exact ⟨p, v1, v2, rfl, SqT.of upd_same, g1'.same s4, g2.same s4⟩
end
end Toy
set_option maxRecDepth 100000
set_option maxHeartbeats 4000000
namespace Toy
open PySem L2 Tre
section
variable {P : Program} {w : World} {K : PySem.W.Frag} {mg : Str → Option Value} {base : Heap} {C CG : Addr}
theorem merge_split (T : Bool → Bool → Bool) (x y : Tr) (h : (isN x && !isN y || !isN x && isN y || isN x && isN y) = true) : merge T x y = .node (T (split x).1 (split y).1) (merge T (split x).2.1 (split y).2.1) (merge T (split x).2.2 (split y).2.2) := by
  cases x <;> cases y <;> first | rfl | cases h
theorem deep_split (z : Tr) (d : Nat) (h : deep z < d + 1) (h0 : 0 < d) : deep (split z).2.1 < d ∧ deep (split z).2.2 < d := by
  cases z with
  | leaf f => exact ⟨h0, h0⟩
  | node t x y =>
    have h' : max (deep x) (deep y) + 1 < d + 1 := h
    exact ⟨show deep x < d by omega, show deep y < d by omega⟩
theorem bz (p : Bool) : Sz (if p = true then 1 else 0) := by cases p <;> exact Sz.of (by decide +kernel)
def spLMe (K : PySem.W.Frag) (d : Nat) : Sp := fun vs H Q _ => ∃ T x y u v tb, vs = [u, v, tb] ∧ LtAt K H x u ∧ LtAt K H y v ∧ TabAt K H T tb ∧ deep x < d ∧ deep y < d ∧ ∀ r H', Same H H' → LtAt K H' (merge T x y) r → Q r H'
abbrev sLMe : Stmt := top 62
theorem scLm : FnScope ["_law_one", "_law_other_here", "_law_table_here", "_law_mine", "_law_its", "_law_truth", "_law_a", "_law_b"] ["_law_one", "_law_other_here", "_law_table_here"] (defScope sLMe) := ⟨rfl, rfl, rfl, by decide +kernel, rfl, by decide +kernel, by decide +kernel⟩
theorem ok_lme {f f1 : Addr} {fd fd1 : FuncData} (F : Fun K "_law_merged" "_law_merged" sLMe f fd) (mgf : mg "_law_merged" = some (.ref f)) (b : Binds K fd ["_law_one", "_law_other_here", "_law_table_here"] []) (T : Bl mg) (zz : mg "zip" = none) (zt : mg "tuple" = none) (C__law_split : Cal P w K mg base 2 "_law_split" f1 fd1 ["_law_tree_here"] (spLSp K)) : ∀ d, FnOk P w K mg base CX0 (3 + d) f fd ["_law_one", "_law_other_here", "_law_table_here"] (spLMe K d) := by
  intro d
  induction d with
  | zero =>
    refine F.ok scLm (fun vs H Q E h => ?_) (fun cdv Ar outer s H vs Q E hr h => ?_)
    · obtain ⟨F, x, y, u, v, tb, rfl, _⟩ := h
      rfl
    · obtain ⟨F, x, y, u, v, tb, rfl, _, _, _, dz, _⟩ := h
      exact absurd dz (Nat.not_lt_zero _)
  | succ d ih =>
    have C__law_merged : Cal P w K mg base (3 + d) "_law_merged" f fd ["_law_one", "_law_other_here", "_law_table_here"] (spLMe K d) := ⟨ih, mgf, F.kp, b⟩
    refine F.ok scLm (fun vs H Q E h => ?_) (fun cdv Ar outer s H vs Q E hr h => ?_)
    · obtain ⟨F, x, y, u, v, tb, rfl, _⟩ := h
      rfl
    · obtain ⟨G, x, y, u, v, tb, rfl, hx, hy, ht, dx, dy, q⟩ := h
      have nd := scLm.nd
      refine ⟨_, pss_cons (ps_if (PW.pt (pw_and (pt_cmpR op_eq (pe_ix ix_tup (pv 0) pe_int (fun _ _ => rfl)) pe_str (nomark _)) (pw_and1 (pt_cmpR op_eq (pe_ix ix_tup (pv 1) pe_int (fun _ _ => rfl)) pe_str (nomark _))))) (pss_one (ps_ret (pe_tup (pa_cons pe_str (pa_cons (pe_callTy call_tuple_of (by rfl) zt (by decide +kernel) (pa_cons (by exact (pe_lc (g := gTup K 2 (gCons (gName 6) (gCons (gName 7) gNil))) (own := [("_law_a", 6), ("_law_b", 7)]) (tt := tYes) rfl nd (RZ.pi_zipA (by rfl) zz (pa_cons (pe_ix ix_tup (pv 0) pe_int (fun _ _ => rfl)) (pa_cons (pe_ix ix_tup (pv 1) pe_int (fun _ _ => rfl)) pa_nil))) (blkOk_by (N := ["_law_one", "_law_other_here", "_law_table_here", "_law_mine", "_law_its", "_law_truth", "_law_a", "_law_b"]) (sc := defScope (top 62)) (by decide +kernel)) (fun _ _ _ _ _ => pg_tup (by rfl) (pgs_cons (pg_name (i := 6) nd rfl (Or.inl rfl)) (pgs_cons (pg_name (i := 7) nd rfl (Or.inl rfl)) pgs_nil))) (fun _ _ _ _ _ => pts_nil) (fun _ _ _ _ _ => (pe_ix (ix_tupK (K := K) rfl) (pv 2) (pe_op op_add (pe_op op_mulW pe_int (pe_callTy call_int1 (by rfl) T.int (by decide +kernel) (pa_cons (pv 6) pa_nil))) (pe_callTy call_int1 (by rfl) T.int (by decide +kernel) (pa_cons (pv 7) pa_nil))) (fun _ _ => rfl))))) pa_nil)) pa_nil))))) pss_nil)
      (pss_cons (ps_par (i := 3) (j := 4) (by rfl) nd rfl rfl (by decide) rfl rfl (pa_cons (pe_call C__law_split.F (hr.mono (by first | decide | omega | (simp only [Nat.add_eq]; omega))) (by rfl) C__law_split.mgf C__law_split.kp C__law_split.b .nil pass0 (pa_cons (pv 0) pa_nil)) (pa_cons (pe_call C__law_split.F (hr.mono (by first | decide | omega | (simp only [Nat.add_eq]; omega))) (by rfl) C__law_split.mgf C__law_split.kp C__law_split.b .nil pass0 (pa_cons (pv 1) pa_nil)) pa_nil)) (by rfl))
      (pss_cons (ps_set (i := 5) nd rfl (Or.inl rfl) (pe_ix ix_tup (pv 2) (pe_op op_add (pe_op op_mulW pe_int (pe_callTy call_int1 (by rfl) T.int (by decide +kernel) (pa_cons (pe_ix ix_tup (pv 3) pe_int (fun _ _ => rfl)) pa_nil))) (pe_callTy call_int1 (by rfl) T.int (by decide +kernel) (pa_cons (pe_ix ix_tup (pv 4) pe_int (fun _ _ => rfl)) pa_nil))) (fun _ _ => rfl)))
      (pss_one (ps_ret (pe_tup (pa_cons pe_str (pa_cons (pv 5) (pa_cons (pe_call C__law_merged.F (hr.mono (by first | decide | omega | (simp only [Nat.add_eq]; omega))) (by rfl) C__law_merged.mgf C__law_merged.kp C__law_merged.b .nil pass0 (pa_cons (pe_ix ix_tup (pv 3) pe_int (fun _ _ => rfl)) (pa_cons (pe_ix ix_tup (pv 4) pe_int (fun _ _ => rfl)) (pa_cons (pv 2) pa_nil)))) (pa_cons (pe_call C__law_merged.F (hr.mono (by first | decide | omega | (simp only [Nat.add_eq]; omega))) (by rfl) C__law_merged.mgf C__law_merged.kp C__law_merged.b .nil pass0 (pa_cons (pe_ix ix_tup (pv 3) pe_int (fun _ _ => rfl)) (pa_cons (pe_ix ix_tup (pv 4) pe_int (fun _ _ => rfl)) (pa_cons (pv 2) pa_nil)))) pa_nil))))))))), ?_⟩
      have dd : isN x = true ∨ isN y = true → 0 < d := fun h => by
        rcases h with h | h
        · cases x with
          | leaf f => cases h
          | node t x1 x2 => have h' : max (deep x1) (deep x2) + 1 < d + 1 := dx; omega
        · cases y with
          | leaf f => cases h
          | node t x1 x2 => have h' : max (deep x1) (deep x2) + 1 < d + 1 := dy; omega
      obtain ⟨tb, rfl, htb⟩ := ht
      cases x with
      | node t x1 x2 =>
        have d0 := dd (.inl rfl)
        have hx0 := hx
        obtain ⟨a, u1, w1, rfl, ha, _⟩ := hx0
        refine ⟨_, rfl, a, _, _, _, rfl, rfl, ha, rfl, rfl, _, rfl, iteFb rfl ?_⟩
        cases y with
        | node t' y1 y2 =>
          refine ⟨_, rfl, _, _, rfl, hx, fun p1 u1 w1 H1 s1 k1 hx1 hx2 => ?_⟩
          refine ⟨_, rfl, _, _, rfl, hy.same s1, fun p2 u2 w2 H2 s2 k2 hy1 hy2 => ⟨_, _, rfl, ?_⟩⟩
          have k1' := k1.ext s2
          have s12 := s1.trans s2
          obtain ⟨dx1, dx2⟩ := deep_split (.node t x1 x2) d dx d0
          obtain ⟨dy1, dy2⟩ := deep_split (.node t' y1 y2) d dy d0
          have ms := merge_split G (.node t x1 x2) (.node t' y1 y2) rfl
          refine ⟨_, rfl, _, rfl, p1, _, _, _, rfl, rfl, k1', rfl, .inr ⟨_, rfl, _, _, rfl, rfl, (Sz.of (by decide +kernel)).mul (bz _), _, rfl, p2, _, _, _, rfl, rfl, k2, rfl, .inr ⟨_, rfl, _, _, rfl, rfl, tb, _, _, _, rfl, rfl, htb.ext s12, tab_at _ _, ?_⟩⟩⟩
          refine ⟨_, rfl, _, rfl, p1, _, _, _, rfl, rfl, k1', rfl, _, rfl, p2, _, _, _, rfl, rfl, k2, rfl, _, rfl, G, _, _, u1, u2, _, rfl, hx1.same s2, hy1, ⟨tb, rfl, htb.ext s12⟩, dx1, dy1, fun r1 H3 s3 m1 => ?_⟩
          refine ⟨_, rfl, p1, _, _, _, rfl, rfl, k1'.ext s3, rfl, _, rfl, p2, _, _, _, rfl, rfl, k2.ext s3, rfl, _, rfl, G, _, _, w1, w2, _, rfl, (hx2.same s2).same s3, hy2.same s3, ⟨tb, rfl, htb.ext (s12.trans s3)⟩, dx2, dy2, fun r2 H4 s4 m2 => ?_⟩
          refine ⟨(by decide : 4 ≤ sizeLine), fun p hp => ?_⟩
          have s5 := same_new (o := .tup [.str "at", .bl (G (split (.node t x1 x2)).1 (split (.node t' y1 y2)).1), r1, r2]) hp
          refine q (.ref p) _ (((s12.trans s3).trans s4).trans s5) ?_
          rw [ms]
          exact ⟨p, r1, r2, rfl, SqT.of upd_same, (m1.same s4).same s5, m2.same s5⟩
        | leaf g =>
          refine ⟨_, rfl, _, _, rfl, hx, fun p1 u1 w1 H1 s1 k1 hx1 hx2 => ?_⟩
          refine ⟨_, rfl, _, _, rfl, hy.same s1, fun p2 u2 w2 H2 s2 k2 hy1 hy2 => ⟨_, _, rfl, ?_⟩⟩
          have k1' := k1.ext s2
          have s12 := s1.trans s2
          obtain ⟨dx1, dx2⟩ := deep_split (.node t x1 x2) d dx d0
          obtain ⟨dy1, dy2⟩ := deep_split (.leaf g) d dy d0
          have ms := merge_split G (.node t x1 x2) (.leaf g) rfl
          refine ⟨_, rfl, _, rfl, p1, _, _, _, rfl, rfl, k1', rfl, .inr ⟨_, rfl, _, _, rfl, rfl, (Sz.of (by decide +kernel)).mul (bz _), _, rfl, p2, _, _, _, rfl, rfl, k2, rfl, .inr ⟨_, rfl, _, _, rfl, rfl, tb, _, _, _, rfl, rfl, htb.ext s12, tab_at _ _, ?_⟩⟩⟩
          refine ⟨_, rfl, _, rfl, p1, _, _, _, rfl, rfl, k1', rfl, _, rfl, p2, _, _, _, rfl, rfl, k2, rfl, _, rfl, G, _, _, u1, u2, _, rfl, hx1.same s2, hy1, ⟨tb, rfl, htb.ext s12⟩, dx1, dy1, fun r1 H3 s3 m1 => ?_⟩
          refine ⟨_, rfl, p1, _, _, _, rfl, rfl, k1'.ext s3, rfl, _, rfl, p2, _, _, _, rfl, rfl, k2.ext s3, rfl, _, rfl, G, _, _, w1, w2, _, rfl, (hx2.same s2).same s3, hy2.same s3, ⟨tb, rfl, htb.ext (s12.trans s3)⟩, dx2, dy2, fun r2 H4 s4 m2 => ?_⟩
          refine ⟨(by decide : 4 ≤ sizeLine), fun p hp => ?_⟩
          have s5 := same_new (o := .tup [.str "at", .bl (G (split (.node t x1 x2)).1 (split (.leaf g)).1), r1, r2]) hp
          refine q (.ref p) _ (((s12.trans s3).trans s4).trans s5) ?_
          rw [ms]
          exact ⟨p, r1, r2, rfl, SqT.of upd_same, (m1.same s4).same s5, m2.same s5⟩
      | leaf f =>
        have hx0 := hx
        obtain ⟨a, c, rfl, ha, hc⟩ := hx0
        refine ⟨_, rfl, a, _, _, _, rfl, rfl, ha, rfl, rfl, _, rfl, iteTb rfl ?_⟩
        cases y with
        | node t' y1 y2 =>
          have d0 := dd (.inr rfl)
          have hy0 := hy
          obtain ⟨a2, u2, w2, rfl, ha2, _⟩ := hy0
          refine ⟨_, rfl, a2, _, _, _, rfl, rfl, ha2, rfl, rfl, _, rfl, iteFb rfl ?_⟩
          refine ⟨_, rfl, _, _, rfl, hx, fun p1 u1 w1 H1 s1 k1 hx1 hx2 => ?_⟩
          refine ⟨_, rfl, _, _, rfl, hy.same s1, fun p2 u2 w2 H2 s2 k2 hy1 hy2 => ⟨_, _, rfl, ?_⟩⟩
          have k1' := k1.ext s2
          have s12 := s1.trans s2
          obtain ⟨dx1, dx2⟩ := deep_split (.leaf f) d dx d0
          obtain ⟨dy1, dy2⟩ := deep_split (.node t' y1 y2) d dy d0
          have ms := merge_split G (.leaf f) (.node t' y1 y2) rfl
          refine ⟨_, rfl, _, rfl, p1, _, _, _, rfl, rfl, k1', rfl, .inr ⟨_, rfl, _, _, rfl, rfl, (Sz.of (by decide +kernel)).mul (bz _), _, rfl, p2, _, _, _, rfl, rfl, k2, rfl, .inr ⟨_, rfl, _, _, rfl, rfl, tb, _, _, _, rfl, rfl, htb.ext s12, tab_at _ _, ?_⟩⟩⟩
          refine ⟨_, rfl, _, rfl, p1, _, _, _, rfl, rfl, k1', rfl, _, rfl, p2, _, _, _, rfl, rfl, k2, rfl, _, rfl, G, _, _, u1, u2, _, rfl, hx1.same s2, hy1, ⟨tb, rfl, htb.ext s12⟩, dx1, dy1, fun r1 H3 s3 m1 => ?_⟩
          refine ⟨_, rfl, p1, _, _, _, rfl, rfl, k1'.ext s3, rfl, _, rfl, p2, _, _, _, rfl, rfl, k2.ext s3, rfl, _, rfl, G, _, _, w1, w2, _, rfl, (hx2.same s2).same s3, hy2.same s3, ⟨tb, rfl, htb.ext (s12.trans s3)⟩, dx2, dy2, fun r2 H4 s4 m2 => ?_⟩
          refine ⟨(by decide : 4 ≤ sizeLine), fun p hp => ?_⟩
          have s5 := same_new (o := .tup [.str "at", .bl (G (split (.leaf f)).1 (split (.node t' y1 y2)).1), r1, r2]) hp
          refine q (.ref p) _ (((s12.trans s3).trans s4).trans s5) ?_
          rw [ms]
          exact ⟨p, r1, r2, rfl, SqT.of upd_same, (m1.same s4).same s5, m2.same s5⟩
        | leaf g =>
          have hy0 := hy
          obtain ⟨a2, c2, rfl, ha2, hc2⟩ := hy0
          refine ⟨_, rfl, a2, _, _, _, rfl, rfl, ha2, rfl, rfl, _, rfl, iteTb rfl ?_⟩
          refine ⟨_, rfl, a, _, _, _, rfl, rfl, ha, rfl, _, rfl, a2, _, _, _, rfl, rfl, ha2, rfl, c, c2, _, _, rfl, .inr ⟨hc, hc2, fun D hD => ?_⟩⟩
          have sD := same_new (o := .lst []) hD
          have step : ∀ i, i < 5 → ∃ p q', (lfV f)[i]? = some (.bl p) ∧ (lfV g)[i]? = some (.bl q') ∧ (lfV (map2 G f g)).take (i + 1) = (lfV (map2 G f g)).take i ++ [.bl (G p q')] := fun i hi => match i, hi with
            | 0, _ => ⟨_, _, rfl, rfl, rfl⟩
            | 1, _ => ⟨_, _, rfl, rfl, rfl⟩
            | 2, _ => ⟨_, _, rfl, rfl, rfl⟩
            | 3, _ => ⟨_, _, rfl, rfl, rfl⟩
            | 4, _ => ⟨_, _, rfl, rfl, rfl⟩
            | n + 5, h => absurd h (by omega)
          refine ⟨fun i m H' => m = 5 - i ∧ i ≤ 5 ∧ H' D = some (.lst ((lfV (map2 G f g)).take i)) ∧ Same H H', ⟨5, rfl, by omega, upd_same, sD⟩, ?_⟩
          rintro i m H1 ⟨rfl, hi, hD1, s1⟩
          by_cases h5 : i = 5
          · subst h5
            refine .inl ⟨⟨_, _, hc.ext s1, hc2.ext s1, .inl (Nat.le_refl 5)⟩, ?_⟩
            refine ⟨D, _, rfl, .inl ⟨SqL.of hD1, fun l hl => ⟨(by decide : 2 ≤ sizeLine), fun p hp => ?_⟩⟩⟩
            have s2 := same_new (o := .tup (lfV (map2 G f g))) hl
            have s3 := same_new (o := .tup [.str "leaf", .ref l]) hp
            exact q _ _ (s1.trans (s2.trans s3)) ⟨p, l, rfl, SqT.of upd_same, SqT.of (s3 _ _ upd_same)⟩
          · obtain ⟨p, q', e1, e2, e3⟩ := step i (by omega)
            refine .inr ⟨⟨_, _, _, _, hc.ext s1, hc2.ext s1, e1, e2⟩, fun H' => ∃ m', m' < 5 - i ∧ (m' = 5 - (i + 1) ∧ i + 1 ≤ 5 ∧ H' D = some (.lst ((lfV (map2 G f g)).take (i + 1))) ∧ Same H H'), fun _ h => h, ?_⟩
            rintro v H2 ⟨Tp, x, y, rfl, hT, rfl, k1, k2⟩
            have ex := Option.some.inj ((k1 _ (hc.ext s1)).symm.trans e1)
            have ey := Option.some.inj ((k2 _ (hc2.ext s1)).symm.trans e2)
            subst ex ey
            have s2 := s1.trans (same_new (o := .tup [.bl p, .bl q']) hT)
            have nD : D ≠ Tp := fun z => by rw [z, hT] at hD1; cases hD1
            have hD2 : (upd H1 Tp (.tup [.bl p, .bl q'])) D = some (.lst ((lfV (map2 G f g)).take i)) := by rw [upd_ne nD]; exact hD1
            refine ⟨Tp, _, rfl, SqT.of upd_same, rfl, _, _, rfl, _, _, rfl, rfl, ?_⟩
            refine ⟨rfl, ?_⟩
            refine ⟨_, rfl, _, rfl, .inr ⟨p, rfl, _, _, rfl, rfl, (Sz.of (by decide +kernel)).mul (bz _), _, rfl, .inr ⟨q', rfl, _, _, rfl, rfl, tb, _, _, _, rfl, rfl, htb.ext s2, tab_at p q', ?_⟩⟩⟩
            refine ⟨_, hD2, Nat.lt_of_le_of_lt (List.length_take_le ..) (Nat.lt_of_le_of_lt hi (by decide +kernel)), _, ?_, rfl, by omega, ?_, ?_⟩
            · omega
            · rw [upd_same, e3]
            · intro b' o hb'
              rw [upd_ne (ne_of_none hb' hD)]
              exact s2 _ _ hb'
end
end Toy
/-! The words of a tree tell the tree. -/
namespace Tre
def dig (b : Bool) : Nat := if b = true then 49 else 48
def wl : Tr → List Nat
  | .leaf f => [dig f.m, dig f.l, dig f.r, dig f.o, dig f.b]
  | .node t x y => dig t :: 32 :: (wl x ++ 32 :: wl y)
theorem dig_inj {a b : Bool} (h : dig a = dig b) : a = b := by cases a <;> cases b <;> first | rfl | cases h
theorem dig_ne (a : Bool) : dig a ≠ 32 := by cases a <;> decide
/-- what follows is the end, or a space -/
def Ends (r : List Nat) : Prop := r = [] ∨ ∃ s, r = 32 :: s
theorem wl_cut : ∀ (x y : Tr) (r s : List Nat), Ends r → Ends s → wl x ++ r = wl y ++ s → x = y ∧ r = s
  | .leaf f, .leaf g, r, s, _, _, h => by
    simp only [wl, List.cons_append, List.nil_append, List.cons.injEq] at h
    obtain ⟨h1, h2, h3, h4, h5, h6⟩ := h
    obtain ⟨a, b, c, d, e⟩ := f
    obtain ⟨a', b', c', d', e'⟩ := g
    refine ⟨?_, h6⟩
    rw [show a = a' from dig_inj h1, show b = b' from dig_inj h2, show c = c' from dig_inj h3, show d = d' from dig_inj h4, show e = e' from dig_inj h5]
  | .leaf f, .node t x y, r, s, _, _, h => by
    simp only [wl, List.cons_append, List.nil_append, List.cons.injEq] at h
    exact absurd h.2.1 (dig_ne _)
  | .node t x y, .leaf g, r, s, _, _, h => by
    simp only [wl, List.cons_append, List.nil_append, List.cons.injEq] at h
    exact absurd h.2.1.symm (dig_ne _)
  | .node t x y, .node t' x' y', r, s, hr, hs, h => by
    simp only [wl, List.cons_append, List.append_assoc, List.cons.injEq] at h
    obtain ⟨h1, _, h2⟩ := h
    obtain ⟨ex, h3⟩ := wl_cut x x' _ _ (.inr ⟨_, rfl⟩) (.inr ⟨_, rfl⟩) h2
    have h4 : wl y ++ r = wl y' ++ s := by injection h3
    obtain ⟨ey, h5⟩ := wl_cut y y' r s hr hs h4
    rw [dig_inj h1, ex, ey]
    exact ⟨rfl, h5⟩
theorem wl_inj {x y : Tr} (h : wl x = wl y) : x = y :=
  (wl_cut x y [] [] (.inl rfl) (.inl rfl) (by rw [List.append_nil, List.append_nil, h])).1
end Tre
set_option maxRecDepth 100000
set_option maxHeartbeats 4000000
namespace Toy
open PySem L2 Tre
theorem wl_len : ∀ z : Tr, (wl z).length + 3 = 8 * leafs z
  | .leaf f => rfl
  | .node t x y => by
    have hx := wl_len x
    have hy := wl_len y
    show ((wl x ++ 32 :: wl y).length + 1) + 1 + 3 = 8 * (leafs x + leafs y)
    rw [List.length_append, List.length_cons]
    omega
theorem str_dig (p : Bool) : (Str.ofString (toString (if p = true then (1 : Int) else 0)) : Str) = SX.S [dig p] := by cases p <;> decide +kernel
theorem log_bit (p : Bool) : (if p = true then (1 : Int) else 0).natAbs.log2 < 1920 := by cases p <;> decide +kernel
def lfS (f : Lf) : List (List Nat) := [[dig f.m], [dig f.l], [dig f.r], [dig f.o], [dig f.b]]
section
variable {P : Program} {w : World} {K : PySem.W.Frag} {mg : Str → Option Value} {base : Heap} {C CG : Addr}
def spLW (K : PySem.W.Frag) (d : Nat) : Sp := fun vs H Q _ => ∃ v z, vs = [v] ∧ LtAt K H z v ∧ deep z < d ∧ leafs z ≤ 2000 ∧ ∀ H', Same H H' → Q (.str ⟨(wl z).toArray⟩) H'
abbrev sLW : Stmt := top 60
theorem scLW : FnScope ["_law_tree_here", "_law_truth"] ["_law_tree_here"] (defScope sLW) := ⟨rfl, rfl, rfl, by decide +kernel, rfl, by decide +kernel, by decide +kernel⟩
theorem ok_lw {f : Addr} {fd : FuncData} (F : Fun K "_law_words" "_law_words" sLW f fd) (mgf : mg "_law_words" = some (.ref f)) (b : Binds K fd ["_law_tree_here"] []) (T : Bl mg) (zs : mg "str" = none) : ∀ d, FnOk P w K mg base CX0 (1 + d) f fd ["_law_tree_here"] (spLW K d) := by
  intro d
  induction d with
  | zero =>
    refine F.ok scLW (fun vs H Q E h => ?_) (fun cdv Ar outer s H vs Q E hr h => ?_)
    · obtain ⟨v, z, rfl, _⟩ := h
      rfl
    · obtain ⟨v, z, rfl, _, dz, _⟩ := h
      exact absurd dz (Nat.not_lt_zero _)
  | succ d ih =>
    have C__law_words : Cal P w K mg base (1 + d) "_law_words" f fd ["_law_tree_here"] (spLW K d) := ⟨ih, mgf, F.kp, b⟩
    refine F.ok scLW (fun vs H Q E h => ?_) (fun cdv Ar outer s H vs Q E hr h => ?_)
    · obtain ⟨v, z, rfl, _⟩ := h
      rfl
    · obtain ⟨v, z, rfl, hz, dz, lz, q⟩ := h
      have nd := scLW.nd
      refine ⟨_, pss_cons (ps_if (pt_cmpR op_eq (pe_ix ix_tup (pv 0) pe_int (fun _ _ => rfl)) pe_str (nomark _)) (pss_one (ps_ret (pe_join pe_str (by exact (pe_lc (g := gName 1) (own := [("_law_truth", 1)]) (tt := tYes) rfl nd (pi_tup (pe_ix ix_tup (pv 0) pe_int (fun _ _ => rfl))) (blkOk_by (N := ["_law_tree_here", "_law_truth"]) (sc := defScope (top 60)) (by decide +kernel)) (fun _ _ _ _ _ => pg_name (i := 1) nd rfl (Or.inl rfl)) (fun _ _ _ _ _ => pts_nil) (fun _ _ _ _ _ => (pe_callTy call_str_int (by rfl) zs (by decide +kernel) (pa_cons (pe_callTy call_int1 (by rfl) T.int (by decide +kernel) (pa_cons (pv 1) pa_nil)) pa_nil)))))))) pss_nil)
      (pss_one (ps_ret (pe_join pe_str (pe_lst (pa_cons (pe_callTy call_str_int (by rfl) zs (by decide +kernel) (pa_cons (pe_callTy call_int1 (by rfl) T.int (by decide +kernel) (pa_cons (pe_ix ix_tup (pv 0) pe_int (fun _ _ => rfl)) pa_nil)) pa_nil)) (pa_cons (pe_call C__law_words.F (hr.mono (by first | decide | omega | (simp only [Nat.add_eq]; omega))) (by rfl) C__law_words.mgf C__law_words.kp C__law_words.b .nil pass0 (pa_cons (pe_ix ix_tup (pv 0) pe_int (fun _ _ => rfl)) pa_nil)) (pa_cons (pe_call C__law_words.F (hr.mono (by first | decide | omega | (simp only [Nat.add_eq]; omega))) (by rfl) C__law_words.mgf C__law_words.kp C__law_words.b .nil pass0 (pa_cons (pe_ix ix_tup (pv 0) pe_int (fun _ _ => rfl)) pa_nil)) pa_nil))))))), ?_⟩
      cases z with
      | leaf g =>
        obtain ⟨a, c, rfl, ha, hc⟩ := hz
        refine ⟨_, rfl, a, _, _, _, rfl, rfl, ha, rfl, rfl, _, rfl, iteTb rfl ?_⟩
        refine ⟨⟨_, rfl⟩, _, rfl, a, _, _, _, rfl, rfl, ha, rfl, c, rfl, ⟨_, hc⟩, fun D hD => ?_⟩
        have sD := same_new (o := .lst []) hD
        have step : ∀ (i : Nat) (x : V), (lfV g)[i]? = some x → ∃ p, x = .bl p ∧ i < 5 ∧ (((lfS g).map SX.S).map V.str).take (i + 1) = (((lfS g).map SX.S).map V.str).take i ++ [.str (SX.S [dig p])] := fun i x h => match i, h with
          | 0, h => ⟨_, (Option.some.inj h).symm, by decide, rfl⟩
          | 1, h => ⟨_, (Option.some.inj h).symm, by decide, rfl⟩
          | 2, h => ⟨_, (Option.some.inj h).symm, by decide, rfl⟩
          | 3, h => ⟨_, (Option.some.inj h).symm, by decide, rfl⟩
          | 4, h => ⟨_, (Option.some.inj h).symm, by decide, rfl⟩
          | n + 5, h => absurd h (by simp [lfV])
        refine lc_tup (xs := lfV g) (K := K) (a := c) (g := gName 1) (tt := tYes) (te := tCB (fun xs H Q => ∃ i, xs = [V.int i] ∧ i.natAbs.log2 < 1920 ∧ Q (V.str (Str.ofString (toString i))) H) (tCons (tCB (fun xs H Q => (∃ i, xs = [V.int i] ∧ Q (V.int i) H) ∨ ∃ k, xs = [V.bl k] ∧ Q (V.int (if k = true then 1 else 0)) H) (tCons (tVar 1) tNil)) tNil)) (fun i H' => H' D = some (.lst ((((lfS g).map SX.S).map V.str).take i)) ∧ Same H H') ⟨upd_same, sD⟩ (fun i H' _ h => hc.ext h.2) ?_ ?_
        · rintro i x H1 hx ⟨hD1, s1⟩
          obtain ⟨p, rfl, i5, e3⟩ := step i x hx
          refine ⟨rfl, ?_⟩
          refine ⟨_, rfl, .inr ⟨p, rfl, _, rfl, log_bit p, ?_⟩⟩
          rw [str_dig]
          refine ⟨_, hD1, Nat.lt_of_le_of_lt (List.length_take_le ..) (Nat.lt_trans i5 (by decide +kernel)), ?_, fun b' o hb' => ?_⟩
          · rw [upd_same, e3]
          · rw [upd_ne (ne_of_none hb' hD)]
            exact s1 _ _ hb'
        · rintro H1 ⟨hD1, s1⟩
          refine ⟨_, D, (lfS g).map SX.S, rfl, rfl, .inl (SqL.of hD1), by show 1 + (1 + (1 + (1 + (1 + 0)))) + 5 * 0 ≤ 16777216; decide, ?_⟩
          rw [show (Str.ofString "" : Str) = SX.S [] from rfl, SX.join_S]
          exact q H1 s1
      | node t x y =>
        obtain ⟨a, u, w', rfl, ha, hx, hy⟩ := hz
        refine ⟨_, rfl, a, _, _, _, rfl, rfl, ha, rfl, rfl, _, rfl, iteFb rfl ?_⟩
        have dz' : max (deep x) (deep y) + 1 < d + 1 := dz
        have lz' : leafs x + leafs y ≤ 2000 := lz
        refine ⟨⟨_, rfl⟩, _, rfl, a, _, _, _, rfl, rfl, ha, rfl, .inr ⟨t, rfl, _, rfl, log_bit t, ?_⟩⟩
        rw [str_dig]
        refine ⟨_, rfl, a, _, _, _, rfl, rfl, ha, rfl, u, x, rfl, hx, by omega, by omega, fun H1 s1 => ?_⟩
        refine ⟨_, rfl, a, _, _, _, rfl, rfl, ha.ext s1, rfl, w', y, rfl, hy.same s1, by omega, by omega, fun H2 s2 => ?_⟩
        refine ⟨(by decide : 3 ≤ sizeLine), fun l hl => ?_⟩
        have s3 := same_new (o := .lst [.str (SX.S [dig t]), .str (SX.S (wl x)), .str (SX.S (wl y))]) hl
        have hX := wl_len x
        have hY := wl_len y
        refine ⟨_, l, [[dig t], wl x, wl y].map SX.S, rfl, rfl, .inl (SqL.of upd_same), ?_, ?_⟩
        · rw [SX.lens]
          show 1 + ((wl x).length + ((wl y).length + 0)) + 3 * 1 ≤ 16777216
          omega
        · rw [show (Str.ofString " " : Str) = SX.S [32] from rfl, SX.join_S]
          exact q _ ((s1.trans s2).trans s3)
end
end Toy
set_option maxRecDepth 100000
set_option maxHeartbeats 4000000
namespace Toy
open PySem L2 Tre
section
variable {P : Program} {w : World} {K : PySem.W.Frag} {mg : Str → Option Value} {base : Heap} {C CG : Addr}
def spLTru (K : PySem.W.Frag) : Sp := fun vs H Q _ => ∃ p cc k, vs = [.ref p] ∧ Pen H p cc k ∧ k ≤ 900000 ∧ ∀ a f H', Pen H' p cc (k + 6) → But p H H' → SqT K H' a (lfV f) → Q (.ref a) H'
abbrev sLTru : Stmt := top 54
theorem scLT : FnScope ["_law_pen_here", "_law_way", "_law_k"] ["_law_pen_here"] (defScope sLTru) := ⟨rfl, rfl, rfl, by decide +kernel, rfl, by decide +kernel, by decide +kernel⟩
theorem ok_ltru {f f1 : Addr} {fd fd1 : FuncData} (F : Fun K "_law_truths" "_law_truths" sLTru f fd) (T : Bl mg) (zt : mg "tuple" = none) (C__law_draw : Cal P w K mg base 1 "_law_draw" f1 fd1 ["_law_pen_here", "_law_many"] spDraw) : FnOk P w K mg base CX0 2 f fd ["_law_pen_here"] (spLTru K) := by
  refine F.ok scLT (fun vs H Q E h => ?_) (fun cdv Ar outer s H vs Q E hr h => ?_)
  · obtain ⟨p, cc, k, rfl, _⟩ := h
    rfl
  · obtain ⟨p, cc, k, rfl, hP, hk, q⟩ := h
    have nd := scLT.nd
    refine ⟨_, pss_cons (ps_set (i := 1) nd rfl (Or.inl rfl) (pe_call C__law_draw.F (hr.mono (by first | decide | omega | (simp only [Nat.add_eq]; omega))) (by rfl) C__law_draw.mgf C__law_draw.kp C__law_draw.b .nil pass0 (pa_cons (pv 0) (pa_cons pe_int pa_nil))))
      (pss_cons (ps_if (pt_cmpR op_lt (pv 1) pe_int (nomark _)) (pss_one (ps_ret (pe_op op_repT (pe_tup (pa_cons (pe_cmpR op_eq (pv 1) pe_int (nomark _)) pa_nil)) pe_int))) pss_nil)
      (pss_cons (ps_if (pt_cmpR op_eq (pv 1) pe_int (nomark _)) (pss_one (ps_ret (pe_tup (pa_cons pe_bl (pa_cons pe_bl (pa_cons pe_bl (pa_cons pe_bl (pa_cons pe_bl pa_nil)))))))) pss_nil)
      (pss_one (ps_ret (pe_callTy call_tuple_of (by rfl) zt (by decide +kernel) (pa_cons (by exact (pe_lc (own := [("_law_k", 2)]) (g := gName 2) (tt := tYes) rfl nd (pi_range1 (by rfl) T.range (pa_cons pe_int pa_nil)) (blkOk_by (N := ["_law_pen_here", "_law_way", "_law_k"]) (sc := defScope (top 54)) (by decide +kernel)) (fun _ _ _ _ _ => pg_name (i := 2) nd rfl (Or.inl rfl)) (fun _ _ _ _ _ => pts_nil) (fun _ _ _ _ _ => (pe_cmpR op_eq (by exact pe_call C__law_draw.F (hr.mono (by first | decide | omega | (simp only [Nat.add_eq]; omega))) (by rfl) C__law_draw.mgf C__law_draw.kp C__law_draw.b .nil pass0 (pa_cons (pv 0) (pa_cons pe_int pa_nil))) pe_int (nomark _))))) pa_nil)))))), ?_⟩
    refine ⟨_, rfl, p, cc, 6, k, rfl, hP, by omega, by decide, by decide +kernel, fun a H1 a0 a1 P1 B1 => ?_⟩
    refine ⟨_, rfl, _, _, rfl, rfl, _, rfl, ?_⟩
    by_cases h2 : a < 2
    · refine iteTb (decide_eq_true h2) ?_
      refine ⟨_, rfl, rfl, (by decide : 1 ≤ sizeLine), fun p1 hp1 => ?_⟩
      have s1 := same_new (o := .tup [.bl (decide (V.int a = V.int 1))]) hp1
      refine ⟨p1, 5, _, rfl, rfl, SqT.of upd_same, List.cons_ne_nil _ _, by decide, by decide, by show 1 ≤ 1000; decide, fun p2 hp2 => ?_⟩
      have s2 := s1.trans (same_new (o := .tup (List.replicate (5 : Int).toNat [V.bl (decide (V.int a = V.int 1))]).flatten) hp2)
      exact q p2 ⟨_, _, _, _, _⟩ _ ((P1.same s2).mono (by omega)) (B1.trans (But.same s2)) (SqT.of upd_same)
    · refine iteFb (decide_eq_false h2) ?_
      refine ⟨_, rfl, rfl, _, rfl, ?_⟩
      by_cases h3 : a = 2
      · refine iteTb (by rw [vdec]; exact decide_eq_true h3) ?_
        refine ⟨(by decide : 5 ≤ sizeLine), fun p2 hp2 => ?_⟩
        have s2 := same_new (o := .tup (lfV ⟨true, true, true, true, false⟩)) hp2
        exact q p2 ⟨true, true, true, true, false⟩ _ ((P1.same s2).mono (by omega)) (B1.trans (But.same s2)) (SqT.of upd_same)
      · refine iteFb (by rw [vdec]; exact decide_eq_false h3) ?_
        refine ⟨5, rfl, by decide, by decide, fun D hD => ?_⟩
        have nD : D ≠ p := fun z => by
          obtain ⟨_, _, _, W, _⟩ := P1
          rw [z, W.hp] at hD
          cases hD
        have nDc := P1.ne_cell hD
        have H0D : H D = none := by
          cases e : H D with
          | none => rfl
          | some o => rw [B1 _ _ e nD] at hD; cases hD
        have sD := same_new (o := .lst []) hD
        refine lc_range (lo := 0) (n := 5) (fun i H' => ∃ bs : List Bool, bs.length = i ∧ H' D = some (.lst (bs.map V.bl)) ∧ Pen H' p cc (k + 1 + i) ∧ But p H H') ⟨[], rfl, upd_same, P1.same sD, B1.trans (But.same sD)⟩ ?_ ?_
        · rintro i H2 hi ⟨bs, hl, hD2, P2, B2⟩
          refine ⟨rfl, ?_⟩
          refine ⟨_, rfl, p, cc, 2, _, rfl, P2, by omega, by decide, by decide +kernel, fun a' H3 a0' a1' P3 B3 => ?_⟩
          refine ⟨rfl, ?_⟩
          have hD3 := B3 _ _ hD2 nD
          refine ⟨_, hD3, by rw [List.length_map, hl]; exact Nat.lt_trans hi (by decide +kernel), bs ++ [decide (V.int a' = V.int 0)], by rw [List.length_append, hl]; rfl, ?_, ?_, ?_⟩
          · rw [upd_same, List.map_append]
            rfl
          · exact (P3.put nD nDc).mono (by omega)
          · intro c o hc hn
            rw [upd_ne fun z => by rw [z, H0D] at hc; cases hc]
            exact (B2.trans B3) _ _ hc hn
        · rintro H2 ⟨bs, hl, hD2, P2, B2⟩
          refine ⟨D, _, rfl, .inl ⟨SqL.of hD2, fun l hl2 => ?_⟩⟩
          have s2 := same_new (o := .tup (bs.map V.bl)) hl2
          match bs, hl with
          | [b1, b2, b3, b4, b5], _ => exact q l ⟨b1, b2, b3, b4, b5⟩ _ ((P2.same s2).mono (by omega)) (B2.trans (But.same s2)) (SqT.of upd_same)
end
end Toy
set_option maxRecDepth 100000
set_option maxHeartbeats 4000000
namespace Toy
open PySem L2 Tre
theorem SqT.but {K : PySem.W.Frag} {H H' : Hp} {p a : Addr} {xs ys : List V} (h : SqT K H a ys) (hp : H p = some (.lst xs)) (b : But p H H') : SqT K H' a ys := by
  rcases h with (h | ⟨o, h⟩) | h
  · exact .inl (.inl (b _ _ h fun z => by rw [z, hp] at h; cases h))
  · exact .inl (.inr ⟨o, b _ _ h fun z => by rw [z, hp] at h; cases h⟩)
  · exact .inr h
theorem LtAt.but {K : PySem.W.Frag} {H H' : Hp} {p : Addr} {xs : List V} (hp : H p = some (.lst xs)) (b : But p H H') : ∀ {z : Tr} {v : V}, LtAt K H z v → LtAt K H' z v
  | .leaf f, v, ⟨a, c, e1, h, g⟩ => ⟨a, c, e1, Toy.SqT.but h hp b, Toy.SqT.but g hp b⟩
  | .node t x y, v, ⟨a, u, w, e1, h, hx, hy⟩ => ⟨a, u, w, e1, Toy.SqT.but h hp b, LtAt.but hp b hx, LtAt.but hp b hy⟩
theorem Pen.lst {H : Hp} {p c : Addr} {k : Nat} (h : Pen H p c k) : ∃ xs, H p = some (.lst xs) := by
  obtain ⟨_, _, _, W, _⟩ := h
  exact ⟨_, W.hp⟩
/-- how often a tree of so many levels draws at most -/
def cst : Nat → Nat
  | 0 => 7
  | d + 1 => 2 + 2 * cst d
theorem cst_ge : ∀ d, 7 ≤ cst d
  | 0 => Nat.le_refl 7
  | d + 1 => by have := cst_ge d; show 7 ≤ 2 + 2 * cst d; omega
section
variable {P : Program} {w : World} {K : PySem.W.Frag} {mg : Str → Option Value} {base : Heap} {C CG : Addr}
def spLTree (K : PySem.W.Frag) (d : Nat) : Sp := fun vs H Q _ => ∃ (p cc : Addr) (k n : Nat), vs = [.ref p, .int n] ∧ Pen H p cc k ∧ k + cst n ≤ 800000 ∧ n < d ∧ ∀ v z H', Pen H' p cc (k + cst n) → But p H H' → LtAt K H' z v → deep z ≤ n → leafs z ≤ 2 ^ n → Q v H'
abbrev sLTree : Stmt := top 55
theorem scLy : FnScope ["_law_pen_here", "_law_deep", "_law_truth", "_law_low"] ["_law_pen_here", "_law_deep"] (defScope sLTree) := ⟨rfl, rfl, rfl, by decide +kernel, rfl, by decide +kernel, by decide +kernel⟩
theorem ok_ltree {f f1 f2 : Addr} {fd fd1 fd2 : FuncData} (F : Fun K "_law_tree" "_law_tree" sLTree f fd) (mgf : mg "_law_tree" = some (.ref f)) (b : Binds K fd ["_law_pen_here", "_law_deep"] []) (T : Bl mg) (C__law_draw : Cal P w K mg base 1 "_law_draw" f1 fd1 ["_law_pen_here", "_law_many"] spDraw) (C__law_truths : Cal P w K mg base 2 "_law_truths" f2 fd2 ["_law_pen_here"] (spLTru K)) : ∀ d, FnOk P w K mg base CX0 (3 + d) f fd ["_law_pen_here", "_law_deep"] (spLTree K d) := by
  intro d
  induction d with
  | zero =>
    refine F.ok scLy (fun vs H Q E h => ?_) (fun cdv Ar outer s H vs Q E hr h => ?_)
    · obtain ⟨p, cc, k, n, rfl, _⟩ := h
      rfl
    · obtain ⟨p, cc, k, n, rfl, _, _, dz, _⟩ := h
      exact absurd dz (Nat.not_lt_zero _)
  | succ d ih =>
    have C__law_tree : Cal P w K mg base (3 + d) "_law_tree" f fd ["_law_pen_here", "_law_deep"] (spLTree K d) := ⟨ih, mgf, F.kp, b⟩
    refine F.ok scLy (fun vs H Q E h => ?_) (fun cdv Ar outer s H vs Q E hr h => ?_)
    · obtain ⟨p, cc, k, n, rfl, _⟩ := h
      rfl
    · obtain ⟨p, cc, k, n, rfl, hP, hk, hn, q⟩ := h
      have nd := scLy.nd
      refine ⟨_, pss_cons (ps_if (PW.pt (pw_or (pt_cmpR op_eq (pv 1) pe_int (nomark _)) (pw_or1 (pt_cmpR op_eq (pe_call C__law_draw.F (hr.mono (by first | decide | omega | (simp only [Nat.add_eq]; omega))) (by rfl) C__law_draw.mgf C__law_draw.kp C__law_draw.b .nil pass0 (pa_cons (pv 0) (pa_cons pe_int pa_nil))) pe_int (nomark _))))) (pss_one (ps_ret (pe_tup (pa_cons pe_str (pa_cons (pe_call C__law_truths.F (hr.mono (by first | decide | omega | (simp only [Nat.add_eq]; omega))) (by rfl) C__law_truths.mgf C__law_truths.kp C__law_truths.b .nil pass0 (pa_cons (pv 0) pa_nil)) pa_nil))))) pss_nil)
      (pss_cons (ps_par (i := 2) (j := 3) (by rfl) nd rfl rfl (by decide) rfl rfl (pa_cons (pe_cmpR op_eq (pe_call C__law_draw.F (hr.mono (by first | decide | omega | (simp only [Nat.add_eq]; omega))) (by rfl) C__law_draw.mgf C__law_draw.kp C__law_draw.b .nil pass0 (pa_cons (pv 0) (pa_cons pe_int pa_nil))) pe_int (nomark _)) (pa_cons (pe_call C__law_tree.F (hr.mono (by first | decide | omega | (simp only [Nat.add_eq]; omega))) (by rfl) C__law_tree.mgf C__law_tree.kp C__law_tree.b .nil pass0 (pa_cons (pv 0) (pa_cons (pe_op op_sub (pv 1) pe_int) pa_nil))) pa_nil)) (by rfl))
      (pss_one (ps_ret (pe_tup (pa_cons pe_str (pa_cons (pv 2) (pa_cons (pv 3) (pa_cons (pe_call C__law_tree.F (hr.mono (by first | decide | omega | (simp only [Nat.add_eq]; omega))) (by rfl) C__law_tree.mgf C__law_tree.kp C__law_tree.b .nil pass0 (pa_cons (pv 0) (pa_cons (pe_op op_sub (pv 1) pe_int) pa_nil))) pa_nil)))))))), ?_⟩
      have c7 := cst_ge n
      have leafq : ∀ (H1 : Hp) (k1 : Nat), k1 ≤ k + 1 → But p H H1 → ∀ a g H2, Pen H2 p cc (k1 + 6) → But p H1 H2 → SqT K H2 a (lfV g) → ∀ p5, H2 p5 = none → Q (.ref p5) (upd H2 p5 (.tup [.str "leaf", .ref a])) := fun H1 k1 hk1 B1 a g H2 P2 B2 hf p5 h5 => by
        have s5 := same_new (o := .tup [.str "leaf", .ref a]) h5
        exact q (.ref p5) (.leaf g) _ ((P2.same s5).mono (by omega)) ((B1.trans B2).trans (But.same s5)) ⟨p5, a, rfl, SqT.of upd_same, hf.ext s5⟩ (Nat.zero_le _) Nat.one_le_two_pow
      refine ⟨_, rfl, rfl, _, rfl, ?_⟩
      cases n with
      | zero =>
        refine iteTb (by rw [vdec]; rfl) ?_
        exact ⟨_, rfl, p, cc, k, rfl, hP, by omega, fun a g H2 P2 B2 hf => ⟨(by decide : 2 ≤ sizeLine), leafq H k (by omega) But.refl a g H2 P2 B2 hf⟩⟩
      | succ n =>
        refine iteFb (by rw [vdec]; exact decide_eq_false (by omega)) ?_
        refine ⟨_, rfl, p, cc, 4, k, rfl, hP, by omega, by decide, by decide +kernel, fun a H1 a0 a1 P1 B1 => ?_⟩
        refine ⟨rfl, _, rfl, ?_⟩
        by_cases ha : a = 0
        · refine iteTb (by rw [vdec]; exact decide_eq_true ha) ?_
          exact ⟨_, rfl, p, cc, _, rfl, P1, by omega, fun a g H2 P2 B2 hf => ⟨(by decide : 2 ≤ sizeLine), leafq H1 (k + 1) (Nat.le_refl _) B1 a g H2 P2 B2 hf⟩⟩
        · refine iteFb (by rw [vdec]; exact decide_eq_false ha) ?_
          have hc : cst (n + 1) = 2 + 2 * cst n := rfl
          refine ⟨_, rfl, p, cc, 2, _, rfl, P1, by omega, by decide, by decide +kernel, fun t H2 t0 t1 P2 B2 => ?_⟩
          refine ⟨rfl, _, rfl, _, rfl, _, _, rfl, rfl, ?_⟩
          have en : ((n + 1 : Nat) : Int) - 1 = (n : Int) := by omega
          have ev : [V.ref p, V.int (((n + 1 : Nat) : Int) - 1)] = [V.ref p, V.int (n : Int)] := by rw [en]
          refine ⟨p, cc, _, n, ev, P2, by omega, by omega, fun v1 z1 H3 P3 B3 hz1 d1 l1 => ⟨_, _, rfl, ?_⟩⟩
          refine ⟨_, rfl, _, rfl, _, rfl, _, rfl, _, _, rfl, rfl, p, cc, _, n, ev, P3, by omega, by omega, fun v2 z2 H4 P4 B4 hz2 d2 l2 => ⟨(by decide : 4 ≤ sizeLine), fun p5 h5 => ?_⟩⟩
          obtain ⟨px3, hp3⟩ := P3.lst
          have s5 := same_new (o := .tup [.str "at", .bl (decide (V.int t = V.int 0)), v1, v2]) h5
          refine q (.ref p5) (.node (decide (V.int t = V.int 0)) z1 z2) _ ((P4.same s5).mono (by omega)) (((B1.trans B2).trans (B3.trans B4)).trans (But.same s5)) ⟨p5, v1, v2, rfl, SqT.of upd_same, (LtAt.but hp3 B4 hz1).same s5, hz2.same s5⟩ ?_ ?_
          · show max (deep z1) (deep z2) + 1 ≤ n + 1
            omega
          · show leafs z1 + leafs z2 ≤ 2 ^ (n + 1)
            rw [Nat.pow_succ]
            omega
end
end Toy
set_option maxRecDepth 100000
set_option maxHeartbeats 4000000
namespace Toy
open PySem L2 Tre
theorem finer_split {z : Tr} {a b : Tr} (ha : Finer (split z).2.1 a) (hb : Finer (split z).2.2 b) : Finer z (.node (split z).1 a b) := by
  cases z with
  | leaf f => exact .split ha hb
  | node t x y => exact .node ha hb
section
variable {P : Program} {w : World} {K : PySem.W.Frag} {mg : Str → Option Value} {base : Heap} {C CG : Addr}
def spLFin (K : PySem.W.Frag) (d : Nat) : Sp := fun vs H Q _ => ∃ (p cc : Addr) (k n : Nat) (v : V) (z : Tr), vs = [.ref p, v, .int n] ∧ Pen H p cc k ∧ LtAt K H z v ∧ deep z ≤ n ∧ k + cst n ≤ 800000 ∧ n < d ∧ ∀ v' z' H', Pen H' p cc (k + cst n) → But p H H' → LtAt K H' z' v' → Finer z z' → deep z' ≤ n → leafs z' ≤ 2 ^ n → Q v' H'
end
end Toy
set_option maxRecDepth 100000
set_option maxHeartbeats 4000000
namespace Toy
open PySem L2 Tre
section
variable {P : Program} {w : World} {K : PySem.W.Frag} {mg : Str → Option Value} {base : Heap} {C CG : Addr}
def spLLs (K : PySem.W.Frag) (d : Nat) : Sp := fun vs H Q _ => ∃ (p cc : Addr) (k : Nat) (v : V) (z : Tr), vs = [.ref p, v] ∧ Pen H p cc k ∧ LtAt K H z v ∧ deep z < d ∧ k + 8 * leafs z ≤ 800000 ∧ ∀ v' z' H', Pen H' p cc (k + 8 * leafs z - 1) → But p H H' → LtAt K H' z' v' → Le z' z → deep z' = deep z → leafs z' = leafs z → Q v' H'
end
end Toy
set_option maxRecDepth 100000
set_option maxHeartbeats 4000000
namespace Toy
open PySem L2 Tre
theorem leafs_pow : ∀ z : Tr, leafs z ≤ 2 ^ deep z
  | .leaf f => Nat.le_refl 1
  | .node t x y => by
    have hx := leafs_pow x
    have hy := leafs_pow y
    have ex : 2 ^ deep x ≤ 2 ^ max (deep x) (deep y) := Nat.pow_le_pow_right (by decide) (by omega)
    have ey : 2 ^ deep y ≤ 2 ^ max (deep x) (deep y) := Nat.pow_le_pow_right (by decide) (by omega)
    show leafs x + leafs y ≤ 2 ^ (max (deep x) (deep y) + 1)
    rw [Nat.pow_succ]
    omega
theorem deep_mergeL {T : Bool → Bool → Bool} : ∀ (z : Tr) (f : Lf), deep (mergeL T f z) = deep z
  | .leaf g, f => rfl
  | .node t x y, f => by
    show max (deep (mergeL T (h1 f) x)) (deep (mergeL T (h2 f) y)) + 1 = max (deep x) (deep y) + 1
    rw [deep_mergeL x, deep_mergeL y]
theorem deep_merge {T : Bool → Bool → Bool} : ∀ a b : Tr, deep (merge T a b) ≤ max (deep a) (deep b)
  | .leaf f, z => by
    have h := deep_mergeL (T := T) z f
    show deep (mergeL T f z) ≤ max 0 (deep z)
    omega
  | .node t x y, .leaf g => by
    have hx := deep_merge (T := T) x (.leaf (h1 g))
    have hy := deep_merge (T := T) y (.leaf (h2 g))
    have e1 : deep (.leaf (h1 g)) = 0 := rfl
    have e2 : deep (.leaf (h2 g)) = 0 := rfl
    show max (deep (merge T x _)) (deep (merge T y _)) + 1 ≤ max (max (deep x) (deep y) + 1) 0
    omega
  | .node t x y, .node u v w => by
    have hx := deep_merge (T := T) x v
    have hy := deep_merge (T := T) y w
    show max (deep (merge T x _)) (deep (merge T y _)) + 1 ≤ max (max (deep x) (deep y) + 1) (max (deep v) (deep w) + 1)
    omega
theorem str_inj {a b : List Nat} (h : (⟨a.toArray⟩ : Str) = ⟨b.toArray⟩) : a = b := by
  injection h with h
  exact congrArg Array.toList h
theorem dec_words (z : Tr) : decide (V.str ⟨(wl z).toArray⟩ = V.str "00000") = decide (z = .leaf NoneL) := by
  refine decide_eq_decide.mpr ⟨fun h => ?_, fun h => by rw [h]; rfl⟩
  injection h with h
  exact wl_inj (y := .leaf NoneL) (str_inj h)
section
variable {P : Program} {w : World} {K : PySem.W.Frag} {mg : Str → Option Value} {base : Heap} {C CG : Addr}
def spLWi (K : PySem.W.Frag) : Sp := fun vs H Q _ => ∃ u v x y, vs = [u, v] ∧ LtAt K H x u ∧ LtAt K H y v ∧ (deep x ≤ 8 ∧ deep y ≤ 8) ∧ ∀ H', Same H H' → Q (.bl (decide (least (merge LESSf x y) = .leaf NoneL))) H'
end
end Toy
set_option maxRecDepth 100000
set_option maxHeartbeats 4000000
namespace Toy
open PySem L2 Tre
/-- four integers stand at e -/
def Four (K : PySem.W.Frag) (H : Hp) (e : Addr) : Prop := ∃ a b c d : Int, SqT K H e [.int a, .int b, .int c, .int d]
theorem Four.same {K : PySem.W.Frag} {H H' : Hp} {e : Addr} (h : Four K H e) (s : Same H H') : Four K H' e := let ⟨a, b, c, d, h⟩ := h; ⟨a, b, c, d, h.ext s⟩
theorem Four.but {K : PySem.W.Frag} {H H' : Hp} {p e : Addr} {xs : List V} (h : Four K H e) (hp : H p = some (.lst xs)) (s : But p H H') : Four K H' e := let ⟨a, b, c, d, h⟩ := h; ⟨a, b, c, d, Toy.SqT.but h hp s⟩
/-- what waits -/
structure Wn where
  a : Addr
  e : Addr
  v : V
  n : Bool
  z : Tr
def cnt : List Wn → Nat
  | [] => 0
  | e :: r => (if e.n then 2 * leafs e.z - 1 else 1) + cnt r
def mea : List Wn → Nat
  | [] => 0
  | e :: r => (if e.n then 4 * leafs e.z - 2 else 1) + mea r
theorem len_mea : ∀ st : List Wn, st.length ≤ mea st
  | [] => Nat.le_refl 0
  | e :: r => by
    have h := len_mea r
    have p := leafs_pos e.z
    show r.length + 1 ≤ (if e.n then 4 * leafs e.z - 2 else 1) + mea r
    split <;> omega
theorem mea_cnt : ∀ st : List Wn, mea st ≤ 2 * cnt st
  | [] => Nat.le_refl 0
  | e :: r => by
    have h := mea_cnt r
    have p := leafs_pos e.z
    show (if e.n then 4 * leafs e.z - 2 else 1) + mea r ≤ 2 * ((if e.n then 2 * leafs e.z - 1 else 1) + cnt r)
    split <;> omega
section
variable {P : Program} {w : World} {K : PySem.W.Frag} {mg : Str → Option Value} {base : Heap} {C CG : Addr}
def spHE (K : PySem.W.Frag) : Sp := fun vs H Q _ => ∃ e, vs = [.ref e] ∧ Four K H e ∧ ∀ p x y H', Same H H' → H' p = some (.tup [.ref x, .ref y]) → Four K H' x → Four K H' y → Q (.ref p) H'
abbrev sHE : Stmt := top 31
theorem scHE : FnScope ["ends", "a", "b", "c", "d"] ["ends"] (defScope sHE) := ⟨rfl, rfl, rfl, by decide +kernel, rfl, by decide +kernel, by decide +kernel⟩
theorem ok_he {f : Addr} {fd : FuncData} (F : Fun K "half_ends" "half_ends" sHE f fd) : FnOk P w K mg base CX0 1 f fd ["ends"] (spHE K) := by
  refine F.ok scHE (fun vs H Q E h => ?_) (fun cdv Ar outer s H vs Q E hr h => ?_)
  · obtain ⟨e, rfl, _⟩ := h
    rfl
  · obtain ⟨e, rfl, ⟨a, b, c, d, h⟩, q⟩ := h
    have nd := scHE.nd
    refine ⟨_, pss_cons (ps_asg (pv 0) (pg_tup (by rfl) (pgs_cons (pg_name (i := 1) nd rfl (Or.inl rfl)) (pgs_cons (pg_name (i := 2) nd rfl (Or.inl rfl)) (pgs_cons (pg_name (i := 3) nd rfl (Or.inl rfl)) (pgs_cons (pg_name (i := 4) nd rfl (Or.inl rfl)) pgs_nil))))))
      (pss_one (ps_ret (pe_tup (pa_cons (pe_tup (pa_cons (pv 1) (pa_cons (pv 2) (pa_cons (pe_op op_add (pv 1) (pv 3)) (pa_cons (pe_op op_add (pv 2) (pv 4)) pa_nil))))) (pa_cons (pe_tup (pa_cons (pe_op op_add (pv 1) (pv 3)) (pa_cons (pe_op op_add (pv 2) (pv 4)) (pa_cons (pv 3) (pa_cons (pv 4) pa_nil))))) pa_nil))))), ?_⟩
    refine ⟨_, rfl, _, _, rfl, h, rfl, _, _, rfl, _, _, rfl, _, _, rfl, _, _, rfl, rfl, ?_⟩
    refine ⟨_, rfl, _, rfl, _, rfl, _, rfl, _, _, rfl, rfl, _, rfl, _, rfl, _, _, rfl, rfl, (by decide : 4 ≤ sizeLine), fun p1 e1 => ?_⟩
    refine ⟨_, rfl, _, rfl, _, _, rfl, rfl, _, rfl, _, rfl, _, _, rfl, rfl, _, rfl, _, rfl, (by decide : 4 ≤ sizeLine), fun p2 e2 => ⟨(by decide : 2 ≤ sizeLine), fun p3 e3 => ?_⟩⟩
    have s1 := same_new (o := .tup [.int a, .int b, .int (a + c), .int (b + d)]) e1
    have s2 := same_new (o := .tup [.int (a + c), .int (b + d), .int c, .int d]) e2
    have s3 := same_new (o := .tup [.ref p1, .ref p2]) e3
    exact q p3 p1 p2 _ (s1.trans (s2.trans s3)) upd_same ⟨_, _, _, _, SqT.of (s3 _ _ (s2 _ _ upd_same))⟩ ⟨_, _, _, _, SqT.of (s3 _ _ upd_same)⟩
def spNo (K : PySem.W.Frag) : Sp := fun vs H Q _ => ∃ v z, vs = [v] ∧ TrAt K H z v ∧ leafs z ≤ 10000 ∧ ∀ l xs H', Same H H' → H' l = some (.lst xs) → xs.length = 2 * leafs z - 1 → Q (.ref l) H'
/-- the two lists and what they hold -/
structure Nst (K : PySem.W.Frag) (H : Hp) (l1 l2 : Addr) (H' : Hp) (xs : List V) (st : List Wn) : Prop where
  n : l1 ≠ l2
  f1 : H l1 = none
  f2 : H l2 = none
  h1 : H' l1 = some (.lst xs)
  h2 : H' l2 = some (.lst (st.reverse.map fun e => .ref e.a))
  s : Same H H'
  e : ∀ e ∈ st, H' e.a = some (.tup [.ref e.e, e.v, .bl e.n]) ∧ TrAt K H e.z e.v ∧ Four K H' e.e
theorem Nst.same {H H1 H2 : Hp} {l1 l2 : Addr} {xs : List V} {st : List Wn} (N : Nst K H l1 l2 H1 xs st) (s : Same H1 H2) : Nst K H l1 l2 H2 xs st :=
  ⟨N.n, N.f1, N.f2, s _ _ N.h1, s _ _ N.h2, N.s.trans s, fun e he => ⟨s _ _ (N.e e he).1, (N.e e he).2.1, (N.e e he).2.2.same s⟩⟩
theorem but_upd {H1 : Hp} {l : Addr} {o : HO} : But l H1 (upd H1 l o) := fun b u h n => by rw [upd_ne n]; exact h
theorem same_upd {H H1 : Hp} {l : Addr} {o : HO} (s : Same H H1) (f : H l = none) : Same H (upd H1 l o) := fun b u h => by
  rw [upd_ne (ne_of_none h f)]
  exact s _ _ h
theorem Nst.put {H H1 : Hp} {l1 l2 : Addr} {xs ys : List V} {st : List Wn} (N : Nst K H l1 l2 H1 xs st) : Nst K H l1 l2 (upd H1 l1 (.lst ys)) ys st :=
  ⟨N.n, N.f1, N.f2, upd_same, by rw [upd_ne N.n.symm]; exact N.h2, same_upd N.s N.f1, fun e he => ⟨by
    have h := (N.e e he).1
    rw [upd_ne fun z => by rw [z, N.h1] at h; cases h]
    exact h, (N.e e he).2.1, (N.e e he).2.2.but N.h1 but_upd⟩⟩
theorem Nst.setl {H H1 : Hp} {l1 l2 : Addr} {xs : List V} {st st' : List Wn} (N : Nst K H l1 l2 H1 xs st) (hs : ∀ e ∈ st', H1 e.a = some (.tup [.ref e.e, e.v, .bl e.n]) ∧ TrAt K H e.z e.v ∧ Four K H1 e.e) : Nst K H l1 l2 (upd H1 l2 (.lst (st'.reverse.map fun e => .ref e.a))) xs st' :=
  ⟨N.n, N.f1, N.f2, by rw [upd_ne N.n]; exact N.h1, upd_same, same_upd N.s N.f2, fun e he => ⟨by
    have h := (hs e he).1
    rw [upd_ne fun z => by rw [z, N.h2] at h; cases h]
    exact h, (hs e he).2.1, (hs e he).2.2.but N.h2 but_upd⟩⟩
theorem Nst.push {H H1 : Hp} {l1 l2 : Addr} {xs : List V} {st : List Wn} (N : Nst K H l1 l2 H1 xs st) (w : Wn) (hw : H1 w.a = some (.tup [.ref w.e, w.v, .bl w.n]) ∧ TrAt K H w.z w.v ∧ Four K H1 w.e) : Nst K H l1 l2 (upd H1 l2 (.lst ((st.reverse.map fun e => V.ref e.a) ++ [.ref w.a]))) xs (w :: st) := by
  have h := N.setl (st' := w :: st) fun e he => by
    rcases List.mem_cons.mp he with rfl | he
    · exact hw
    · exact N.e e he
  rw [List.reverse_cons, List.map_append] at h
  exact h
def NoInv (K : PySem.W.Frag) (H : Hp) (v : V) (l1 l2 : Addr) (z : Tr) (m : Nat) (σ : St) (H' : Hp) : Prop :=
  ∃ (v3 v4 v5 v6 v7 : Option V) (xs : List V) (st : List Wn), σ = [some v, some (.ref l1), some (.ref l2), v3, v4, v5, v6, v7] ∧ Nst K H l1 l2 H' xs st ∧ xs.length + cnt st = 2 * leafs z - 1 ∧ m = mea st
abbrev sNo : Stmt := top 27
theorem scNd : FnScope ["tree", "nodes", "waiting", "ends", "node", "is_new", "left", "right"] ["tree"] (defScope sNo) := ⟨rfl, rfl, rfl, by decide +kernel, rfl, by decide +kernel, by decide +kernel⟩
theorem ok_nodes {f f1 f2 aW : Addr} {fd fd1 fd2 : FuncData} (F : Fun K "nodes_of" "nodes_of" sNo f fd) (mW : mg "WHOLE" = some (.ref aW)) (hW : SqT K (fun _ => none) aW [.int 0, .int 1, .int 1, .int 1]) (C_is_branch : Cal P w K mg base 1 "is_branch" f1 fd1 ["tree"] (spIsB K)) (C_half_ends : Cal P w K mg base 1 "half_ends" f2 fd2 ["ends"] (spHE K)) : FnOk P w K mg base CX0 2 f fd ["tree"] (spNo K) := by
  refine F.ok scNd (fun vs H Q E h => ?_) (fun cdv Ar outer s H vs Q E hr h => ?_)
  · obtain ⟨v, z, rfl, _⟩ := h
    rfl
  · obtain ⟨v, z, rfl, hz, lz, q⟩ := h
    have nd := scNd.nd
    have pz := leafs_pos z
    refine ⟨_, pss_cons (ps_set (i := 1) nd rfl (Or.inl rfl) (pe_lst pa_nil))
      (pss_cons (ps_set (i := 2) nd rfl (Or.inl rfl) (pe_lst (pa_cons (pe_tup (pa_cons (Own.pe_gref (by rfl) mW) (pa_cons (pv 0) (pa_cons pe_bl pa_nil)))) pa_nil)))
      (pss_cons (ps_while PassesOwn.never (pt_truth (pv 2) (fun _ => rfl)) (pss_cons (ps_asg (pe_bm0 PySem.F.plainAttrs_list PySem.F.slot_list_pop PySem.F.type_list_pop mt_pop (pv 2)) (pg_tup (by rfl) (pgs_cons (pg_name (i := 3) nd rfl (Or.inl rfl)) (pgs_cons (pg_name (i := 4) nd rfl (Or.inl rfl)) (pgs_cons (pg_name (i := 5) nd rfl (Or.inl rfl)) pgs_nil)))))
      (pss_one (ps_if (PW.pt (pw_and (pt_val (pv 5)) (pw_and1 (pt_val (pe_call C_is_branch.F (hr.mono (by decide)) (by rfl) C_is_branch.mgf C_is_branch.kp C_is_branch.b .nil pass0 (pa_cons (pv 4) pa_nil)))))) (pss_cons (ps_asg (pe_call C_half_ends.F (hr.mono (by decide)) (by rfl) C_half_ends.mgf C_half_ends.kp C_half_ends.b .nil pass0 (pa_cons (pv 3) pa_nil)) (pg_tup (by rfl) (pgs_cons (pg_name (i := 6) nd rfl (Or.inl rfl)) (pgs_cons (pg_name (i := 7) nd rfl (Or.inl rfl)) pgs_nil))))
      (pss_cons (ps_expr (pe_bm PySem.F.plainAttrs_list PySem.F.slot_list_append PySem.F.type_list_append mt_append (pv 2) (pa_cons (pe_tup (pa_cons (pv 7) (pa_cons (pe_ix ix_tup (pv 4) pe_int (fun _ _ => rfl)) (pa_cons pe_bl pa_nil)))) pa_nil)))
      (pss_cons (ps_expr (pe_bm PySem.F.plainAttrs_list PySem.F.slot_list_append PySem.F.type_list_append mt_append (pv 2) (pa_cons (pe_tup (pa_cons (pv 3) (pa_cons (pv 4) (pa_cons pe_bl pa_nil)))) pa_nil)))
      (pss_one (ps_expr (pe_bm PySem.F.plainAttrs_list PySem.F.slot_list_append PySem.F.type_list_append mt_append (pv 2) (pa_cons (pe_tup (pa_cons (pv 6) (pa_cons (pe_ix ix_tup (pv 4) pe_int (fun _ _ => rfl)) (pa_cons pe_bl pa_nil)))) pa_nil))))))) (pss_one (ps_expr (pe_bm PySem.F.plainAttrs_list PySem.F.slot_list_append PySem.F.type_list_append mt_append (pv 1) (pa_cons (pe_tup (pa_cons (pv 3) (pa_cons (pv 4) pa_nil))) pa_nil))))))))
      (pss_one (ps_ret (pv 1))))), ?_⟩
    refine ⟨(by decide : 0 ≤ sizeLine), fun l1 hl1 => ?_⟩
    have s1 := same_new (o := .lst []) hl1
    refine ⟨_, rfl, (by decide : 3 ≤ sizeLine), fun e1 he1 => ⟨(by decide : 1 ≤ sizeLine), fun l2 hl2 => ?_⟩⟩
    have s2 := same_new (o := .tup [.ref aW, v, .bl true]) he1
    have s3 := same_new (o := .lst [.ref e1]) hl2
    have s13 := s1.trans (s2.trans s3)
    have h10 : H l1 = none := hl1
    have h20 : H l2 = none := (s1.trans s2).free hl2
    have n12 : l1 ≠ l2 := ne_of_none (s2 _ _ (upd_same (H := H) (a := l1) (o := .lst []))) hl2
    refine ⟨NoInv K H v l1 l2 z, ⟨_, none, none, none, none, none, [], [⟨e1, aW, v, true, z⟩], rfl, ⟨n12, h10, h20, s3 _ _ (s2 _ _ upd_same), upd_same, s13, fun e he => ?_⟩, ?_, rfl⟩, ?_⟩
    · rw [List.mem_singleton.mp he]
      exact ⟨s3 _ _ upd_same, hz, ⟨_, _, _, _, hW.ext fun _ _ e => nomatch e⟩⟩
    · show 0 + ((2 * leafs z - 1) + 0) = _
      omega
    · rintro m σ H1 ⟨v3, v4, v5, v6, v7, xs, st, rfl, N, hsum, rfl⟩
      refine ⟨_, rfl, _, .inl ⟨_, SqL.of N.h2, rfl⟩, ?_⟩
      have mc := mea_cnt st
      have lm := len_mea st
      cases st with
      | nil =>
        refine iteF ?_
        refine ⟨_, rfl, ?_⟩
        exact q l1 xs H1 N.s N.h1 (by have h : xs.length + 0 = 2 * leafs z - 1 := hsum; omega)
      | cons e r =>
        refine iteTb (by rw [List.reverse_cons, List.map_append]; cases (List.map (fun e : Wn => V.ref e.a) r.reverse) <;> rfl) ?_
        refine ⟨fun σ' H' => ∃ m', m' < mea (e :: r) ∧ NoInv K H v l1 l2 z m' σ' H', fun _ _ h => h, ?_⟩
        obtain ⟨he1, he2, he3⟩ := N.e e (List.mem_cons_self ..)
        have hl2' : H1 l2 = some (.lst ((r.reverse.map fun e => V.ref e.a) ++ [.ref e.a])) := by
          have h := N.h2
          rw [List.reverse_cons, List.map_append] at h
          exact h
        have lenr : r.length ≤ 100000 := by
          have h : r.length + 1 ≤ mea (e :: r) := lm
          omega
        have lenx : xs.length ≤ 100000 := by omega
        refine ⟨_, rfl, .inl ⟨rfl, _, SqL.of hl2'⟩, l2, _, _, rfl, rfl, hl2', lastx, ?_⟩
        rw [List.dropLast_concat]
        have na : e.a ≠ l2 := fun x => by rw [x, hl2'] at he1; cases he1
        have N2 : Nst K H l1 l2 (upd H1 l2 (.lst (r.reverse.map fun e => V.ref e.a))) xs r := N.setl fun e' he' => N.e e' (List.mem_cons_of_mem _ he')
        have ha2 : (upd H1 l2 (.lst (r.reverse.map fun e => V.ref e.a))) e.a = some (.tup [.ref e.e, e.v, .bl e.n]) := by rw [upd_ne na]; exact he1
        have hf2 := he3.but N.h2 (but_upd (o := .lst (r.reverse.map fun e => V.ref e.a)))
        generalize upd H1 l2 (.lst (r.reverse.map fun e => V.ref e.a)) = H2 at *
        refine ⟨_, _, rfl, SqT.of ha2, rfl, _, _, rfl, _, _, rfl, _, _, rfl, rfl, ?_⟩
        have hz2 := he2.same N2.s
        obtain ⟨ea, ee, ev, en, ez⟩ := e
        refine ⟨_, rfl, en, rfl, ?_⟩
        cases en with
        | false =>
          have hs' : xs.length + (1 + cnt r) = 2 * leafs z - 1 := hsum
          refine iteF ?_
          refine iteF ?_
          refine ⟨_, rfl, .inl ⟨rfl, _, SqL.of N2.h1⟩, _, rfl, _, rfl, (by decide : 2 ≤ sizeLine), fun p hp => ?_⟩
          have N3 := N2.same (same_new (o := .tup [.ref ee, ev]) hp)
          refine ⟨l1, _, _, rfl, rfl, N3.h1, Nat.lt_of_le_of_lt lenx (by decide +kernel), ?_⟩
          refine ⟨mea r, (by show mea r < 1 + mea r; omega), _, _, _, _, _, xs ++ [.ref p], r, rfl, N3.put, ?_, rfl⟩
          rw [List.length_append]
          show xs.length + 1 + cnt r = _
          omega
        | true =>
          refine iteT ?_
          refine ⟨_, rfl, ev, ez, rfl, hz2, _, rfl, ?_⟩
          cases ez with
          | leaf g =>
            have hs' : xs.length + ((2 * 1 - 1) + cnt r) = 2 * leafs z - 1 := hsum
            refine iteF ?_
            refine ⟨_, rfl, .inl ⟨rfl, _, SqL.of N2.h1⟩, _, rfl, _, rfl, (by decide : 2 ≤ sizeLine), fun p hp => ?_⟩
            have N3 := N2.same (same_new (o := .tup [.ref ee, ev]) hp)
            refine ⟨l1, _, _, rfl, rfl, N3.h1, Nat.lt_of_le_of_lt lenx (by decide +kernel), ?_⟩
            refine ⟨mea r, (by show mea r < (4 * 1 - 2) + mea r; omega), _, _, _, _, _, xs ++ [.ref p], r, rfl, N3.put, ?_, rfl⟩
            rw [List.length_append]
            show xs.length + 1 + cnt r = _
            omega
          | node t x y =>
            have hs' : xs.length + ((2 * (leafs x + leafs y) - 1) + cnt r) = 2 * leafs z - 1 := hsum
            have px := leafs_pos x
            have py := leafs_pos y
            refine iteT ?_
            obtain ⟨b, u, w', rfl, hb, hx, hy⟩ := he2
            refine ⟨_, rfl, ee, rfl, hf2, fun p x1 y1 H3 s3 hp hl hr' => ⟨_, _, rfl, SqT.of hp, rfl, _, _, rfl, _, _, rfl, rfl, ?_⟩⟩
            have N3 := N2.same s3
            have hf3 := hf2.same s3
            refine ⟨_, rfl, .inl ⟨rfl, _, SqL.of N3.h2⟩, _, rfl, _, rfl, b, _, _, _, rfl, rfl, hb.ext N3.s, rfl, (by decide : 3 ≤ sizeLine), fun p1 hp1 => ?_⟩
            have s4 := same_new (o := .tup [.ref y1, w', .bl true]) hp1
            have N4 := N3.same s4
            have lt : ∀ k, k ≤ 100 → r.length + k < sizeLine := fun k hk => Nat.lt_of_le_of_lt (Nat.add_le_add lenr hk) (by decide +kernel)
            refine ⟨l2, _, _, rfl, rfl, N4.h2, by rw [List.length_map, List.length_reverse]; exact lt 0 (by decide), ?_⟩
            have N5 := N4.push ⟨p1, y1, w', true, y⟩ ⟨upd_same, hy, hr'.same s4⟩
            have b5 := but_upd (H1 := upd H3 p1 (.tup [.ref y1, w', .bl true])) (l := l2) (o := .lst ((r.reverse.map fun e => V.ref e.a) ++ [.ref p1]))
            have hf5 := (hf3.same s4).but N4.h2 b5
            have hl5 := (hl.same s4).but N4.h2 b5
            generalize upd (upd H3 p1 (.tup [.ref y1, w', .bl true])) l2 (.lst ((r.reverse.map fun e => V.ref e.a) ++ [.ref p1])) = H5 at *
            refine ⟨_, rfl, .inl ⟨rfl, _, SqL.of N5.h2⟩, _, rfl, _, rfl, (by decide : 3 ≤ sizeLine), fun p2 hp2 => ?_⟩
            have s6 := same_new (o := .tup [.ref ee, .ref b, .bl false]) hp2
            have N6 := N5.same s6
            refine ⟨l2, _, _, rfl, rfl, N6.h2, by rw [List.length_map, List.length_reverse]; exact lt 1 (by decide), ?_⟩
            have N7 := N6.push ⟨p2, ee, .ref b, false, .node t x y⟩ ⟨upd_same, ⟨b, u, w', rfl, hb, hx, hy⟩, hf5.same s6⟩
            have b7 := but_upd (H1 := upd H5 p2 (.tup [.ref ee, .ref b, .bl false])) (l := l2) (o := .lst (((⟨p1, y1, w', true, y⟩ :: r).reverse.map fun e : Wn => V.ref e.a) ++ [.ref p2]))
            have hl7 := (hl5.same s6).but N6.h2 b7
            generalize upd (upd H5 p2 (.tup [.ref ee, .ref b, .bl false])) l2 (.lst (((⟨p1, y1, w', true, y⟩ :: r).reverse.map fun e : Wn => V.ref e.a) ++ [.ref p2])) = H7 at *
            refine ⟨_, rfl, .inl ⟨rfl, _, SqL.of N7.h2⟩, _, rfl, _, rfl, b, _, _, _, rfl, rfl, hb.ext N7.s, rfl, (by decide : 3 ≤ sizeLine), fun p3 hp3 => ?_⟩
            have s8 := same_new (o := .tup [.ref x1, u, .bl true]) hp3
            have N8 := N7.same s8
            refine ⟨l2, _, _, rfl, rfl, N8.h2, by rw [List.length_map, List.length_reverse]; exact lt 2 (by decide), ?_⟩
            have N9 := N8.push ⟨p3, x1, u, true, x⟩ ⟨upd_same, hx, hl7.same s8⟩
            refine ⟨_, ?_, _, _, _, _, _, xs, _, rfl, N9, ?_, rfl⟩
            · show (4 * leafs x - 2) + (1 + ((4 * leafs y - 2) + mea r)) < (4 * (leafs x + leafs y) - 2) + mea r
              omega
            · show xs.length + ((2 * leafs x - 1) + (1 + ((2 * leafs y - 1) + cnt r))) = _
              omega
end
end Toy
set_option maxRecDepth 100000
set_option maxHeartbeats 4000000
namespace Toy
open PySem L2 Tre
def nod : List (V × Tr) → Nat
  | [] => 0
  | e :: r => (2 * leafs e.2 - 1) + nod r
theorem len_nod : ∀ st : List (V × Tr), st.length ≤ nod st
  | [] => Nat.le_refl 0
  | e :: r => by
    have h := len_nod r
    have p := leafs_pos e.2
    show r.length + 1 ≤ (2 * leafs e.2 - 1) + nod r
    omega
/-- texts of at most five signs -/
def Sh5 (ys : List Str) : Prop := ∀ y ∈ ys, y.length ≤ 5
theorem sh5_sum {ys : List Str} (h : Sh5 ys) : (ys.map (·.length)).sum ≤ 5 * ys.length := by
  induction ys with
  | nil => exact Nat.le_refl 0
  | cons y r ih =>
    have h1 := h y (List.mem_cons_self ..)
    have h2 := ih fun z hz => h z (List.mem_cons_of_mem _ hz)
    rw [List.map_cons, List.sum_cons, List.length_cons]
    omega
/-- the words of a tree, one by one -/
def ws : Tr → List (List Nat)
  | .leaf f => [[dig f.m, dig f.l, dig f.r, dig f.o, dig f.b]]
  | .node t x y => [dig t] :: (ws x ++ ws y)
theorem ws_len : ∀ z : Tr, (ws z).length = 2 * leafs z - 1
  | .leaf f => rfl
  | .node t x y => by
    have hx := ws_len x
    have hy := ws_len y
    have px := leafs_pos x
    have py := leafs_pos y
    show (ws x ++ ws y).length + 1 = 2 * (leafs x + leafs y) - 1
    rw [List.length_append]
    omega
theorem ws_ne (z : Tr) : ws z ≠ [] := by cases z <;> simp [ws]
theorem join_app (s : List Nat) : ∀ a b : List (List Nat), a ≠ [] → b ≠ [] → TL.joinL s (a ++ b) = TL.joinL s a ++ s ++ TL.joinL s b
  | [], b, h, _ => absurd rfl h
  | [x], [], _, h => absurd rfl h
  | [x], y :: r, _, _ => by simp [TL.joinL]
  | x :: y :: r, b, _, hb => by
    have h := join_app s (y :: r) b (by simp) hb
    show x ++ (s ++ TL.joinL s ((y :: r) ++ b)) = x ++ (s ++ TL.joinL s (y :: r)) ++ s ++ TL.joinL s b
    rw [h]
    simp [List.append_assoc]
theorem join_ws : ∀ z : Tr, TL.joinL [32] (ws z) = wl z
  | .leaf f => rfl
  | .node t x y => by
    have hx := join_ws x
    have hy := join_ws y
    have h := join_app [32] ([dig t] :: ws x) (ws y) (by simp) (ws_ne y)
    have h2 := join_app [32] [[dig t]] (ws x) (by simp) (ws_ne x)
    have h1 : TL.joinL [32] [[dig t]] = [dig t] := rfl
    show TL.joinL [32] (([dig t] :: ws x) ++ ws y) = dig t :: 32 :: (wl x ++ 32 :: wl y)
    rw [h, show [dig t] :: ws x = [[dig t]] ++ ws x from rfl, h2, hx, hy, h1]
    simp
section
variable {P : Program} {w : World} {K : PySem.W.Frag} {mg : Str → Option Value} {base : Heap} {C CG : Addr}
structure Wst (K : PySem.W.Frag) (H : Hp) (l1 l2 : Addr) (H' : Hp) (ys : List Str) (st : List (V × Tr)) : Prop where
  n : l1 ≠ l2
  f1 : H l1 = none
  f2 : H l2 = none
  h1 : H' l1 = some (.lst (ys.map V.str))
  h2 : H' l2 = some (.lst (st.reverse.map (·.1)))
  s : Same H H'
  e : ∀ e ∈ st, TrAt K H e.2 e.1
  q : Sh5 ys
theorem Wst.same {H H1 H2 : Hp} {l1 l2 : Addr} {ys : List Str} {st : List (V × Tr)} (N : Wst K H l1 l2 H1 ys st) (s : Same H1 H2) : Wst K H l1 l2 H2 ys st :=
  ⟨N.n, N.f1, N.f2, s _ _ N.h1, s _ _ N.h2, N.s.trans s, N.e, N.q⟩
theorem Wst.put {H H1 : Hp} {l1 l2 : Addr} {ys : List Str} {st : List (V × Tr)} (N : Wst K H l1 l2 H1 ys st) (y : Str) (hy : y.length ≤ 5) : Wst K H l1 l2 (upd H1 l1 (.lst (ys.map V.str ++ [.str y]))) (ys ++ [y]) st :=
  ⟨N.n, N.f1, N.f2, by rw [upd_same, List.map_append]; rfl, by rw [upd_ne N.n.symm]; exact N.h2, same_upd N.s N.f1, N.e, fun z hz => by
    rcases List.mem_append.mp hz with hz | hz
    · exact N.q z hz
    · rw [List.mem_singleton.mp hz]; exact hy⟩
theorem Wst.setl {H H1 : Hp} {l1 l2 : Addr} {ys : List Str} {st st' : List (V × Tr)} (N : Wst K H l1 l2 H1 ys st) (hs : ∀ e ∈ st', TrAt K H e.2 e.1) : Wst K H l1 l2 (upd H1 l2 (.lst (st'.reverse.map (·.1)))) ys st' :=
  ⟨N.n, N.f1, N.f2, by rw [upd_ne N.n]; exact N.h1, upd_same, same_upd N.s N.f2, hs, N.q⟩
theorem Wst.push {H H1 : Hp} {l1 l2 : Addr} {ys : List Str} {st : List (V × Tr)} (N : Wst K H l1 l2 H1 ys st) (w : V × Tr) (hw : TrAt K H w.2 w.1) : Wst K H l1 l2 (upd H1 l2 (.lst ((st.reverse.map (·.1)) ++ [w.1]))) ys (w :: st) := by
  have h := N.setl (st' := w :: st) fun e he => by
    rcases List.mem_cons.mp he with rfl | he
    · exact hw
    · exact N.e e he
  rw [List.reverse_cons, List.map_append] at h
  exact h
def spWo (K : PySem.W.Frag) : Sp := fun vs H Q _ => ∃ v z, vs = [v] ∧ TrAt K H z v ∧ leafs z ≤ 10000 ∧ ∀ l H', Same H H' → H' l = some (.lst (((ws z).map SX.S).map V.str)) → Sh5 ((ws z).map SX.S) → Q (.ref l) H'
def WoInv (K : PySem.W.Frag) (H : Hp) (v : V) (l1 l2 : Addr) (z : Tr) (m : Nat) (σ : St) (H' : Hp) : Prop :=
  ∃ (v3 v4 : Option V) (ys : List Str) (st : List (V × Tr)), σ = [some v, some (.ref l1), some (.ref l2), v3, v4] ∧ Wst K H l1 l2 H' ys st ∧ ys.length + nod st = 2 * leafs z - 1 ∧ (∃ zs, ys = zs.map SX.S ∧ zs ++ st.flatMap (fun e => ws e.2) = ws z) ∧ m = nod st
abbrev sWo : Stmt := top 45
theorem scWo : FnScope ["tree", "words", "waiting", "node", "truth"] ["tree"] (defScope sWo) := ⟨rfl, rfl, rfl, by decide +kernel, rfl, by decide +kernel, by decide +kernel⟩
theorem ok_wo {f f1 : Addr} {fd fd1 : FuncData} (F : Fun K "words_of" "words_of" sWo f fd) (C_is_branch : Cal P w K mg base 1 "is_branch" f1 fd1 ["tree"] (spIsB K)) : FnOk P w K mg base CX0 2 f fd ["tree"] (spWo K) := by
  refine F.ok scWo (fun vs H Q E h => ?_) (fun cdv Ar outer s H vs Q E hr h => ?_)
  · obtain ⟨v, z, rfl, _⟩ := h
    rfl
  · obtain ⟨v, z, rfl, hz, lz, q⟩ := h
    have nd := scWo.nd
    have pz := leafs_pos z
    refine ⟨_, pss_cons (ps_set (i := 1) nd rfl (Or.inl rfl) (pe_lst pa_nil))
      (pss_cons (ps_set (i := 2) nd rfl (Or.inl rfl) (pe_lst (pa_cons (pv 0) pa_nil)))
      (pss_cons (ps_while PassesOwn.never (pt_truth (pv 2) (fun _ => rfl)) (pss_cons (ps_set (i := 3) nd rfl (Or.inl rfl) (pe_bm0 PySem.F.plainAttrs_list PySem.F.slot_list_pop PySem.F.type_list_pop mt_pop (pv 2)))
      (pss_one (ps_if (pt_val (pe_call C_is_branch.F (hr.mono (by decide)) (by rfl) C_is_branch.mgf C_is_branch.kp C_is_branch.b .nil pass0 (pa_cons (pv 3) pa_nil))) (pss_cons (ps_expr (pe_bm PySem.F.plainAttrs_list PySem.F.slot_list_append PySem.F.type_list_append mt_append (pv 1) (pa_cons (pe_ifExp (pt_val (pe_ix ix_tup (pv 3) pe_int (fun _ _ => rfl))) pe_str pe_str) pa_nil)))
      (pss_cons (ps_expr (pe_bm PySem.F.plainAttrs_list PySem.F.slot_list_append PySem.F.type_list_append mt_append (pv 2) (pa_cons (pe_ix ix_tup (pv 3) pe_int (fun _ _ => rfl)) pa_nil)))
      (pss_one (ps_expr (pe_bm PySem.F.plainAttrs_list PySem.F.slot_list_append PySem.F.type_list_append mt_append (pv 2) (pa_cons (pe_ix ix_tup (pv 3) pe_int (fun _ _ => rfl)) pa_nil)))))) (pss_one (ps_expr (pe_bm PySem.F.plainAttrs_list PySem.F.slot_list_append PySem.F.type_list_append mt_append (pv 1) (pa_cons (pe_join pe_str (by exact (pe_lc (own := [("truth", 4)]) (g := gName 4) (tt := tYes) rfl nd (pi_tup (pv 3)) (blkOk_by (N := ["tree", "words", "waiting", "node", "truth"]) (sc := defScope (top 45)) (by decide +kernel)) (fun _ _ _ _ _ => pg_name (i := 4) nd rfl (Or.inl rfl)) (fun _ _ _ _ _ => pts_nil) (fun _ _ _ _ _ => (pe_ifExp (pt_val (pv 4)) pe_str pe_str))))) pa_nil))))))))
      (pss_one (ps_ret (pv 1))))), ?_⟩
    refine ⟨(by decide : 0 ≤ sizeLine), fun l1 hl1 => ?_⟩
    have s1 := same_new (o := .lst []) hl1
    refine ⟨_, rfl, (by decide : 1 ≤ sizeLine), fun l2 hl2 => ?_⟩
    have s3 := same_new (o := .lst [v]) hl2
    have s13 := s1.trans s3
    have h10 : H l1 = none := hl1
    have h20 : H l2 = none := s1.free hl2
    have n12 : l1 ≠ l2 := ne_of_none (upd_same (H := H) (a := l1) (o := .lst [])) hl2
    refine ⟨WoInv K H v l1 l2 z, ⟨_, none, none, [], [(v, z)], rfl, ⟨n12, h10, h20, s3 _ _ upd_same, upd_same, s13, fun e he => ?_, fun y hy => nomatch hy⟩, ?_, ⟨[], rfl, by simp⟩, rfl⟩, ?_⟩
    · rw [List.mem_singleton.mp he]
      exact hz
    · show 0 + ((2 * leafs z - 1) + 0) = _
      omega
    · rintro m σ H1 ⟨v3, v4, ys, st, rfl, N, hsum, ⟨zs, hzs, hww⟩, rfl⟩
      refine ⟨_, rfl, _, .inl ⟨_, SqL.of N.h2, rfl⟩, ?_⟩
      have lm := len_nod st
      cases st with
      | nil =>
        refine iteF ?_
        refine ⟨_, rfl, ?_⟩
        have e0 : zs = ws z := by rw [← hww, List.flatMap_nil, List.append_nil]
        subst hzs
        rw [e0] at N
        exact q l1 H1 N.s N.h1 N.q
      | cons e r =>
        refine iteTb (by rw [List.reverse_cons, List.map_append]; cases (List.map (fun e : V × Tr => e.1) r.reverse) <;> rfl) ?_
        refine ⟨fun σ' H' => ∃ m', m' < nod (e :: r) ∧ WoInv K H v l1 l2 z m' σ' H', fun _ _ h => h, ?_⟩
        have he2 := N.e e (List.mem_cons_self ..)
        have hl2' : H1 l2 = some (.lst ((r.reverse.map (·.1)) ++ [e.1])) := by
          have h := N.h2
          rw [List.reverse_cons, List.map_append] at h
          exact h
        have lenr : r.length ≤ 100000 := by
          have h : r.length + 1 ≤ nod (e :: r) := lm
          omega
        have lenx : ys.length ≤ 100000 := by omega
        refine ⟨_, rfl, .inl ⟨rfl, _, SqL.of hl2'⟩, l2, _, _, rfl, rfl, hl2', lastx, ?_⟩
        rw [List.dropLast_concat]
        have N2 : Wst K H l1 l2 (upd H1 l2 (.lst (r.reverse.map (·.1)))) ys r := N.setl fun e' he' => N.e e' (List.mem_cons_of_mem _ he')
        generalize upd H1 l2 (.lst (r.reverse.map (·.1))) = H2 at *
        have hz2 := he2.same N2.s
        obtain ⟨ev, ez⟩ := e
        refine ⟨_, rfl, ev, ez, rfl, hz2, _, rfl, ?_⟩
        cases ez with
        | leaf g =>
          have hs' : ys.length + ((2 * 1 - 1) + nod r) = 2 * leafs z - 1 := hsum
          refine iteF ?_
          obtain ⟨a, rfl, hc⟩ := he2
          have hc2 := hc.ext N2.s
          refine ⟨_, rfl, .inl ⟨rfl, _, SqL.of N2.h1⟩, ⟨_, rfl⟩, _, rfl, a, rfl, ⟨_, hc2⟩, fun D hD => ?_⟩
          have sD := same_new (o := .lst []) hD
          have step : ∀ (i : Nat) (x : V), (lfV g)[i]? = some x → ∃ p, x = .bl p ∧ i < 5 ∧ (((lfS g).map SX.S).map V.str).take (i + 1) = (((lfS g).map SX.S).map V.str).take i ++ [.str (SX.S [dig p])] := fun i x h => match i, h with
            | 0, h => ⟨_, (Option.some.inj h).symm, by decide, rfl⟩
            | 1, h => ⟨_, (Option.some.inj h).symm, by decide, rfl⟩
            | 2, h => ⟨_, (Option.some.inj h).symm, by decide, rfl⟩
            | 3, h => ⟨_, (Option.some.inj h).symm, by decide, rfl⟩
            | 4, h => ⟨_, (Option.some.inj h).symm, by decide, rfl⟩
            | n + 5, h => absurd h (by simp [lfV])
          refine lc_tup (xs := lfV g) (K := K) (a := a) (g := gName 4) (tt := tYes) (te := tIf (tB (tVar 4)) (tC (V.str "1")) (tC (V.str "0"))) (fun i H' => H' D = some (.lst ((((lfS g).map SX.S).map V.str).take i)) ∧ Same H2 H') ⟨upd_same, sD⟩ (fun i H' _ h => hc2.ext h.2) ?_ ?_
          · rintro i x H1 hx ⟨hD1, s1⟩
            obtain ⟨p, rfl, i5, e3⟩ := step i x hx
            refine ⟨rfl, ?_⟩
            have fin : ∃ acc, H1 D = some (.lst acc) ∧ acc.length < sizeLine ∧ (upd H1 D (.lst (acc ++ [.str (SX.S [dig p])]))) D = some (.lst ((((lfS g).map SX.S).map V.str).take (i + 1))) ∧ Same H2 (upd H1 D (.lst (acc ++ [.str (SX.S [dig p])]))) := by
              refine ⟨_, hD1, Nat.lt_of_le_of_lt (List.length_take_le ..) (Nat.lt_trans i5 (by decide +kernel)), ?_, fun b' o hb' => ?_⟩
              · rw [upd_same, e3]
              · rw [upd_ne (ne_of_none hb' hD)]
                exact s1 _ _ hb'
            refine ⟨_, rfl, p, rfl, ?_⟩
            cases p with
            | true => exact ite2 (fun _ => fin) (fun h => absurd rfl h)
            | false => exact ite2 (fun h => by cases h) (fun _ => fin)
          · rintro H3 ⟨hD1, s1⟩
            have N3 := N2.same s1
            refine ⟨_, D, (lfS g).map SX.S, rfl, rfl, .inl (SqL.of hD1), by show 1 + (1 + (1 + (1 + (1 + 0)))) + 5 * 0 ≤ 16777216; decide, ?_⟩
            rw [show (Str.ofString "" : Str) = SX.S [] from rfl, SX.join_S]
            refine ⟨l1, _, _, rfl, rfl, N3.h1, by rw [List.length_map]; exact Nat.lt_of_le_of_lt lenx (by decide +kernel), ?_⟩
            refine ⟨nod r, (by show nod r < (2 * 1 - 1) + nod r; omega), _, _, ys ++ [SX.S (TL.joinL [] (lfS g))], r, rfl, N3.put _ (Nat.le_refl 5), ?_, ⟨zs ++ [TL.joinL [] (lfS g)], by rw [hzs, List.map_append]; rfl, by rw [← hww, List.append_assoc]; rfl⟩, rfl⟩
            rw [List.length_append]
            show ys.length + 1 + nod r = _
            omega
        | node t x y =>
          have hs' : ys.length + ((2 * (leafs x + leafs y) - 1) + nod r) = 2 * leafs z - 1 := hsum
          have px := leafs_pos x
          have py := leafs_pos y
          refine iteT ?_
          obtain ⟨b, u, w', rfl, hb, hx, hy⟩ := he2
          have lt : ∀ k, k ≤ 100 → r.length + k < sizeLine := fun k hk => Nat.lt_of_le_of_lt (Nat.add_le_add lenr hk) (by decide +kernel)
          have lt1 : ys.length < sizeLine := Nat.lt_of_le_of_lt lenx (by decide +kernel)
          refine ⟨_, rfl, .inl ⟨rfl, _, SqL.of N2.h1⟩, _, rfl, b, _, _, _, rfl, rfl, hb.ext N2.s, rfl, t, rfl, ?_⟩
          cases t with
          | true =>
            refine ite2 (fun _ => ?_) (fun h => absurd rfl h)
            refine ⟨l1, _, _, rfl, rfl, N2.h1, by rw [List.length_map]; exact lt1, ?_⟩
            have N3 := N2.put (Str.ofString "1") (by decide +kernel)
            generalize upd H2 l1 (.lst (ys.map V.str ++ [.str (Str.ofString "1")])) = H3 at *
            refine ⟨_, rfl, .inl ⟨rfl, _, SqL.of N3.h2⟩, _, rfl, b, _, _, _, rfl, rfl, hb.ext N3.s, rfl, l2, _, _, rfl, rfl, N3.h2, by rw [List.length_map, List.length_reverse]; exact lt 0 (by decide), ?_⟩
            have N4 := N3.push (w', y) hy
            generalize upd H3 l2 (.lst ((r.reverse.map (·.1)) ++ [w'])) = H4 at *
            refine ⟨_, rfl, .inl ⟨rfl, _, SqL.of N4.h2⟩, _, rfl, b, _, _, _, rfl, rfl, hb.ext N4.s, rfl, l2, _, _, rfl, rfl, N4.h2, by rw [List.length_map, List.length_reverse]; exact lt 1 (by decide), ?_⟩
            have N5 := N4.push (u, x) hx
            refine ⟨_, ?_, _, _, ys ++ [(Str.ofString "1")], _, rfl, N5, ?_, ⟨zs ++ [[49]], by rw [hzs, List.map_append]; rfl, by rw [← hww]; simp [List.flatMap_cons, ws, dig]⟩, rfl⟩
            · show (2 * leafs x - 1) + ((2 * leafs y - 1) + nod r) < (2 * (leafs x + leafs y) - 1) + nod r
              omega
            · rw [List.length_append]
              show ys.length + 1 + ((2 * leafs x - 1) + ((2 * leafs y - 1) + nod r)) = _
              omega
          | false =>
            refine ite2 (fun h => by cases h) (fun _ => ?_)
            refine ⟨l1, _, _, rfl, rfl, N2.h1, by rw [List.length_map]; exact lt1, ?_⟩
            have N3 := N2.put (Str.ofString "0") (by decide +kernel)
            generalize upd H2 l1 (.lst (ys.map V.str ++ [.str (Str.ofString "0")])) = H3 at *
            refine ⟨_, rfl, .inl ⟨rfl, _, SqL.of N3.h2⟩, _, rfl, b, _, _, _, rfl, rfl, hb.ext N3.s, rfl, l2, _, _, rfl, rfl, N3.h2, by rw [List.length_map, List.length_reverse]; exact lt 0 (by decide), ?_⟩
            have N4 := N3.push (w', y) hy
            generalize upd H3 l2 (.lst ((r.reverse.map (·.1)) ++ [w'])) = H4 at *
            refine ⟨_, rfl, .inl ⟨rfl, _, SqL.of N4.h2⟩, _, rfl, b, _, _, _, rfl, rfl, hb.ext N4.s, rfl, l2, _, _, rfl, rfl, N4.h2, by rw [List.length_map, List.length_reverse]; exact lt 1 (by decide), ?_⟩
            have N5 := N4.push (u, x) hx
            refine ⟨_, ?_, _, _, ys ++ [(Str.ofString "0")], _, rfl, N5, ?_, ⟨zs ++ [[48]], by rw [hzs, List.map_append]; rfl, by rw [← hww]; simp [List.flatMap_cons, ws, dig]⟩, rfl⟩
            · show (2 * leafs x - 1) + ((2 * leafs y - 1) + nod r) < (2 * (leafs x + leafs y) - 1) + nod r
              omega
            · rw [List.length_append]
              show ys.length + 1 + ((2 * leafs x - 1) + ((2 * leafs y - 1) + nod r)) = _
              omega
def spStr (K : PySem.W.Frag) (C : Addr) : Sp := fun vs H Q _ => ∃ a x, vs = [.ref a] ∧ RegAt K C H a x ∧ leafs x ≤ 10000 ∧ ∀ H', Same H H' → Q (.str ⟨(wl x).toArray⟩) H'
abbrev sStr : Stmt := inClass (top 48) 33
theorem scSr : FnScope ["self"] ["self"] (defScope sStr) := ⟨rfl, rfl, rfl, by decide +kernel, rfl, by decide +kernel, by decide +kernel⟩
theorem ok_regstr {f f1 : Addr} {fd fd1 : FuncData} (F : Fun K "__str__" "Region.__str__" sStr f fd) (T_Region : RegT K mg CG) (C_words_of : Cal P w K mg base 2 "words_of" f1 fd1 ["tree"] (spWo K)) : FnOk P w K mg base CX0 3 f fd ["self"] (spStr K CG) := by
  refine F.ok scSr (fun vs H Q E h => ?_) (fun cdv Ar outer s H vs Q E hr h => ?_)
  · obtain ⟨a, x, rfl, _⟩ := h
    rfl
  · obtain ⟨a, x, rfl, ⟨dx, u, hx, tx⟩, lx, q⟩ := h
    have nd := scSr.nd
    refine ⟨_, pss_one (ps_ret (pe_join pe_str (pe_call C_words_of.F (hr.mono (by decide)) (by rfl) C_words_of.mgf C_words_of.kp C_words_of.b .nil pass0 (pa_cons (pe_fld (pv 0) rfl) pa_nil)))), ?_⟩
    refine ⟨⟨_, rfl⟩, _, rfl, _, CG, dx, _, _, rfl, hx, T_Region.cl, T_Region.nT, regF_tree _, u, x, rfl, tx, lx, fun l H1 s1 hl h5 => ?_⟩
    have hs := sh5_sum h5
    have hn : ((ws x).map SX.S).length = 2 * leafs x - 1 := by rw [List.length_map, ws_len]
    refine ⟨_, l, (ws x).map SX.S, rfl, rfl, .inl (SqL.of hl), by show (((ws x).map SX.S).map (·.length)).sum + ((ws x).map SX.S).length * 1 ≤ 16777216; omega, ?_⟩
    rw [show (Str.ofString " " : Str) = SX.S [32] from rfl, SX.join_S, join_ws]
    exact q H1 s1
end
end Toy
set_option maxRecDepth 100000
set_option maxHeartbeats 4000000
namespace Toy
open PySem L2 Tre
section
variable {P : Program} {w : World} {K : PySem.W.Frag} {mg : Str → Option Value} {base : Heap} {C CG : Addr}
/-- a region beside what is none -/
def spRegQn (K : PySem.W.Frag) (C : Addr) : Sp := fun vs H Q _ => ∃ a v x t, vs = [.ref a, v] ∧ RegAt K C H a x ∧ TyX K H v t ∧ PySem.W.kitOne K t (.ref C) = some false ∧ Q (.bl false) H
theorem ok_regeqn {f : Addr} {fd : FuncData} (F : Fun K "__eq__" "Region.__eq__" sRegEq f fd) (T : Bl mg) (T_Region : RegT K mg CG) : FnOk P w K mg base CX0 45 f fd ["self", "other"] (spRegQn K CG) := by
  refine F.ok scGEq (fun vs H Q E h => ?_) (fun cdv Ar outer s H vs Q E hr h => ?_)
  · obtain ⟨a, v, x, t, rfl, _⟩ := h
    rfl
  · obtain ⟨a, v, x, t, rfl, hx, ty, no, q⟩ := h
    have nd := scGEq.nd
    refine ⟨_, pss_cons (ps_if (pt_not (pt_val (pe_callB call_isi (by rfl) T.isinstance (by decide +kernel) (pa_cons (pv 1) (pa_cons (Own.pe_gref (by rfl) T_Region.mgC) pa_nil))))) (pss_one (ps_ret pe_bl)) pss_nil)
      (pss_one (ps_ret (pe_cmpR (op_eqD hr.units) (pe_fld (pv 0) rfl) (pe_fld (pv 1) rfl) (nomark _)))), ?_⟩
    exact ⟨_, rfl, _, _, _, _, false, rfl, .own _, ty, no, _, rfl, iteTb rfl q⟩
end
end Toy
set_option maxRecDepth 100000
set_option maxHeartbeats 4000000
/-! x(*y, e, ..): a starred argument first, others behind it. -/
namespace Own
open PySem PySem.Spec PyProof.Rows L2 StX
theorem args_sf {M : Model} {A : Around} {E : Value → Shared → Prop} {s : Shared} {f : Value} {x : Sem Value} {y : Bool × Sem Value} {rest : List (Bool × Sem Value)} {Q : Args → Shared → Prop}
    (h : wpAny M A (spliced ((true, x) :: y :: rest)) (fun vs s' => Q ⟨vs, []⟩ s') E s) : wpAny M A (evalArgs f true ((true, x) :: y :: rest) []) Q E s := by
  unfold evalArgs
  show wpAny M A (spliced ((true, x) :: y :: rest) >>= _) Q E s
  refine wpAny_bind (wpAny_mono h (fun vs s' q => ?_) fun _ _ x => x)
  exact wpAny_holding (wpAny_bind (wpAny_pure (wpAny_bind (wpAny_pure (wpAny_pure q)))))
section
variable {X : Cx} {CX : CXT} {k : Nat} {f : Addr} {sp : Sp} {E : XK} {x : Str} {e e2 : Expr} {es : List Expr} {te : TE} {t : TA} {p sp_ pos : Pos}
theorem pe_callSF (F : FnR X.prog X.w X.K X.mg X.base CX k f sp) (hr : Room k X.A) (hk : PySem.W.keepIn X.K (.ref f) = true) (hg : Gl X x) (hm : X.mg x = some (.ref f)) (hx : Passes CX X E) (he : PE X e te) (ha : PA X (e2 :: es) t) (hd : (x == ("__debug__" : Str)) = false := by decide)
    (hst : starEach (.Starred e sp_ :: e2 :: es) X.env = (true, eval e X.env) :: (false, eval e2 X.env) :: starEach es X.env := by rfl) (hs2 : starEach (.Starred e sp_ :: e2 :: es) X.env = (true, eval e X.env) :: starEach (e2 :: es) X.env := by rfl) :
    PE X (.Call (.Name x p) (.Starred e sp_ :: e2 :: es) [] pos) (fun σ H Q => te σ H fun y H1 => ∃ a xs, y = V.ref a ∧ (SqT X.K H1 a xs ∨ SqL X.K H1 a xs) ∧ t σ H1 fun ys H2 => sp (xs ++ ys) H2 Q E) := by
  refine ⟨fun pins s σ H Q I h => ?_⟩
  refine wpAny_Call_Name_kw (ld_glob I hg hm ?_ hd)
  have go : wpAny (model X.prog X.w) X.A (spliced (backTo pos (starEach (.Starred e sp_ :: e2 :: es) X.env))) (fun vs s1 => X.K.In s1.heap ∧ wpAny (model X.prog X.w) X.A (call (.ref f) ([] ++ vs)) (EP X pins σ Q) X.xe s1) X.xe s := by
    refine PySem.W.items_star (thn (he.run pins s σ H _ I h) fun v s1 z => ?_) hs2
    obtain ⟨y, H1, I1, ry, a, xs, ey, hxs, q⟩ := z
    subst ey
    obtain rfl : v = Value.ref a := ry
    refine star_any I1 hxs fun us s2 I2 rv => ?_
    refine thn (ha.run pos pins s2 σ H1 _ I2 q) fun ws s3 z => ?_
    obtain ⟨vs, H3, I3, r3, q3⟩ := z
    exact ⟨I3.kIn, wpAny_call (run_fnR F hr hx I3 (rv.append r3) q3)⟩
  rw [hst] at go ⊢
  exact PySem.W.ks_call rfl (PySem.W.keeps_K hk) (args_sf go)
end
/-! f(k = v, ..) with keywords alone -/
def tCallK0 (n : Nat) (sp : Sp) (gV : List V → List V → List V) (E : XK) (tk : TA) : TE := fun σ H Q => tk σ H fun zs H1 => zs.length = n ∧ sp (gV [] zs) H1 Q E
section
variable {X : Cx} {CX : CXT} {k : Nat} {f : Addr} {fd : FuncData} {sp : Sp} {E : XK} {x : Str} {p pos : Pos} {ps ks : List Str} {kws : List Keyword} {tk : TA} {g : List Value → List Value → List Value} {gV : List V → List V → List V}
theorem pe_callK0 (F : FnOk X.prog X.w X.K X.mg X.base CX k f fd ps sp) (hr : Room k X.A) (hg : Gl X x) (hm : X.mg x = some (.ref f)) (hk : PySem.W.keepIn X.K (.ref f) = true) (hb : KBn X.K fd ps 0 ks g gV) (hx : Passes CX X E) (hkw : PK X kws tk)
    (hall : (backToKw pos (keywordEach kws X.env)).all (·.1.isSome) = true := by rfl) (hks : (backToKw pos (keywordEach kws X.env)).filterMap (·.1) = ks := by rfl)
    (hdb : (x == ("__debug__" : Str)) = false := by decide) (hpl : ((backTo pos (starEach [] X.env)).any (·.1) || (backToKw pos (keywordEach kws X.env)).any (·.1.isNone)) = false := by rfl) :
    PE X (.Call (.Name x p) [] kws pos) (tCallK0 ks.length sp gV E tk) := by
  refine ⟨fun pins s σ H Q I h => ?_⟩
  refine wpAny_Call_Name_kw (ld_glob I hg hm ?_ hdb)
  refine PySem.W.callWith_KW0 (first := []) (h₀ := X.base) I.ok.mod.kin hk hall (thn (hkw.run pos pins s σ H _ I h) fun ws s2 ⟨zs, H2, I2, rz, hl, q2⟩ => ⟨I2.kIn, ?_⟩) hpl
  rw [hks]
  exact run_fnN (us := []) (vs := []) F hr hb hx I2 .nil rz rfl hl q2
end
end Own
set_option maxRecDepth 100000
set_option maxHeartbeats 4000000
/-! Several except clauses, with and without a name. -/
namespace Own
open PySem PySem.Spec PyProof.Rows L2
/-- an exception of the body, come down, ahead of a clause -/
structure Dn (X : Cx) (pins : List (Addr × Obj)) (a : Addr) (cls : Value) (d : Option Addr) (σ : L2.St) (H : Hp) (B : Heap) (sI s : Shared) : Prop where
  J : Inv X pins σ H sI
  nb : ∀ b o, sI.heap.get? b = some o → b ∉ frs X.stack → B.get? b = some o
  up : sI.heap.UpToSlots s.heap
  fl : HandSPX.FlyingZ B (X.env :: X.outer) a (Zc cls d) s.heap
  na : H a = none
  os : s.os = sI.os
  ag : AllBare s.gens
section
variable {X : Cx} {pins : List (Addr × Obj)} {a : Addr} {cls : Value} {d : Option Addr} {σ : L2.St} {H : Hp} {B : Heap} {sI s : Shared}
theorem Dn.inv (k : Dn X pins a cls d σ H B sI s) : Inv X pins σ H s := k.J.landed k.nb k.fl.1 k.up k.os k.ag
theorem Dn.out (k : Dn X pins a cls d σ H B sI s) : a ∉ frs (X.env :: X.outer) := fun hm => by
  obtain ⟨oe, vs, he, _, hd⟩ := k.fl.there
  obtain ⟨_, o', e', hnf⟩ := k.fl.2.2.1.mem hm
  rw [he] at e'; cases e'
  exact hnf _ hd
theorem Dn.nL (k : Dn X pins a cls d σ H B sI s) (hf : X.env.frame = some X.env.locals) : a ≠ X.env.locals := fun z => k.out (by
  rw [z]
  exact List.mem_filterMap.mpr ⟨X.env, List.mem_cons_self, hf⟩)
theorem Dn.nF (k : Dn X pins a cls d σ H B sI s) : a ∉ X.fs := fun hm => by
  obtain ⟨e, he, q⟩ := List.mem_filterMap.mp hm
  exact k.out (List.mem_filterMap.mpr ⟨e, List.mem_cons_of_mem _ he, q⟩)
/-- what the clauses hds do with an exception for which w holds -/
def Cl (X : Cx) (hds : List ExceptHandler) (w : Ends → WX) : Prop :=
  ∀ (pins : List (Addr × Obj)) (a : Addr) (cls : Value) (d : Option Addr) (σ : L2.St) (H : Hp) (B : Heap) (sI s : Shared) (D : Ends), Dn X pins a cls d σ H B sI s → w D cls d σ H →
    wpAny (model X.prog X.w) X.A (handleBy (.ref a) X.env hds) (SP X pins D) X.xe s
theorem cl_nil {Wout : WX} (hs : X.stack = X.env :: X.outer) (hf : X.env.frame = some X.env.locals) (tk : Takes X Wout) : Cl X [] fun _ => Wout := by
  intro pins a cls d σ H B sI s D k w
  refine wpAny_handleBy_nil ?_
  obtain ⟨k1, k2, k3, oe, vs, T, oT, ts', he, hz, hd, h1, hr⟩ := id k.fl
  unfold PySem.passOn
  refine wpAny_bind (wpAny_field he hd h1 ?_)
  rw [if_neg (show ¬ ((Value.ref T == Value.none) = true) from by simp)]
  have go : wpAny (model X.prog X.w) X.A (setFlight (.ref a) X.env.frame) (fun _ s2 => wpAny (model X.prog X.w) X.A (throw (.ref a) : Sem Flow) (SP X pins D) X.xe s2) X.xe s := by
    rw [hf]
    exact HandSPX.setFlight_upZ k.fl fun h2 hh up => wpAny_throw (tk _ _ ⟨a, B, sI, pins, σ, H, cls, d, rfl, k.J, k.nb, k.up.trans up, .inr (.inr (by rw [hs]; exact hh)), k.na, k.os, k.ag, w⟩)
  first
    | exact wpAny_bind (wpAny_pure (wpAny_bind go))
    | exact wpAny_bind go
/-- the clause's class is looked up and compared -/
theorem Dn.ask {x : Str} {np : Pos} {c : Value} {b : Bool} {Q : Bool → Shared → Prop} {E : Value → Shared → Prop} (k : Dn X pins a cls d σ H B sI s) (hf : X.env.frame = some X.env.locals) (hc : Names X x c) (hb : PySem.W.exmOne X.K cls c = some b) (q : Q b s) :
    wpAny (model X.prog X.w) (X.A.mark (some (.ref a))) (eval (.Name x np) X.env) (fun c s₁ => wpAny (model X.prog X.w) (X.A.mark (some (.ref a))) (excMatches (.ref a) c) Q E s₁) E s := by
  obtain ⟨oe, vs, he, hz, hd⟩ := k.fl.there
  have S := k.inv.suite he hd k.na (k.nL hf) k.nF
  have ty : PySem.W.Looks (model X.prog X.w) s.heap (typeOf (.ref a)) cls := fun A Q E s k q => wpAny_typeOf_ref (k _ _ he) (by rw [hz.1]; exact q)
  have em := PySem.W.exm_one (M := model X.prog X.w) k.inv.kIn ty hb
  obtain ⟨hg, hdb, hm | ⟨hm, hv, hnn⟩⟩ := hc
  · exact ld_glob (X := X.suite a ((a, oe) :: (X.pn ++ pins))) S hg hm (em.here q) hdb
  · exact ld_blt (X := X.suite a ((a, oe) :: (X.pn ++ pins))) S hg hm hv (em.here q) hnn hdb
theorem cl_on {x : Str} {c : Value} {ts : Addr → Value → Option Addr → TS} {b₀ : Stmt} {suite : List Stmt} {np pos : Pos} {hds : List ExceptHandler} {w : Ends → WX} (hf : X.env.frame = some X.env.locals) (hc : Names X x c)
    (hsu : ∀ (a : Addr) (oe : Obj) (cls : Value) (d : Option Addr) (pn : List (Addr × Obj)), Zc cls d oe → (∃ vs, oe.data = .fields vs) → PSs (X.suite a ((a, oe) :: pn)) (b₀ :: suite) (ts a cls d)) (r : Cl X hds w) :
    Cl X (.ExceptHandler (some (.Name x np)) none (b₀ :: suite) pos :: hds) fun D cls d σ H => ∃ b, PySem.W.exmOne X.K cls c = some b ∧ (b = true → ∀ a, H a = none → ts a cls d D σ H) ∧ (b = false → w D cls d σ H) := by
  intro pins a cls d σ H B sI s D k ⟨b, hb, yes, no⟩
  refine wpAny_handleBy_cons (codeAny_handlers_test (k.ask hf hc hb ?_)) (by intro q; cases q)
  cases b with
  | false => exact r pins a cls d σ H B sI s D k (no rfl)
  | true =>
    refine codeAny_handlers_suite (HandSPX.lands_againZ k.fl fun h2 fl2 up2 => ?_)
    have k2 : Dn X pins a cls d σ H B sI { s with heap := h2 } := ⟨k.J, k.nb, k.up.trans up2, fl2, k.na, k.os, k.ag⟩
    obtain ⟨oe, vs, he, hz, hd⟩ := fl2.there
    have S := k2.inv.suite he hd k.na (k.nL hf) k.nF
    refine wpAny_mono ((hsu a oe cls d (X.pn ++ pins) hz ⟨_, hd⟩).run [] _ σ H _ S (yes rfl a k.na)) (fun f s3 hsp => ?_) (fun _ _ z => False.elim z)
    have ok := k.J.ok
    cases f with
    | next => obtain ⟨σ3, H3, S3, q3⟩ := hsp; exact ⟨σ3, H3, S3.unsuite ok, q3⟩
    | brk => obtain ⟨σ3, H3, S3, q3⟩ := hsp; exact ⟨σ3, H3, S3.unsuite ok, q3⟩
    | cont => obtain ⟨σ3, H3, S3, q3⟩ := hsp; exact ⟨σ3, H3, S3.unsuite ok, q3⟩
    | ret u => obtain ⟨v3, σ3, H3, S3, r3, q3⟩ := hsp; exact ⟨v3, σ3, H3, S3.unsuite ok, r3, q3⟩
/-- what is wanted behind a suite whose name goes -/
def Ends.gone (D : Ends) (i : Nat) : Ends := { nx := fun σ H => D.nx (σ.set i none) H, rt := D.rt, bk := fun σ H => D.bk (σ.set i none) H, ct := fun σ H => D.ct (σ.set i none) H }
theorem cl_as {x n : Str} {c : Value} {i : Nat} {ts : Addr → Value → Option Addr → TS} {b₀ : Stmt} {suite : List Stmt} {np pos : Pos} {hds : List ExceptHandler} {w : Ends → WX} (hf : X.env.frame = some X.env.locals) (hN : X.N.Nodup) (hi : X.N[i]? = some n) (hln : X.env.kindOf n = some .local) (hc : Names X x c)
    (hsu : ∀ (a : Addr) (oe : Obj) (cls : Value) (d : Option Addr) (pn : List (Addr × Obj)), Zc cls d oe → (∃ vs, oe.data = .fields vs) → PSs (X.suite a ((a, oe) :: pn)) (b₀ :: suite) (ts a cls d)) (r : Cl X hds w) :
    Cl X (.ExceptHandler (some (.Name x np)) (some n) (b₀ :: suite) pos :: hds) fun D cls d σ H => ∃ b, PySem.W.exmOne X.K cls c = some b ∧ (b = true → σ.length = X.N.length → ∀ a, H a = none → ts a cls d (Ends.gone D i) (σ.set i (some (.ref a))) H) ∧ (b = false → w D cls d σ H) := by
  intro pins a cls d σ H B sI s D k ⟨b, hb, yes, no⟩
  refine wpAny_handleBy_cons (codeAny_handlers_test (k.ask hf hc hb ?_)) (by intro q; cases q)
  cases b with
  | false => exact r pins a cls d σ H B sI s D k (no rfl)
  | true =>
    refine codeAny_handlers_suite_as (HandSPX.lands_againZ k.fl fun h2 fl2 up2 => ?_)
    have k2 : Dn X pins a cls d σ H B sI { s with heap := h2 } := ⟨k.J, k.nb, k.up.trans up2, fl2, k.na, k.os, k.ag⟩
    obtain ⟨oe, vs, he, hz, hd⟩ := fl2.there
    have S := k2.inv.suite he hd k.na (k.nL hf) k.nF
    have ok := k.J.ok
    refine store_ok (X := X.suite a ((a, oe) :: (X.pn ++ pins))) (v := .ref a) S hN hi (.inl hln) rfl (fun s3 S3 => ?_) (.inr hln)
    refine wpAny_mono ((hsu a oe cls d (X.pn ++ pins) hz ⟨_, hd⟩).run [] s3 _ H _ S3 (yes rfl k.J.len a k.na)) (fun f s4 hsp => ?_) (fun _ _ z => False.elim z)
    have bye : ∀ {σ4 : L2.St} {H4 : Hp} {Q : Shared → Prop}, Inv (X.suite a ((a, oe) :: (X.pn ++ pins))) [] σ4 H4 s4 → (∀ s5, Inv X pins (σ4.set i none) H4 s5 → Q s5) →
        wpAny (model X.prog X.w) X.A (do bindName X.env n .none; unbindBehindTheSuite X.env n pos) (fun _ s5 => Q s5) X.xe s4 := fun {σ4 H4 Q} S4 hq => gone_ok (S4.unsuite ok) hN hi hln hq
    cases f with
    | next => obtain ⟨σ4, H4, S4, q4⟩ := hsp; exact bye S4 fun s5 J5 => ⟨_, _, J5, q4⟩
    | brk => obtain ⟨σ4, H4, S4, q4⟩ := hsp; exact bye S4 fun s5 J5 => ⟨_, _, J5, q4⟩
    | cont => obtain ⟨σ4, H4, S4, q4⟩ := hsp; exact bye S4 fun s5 J5 => ⟨_, _, J5, q4⟩
    | ret u => obtain ⟨v4, σ4, H4, S4, r4, q4⟩ := hsp; exact bye S4 fun s5 J5 => ⟨_, _, _, J5, r4, q4⟩
end
section
variable {X : Cx} {body : List Stmt} {h₀ : ExceptHandler} {hds : List ExceptHandler} {pos : Pos} {tb : WX → TS} {w : Ends → WX}
theorem ps_try_cl (hs : X.stack = X.env :: X.outer) (hf : X.env.frame = some X.env.locals)
    (hb : ∀ (W : WX) (pn : List (Addr × Obj)) (xe : Value → Shared → Prop), Takes (X.tr pn xe) W → PassesOwn (model X.prog X.w) X.A X.env xe → PSs (X.tr pn xe) body (tb W)) (hh : Cl X (h₀ :: hds) w) :
    PS X (.Try body (h₀ :: hds) [] [] pos) (fun D σ H => tb (w D) D σ H) := by
  refine ⟨fun pins s σ H D I h => ?_⟩
  have ok := I.ok
  have hfr : X.A.frames = some (X.env :: X.outer) := by rw [ok.frames, hs]
  refine wpAny_Try_except ?_
  have catch_ : Takes (X.tr (X.pn ++ pins) fun e s₁ => wpAny (model X.prog X.w) X.A (noteFrame e X.env) (fun _ s₂ => wpAny (model X.prog X.w) X.A (setFlight e none) (fun _ s₃ =>
      wpAny (model X.prog X.w) X.A (handleBy e X.env (h₀ :: hds)) (SP X pins D) X.xe s₃) X.xe s₂) X.xe s₁) (w D) := fun u s' xx => by
    obtain ⟨a, B, sI, pins', σ', H', cls, d, rfl, J', nb, up, sky, na, os, ag, ww⟩ := xx
    have sky' : Sky B (X.env :: X.outer) a (Zc cls d) X.env.locals s'.heap := by rw [← hs]; exact sky
    exact Sky.land Zc.steady hfr hf sky' fun h3 fl3 up3 => hh pins a cls d σ' H' B sI _ D ⟨J'.ofTry ok, nb, up.trans up3, fl3, na, os, ag⟩ ww
  refine wpAny_mono ((hb (w D) (X.pn ++ pins) _ catch_ PassesOwn.looking).run [] s σ H D (I.toTry _) h) (fun f s1 hsp => ?_) (fun e s1 he => he)
  cases f with
  | next => obtain ⟨σ', H', J', q⟩ := hsp; exact wpAny_execs_nil ⟨σ', H', J'.ofTry ok, q⟩
  | brk => obtain ⟨σ', H', J', q⟩ := hsp; exact ⟨σ', H', J'.ofTry ok, q⟩
  | cont => obtain ⟨σ', H', J', q⟩ := hsp; exact ⟨σ', H', J'.ofTry ok, q⟩
  | ret u => obtain ⟨v, σ', H', J', r, q⟩ := hsp; exact ⟨v, σ', H', J'.ofTry ok, r, q⟩
end
end Own
set_option maxRecDepth 100000
set_option maxHeartbeats 4000000
/-! Promises of defs that are called where no object is being shown (for repr), and the end of such a law, with tables of code objects. -/
namespace Own
open PySem PySem.Spec PyProof.Rows L2
structure FnG (P : Program) (w : World) (K : PySem.W.Frag) (mg : Str → Option Value) (base : Heap) (CX : CXT) (k : Nat) (f : Addr) (fd : FuncData) (ps : List Str) (sp : Sp) : Prop where
  len : ∀ vs H Q E, sp vs H Q E → vs.length = ps.length
  run : ∀ (A : Around) (outer : List Env) (s : Shared) (H : Hp) (args : Args) (us : List Value) (vs : List V) (Q : VK) (E : XK), A.guards = some [] → Room k A → Env0 P w K mg base A outer s H → BindsTo s fd args (ps.zip us) → Vals vs us →
    sp vs H Q E → codeAny (model P w) A (.call (.ref f) args) (CR CX outer P w H s Q E) s
section
variable {P : Program} {w : World} {K : PySem.W.Frag} {mg : Str → Option Value} {base : Heap} {x qual : Str} {st : Stmt} {f c : Addr} {fd : FuncData} {N ps : List Str} {k : Nat} {sp : Sp}
theorem okG (F : Fun K x qual st f fd) (S : FnScope N ps (defScope st)) (len : ∀ vs H Q E, sp vs H Q E → vs.length = ps.length)
    (hbody : ∀ (cdv : Value) (A : Around) (outer : List Env) (s : Shared) (H : Hp) (vs : List V) (Q : VK) (E : XK), A.guards = some [] → Room k (A.deeper (envOfC qual (defScope st) s.heap.objs.size f cdv)) → sp vs H Q E →
      ∃ t, PSs (cxOf CX0 P w K mg base N qual (defScope st) f cdv A outer s H E).nox (defBody st) t ∧ t { nx := fun _ H' => Q .non H', rt := Q } (start N vs) H) : FnG P w K mg base CX0 (k + 1) f fd ps sp := by
  obtain ⟨oc, od, kV, doc, pm, an, cdv, ct, osl, rfl, lk, hcd⟩ := F.ex
  refine ⟨len, fun A outer s H args us vs Q E hg hr e0 hb r hsp => LamX.run_ofS lk hcd S hr e0 hb r (len _ _ _ _ hsp) fun hr2 => ?_⟩
  obtain ⟨t, h, q⟩ := hbody cdv A outer s H vs Q E hg hr2 hsp
  exact ⟨t, h.nox, q⟩
/-- its code object is known -/
theorem okC (F : Fun K x qual st f fd) (hc : fd.code = .ref c) (S : FnScope N ps (defScope st)) (len : ∀ vs H Q E, sp vs H Q E → vs.length = ps.length)
    (hbody : ∀ (A : Around) (outer : List Env) (s : Shared) (H : Hp) (vs : List V) (Q : VK) (E : XK), Room k (A.deeper (envOfC qual (defScope st) s.heap.objs.size f (.ref c))) → sp vs H Q E →
      ∃ t, PSs (cxOf CX0 P w K mg base N qual (defScope st) f (.ref c) A outer s H E).nox (defBody st) t ∧ t { nx := fun _ H' => Q .non H', rt := Q } (start N vs) H) : FnOk P w K mg base CX0 (k + 1) f fd ps sp := by
  obtain ⟨oc, od, kV, doc, pm, an, cdv, ct, osl, rfl, lk, hcd⟩ := F.ex
  obtain rfl : cdv = .ref c := hc
  refine fn_of lk hcd S len fun A outer s H vs Q E hr hsp => ?_
  obtain ⟨t, h, q⟩ := hbody A outer s H vs Q E hr hsp
  exact ⟨t, h.nox, q⟩
end
section
variable {X : Cx} {CX : CXT} {k : Nat} {f : Addr} {fd : FuncData} {ps : List Str} {sp : Sp} {E : XK} {x : Str} {e : Expr} {es : List Expr} {t : TA} {p pos : Pos}
theorem run_fnG {pins : List (Addr × Obj)} {σ : L2.St} {H : Hp} {s : Shared} {Q : VK} {us : List Value} {vs : List V} (F : FnG X.prog X.w X.K X.mg X.base CX k f fd ps sp) (hg : X.A.guards = some []) (hr : Room k X.A) (hb : Binds X.K fd ps []) (hx : Passes CX X E)
    (I : Inv X pins σ H s) (r : Vals vs us) (h : sp vs H Q E) : wpAny (model X.prog X.w) X.A (call (.ref f) us) (EP X pins σ Q) X.xe s := by
  have hl : us.length = ps.length := by rw [← r.length]; exact F.len _ _ _ _ h
  have hb2 : BindsTo s fd ⟨us, []⟩ (ps.zip us) := by
    have := hb s us I.kIn (by rw [List.append_nil]; exact hl)
    rwa [List.append_nil] at this
  refine wpAny_call (codeAny_mono (F.run X.A X.stack s H ⟨us, []⟩ us vs Q E hg hr I.env0 hb2 r h) fun r s' hq => ?_)
  match r, hq with
  | .error e, hq => exact hx pins σ H s e s' I hq
  | .ok (.ret u), hq => exact I.after hq
  | .ok .next, hq => exact False.elim hq
  | .ok .brk, hq => exact False.elim hq
  | .ok .cont, hq => exact False.elim hq
theorem pe_callG (F : FnG X.prog X.w X.K X.mg X.base CX k f fd ps sp) (hg : X.A.guards = some []) (hr : Room k X.A) (hn : Gl X x) (hm : X.mg x = some (.ref f)) (hk : PySem.W.keepIn X.K (.ref f) = true) (hb : Binds X.K fd ps []) (hx : Passes CX X E)
    (ha : PA X (e :: es) t) (hdb : (x == ("__debug__" : Str)) = false := by decide) (he : starEach (e :: es) X.env = (false, eval e X.env) :: starEach es X.env := by rfl) (hpl : (backTo pos (starEach es X.env)).any (·.1) = false := by rfl) :
    PE X (.Call (.Name x p) (e :: es) [] pos) (fun σ H Q => t σ H fun vs H1 => sp vs H1 Q E) := by
  refine ⟨fun pins s σ H Q I h => wpAny_Call_Name_kw (ld_glob I hn hm ?_ hdb)⟩
  refine PySem.W.callWith_K (h₀ := X.base) I.ok.mod.kin hk (thn (ha.run pos pins s σ H _ I h) fun us s1 z => ?_) he hpl
  obtain ⟨vs, H1, I1, r, q⟩ := z
  exact ⟨I1.kIn, run_fnG F hg hr hb hx I1 r q⟩
/-- repr of data -/
def rRepr (K : PySem.W.Frag) : List V → Hp → VK → Prop := fun xs H Q => ∃ a d, xs = [.ref a] ∧ Dp K H (.ref a) d ∧ d.showable = true ∧ d.hasDict = false ∧ d.depth ≤ 60 ∧ d.shown.length ≤ sizeLine ∧ Q (.str d.shown) H
theorem call_repr (hg : X.A.guards = some []) (hu : X.A.units + 64 < cLine) : CallR X (.builtin "repr") (rRepr X.K) := by
  intro pins s σ H xs us Q I r h
  obtain ⟨a, d, rfl, hd, h1, h2, h3, h4, q⟩ := h
  obtain ⟨u, rfl, ru⟩ := vals1 r
  obtain rfl : u = Value.ref a := ru
  obtain ⟨as, rd⟩ := Dp.reads I d _ _ hd rfl
  exact repr_of_reads' rd h1 (fun e => by rw [h2] at e; cases e) hg (by omega) (fun _ _ e => e) (fun h' u tk hk => ⟨.str d.shown, H, I.kept hk, ⟨u, rfl⟩, q⟩) h4
end

/-! ### the end -/
/-- what is tracked at the law's entry: the tables, and the script unless it is the module's own -/
structure Ent (P : Program) (w : World) (K : PySem.W.Frag) (a : Addr) (cs : List (Addr × Addr)) (h : Heap) (ns : List Int) (H : Hp) : Prop where
  tab : ∀ p ∈ cs, H p.2 = some (.tbl #[])
  scr : SqL K H a (ns.map V.int)
  ok : HOk P w H h
  out : ∀ b u, H b = some u → K.lookup b = none
  only : ∀ b u, H b = some u → (u = .tbl #[] ∧ b ∈ cs.map (·.2)) ∨ (∃ xs o, u = .frz o (.lst xs) ∧ b = a)
theorem ent {P : Program} {w : World} {K : PySem.W.Frag} {a : Addr} {cs : List (Addr × Addr)} {h : Heap} {vs : List Value} {ns : List Int} (KX : K.In h) (hT : ∀ p ∈ cs, h.get? p.2 = some { cls := .none, data := .fields #[] }) (nT : ∀ p ∈ cs, K.lookup p.2 = none)
    (ha : h.get? a = some { cls := .type "list", data := .seq vs.toArray }) (hi : IntsAre vs ns) (hl : ns.length ≤ sizeLine) : ∃ H, Ent P w K a cs h ns H := by
  have rv := vals_ints hi
  have inT : ∀ b, b ∈ cs.map (·.2) → h.get? b = some { cls := .none, data := .fields #[] } ∧ K.lookup b = none := fun b m => by
    obtain ⟨p, hp, rfl⟩ := List.mem_map.mp m
    exact ⟨hT p hp, nT p hp⟩
  have aT : a ∉ cs.map (·.2) := fun m => by
    have z := (inT a m).1
    rw [ha] at z
    exact nomatch congrArg Obj.cls (Option.some.inj z)
  have hm : ∀ p ∈ cs, p.2 ∈ cs.map (·.2) := fun p hp => List.mem_map_of_mem hp
  by_cases hk : K.lookup a = none
  · refine ⟨fun b => if b ∈ cs.map (·.2) then some (.tbl #[]) else if b = a then some (.frz { cls := .type "list", data := .seq vs.toArray } (.lst (ns.map V.int))) else none,
      fun p hp => if_pos (hm p hp), .inl (.inr ⟨{ cls := .type "list", data := .seq vs.toArray }, ?_⟩), fun b u e => ?_, fun b u e => ?_, fun b u e => ?_⟩
    · show (if a ∈ cs.map (·.2) then _ else _) = _
      rw [if_neg aT, if_pos rfl]
    · by_cases m : b ∈ cs.map (·.2)
      · rw [if_pos m] at e
        cases e
        exact (inT b m).1
      · rw [if_neg m] at e
        by_cases eb : b = a
        · rw [if_pos eb] at e
          cases e
          subst eb
          exact ⟨ha, by rw [List.length_map]; exact hl, vs, _, rv, ha⟩
        · rw [if_neg eb] at e
          cases e
    · by_cases m : b ∈ cs.map (·.2)
      · exact (inT b m).2
      · rw [if_neg m] at e
        by_cases eb : b = a
        · rw [eb]; exact hk
        · rw [if_neg eb] at e
          cases e
    · by_cases m : b ∈ cs.map (·.2)
      · rw [if_pos m] at e
        cases e
        exact .inl ⟨rfl, m⟩
      · rw [if_neg m] at e
        by_cases eb : b = a
        · rw [if_pos eb] at e
          cases e
          exact .inr ⟨_, _, rfl, eb⟩
        · rw [if_neg eb] at e
          cases e
  · obtain ⟨o, ho⟩ := Option.ne_none_iff_exists'.mp hk
    have e0 := KX a o ho
    rw [ha] at e0
    cases e0
    refine ⟨fun b => if b ∈ cs.map (·.2) then some (.tbl #[]) else none, fun p hp => if_pos (hm p hp), .inr ⟨_, vs.toArray, _, ho, rfl, rfl, rfl, by rw [List.size_toArray, hi.length]; exact hl, by simpa using rv⟩, fun b u e => ?_, fun b u e => ?_, fun b u e => ?_⟩
    · by_cases m : b ∈ cs.map (·.2)
      · rw [if_pos m] at e
        cases e
        exact (inT b m).1
      · rw [if_neg m] at e
        cases e
    · by_cases m : b ∈ cs.map (·.2)
      · exact (inT b m).2
      · rw [if_neg m] at e
        cases e
    · by_cases m : b ∈ cs.map (·.2)
      · rw [if_pos m] at e
        cases e
        exact .inl ⟨rfl, m⟩
      · rw [if_neg m] at e
        cases e
end Own
set_option maxRecDepth 100000
set_option maxHeartbeats 4000000
/-! str(x), f"{x}" and x in y by own methods; repr of any plain value. -/
namespace Own
open PySem PySem.Spec PyProof.Rows L2
section
variable {X : Cx} {CX : CXT} {k : Nat} {C f : Addr} {fd : FuncData} {ps : List Str} {sp : Sp} {E : XK}
/-- str of an instance whose class has __str__ -/
def rStr (C : Addr) (sp : Sp) (E : XK) : List V → Hp → VK → Prop := fun xs H Q => ∃ a dx fs, xs = [.ref a] ∧ H a = some (.ins C dx fs) ∧ sp [.ref a] H (fun v H' => (∃ y, v = .str y) ∧ Q v H') E
theorem call_ownStr (F : FnOk X.prog X.w X.K X.mg X.base CX k f fd ps sp) (hr : Room (k + 2) X.A) (hs : PySem.W.findIn X.K (.ref C) "__str__" = some (some (.ref f))) (hf : PySem.W.isFn X.K (.ref f) = true) (hb : Binds X.K fd ps []) (hx : Passes CX X E) :
    CallR X (.type "str") (rStr C sp E) := by
  intro pins s σ H xs us Q I r h
  obtain ⟨a, dx, fs, rfl, ha, hsp⟩ := h
  obtain ⟨u, rfl, ru⟩ := vals1 r
  obtain rfl : u = Value.ref a := ru
  obtain ⟨mA, J, _⟩ := ins_get I.hok ha
  obtain ⟨od, J, _⟩ := J.look
  have hr2 : Room k X.A.in1.in1 := (Room.in1 (k := k + 1) hr).in1
  refine PySem.W.kso_call hr2.units0 I.kIn J hs hf (wpAny_mono (run_fnA F hr2 rfl hb hx I (vs := [.ref a]) (.cons rfl .nil) hsp) (fun w s' q => ?_) fun _ _ e => e)
  obtain ⟨v', H', I', rv, ⟨y, rfl⟩, q⟩ := q
  obtain ⟨t, rfl⟩ := rv
  exact ⟨.str y, H', I', ⟨t, rfl⟩, q⟩
/-- f"{x}" of such an instance -/
def tFmtO (C : Addr) (sp : Sp) (E : XK) (te : TE) : TE := fun σ H Q => te σ H fun x H1 => ∃ a dx fs, x = .ref a ∧ H1 a = some (.ins C dx fs) ∧ sp [.ref a] H1 (fun v H' => (∃ y, v = .str y) ∧ Q v H') E
theorem pe_fmtO {e : Expr} {te : TE} {pos : Pos} (he : PE X e te) (F : FnOk X.prog X.w X.K X.mg X.base CX k f fd ps sp) (hr : Room (k + 1) X.A) (hs : PySem.W.findIn X.K (.ref C) "__str__" = some (some (.ref f))) (hf : PySem.W.isFn X.K (.ref f) = true)
    (hfm : PySem.W.findIn X.K (.ref C) "__format__" = some (some (.builtin "object.__format__"))) (hm : PySem.W.mroIn X.K C (.type "object") = some true) (hb : Binds X.K fd ps []) (hx : Passes CX X E) : PE X (.FormattedValue e (-1) none pos) (tFmtO C sp E te) := by
  refine ⟨fun pins s σ H Q I h => ?_⟩
  refine wpAny_FormattedValue_plain (thn (he.run pins s σ H _ I h) fun v s1 hv => ?_)
  obtain ⟨x, H1, I1, r1, a, dx, fs, rfl, ha, hsp⟩ := hv
  obtain rfl : v = Value.ref a := r1
  obtain ⟨mA, J, _⟩ := ins_get I1.hok ha
  obtain ⟨od, J, _⟩ := J.look
  have hr1 : Room k X.A.in1 := hr.in1
  refine PySem.W.kfo_fieldS hr1.units0 I1.kIn J hfm hm hs hf (wpAny_mono (run_fnA F hr1 rfl hb hx (I1.tok _) (vs := [.ref a]) (.cons rfl .nil) hsp) (fun w s' q => ?_) fun _ _ e => e)
  obtain ⟨v', H', I', rv, ⟨y, rfl⟩, q⟩ := q
  obtain ⟨t, rfl⟩ := rv
  exact ⟨.str y, H', I', ⟨t, rfl⟩, q⟩
/-- x in y, y an instance whose class has __contains__ -/
def rIn (C : Addr) (sp : Sp) (E : XK) : R2 := fun x y H Q => ∃ a dx fs, y = .ref a ∧ H a = some (.ins C dx fs) ∧ sp [y, x] H (fun v H' => ∃ b, v = .bl b ∧ Q (.bl b) H') E
theorem op_inOwn (F : FnOk X.prog X.w X.K X.mg X.base CX k f fd ps sp) (hr : Room k X.A) (hs : PySem.W.findIn X.K (.ref C) "__contains__" = some (some (.ref f))) (hf : PySem.W.isFn X.K (.ref f) = true) (hb : Binds X.K fd ps []) (hx : Passes CX X E) :
    OpR X (compareOp .In) (rIn C sp E) := by
  intro pins s σ H x y u v Q I rx ry h
  obtain ⟨a, dx, fs, rfl, ha, hsp⟩ := h
  obtain rfl : v = Value.ref a := ry
  obtain ⟨mA, J, _⟩ := ins_get I.hok ha
  obtain ⟨od, J, _⟩ := J.look
  have KX := I.kIn
  have hty := beq_iff_eq.mp hf
  show wpAny _ _ (do return Value.bool (← contains (.ref a) u)) _ _ _
  refine wpAny_bind ?_
  unfold contains
  refine wpAny_holding ?_
  show wpAny _ _ (do if (← specialOf (.ref a) "__contains__") == some .none then _ else _) _ _ _
  refine wpAny_bind (wpAny_bind (J.type.here ((PySem.W.looks_findIn KX hs).here ?_)))
  have hne : ((some (Value.ref f) : Option Value) == some Value.none) = false := rfl
  simp only [hne, Bool.false_eq_true, if_false]
  unfold callSpecialUnlessNone?
  refine wpAny_bind (wpAny_bind (wpAny_bind (J.type.here ((PySem.W.looks_findIn KX hs).here ?_))))
  dsimp only
  refine wpAny_holding (wpAny_bind ((PySem.W.bind_fn KX _ hty).here ?_))
  have hne2 : (Value.ref f == Value.none) = false := rfl
  simp only [hne2, Bool.false_eq_true, if_false]
  have r2 : Vals [V.ref a, x] [Value.ref a, u] := .cons rfl (.cons rx .nil)
  refine wpAny_bind (wpAny_mono (run_fn F hr hb .nil hx I r2 hsp) (fun w s' q => ?_) fun _ _ e => e)
  obtain ⟨v', H', I', rv, b, rfl, q⟩ := q
  obtain rfl : w = Value.bool b := rv
  refine wpAny_pure ?_
  show wpAny _ _ (truthy (.bool b)) _ _ _
  exact wpAny_pure (wpAny_pure ⟨.bl b, H', I', rfl, q⟩)
end
/-- what repr shows of a plain value -/
inductive ReprOf (K : PySem.W.Frag) (H : Hp) : V → Str → Prop
  | non : ReprOf K H .non "None"
  | bl (b : Bool) : ReprOf K H (.bl b) (if b then "True" else "False")
  | int (i : Int) (h : i.natAbs.log2 < 1920) : ReprOf K H (.int i) (toString i : String)
  | str (x : Str) (h : (reprText x).length ≤ sizeLine) : ReprOf K H (.str x) (reprText x)
  | dat {a : Addr} {d : PyData} (h : Dp K H (.ref a) d) (h1 : d.showable = true) (h2 : d.hasDict = false) (h3 : d.depth ≤ 60) (h4 : d.shown.length ≤ sizeLine) : ReprOf K H (.ref a) d.shown
  | dct {a : Addr} (h : H a = some (.dK [])) : ReprOf K H (.ref a) (PyData.dict []).shown
def rReprA (K : PySem.W.Frag) : List V → Hp → VK → Prop := fun xs H Q => ∃ v t, xs = [v] ∧ ReprOf K H v t ∧ Q (.str t) H
section
variable {X : Cx}
theorem call_reprA (hg : X.A.guards = some []) (hu : X.A.units + 64 < cLine) : CallR X (.builtin "repr") (rReprA X.K) := by
  intro pins s σ H xs us Q I r h
  obtain ⟨v, t, rfl, hv, q⟩ := h
  obtain ⟨u, rfl, ru⟩ := vals1 r
  cases hv with
  | non =>
    obtain rfl : u = Value.none := ru
    exact PySem.P.repr_of_none ⟨.str _, H, I.tok _, ⟨_, rfl⟩, q⟩
  | bl b =>
    obtain rfl : u = Value.bool b := ru
    exact PySem.P.repr_of_bool ⟨.str _, H, I.tok _, ⟨_, rfl⟩, q⟩
  | int i h =>
    obtain ⟨tk, rfl⟩ := ru
    exact PySem.P.repr_of_int h ⟨.str _, H, I.tok _, ⟨_, rfl⟩, q⟩
  | str x h =>
    obtain ⟨tk, rfl⟩ := ru
    exact PySem.P.repr_of_str (h := ⟨.str _, H, I.tok _, ⟨_, rfl⟩, q⟩) (hsz := h)
  | dat h h1 h2 h3 h4 =>
    rename_i a d
    obtain rfl : u = Value.ref a := ru
    obtain ⟨as, rd⟩ := Dp.reads I d _ _ h rfl
    exact repr_of_reads' rd h1 (fun e => by rw [h2] at e; cases e) hg (by omega) (fun _ _ e => e) (fun h' u tk hk => ⟨.str d.shown, H, I.kept hk, ⟨u, rfl⟩, q⟩) h4
  | dct h =>
    rename_i a
    obtain rfl : u = Value.ref a := ru
    obtain ⟨_, hsm, vs, hkv, o, es, ep, e1, e2, e3, _, e5, _⟩ := dk_of I.hok h
    cases hkv
    have e6 : es.toList = [] := by
      cases hl : es.toList with
      | nil => rfl
      | cons x r => rw [hl] at e5; cases e5
    have rd : Reads s.heap (.ref a) (.dict []) (a :: [] ++ []) := Reads.dict e1 e2.1 e3 (by rw [e6]; exact .nil) (by rw [e6]; exact .nil)
    have hn : sysModules ∉ (a :: [] ++ [] : List Addr) := fun m => by
      rcases List.mem_cons.mp m with e | e
      · rw [e] at hsm
        simp at hsm
      · cases e
    exact repr_of_reads' rd (by rfl) (fun _ => hn) hg (by have : (PyData.dict []).depth ≤ 60 := by decide +kernel
                                                          omega) (fun _ _ e => e) (fun h' u tk hk => ⟨.str (PyData.dict []).shown, H, I.kept hk, ⟨u, rfl⟩, q⟩) (by decide +kernel)
end
end Own
set_option maxRecDepth 100000
set_option maxHeartbeats 4000000
/-! xs[lo:hi:st] of a list; len(x) by an own __len__. -/
namespace Own
open PySem PySem.Spec PyProof.Rows L2
/-- the items at these places -/
def atAll {α : Type} (xs : List α) (ix : List Nat) : List α := ix.filterMap fun i => xs[i]?
theorem atAll_vals {xs : List V} {us : List Value} (r : Vals xs us) : ∀ ix : List Nat, Vals (atAll xs ix) (atAll us ix)
  | [] => .nil
  | i :: ix => by
    have h := atAll_vals r ix
    cases e : xs[i]? with
    | none =>
      have e2 := r.none_of e
      have a1 : atAll xs (i :: ix) = atAll xs ix := List.filterMap_cons_none e
      have a2 : atAll us (i :: ix) = atAll us ix := List.filterMap_cons_none e2
      rw [a1, a2]
      exact h
    | some x =>
      obtain ⟨u, e2, ru⟩ := r.get e
      have a1 : atAll xs (i :: ix) = x :: atAll xs ix := List.filterMap_cons_some e
      have a2 : atAll us (i :: ix) = u :: atAll us ix := List.filterMap_cons_some e2
      rw [a1, a2]
      exact .cons ru h
/-- the places of a slice -/
def slIx (n : Nat) (lo hi st : Option Int) : List Nat := sliceRange (sliceBounds lo hi st n).1 (sliceBounds lo hi st n).2.1 (sliceBounds lo hi st n).2.2
def tSt (K : PySem.W.Frag) (te : TE) (tl th ts : TO) : TE := fun σ H Q => te σ H fun x H1 => tl σ H1 fun l H2 => th σ H2 fun u H3 => ts σ H3 fun c H4 =>
  ∃ a xs, x = .ref a ∧ SqL K H4 a xs ∧ c ≠ some 0 ∧ (slIx xs.length l u c).length ≤ sizeLine ∧ ∀ p, H4 p = none → Q (.ref p) (upd H4 p (.lst (atAll xs (slIx xs.length l u c))))
section
variable {X : Cx} {e : Expr} {te : TE} {lo hi : Option Expr} {tl th ts : TO} {pos p2 : Pos}
theorem pe_step {ste : Expr} (he : PE X e te) (hl : PO X lo tl) (hu : PO X hi th) (hs : PO X (some ste) ts) : PE X (.Subscript e (.Slice lo hi (some ste) p2) pos) (tSt X.K te tl th ts) := by
  refine ⟨fun pins s σ H Q I h => ?_⟩
  refine Subscript_ (thn (he.run pins s σ H _ I h) fun v s1 hv => ?_)
  obtain ⟨x, H1, I1, r1, q1⟩ := hv
  refine wpAny_Slice (thn (hl.run pins s1 σ H1 _ I1 q1) fun vl s2 h2 => ?_)
  obtain ⟨l, H2, I2, pl, q2⟩ := h2
  refine thn (hu.run pins s2 σ H2 _ I2 q2) fun vu s3 h3 => ?_
  obtain ⟨u, H3, I3, pu, q3⟩ := h3
  refine thn (hs.run pins s3 σ H3 _ I3 q3) fun vs s4 h4 => ?_
  obtain ⟨c, H4, I4, pc, a, xs, rfl, hx, hc, hz, q⟩ := h4
  obtain rfl : v = Value.ref a := r1
  have I5 : Inv X pins σ H4 { s4 with heap := s4.heap.push { cls := .type "slice", data := .fields #[vl, vu, vs] } } := I4.kept (t' := s4.toks) fun b ob q => Heap.get?_push_of_some _ q
  generalize hs5 : ({ s4 with heap := s4.heap.push { cls := .type "slice", data := .fields #[vl, vu, vs] } } : Shared) = s5 at I5
  have hsl : s5.heap.IsSliceOf s4.heap.objs.size vl vu vs := by rw [← hs5]; exact Heap.IsSliceOf.new ..
  obtain ⟨its, r, ht, hzz⟩ := I5.list hx
  have hlen := r.length
  refine tail_any (ops := [.ref a, .ref s4.heap.objs.size]) ht.isList.typeIs slot_list_getitem.lookup ?_ (by with_unfolding_all rfl)
  refine wpAny_getItem_list_slice ht.isList hsl pl pu pc hc ?_ (by rw [List.size_toArray]; omega)
  have e : slicePick its.toArray l u c = (atAll its (slIx xs.length l u c)).toArray := by
    show (List.filterMap (fun i => its.toArray[i]?) (slIx its.toArray.size l u c)).toArray = _
    rw [List.size_toArray, ← hlen]
    congr 1
    unfold atAll
    congr 1
    funext i
    exact List.getElem?_toArray ..
  rw [e]
  refine ⟨.ref s5.heap.objs.size, _, I5.laid (t' := s5.toks) (o := .lst (atAll xs (slIx xs.length l u c))) (fun b ob q => Heap.get?_push_of_some _ q) (Nat.le_refl _) ?_, rfl, q _ (I5.hok.fresh (Nat.le_refl _))⟩
  exact ⟨Nat.le_trans (List.length_filterMap_le ..) hz, _, 0, atAll_vals r _, Heap.get?_push_size _ rfl⟩
/-- every second item from the first on -/
def evens {α : Type} : List α → List α
  | [] => []
  | [x] => [x]
  | x :: _ :: r => x :: evens r
theorem evens_len {α : Type} : ∀ xs : List α, (evens xs).length = (xs.length + 1) / 2
  | [] => by simp [evens]
  | [_] => by simp [evens]
  | _ :: _ :: r => by
    show (evens r).length + 1 = (r.length + 1 + 1 + 1) / 2
    rw [evens_len r]
    omega
theorem ix_even (n : Nat) : slIx n none none (some 2) = (List.range ((n + 1) / 2)).map fun k => 2 * k := by
  have h1 : sliceBounds none none (some 2) n = (0, (n : Int), 2) := rfl
  unfold slIx
  rw [h1]
  show sliceRange 0 (n : Int) 2 = _
  unfold sliceRange
  have e : (if (2 : Int) > 0 then (if (0 : Int) < (n : Int) then ((n : Int) - 0 + 2 - 1) / 2 else 0) else (if (0 : Int) > (n : Int) then ((0 : Int) - n - 2 - 1) / (-2) else 0)) = (((n + 1) / 2 : Nat) : Int) := by
    rw [if_pos (by decide)]
    by_cases h : (0 : Int) < (n : Int)
    · rw [if_pos h]; omega
    · rw [if_neg h]; omega
  simp only [e, Int.toNat_natCast]
  apply List.map_congr_left
  intro k _
  omega
theorem at_even {α : Type} : ∀ xs : List α, atAll xs ((List.range ((xs.length + 1) / 2)).map fun k => 2 * k) = evens xs
  | [] => by simp [atAll, evens]
  | [x] => by
    have e : (([x] : List α).length + 1) / 2 = 1 := by simp
    rw [e]
    rfl
  | x :: y :: r => by
    have h := at_even r
    have e : (r.length + 1 + 1 + 1) / 2 = (r.length + 1) / 2 + 1 := by omega
    show atAll (x :: y :: r) ((List.range ((r.length + 1 + 1 + 1) / 2)).map fun k => 2 * k) = x :: evens r
    rw [e, List.range_succ_eq_map, List.map_cons, List.map_map, ← h]
    have a1 : ∀ L : List Nat, atAll (x :: y :: r) (2 * 0 :: L) = x :: atAll (x :: y :: r) L := fun L => List.filterMap_cons_some rfl
    rw [a1]
    congr 1
    unfold atAll
    rw [List.filterMap_map, List.filterMap_map]
    congr 1
theorem st_even {α : Type} (xs : List α) : atAll xs (slIx xs.length none none (some 2)) = evens xs := by rw [ix_even, at_even]
theorem st_even_len (n : Nat) : (slIx n none none (some 2)).length ≤ n := by
  rw [ix_even, List.length_map, List.length_range]
  omega
end
section
variable {X : Cx} {CX : CXT} {k : Nat} {C f : Addr} {fd : FuncData} {ps : List Str} {sp : Sp} {E : XK}
/-- len of an instance whose class has __len__ -/
def rLenO (C : Addr) (sp : Sp) (E : XK) : List V → Hp → VK → Prop := fun xs H Q => ∃ a dx fs, xs = [.ref a] ∧ H a = some (.ins C dx fs) ∧ sp [.ref a] H (fun v H' => ∃ n : Nat, v = .int n ∧ n < 2 ^ 62 ∧ Q v H') E
theorem call_ownLen (F : FnOk X.prog X.w X.K X.mg X.base CX k f fd ps sp) (hr : Room (k + 1) X.A) (hs : PySem.W.findIn X.K (.ref C) "__len__" = some (some (.ref f))) (hf : PySem.W.isFn X.K (.ref f) = true) (hb : Binds X.K fd ps []) (hx : Passes CX X E) :
    CallR X (.builtin "len") (rLenO C sp E) := by
  intro pins s σ H xs us Q I r h
  obtain ⟨a, dx, fs, rfl, ha, hsp⟩ := h
  obtain ⟨u, rfl, ru⟩ := vals1 r
  obtain rfl : u = Value.ref a := ru
  obtain ⟨mA, J, _⟩ := ins_get I.hok ha
  obtain ⟨od, J, _⟩ := J.look
  refine Calls.call_function_entry kind_len plain_len entry_len (args_len1 _) ?_
  unfold Builtin.«len»
  refine wpAny_bind (m := oneArg "len" _) (wpAny_pure (wpAny_bind (m := callSpecial? (.ref a) (Str.ofString "__len__")) ?_))
  refine PySem.W.special_fn I.kIn J hs (beq_iff_eq.mp hf) (wpAny_mono (run_fnA F hr.in1 rfl hb hx I (vs := [.ref a]) (.cons rfl .nil) hsp) (fun w s' q => ?_) fun _ _ e => e)
  obtain ⟨v', H', I', rv, n, rfl, hn, q⟩ := q
  obtain ⟨t, rfl⟩ := rv
  refine wpAny_bind (wpAny_holding (wpAny_pure (wpAny_bind (wpAny_letGo ?_))))
  have n0 : ¬ ((n : Int) < 0) := by omega
  have n1 : ¬ ((n : Int) ≥ 2 ^ 63) := by omega
  simp only [if_neg n0, if_neg n1]
  first
    | exact wpAny_bind (wpAny_mkInt (wpAny_pure ⟨_, rfl, .int n, H', I'.tok _, ⟨_, rfl⟩, q⟩))
    | (show wpAny _ _ (if (n : Int) < 0 then _ else _) _ _ _
       rw [if_neg n0]
       show wpAny _ _ (if (n : Int) ≥ 2 ^ 63 then _ else _) _ _ _
       rw [if_neg n1]
       exact wpAny_bind (wpAny_mkInt (wpAny_pure ⟨_, rfl, .int n, H', I'.tok _, ⟨_, rfl⟩, q⟩)))
end
end Own
set_option maxRecDepth 100000
set_option maxHeartbeats 4000000
/-! x != y by an own __eq__: any right side; ~x by an own __invert__. -/
namespace Own
open PySem PySem.Spec PyProof.Rows L2
open AutoSeq1 (wpAny_loadPart')
/-- the left one is an instance with its own __eq__, and no own __ne__ -/
def rOwnN (K : PySem.W.Frag) (C : Addr) (sp : Sp) (E : XK) : R2 := fun x y H Q => ∃ a dx fs t, x = .ref a ∧ H a = some (.ins C dx fs) ∧ TyX K H y t ∧ PySem.W.notFirst K C t = true ∧ sp [x, y] H (fun v H' => ∃ b, v = .bl b ∧ Q (.bl (!b)) H') E
section
variable {X : Cx} {CX : CXT} {k : Nat} {C f : Addr} {fd : FuncData} {ps : List Str} {sp : Sp} {E : XK} {K : PySem.W.Frag}
theorem op_neK (e : X.K = K) (F : FnOk X.prog X.w K X.mg X.base CX k f fd ps sp) (hr : Room (k + 1) X.A) (hs : PySem.W.findIn K (.ref C) "__eq__" = some (some (.ref f))) (hn : PySem.W.findIn K (.ref C) "__ne__" = some (some (.builtin "object.__ne__")))
    (hO : PySem.W.subIn K (.ref C) (.type "object") = some true) (hf : PySem.W.isFn K (.ref f) = true) (hb : Binds K fd ps []) (hx : Passes CX X E) : OpR X (compareOp .NotEq) (rOwnN K C sp E) := by
  subst e
  intro pins s σ H x y u v Q I rx ry h
  obtain ⟨a, dx, fs, t0, rfl, ha, ty, nf, hsp⟩ := h
  cases rx
  have one := try_ne F hr hs hn hO hf hb hx I ha ry hsp
  obtain ⟨mA, J, _⟩ := ins_get I.hok ha
  obtain ⟨od, J, _⟩ := J.look
  have KX := I.kIn
  have go : ∀ t : Value, PySem.W.Looks (model X.prog X.w) s.heap (typeOf v) t → PySem.W.notFirst X.K C t = true → wpAny (model X.prog X.w) X.A (richCompare .NotEq (.ref a) v) (EP X pins σ Q) X.xe s := fun t hT hn => by
    unfold richCompare
    simp only [oneThing_ref, cmpInfo_NotEq]
    refine wpAny_holding (wpAny_bind (wpAny_cRoomFor hr.units0 ?_))
    refine wpAny_bind (J.type.here (wpAny_bind (hT.here ?_)))
    split
    · rename_i q
      have e : PySem.W.subIn X.K t (.ref C) = some false := by
        rcases Bool.or_eq_true_iff.mp hn with e | e
        · rw [beq_iff_eq.mp e] at q; simp at q
        · exact beq_iff_eq.mp e
      refine wpAny_bind ((PySem.W.looks_subIn KX e).here ?_)
      simp only [Bool.false_eq_true, if_false]
      refine wpAny_bind (wpAny_mono one (fun r s' z => ?_) fun _ _ e => e)
      obtain ⟨v, rfl, hq⟩ := z
      exact wpAny_pure hq
    · refine wpAny_bind (wpAny_pure ?_)
      simp only [Bool.false_eq_true, if_false]
      refine wpAny_bind (wpAny_mono one (fun r s' z => ?_) fun _ _ e => e)
      obtain ⟨v, rfl, hq⟩ := z
      exact wpAny_pure hq
  show wpAny (model X.prog X.w) X.A (richCompare .NotEq (.ref a) v) (EP X pins σ Q) X.xe s
  obtain ⟨Pk, Z, pk, _⟩ := kit_of I ry ty
  exact go t0 (Z.ty _ _ I.kIn pk) nf
theorem op_ownK {op : CmpOp} (e : X.K = K) (F : FnOk X.prog X.w K X.mg X.base CX k f fd ps sp) (hr : Room k X.A) (hs : PySem.W.findIn K (.ref C) (cmpInfo op).2.1 = some (some (.ref f))) (hf : PySem.W.isFn K (.ref f) = true) (hb : Binds K fd ps []) (hx : Passes CX X E)
    (hop : ∀ a b, compareOp op a b = richCompare op a b := by intros; rfl) : OpR X (compareOp op) (rOwnC K C sp E) := by
  subst e
  exact op_ownC F hr hs hf hb hx hop
theorem un_ownInv (F : FnOk X.prog X.w X.K X.mg X.base CX k f fd ps sp) (hr : Room k X.A) (hs : PySem.W.findIn X.K (.ref C) "__invert__" = some (some (.ref f))) (hf : PySem.W.isFn X.K (.ref f) = true) (hb : Binds X.K fd ps []) (hx : Passes CX X E) :
    UnR X (unaryOp .Invert) (rNeg C sp E) := by
  intro pins s σ H x v Q I rx h
  obtain ⟨a, dx, fs, rfl, ha, hsp⟩ := h
  cases rx
  obtain ⟨mA, J, _⟩ := ins_get I.hok ha
  obtain ⟨od, J, _⟩ := J.look
  obtain ⟨m, hF⟩ := I.fr
  exact PySem.W.ksp_inv hF I.ok.mod.kin J hs hf (run_fn F hr hb .nil hx I (vs := [.ref a]) (.cons rfl .nil) hsp)
end
/-- a static method called with nothing -/
def tSM0 (C : Addr) (sp : Sp) (E : XK) (ta : TE) : TE := fun σ H Q => ta σ H fun x H1 => x = .ref C ∧ sp [] H1 Q E
section
variable {X : Cx} {CX : CXT} {k : Nat} {C p f : Addr} {sp : Sp} {E : XK} {o : Expr} {m : Str} {pos apos : Pos} {ta : TE} {pl : Sem Bool} {fd : FuncData} {ps : List Str} {mc : Value}
theorem pe_smeth0 (r : ClX.CRead X.K C mc) (c : SMet X.K C mc m p f) (F : FnOk X.prog X.w X.K X.mg X.base CX k f fd ps sp) (hr : Room k X.A) (hb : Binds X.K fd ps []) (hx : Passes CX X E) (he : PE X o ta)
    (ht : eval (.Call (.Attribute o m apos) [] [] pos) X.env = (do
      let ov ← eval o X.env
      standAt apos.atName
      let (f, first) ← holding [ov] (getMethod ov m pl)
      callWith pos f first (backTo pos (starEach [] X.env)) (backToKw pos (keywordEach [] X.env))) := by rfl) :
    PE X (.Call (.Attribute o m apos) [] [] pos) (tSM0 C sp E ta) := by
  refine ⟨fun pins s σ H Q I h => ?_⟩
  refine PySem.W.methodCall_KW (pl := pl) (thn (he.run pins s σ H _ I h) fun u s1 z => ?_) ht
  obtain ⟨x, H1, I1, rx, ex, q⟩ := z
  subst ex
  obtain rfl : u = Value.ref C := rx
  refine PySem.W.method_cls I1.kIn r.ga (getsm_ok I1 r c fun s2 I2 => ?_)
  exact PySem.W.callWith_K0 (first := []) I2.kIn c.kp (run_fn (us := []) F hr hb .nil hx I2 .nil q)
end
end Own
set_option maxRecDepth 100000
set_option maxHeartbeats 4000000
namespace Toy
open PySem L2 Tre
/-- what a leaf tells at a spot -/
def atF (f : Lf) (u v : Int) : Bool := if v = 1 then (if u = 1 then f.m else f.l) else (if u = 1 then f.r else f.o)
/-- what a tree tells at a spot -/
def hasT : Tr → Int → Int → Bool
  | .leaf f, u, v => atF f u v
  | .node t x y, u, v => if u = v then t else if v < u then hasT x (u - v) v else hasT y u (v - u)
theorem has_half (f : Lf) {u v : Int} (hu : 0 < u) (hv : 0 < v) (h : u = v → u = 1) : hasT (.node f.m (.leaf (h1 f)) (.leaf (h2 f))) u v = atF f u v := by
  show (if u = v then f.m else if v < u then atF (h1 f) (u - v) v else atF (h2 f) u (v - u)) = atF f u v
  by_cases e : u = v
  · rw [if_pos e]
    have e1 := h e
    have e2 : v = 1 := by omega
    unfold atF
    rw [if_pos e2, if_pos e1]
  · rw [if_neg e]
    by_cases l : v < u
    · rw [if_pos l]
      unfold atF h1
      by_cases v1 : v = 1
      · rw [if_pos v1, if_pos v1, if_neg (show ¬ u = 1 by omega)]
        split <;> rfl
      · rw [if_neg v1, if_neg v1, if_neg (show ¬ u = 1 by omega)]
        split <;> rfl
    · rw [if_neg l]
      unfold atF h2
      rw [if_neg (show ¬ v = 1 by omega)]
      by_cases u1 : u = 1
      · rw [if_pos u1]
        split <;> rfl
      · rw [if_neg u1]
        split <;> rfl
theorem gcd_subl {u v : Int} (h : v < u) (hv : 0 < v) : gcdI (u - v) v = gcdI u v := by
  unfold gcdI
  have e : (u - v).natAbs = u.natAbs - v.natAbs := by omega
  rw [e, Nat.gcd_sub_self_left (by omega)]
theorem gcd_subr {u v : Int} (h : u < v) (hu : 0 < u) : gcdI u (v - u) = gcdI u v := by
  unfold gcdI
  have e : (v - u).natAbs = v.natAbs - u.natAbs := by omega
  rw [e, Nat.gcd_sub_self_right (by omega)]
theorem gcd_same {u : Int} (hu : 0 < u) (h : gcdI u u = 1) : u = 1 := by
  unfold gcdI at h
  rw [Nat.gcd_self] at h
  omega
/-- the least form tells the same -/
theorem has_least : ∀ (z : Tr) (u v : Int), 0 < u → 0 < v → gcdI u v = 1 → hasT (least z) u v = hasT z u v
  | .leaf f, u, v, _, _, _ => rfl
  | .node t x y, u, v, hu, hv, g => by
    have same : u = v → u = 1 := fun e => gcd_same hu (by rw [← e] at g; exact g)
    have key : hasT (.node t (least x) (least y)) u v = hasT (.node t x y) u v := by
      show (if u = v then t else if v < u then hasT (least x) (u - v) v else hasT (least y) u (v - u)) = (if u = v then t else if v < u then hasT x (u - v) v else hasT y u (v - u))
      by_cases e : u = v
      · rw [if_pos e, if_pos e]
      · rw [if_neg e, if_neg e]
        by_cases l : v < u
        · rw [if_pos l, if_pos l]
          exact has_least x _ _ (by omega) hv (by rw [gcd_subl l hv]; exact g)
        · rw [if_neg l, if_neg l]
          exact has_least y _ _ hu (by omega) (by rw [gcd_subr (by omega) hu]; exact g)
    rw [least_node]
    rcases branch_cases t (least x) (least y) with e | ⟨f, rfl, ex, ey, e⟩
    · rw [e, key]
    · rw [e, ← key, ex, ey]
      exact (has_half f hu hv same).symm
section
variable {P : Program} {w : World} {K : PySem.W.Frag} {mg : Str → Option Value} {base : Heap} {C CG CR : Addr}
def spTAt (K : PySem.W.Frag) : Sp := fun vs H Q _ => ∃ w' f u v, vs = [w', .int u, .int v] ∧ TrAt K H (.leaf f) w' ∧ Q (.bl (atF f u v)) H
abbrev sTAt : Stmt := top 42
theorem scTAt : FnScope ["leaf", "u", "v"] ["leaf", "u", "v"] (defScope sTAt) := ⟨rfl, rfl, rfl, by decide +kernel, rfl, by decide +kernel, by decide +kernel⟩
theorem ok_tat {f : Addr} {fd : FuncData} (F : Fun K "truth_at" "truth_at" sTAt f fd) : FnOk P w K mg base CX0 1 f fd ["leaf", "u", "v"] (spTAt K) := by
  refine F.ok scTAt (fun vs H Q E h => ?_) (fun cdv Ar outer s H vs Q E hr h => ?_)
  · obtain ⟨w', f, u, v, rfl, _⟩ := h
    rfl
  · obtain ⟨w', f, u, v, rfl, ⟨a, rfl, ht⟩, q⟩ := h
    have nd := scTAt.nd
    refine ⟨_, pss_cons (ps_if (pt_cmpR op_eq (pv 2) pe_int (nomark _)) (pss_one (ps_ret (pe_ifExp (pt_cmpR op_eq (pv 1) pe_int (nomark _)) (pe_ix ix_tup (pv 0) pe_int (fun _ _ => rfl)) (pe_ix ix_tup (pv 0) pe_int (fun _ _ => rfl))))) pss_nil)
      (pss_one (ps_ret (pe_ifExp (pt_cmpR op_eq (pv 1) pe_int (nomark _)) (pe_ix ix_tup (pv 0) pe_int (fun _ _ => rfl)) (pe_ix ix_tup (pv 0) pe_int (fun _ _ => rfl))))), ?_⟩
    unfold atF at q
    refine ⟨_, rfl, rfl, _, rfl, ?_⟩
    by_cases v1 : v = 1
    · rw [if_pos v1] at q
      refine iteTb (by rw [decide_eq_true (by rw [v1])]) ?_
      refine ⟨_, rfl, rfl, _, rfl, ?_⟩
      by_cases u1 : u = 1
      · rw [if_pos u1] at q
        exact ite2 (fun _ => ⟨_, rfl, a, _, _, _, rfl, rfl, ht, rfl, q⟩) (fun h => absurd (decide_eq_true (by rw [u1])) h)
      · rw [if_neg u1] at q
        exact ite2 (fun h => absurd (V.int.inj (of_decide_eq_true h)) u1) (fun _ => ⟨_, rfl, a, _, _, _, rfl, rfl, ht, rfl, q⟩)
    · rw [if_neg v1] at q
      refine iteFb (decide_eq_false fun h => v1 (V.int.inj h)) ?_
      refine ⟨_, rfl, rfl, _, rfl, ?_⟩
      by_cases u1 : u = 1
      · rw [if_pos u1] at q
        exact ite2 (fun _ => ⟨_, rfl, a, _, _, _, rfl, rfl, ht, rfl, q⟩) (fun h => absurd (decide_eq_true (by rw [u1])) h)
      · rw [if_neg u1] at q
        exact ite2 (fun h => absurd (V.int.inj (of_decide_eq_true h)) u1) (fun _ => ⟨_, rfl, a, _, _, _, rfl, rfl, ht, rfl, q⟩)
def spIsFifth (C : Addr) : Sp := fun vs H Q _ => ∃ a q, vs = [.ref a] ∧ RatQ C H a q ∧ Q (.bl (decide (0 < q.num) && decide (q.num < (q.den : Int)))) H
abbrev sIsFifth : Stmt := inClass (top 17) 2
theorem scIF : FnScope ["value"] ["value"] (defScope sIsFifth) := ⟨rfl, rfl, rfl, by decide +kernel, rfl, by decide +kernel, by decide +kernel⟩
theorem ok_isfifth {f : Addr} {fd : FuncData} (F : Fun K "is_fifth" "Ratio.is_fifth" sIsFifth f fd) (T : Bl mg) (T_Ratio : RatT K mg C) : FnOk P w K mg base CX0 1 f fd ["value"] (spIsFifth C) := by
  refine F.ok scIF (fun vs H Q E h => ?_) (fun cdv A outer s H vs Q E hr h => ?_)
  · obtain ⟨a, q, rfl, _⟩ := h
    rfl
  · obtain ⟨a, q, rfl, ⟨dx, h⟩, k⟩ := h
    have nd := scIF.nd
    refine ⟨_, pss_one (ps_ret (pe_and (pe_callB call_isi (by rfl) T.isinstance (by decide +kernel) (pa_cons (pv 0) (pa_cons (Own.pe_gref (by rfl) T_Ratio.mgC) pa_nil))) (pe_one (pe_chain op_lt op_lt pe_int (pe_fld (pv 0) rfl) (pe_fld (pv 0) rfl))))), ?_⟩
    refine ⟨_, rfl, _, _, _, _, true, rfl, .own _, T_Ratio.ty h, T_Ratio.kS, _, rfl, iteT ?_⟩
    refine ⟨_, rfl, _, C, dx, _, _, rfl, h, T_Ratio.cl, T_Ratio.nT, ratF_top _ _, _, _, rfl, rfl, _, rfl, ?_⟩
    by_cases h1 : 0 < q.num
    · refine iteTb (decide_eq_true h1) ?_
      rw [decide_eq_true h1, Bool.true_and] at k
      exact ⟨_, rfl, _, C, dx, _, _, rfl, h, T_Ratio.cl, T_Ratio.nB, ratF_bot _ _, _, _, rfl, rfl, k⟩
    · refine iteFb (decide_eq_false h1) ?_
      rw [decide_eq_false h1, Bool.false_and] at k
      exact k
/-- a spot in a tree -/
def spNat (K : PySem.W.Frag) (CR : Addr) : Sp := fun vs H Q _ => ∃ v z a q, vs = [v, .ref a] ∧ TrAt K H z v ∧ RatQ CR H a q ∧ (0 < q.num ∧ q.num < (q.den : Int)) ∧
  ∀ p e v' z' u' w' H', Same H H' → H' p = some (.tup [.ref e, v', .int u', .int w']) → TrAt K H' z' v' → hasT z (q.den - q.num) q.num = hasT z' u' w' → (isN z' = true → u' = w') → Q (.ref p) H'
def NtInv (K : PySem.W.Frag) (H : Hp) (z : Tr) (a : Addr) (u0 v0 : Int) (m : Nat) (σ : St) (H' : Hp) : Prop :=
  ∃ (v : V) (e : Addr) (u w : Int) (z' : Tr) (y5 y6 : Option V), σ = [some v, some (.ref a), some (.ref e), some (.int u), some (.int w), y5, y6] ∧ Same H H' ∧ TrAt K H' z' v ∧ Four K H' e ∧ 0 < u ∧ 0 < w ∧ hasT z u0 v0 = hasT z' u w ∧ m = leafs z'
abbrev sNat : Stmt := top 30
theorem scNat : FnScope ["tree", "fifth", "ends", "u", "v", "left", "right"] ["tree", "fifth"] (defScope sNat) := ⟨rfl, rfl, rfl, by decide +kernel, rfl, by decide +kernel, by decide +kernel⟩
theorem ok_nodeat {f f1 f2 aW : Addr} {fd fd1 fd2 : FuncData} (F : Fun K "node_at" "node_at" sNat f fd) (mW : mg "WHOLE" = some (.ref aW)) (hW : SqT K (fun _ => none) aW [.int 0, .int 1, .int 1, .int 1]) (T_Ratio : RatT K mg CR) (C_is_branch : Cal P w K mg base 1 "is_branch" f1 fd1 ["tree"] (spIsB K)) (C_half_ends : Cal P w K mg base 1 "half_ends" f2 fd2 ["ends"] (spHE K)) : FnOk P w K mg base CX0 2 f fd ["tree", "fifth"] (spNat K CR) := by
  refine F.ok scNat (fun vs H Q E h => ?_) (fun cdv Ar outer s H vs Q E hr h => ?_)
  · obtain ⟨v, z, a, q0, rfl, _⟩ := h
    rfl
  · obtain ⟨v, z, a, q0, rfl, hz, ⟨dx, hx⟩, ⟨q1, q2⟩, q⟩ := h
    have nd := scNat.nd
    refine ⟨_, pss_cons (ps_set (i := 2) nd rfl (Or.inl rfl) (Own.pe_gref (by rfl) mW))
      (pss_cons (ps_par (i := 3) (j := 4) (by rfl) nd rfl rfl (by decide) rfl rfl (pa_cons (pe_op op_sub (pe_fld (pv 1) rfl) (pe_fld (pv 1) rfl)) (pa_cons (pe_fld (pv 1) rfl) pa_nil)) (by rfl))
      (pss_cons (ps_while PassesOwn.never (PW.pt (pw_and (pt_val (pe_call C_is_branch.F (hr.mono (by decide)) (by rfl) C_is_branch.mgf C_is_branch.kp C_is_branch.b .nil pass0 (pa_cons (pv 0) pa_nil))) (pw_and1 (pt_cmpR op_ne (pv 3) (pv 4) (nomark _))))) (pss_cons (ps_asg (pe_call C_half_ends.F (hr.mono (by decide)) (by rfl) C_half_ends.mgf C_half_ends.kp C_half_ends.b .nil pass0 (pa_cons (pv 2) pa_nil)) (pg_tup (by rfl) (pgs_cons (pg_name (i := 5) nd rfl (Or.inl rfl)) (pgs_cons (pg_name (i := 6) nd rfl (Or.inl rfl)) pgs_nil))))
      (pss_one (ps_if (pt_cmpR op_gt (pv 3) (pv 4) (nomark _)) (pss_one (ps_par3 (i := 2) (j := 0) (l := 3) (by rfl) nd rfl rfl rfl (by decide) (by decide) (by decide) rfl rfl rfl (pa_cons (pv 5) (pa_cons (pe_ix ix_tup (pv 0) pe_int (fun _ _ => rfl)) (pa_cons (pe_op op_sub (pv 3) (pv 4)) pa_nil))) (by rfl))) (pss_one (ps_par3 (i := 2) (j := 0) (l := 4) (by rfl) nd rfl rfl rfl (by decide) (by decide) (by decide) rfl rfl rfl (pa_cons (pv 6) (pa_cons (pe_ix ix_tup (pv 0) pe_int (fun _ _ => rfl)) (pa_cons (pe_op op_sub (pv 4) (pv 3)) pa_nil))) (by rfl)))))))
      (pss_one (ps_ret (pe_tup (pa_cons (pv 2) (pa_cons (pv 0) (pa_cons (pv 3) (pa_cons (pv 4) pa_nil))))))))), ?_⟩
    refine ⟨_, rfl, _, CR, dx, _, _, rfl, hx, T_Ratio.cl, T_Ratio.nB, ratF_bot _ _, _, rfl, _, CR, dx, _, _, rfl, hx, T_Ratio.cl, T_Ratio.nT, ratF_top _ _, _, _, rfl, rfl, ?_⟩
    refine ⟨_, rfl, _, CR, dx, _, _, rfl, hx, T_Ratio.cl, T_Ratio.nT, ratF_top _ _, ?_⟩
    refine ⟨_, _, rfl, ?_⟩
    have u0 : 0 < (q0.den : Int) - q0.num := by omega
    refine ⟨NtInv K H z a (q0.den - q0.num) q0.num, ⟨leafs z, v, aW, _, _, z, none, none, rfl, Same.refl H, hz, ⟨_, _, _, _, hW.ext fun _ _ e => nomatch e⟩, u0, q1, rfl, rfl⟩, ?_⟩
    rintro m σ H1 ⟨v1, e, u, w', z', y5, y6, rfl, s1, hz1, he, hu, hw, eq, rfl⟩
    have fin : (isN z' = true → u = w') → ∀ p, H1 p = none → Q (.ref p) (upd H1 p (.tup [.ref e, v1, .int u, .int w'])) := fun hs p hp => by
      have s2 := same_new (o := .tup [.ref e, v1, .int u, .int w']) hp
      exact q p e v1 z' u w' _ (s1.trans s2) upd_same (hz1.same s2) eq hs
    refine ⟨_, rfl, v1, z', rfl, hz1, _, rfl, ?_⟩
    cases z' with
    | leaf f =>
      refine iteF ?_
      refine iteF ?_
      exact ⟨_, rfl, _, rfl, _, rfl, _, rfl, (by decide : 4 ≤ sizeLine), fin (fun h => by cases h)⟩
    | node t x y =>
      refine iteT ?_
      refine ⟨_, rfl, _, rfl, rfl, _, rfl, ?_⟩
      by_cases e1 : u = w'
      · refine iteFb (by rw [decide_eq_true (by rw [e1])]; rfl) ?_
        exact ⟨_, rfl, _, rfl, _, rfl, _, rfl, (by decide : 4 ≤ sizeLine), fin (fun _ => e1)⟩
      · refine iteTb (by rw [vdec, decide_eq_false e1]; rfl) ?_
        refine ⟨fun σ' H' => ∃ m', m' < leafs (.node t x y) ∧ NtInv K H z a (q0.den - q0.num) q0.num m' σ' H', fun _ _ h => h, ?_⟩
        refine ⟨_, rfl, e, rfl, he, fun p e1' e2' H2 s2 hp g1 g2 => ⟨_, _, rfl, SqT.of hp, rfl, _, _, rfl, _, _, rfl, rfl, ?_⟩⟩
        obtain ⟨b, v2, v3, rfl, hb, hx2, hy2⟩ := hz1
        have px := leafs_pos x
        have py := leafs_pos y
        have hh : hasT (.node t x y) u w' = (if u = w' then t else if w' < u then hasT x (u - w') w' else hasT y u (w' - u)) := rfl
        rw [if_neg e1] at hh
        refine ⟨_, rfl, _, rfl, _, _, rfl, rfl, _, rfl, ?_⟩
        by_cases lt : w' < u
        · rw [if_pos lt] at hh
          refine iteTb (decide_eq_true lt) ?_
          refine ⟨_, rfl, _, rfl, b, _, _, _, rfl, rfl, hb.ext s2, rfl, _, rfl, _, rfl, _, _, rfl, rfl, _, _, _, rfl, ?_⟩
          exact ⟨leafs x, by show leafs x < leafs x + leafs y; omega, v2, e1', u - w', w', x, _, _, rfl, s1.trans s2, hx2.same s2, g1, by omega, hw, eq.trans hh, rfl⟩
        · rw [if_neg lt] at hh
          refine iteFb (decide_eq_false lt) ?_
          refine ⟨_, rfl, _, rfl, b, _, _, _, rfl, rfl, hb.ext s2, rfl, _, rfl, _, rfl, _, _, rfl, rfl, _, _, _, rfl, ?_⟩
          exact ⟨leafs y, by show leafs y < leafs x + leafs y; omega, v3, e2', u, w' - u, y, _, _, rfl, s1.trans s2, hy2.same s2, g2, hu, by omega, eq.trans hh, rfl⟩
/-- a fraction in a region -/
def spCont (K : PySem.W.Frag) (CG CR : Addr) : Sp := fun vs H Q _ => ∃ r x a q, vs = [.ref r, .ref a] ∧ RegAt K CG H r x ∧ RatQ CR H a q ∧ (0 < q.num ∧ q.num < (q.den : Int)) ∧ ∀ H', Same H H' → Q (.bl (hasT x (q.den - q.num) q.num)) H'
abbrev sCont : Stmt := inClass (top 48) 30
theorem scCont : FnScope ["self", "x", "_", "node", "u", "v"] ["self", "x"] (defScope sCont) := ⟨rfl, rfl, rfl, by decide +kernel, rfl, by decide +kernel, by decide +kernel⟩
theorem ok_regcont {f p1 f1 f2 f3 f4 : Addr} {fd fd1 fd2 fd3 fd4 : FuncData} (F : Fun K "__contains__" "Region.__contains__" sCont f fd) (T_Region : RegT K mg CG) (T_Ratio : RatT K mg CR) (S_Ratio_is_fifth : Sta P w K mg base 1 CR "is_fifth" p1 f1 fd1 ["value"] (spIsFifth CR))
    (C_node_at : Cal P w K mg base 2 "node_at" f2 fd2 ["tree", "fifth"] (spNat K CR)) (C_is_branch : Cal P w K mg base 1 "is_branch" f3 fd3 ["tree"] (spIsB K)) (C_truth_at : Cal P w K mg base 1 "truth_at" f4 fd4 ["leaf", "u", "v"] (spTAt K)) : FnOk P w K mg base CX0 3 f fd ["self", "x"] (spCont K CG CR) := by
  refine F.ok scCont (fun vs H Q E h => ?_) (fun cdv Ar outer s H vs Q E hr h => ?_)
  · obtain ⟨r, x, a, q0, rfl, _⟩ := h
    rfl
  · obtain ⟨r, x, a, q0, rfl, ⟨dx, v, hr1, hx⟩, ha, ⟨q1, q2⟩, q⟩ := h
    have nd := scCont.nd
    refine ⟨_, pss_cons (ps_if (pt_not (pt_val (Own.pe_smeth T_Ratio.rd S_Ratio_is_fifth.s S_Ratio_is_fifth.F (hr.mono (by decide)) S_Ratio_is_fifth.b pass0 (Own.pe_gref (by rfl) T_Ratio.mgC) (pa_cons (pv 1) pa_nil)))) (pss_one (ps_ret pe_bl)) pss_nil)
      (pss_cons (ps_asg (pe_call C_node_at.F (hr.mono (by decide)) (by rfl) C_node_at.mgf C_node_at.kp C_node_at.b .nil pass0 (pa_cons (pe_fld (pv 0) rfl) (pa_cons (pv 1) pa_nil))) (pg_tup (by rfl) (pgs_cons (pg_name (i := 2) nd rfl (Or.inl rfl)) (pgs_cons (pg_name (i := 3) nd rfl (Or.inl rfl)) (pgs_cons (pg_name (i := 4) nd rfl (Or.inl rfl)) (pgs_cons (pg_name (i := 5) nd rfl (Or.inl rfl)) pgs_nil))))))
      (pss_one (ps_ret (pe_ifExp (pt_val (pe_call C_is_branch.F (hr.mono (by decide)) (by rfl) C_is_branch.mgf C_is_branch.kp C_is_branch.b .nil pass0 (pa_cons (pv 3) pa_nil))) (pe_ix ix_tup (pv 3) pe_int (fun _ _ => rfl)) (pe_call C_truth_at.F (hr.mono (by decide)) (by rfl) C_truth_at.mgf C_truth_at.kp C_truth_at.b .nil pass0 (pa_cons (pv 3) (pa_cons (pv 4) (pa_cons (pv 5) pa_nil)))))))), ?_⟩
    refine ⟨rfl, _, rfl, a, q0, rfl, ha, _, rfl, iteFb (by rw [decide_eq_true q1, decide_eq_true q2]; rfl) ?_⟩
    refine ⟨_, rfl, _, CG, dx, _, _, rfl, hr1, T_Region.cl, T_Region.nT, regF_tree _, _, rfl, v, x, a, q0, rfl, hx, ha, ⟨q1, q2⟩, fun p e v' z' u' w' H1 s1 hp hz' eq st => ?_⟩
    refine ⟨_, _, rfl, SqT.of hp, rfl, _, _, rfl, _, _, rfl, _, _, rfl, _, _, rfl, rfl, ?_⟩
    refine ⟨_, rfl, v', z', rfl, hz', _, rfl, ?_⟩
    have q' := q H1 s1
    rw [eq] at q'
    cases z' with
    | leaf f => exact ite2 (fun h => by cases h) (fun _ => ⟨_, rfl, _, rfl, _, rfl, _, f, _, _, rfl, hz', q'⟩)
    | node t x y =>
      obtain ⟨b, v2, v3, rfl, hb, _⟩ := hz'
      have e1 := st rfl
      have hh : hasT (.node t x y) u' w' = (if u' = w' then t else if w' < u' then hasT x (u' - w') w' else hasT y u' (w' - u')) := rfl
      rw [hh, if_pos e1] at q'
      exact ite2 (fun _ => ⟨_, rfl, b, _, _, _, rfl, rfl, hb, rfl, q'⟩) (fun h => absurd rfl h)
theorem rOp {E : XK} {H : Hp} {Q : VK} {a b : Addr} {x y : Tr} {sp : Sp} (T_Region : RegT K mg CG) (ha : RegAt K CG H a x) (hb : RegAt K CG H b y) (h : sp [.ref a, .ref b] H (fun v H' => (∃ b, v = .bl b) ∧ Q v H') E) : Own.rOwnC K CG sp E (.ref a) (.ref b) H Q := by
  obtain ⟨dx, u, h1, _⟩ := ha
  obtain ⟨dy, v, h2, _⟩ := hb
  exact ⟨a, dx, _, _, rfl, h1, T_Region.ty h2, T_Region.nC, h⟩
theorem rNe {E : XK} {H : Hp} {Q : VK} {a b : Addr} {x y : Tr} (T_Region : RegT K mg CG) (ha : RegAt K CG H a x) (hb : RegAt K CG H b y) (d : deep x ≤ 40 ∧ deep y ≤ 40) (q : ∀ H', Same H H' → Q (.bl (!decide (x = y))) H') : Own.rOwnN K CG (spRegEq K CG) E (.ref a) (.ref b) H Q := by
  obtain ⟨dx, u, h1, t1⟩ := ha
  obtain ⟨dy, v, h2, t2⟩ := hb
  exact ⟨a, dx, _, _, rfl, h1, T_Region.ty h2, T_Region.nC, a, b, x, y, rfl, ⟨dx, u, h1, t1⟩, ⟨dy, v, h2, t2⟩, d, fun H' s' => ⟨_, rfl, q H' s'⟩⟩
theorem TrAt.butL {H H' : Hp} {p : Addr} {xs : List V} (hp : H p = some (.lst xs)) (b : But p H H') : ∀ {z : Tr} {v : V}, TrAt K H z v → TrAt K H' z v
  | .leaf f, v, ⟨a, e1, h⟩ => ⟨a, e1, Toy.SqT.but h hp b⟩
  | .node t x y, v, ⟨a, u, w, e1, h, hx, hy⟩ => ⟨a, u, w, e1, Toy.SqT.but h hp b, TrAt.butL hp b hx, TrAt.butL hp b hy⟩
theorem RegAt.butL {H H' : Hp} {p x : Addr} {xs : List V} {z : Tr} (h : RegAt K CG H x z) (hp : H p = some (.lst xs)) (b : But p H H') : RegAt K CG H' x z := by
  obtain ⟨dx, v, h, t⟩ := h
  exact ⟨dx, v, b _ _ h (fun e => by rw [e, hp] at h; cases h), t.butL hp b⟩
section ops
variable {T0 : Bool → Bool → Bool}
/-- two regions taken together -/
def spRegB (K : PySem.W.Frag) (C : Addr) (T0 : Bool → Bool → Bool) : Sp := fun vs H Q _ => ∃ a b x y, vs = [.ref a, .ref b] ∧ RegAt K C H a x ∧ RegAt K C H b y ∧ (leafs (comb T0 x y) ≤ 2000 ∧ deep x ≤ 40 ∧ deep y ≤ 40) ∧ ∀ r H', Same H H' → RegAt K C H' r (comb T0 x y) → Q (.ref r) H'
def ANDf : Bool → Bool → Bool := fun a b => a && b
def ORf : Bool → Bool → Bool := fun a b => a || b
def UNLf : Bool → Bool → Bool := fun a b => a != b
abbrev sRegAnd : Stmt := inClass (top 48) 21
theorem scRegAnd : FnScope ["self", "other"] ["self", "other"] (defScope sRegAnd) := ⟨rfl, rfl, rfl, by decide +kernel, rfl, by decide +kernel, by decide +kernel⟩
theorem ok_regand {f f1 f2 aL : Addr} {fd fd1 fd2 : FuncData} (F : Fun K "__and__" "Region.__and__" sRegAnd f fd) (T : Bl mg) (T_Region : RegT K mg CG) (mT : mg "AND" = some (.ref aL)) (hL : SqT K (fun _ => none) aL [.bl false, .bl false, .bl false, .bl true]) (M_Region : Mak P w K mg base 3 "Region" CG f1 fd1 ["self", "tree"] (spRegI K CG)) (C_combined : Cal P w K mg base 43 "combined" f2 fd2 ["one", "other", "table"] (spComb K 40)) : FnOk P w K mg base CX0 44 f fd ["self", "other"] (spRegB K CG ANDf) := by
  refine F.ok scRegAnd (fun vs H Q E h => ?_) (fun cdv Ar outer s H vs Q E hr h => ?_)
  · obtain ⟨a, b, x, y, rfl, _⟩ := h
    rfl
  · obtain ⟨a, b, x, y, rfl, ⟨dx, u, hx, tx⟩, ⟨dy, v, hy, ty⟩, ⟨lc, d1, d2⟩, q⟩ := h
    have nd := scRegAnd.nd
    refine ⟨_, pss_cons (ps_if (pt_not (pt_val (pe_callB call_isi (by rfl) T.isinstance (by decide +kernel) (pa_cons (pv 1) (pa_cons (Own.pe_gref (by rfl) T_Region.mgC) pa_nil))))) pss_never pss_nil)
      (pss_one (ps_ret (pe_make M_Region.M M_Region.F (hr.mono (by decide)) (by rfl) M_Region.mgC M_Region.b .nil pass0 (pa_cons (pe_call C_combined.F (hr.mono (by decide)) (by rfl) C_combined.mgf C_combined.kp C_combined.b .nil pass0 (pa_cons (pe_fld (pv 0) rfl) (pa_cons (pe_fld (pv 1) rfl) (pa_cons (Own.pe_gref (by rfl) mT) pa_nil)))) pa_nil)))), ?_⟩
    refine ⟨_, rfl, _, _, _, _, true, rfl, .own _, T_Region.ty hy, T_Region.kS, _, rfl, iteF ?_⟩
    refine ⟨_, rfl, _, CG, dx, _, _, rfl, hx, T_Region.cl, T_Region.nT, regF_tree _, _, rfl, _, CG, dy, _, _, rfl, hy, T_Region.cl, T_Region.nT, regF_tree _, ANDf, x, y, u, v, _, rfl, tx, ty, ⟨aL, rfl, up0 H hL⟩, d1, d2, fun w' H1 s1 hw => ?_⟩
    have dc := deep_comb (T := ANDf) x y
    exact regMk (z := comb ANDf x y) hw lc (by omega) fun r H' s2 hR => q r H' (s1.trans s2) hR
abbrev sRegOr : Stmt := inClass (top 48) 22
theorem scRegOr : FnScope ["self", "other"] ["self", "other"] (defScope sRegOr) := ⟨rfl, rfl, rfl, by decide +kernel, rfl, by decide +kernel, by decide +kernel⟩
theorem ok_regor {f f1 f2 aL : Addr} {fd fd1 fd2 : FuncData} (F : Fun K "__or__" "Region.__or__" sRegOr f fd) (T : Bl mg) (T_Region : RegT K mg CG) (mT : mg "OR" = some (.ref aL)) (hL : SqT K (fun _ => none) aL [.bl false, .bl true, .bl true, .bl true]) (M_Region : Mak P w K mg base 3 "Region" CG f1 fd1 ["self", "tree"] (spRegI K CG)) (C_combined : Cal P w K mg base 43 "combined" f2 fd2 ["one", "other", "table"] (spComb K 40)) : FnOk P w K mg base CX0 44 f fd ["self", "other"] (spRegB K CG ORf) := by
  refine F.ok scRegOr (fun vs H Q E h => ?_) (fun cdv Ar outer s H vs Q E hr h => ?_)
  · obtain ⟨a, b, x, y, rfl, _⟩ := h
    rfl
  · obtain ⟨a, b, x, y, rfl, ⟨dx, u, hx, tx⟩, ⟨dy, v, hy, ty⟩, ⟨lc, d1, d2⟩, q⟩ := h
    have nd := scRegOr.nd
    refine ⟨_, pss_cons (ps_if (pt_not (pt_val (pe_callB call_isi (by rfl) T.isinstance (by decide +kernel) (pa_cons (pv 1) (pa_cons (Own.pe_gref (by rfl) T_Region.mgC) pa_nil))))) pss_never pss_nil)
      (pss_one (ps_ret (pe_make M_Region.M M_Region.F (hr.mono (by decide)) (by rfl) M_Region.mgC M_Region.b .nil pass0 (pa_cons (pe_call C_combined.F (hr.mono (by decide)) (by rfl) C_combined.mgf C_combined.kp C_combined.b .nil pass0 (pa_cons (pe_fld (pv 0) rfl) (pa_cons (pe_fld (pv 1) rfl) (pa_cons (Own.pe_gref (by rfl) mT) pa_nil)))) pa_nil)))), ?_⟩
    refine ⟨_, rfl, _, _, _, _, true, rfl, .own _, T_Region.ty hy, T_Region.kS, _, rfl, iteF ?_⟩
    refine ⟨_, rfl, _, CG, dx, _, _, rfl, hx, T_Region.cl, T_Region.nT, regF_tree _, _, rfl, _, CG, dy, _, _, rfl, hy, T_Region.cl, T_Region.nT, regF_tree _, ORf, x, y, u, v, _, rfl, tx, ty, ⟨aL, rfl, up0 H hL⟩, d1, d2, fun w' H1 s1 hw => ?_⟩
    have dc := deep_comb (T := ORf) x y
    exact regMk (z := comb ORf x y) hw lc (by omega) fun r H' s2 hR => q r H' (s1.trans s2) hR
abbrev sRegSub : Stmt := inClass (top 48) 23
theorem scRegSub : FnScope ["self", "other"] ["self", "other"] (defScope sRegSub) := ⟨rfl, rfl, rfl, by decide +kernel, rfl, by decide +kernel, by decide +kernel⟩
theorem ok_regsub {f f1 f2 aL : Addr} {fd fd1 fd2 : FuncData} (F : Fun K "__sub__" "Region.__sub__" sRegSub f fd) (T : Bl mg) (T_Region : RegT K mg CG) (mT : mg "LESS" = some (.ref aL)) (hL : SqT K (fun _ => none) aL [.bl false, .bl false, .bl true, .bl false]) (M_Region : Mak P w K mg base 3 "Region" CG f1 fd1 ["self", "tree"] (spRegI K CG)) (C_combined : Cal P w K mg base 43 "combined" f2 fd2 ["one", "other", "table"] (spComb K 40)) : FnOk P w K mg base CX0 44 f fd ["self", "other"] (spRegB K CG LESSf) := by
  refine F.ok scRegSub (fun vs H Q E h => ?_) (fun cdv Ar outer s H vs Q E hr h => ?_)
  · obtain ⟨a, b, x, y, rfl, _⟩ := h
    rfl
  · obtain ⟨a, b, x, y, rfl, ⟨dx, u, hx, tx⟩, ⟨dy, v, hy, ty⟩, ⟨lc, d1, d2⟩, q⟩ := h
    have nd := scRegSub.nd
    refine ⟨_, pss_cons (ps_if (pt_not (pt_val (pe_callB call_isi (by rfl) T.isinstance (by decide +kernel) (pa_cons (pv 1) (pa_cons (Own.pe_gref (by rfl) T_Region.mgC) pa_nil))))) pss_never pss_nil)
      (pss_one (ps_ret (pe_make M_Region.M M_Region.F (hr.mono (by decide)) (by rfl) M_Region.mgC M_Region.b .nil pass0 (pa_cons (pe_call C_combined.F (hr.mono (by decide)) (by rfl) C_combined.mgf C_combined.kp C_combined.b .nil pass0 (pa_cons (pe_fld (pv 0) rfl) (pa_cons (pe_fld (pv 1) rfl) (pa_cons (Own.pe_gref (by rfl) mT) pa_nil)))) pa_nil)))), ?_⟩
    refine ⟨_, rfl, _, _, _, _, true, rfl, .own _, T_Region.ty hy, T_Region.kS, _, rfl, iteF ?_⟩
    refine ⟨_, rfl, _, CG, dx, _, _, rfl, hx, T_Region.cl, T_Region.nT, regF_tree _, _, rfl, _, CG, dy, _, _, rfl, hy, T_Region.cl, T_Region.nT, regF_tree _, LESSf, x, y, u, v, _, rfl, tx, ty, ⟨aL, rfl, up0 H hL⟩, d1, d2, fun w' H1 s1 hw => ?_⟩
    have dc := deep_comb (T := LESSf) x y
    exact regMk (z := comb LESSf x y) hw lc (by omega) fun r H' s2 hR => q r H' (s1.trans s2) hR
abbrev sRegXor : Stmt := inClass (top 48) 24
theorem scRegXor : FnScope ["self", "other"] ["self", "other"] (defScope sRegXor) := ⟨rfl, rfl, rfl, by decide +kernel, rfl, by decide +kernel, by decide +kernel⟩
theorem ok_regxor {f f1 f2 aL : Addr} {fd fd1 fd2 : FuncData} (F : Fun K "__xor__" "Region.__xor__" sRegXor f fd) (T : Bl mg) (T_Region : RegT K mg CG) (mT : mg "UNLIKE" = some (.ref aL)) (hL : SqT K (fun _ => none) aL [.bl false, .bl true, .bl true, .bl false]) (M_Region : Mak P w K mg base 3 "Region" CG f1 fd1 ["self", "tree"] (spRegI K CG)) (C_combined : Cal P w K mg base 43 "combined" f2 fd2 ["one", "other", "table"] (spComb K 40)) : FnOk P w K mg base CX0 44 f fd ["self", "other"] (spRegB K CG UNLf) := by
  refine F.ok scRegXor (fun vs H Q E h => ?_) (fun cdv Ar outer s H vs Q E hr h => ?_)
  · obtain ⟨a, b, x, y, rfl, _⟩ := h
    rfl
  · obtain ⟨a, b, x, y, rfl, ⟨dx, u, hx, tx⟩, ⟨dy, v, hy, ty⟩, ⟨lc, d1, d2⟩, q⟩ := h
    have nd := scRegXor.nd
    refine ⟨_, pss_cons (ps_if (pt_not (pt_val (pe_callB call_isi (by rfl) T.isinstance (by decide +kernel) (pa_cons (pv 1) (pa_cons (Own.pe_gref (by rfl) T_Region.mgC) pa_nil))))) pss_never pss_nil)
      (pss_one (ps_ret (pe_make M_Region.M M_Region.F (hr.mono (by decide)) (by rfl) M_Region.mgC M_Region.b .nil pass0 (pa_cons (pe_call C_combined.F (hr.mono (by decide)) (by rfl) C_combined.mgf C_combined.kp C_combined.b .nil pass0 (pa_cons (pe_fld (pv 0) rfl) (pa_cons (pe_fld (pv 1) rfl) (pa_cons (Own.pe_gref (by rfl) mT) pa_nil)))) pa_nil)))), ?_⟩
    refine ⟨_, rfl, _, _, _, _, true, rfl, .own _, T_Region.ty hy, T_Region.kS, _, rfl, iteF ?_⟩
    refine ⟨_, rfl, _, CG, dx, _, _, rfl, hx, T_Region.cl, T_Region.nT, regF_tree _, _, rfl, _, CG, dy, _, _, rfl, hy, T_Region.cl, T_Region.nT, regF_tree _, UNLf, x, y, u, v, _, rfl, tx, ty, ⟨aL, rfl, up0 H hL⟩, d1, d2, fun w' H1 s1 hw => ?_⟩
    have dc := deep_comb (T := UNLf) x y
    exact regMk (z := comb UNLf x y) hw lc (by omega) fun r H' s2 hR => q r H' (s1.trans s2) hR
end ops
end
end Toy
set_option maxRecDepth 100000
set_option maxHeartbeats 4000000
namespace Toy
open PySem L2 Tre
theorem gcdI_comm (a b : Int) : gcdI a b = gcdI b a := by unfold gcdI; rw [Nat.gcd_comm]
section
variable {P : Program} {w : World} {K : PySem.W.Frag} {mg : Str → Option Value} {base : Heap} {C CG CR : Addr}
def spCommon : Sp := fun vs H Q _ => ∃ x y, vs = [.int x, .int y] ∧ 0 ≤ x ∧ 0 ≤ y ∧ Q (.int (gcdI x y)) H
abbrev sCommon : Stmt := top 63
theorem scCo : FnScope ["_law_one", "_law_other_here"] ["_law_one", "_law_other_here"] (defScope sCommon) := ⟨rfl, rfl, rfl, by decide +kernel, rfl, by decide +kernel, by decide +kernel⟩
theorem ok_common {f : Addr} {fd : FuncData} (F : Fun K "_law_common" "_law_common" sCommon f fd) (T : Bl mg) : FnOk P w K mg base CX0 1 f fd ["_law_one", "_law_other_here"] spCommon := by
  refine F.ok scCo (fun vs H Q E h => ?_) (fun cdv A outer s H vs Q E hr h => ?_)
  · obtain ⟨x, y, rfl, _⟩ := h
    rfl
  · obtain ⟨x, y, rfl, x0, y0, q⟩ := h
    have nd := scCo.nd
    refine ⟨_, pss_cons (ps_while PassesOwn.never (pt_cmpR op_ne (pv 1) pe_int (nomark _)) (pss_one (ps_par (i := 0) (j := 1) (by rfl) nd rfl rfl (by decide) rfl rfl (pa_cons (pv 1) (pa_cons (pe_op op_mod (pe_callTy call_int1 (by rfl) T.int (by decide +kernel) (pa_cons (pv 0) pa_nil)) (pv 1)) pa_nil)) (by rfl))))
      (pss_one (ps_ret (pv 0))), ?_⟩
    refine while_by (fun σ H' => ∃ u v : Int, σ = [some (.int u), some (.int v)] ∧ 0 ≤ u ∧ 0 ≤ v ∧ gcdI u v = gcdI x y ∧ H' = H) (fun σ _ => match σ with | [_, some (.int v)] => v.toNat | _ => 0) ⟨_, _, rfl, x0, y0, rfl, rfl⟩ ?_ ?_
    · rintro σ H' ⟨u, v, rfl, u0, v0, g, rfl⟩
      refine ⟨_, rfl, rfl, _, rfl, ?_⟩
      by_cases hv : v = 0
      · refine iteFb (by rw [vdec, decide_eq_true hv]; rfl) ⟨_, rfl, ?_⟩
        subst hv
        rw [gcd_zero u0] at g
        rw [g]
        exact q
      · refine iteTb (by rw [vdec, decide_eq_false hv]; rfl) ⟨_, rfl, _, rfl, .inl ⟨_, rfl, _, rfl, _, _, rfl, rfl, (by omega : 0 < v), _, _, rfl, ⟨_, _, rfl, v0, (modB u (by omega)).1, (gcd_step u0 (by omega)).trans g, rfl⟩, ?_⟩⟩
        have h1 := modB u (show 0 < v by omega)
        show (u % v).toNat < v.toNat
        omega
    · rintro σ H' R R' hR ⟨v, e, sc, k, e2, r⟩
      exact ⟨v, e, sc, k, e2, hR _ _ r⟩
/-- a fraction as a pair -/
def FrT (H : Hp) (n : Int) (v : V) : Prop := ∃ e t b, v = .ref e ∧ H e = some (.tup [.int t, .int b]) ∧ 0 < t ∧ t < b ∧ b ≤ n ∧ gcdI t b = 1
theorem FrT.same {H H' : Hp} {n : Int} {v : V} (h : FrT H n v) (s : Same H H') : FrT H' n v := let ⟨e, t, b, h0, h1, h2⟩ := h; ⟨e, t, b, h0, s _ _ h1, h2⟩
theorem FrT.but {H H' : Hp} {n : Int} {v : V} {p : Addr} {ys : List V} (h : FrT H n v) (hp : H p = some (.lst ys)) (s : But p H H') : FrT H' n v := by
  obtain ⟨e, t, b, h0, h1, h2⟩ := h
  exact ⟨e, t, b, h0, s _ _ h1 (fun z => by rw [z, hp] at h1; cases h1), h2⟩
def spFrs : Sp := fun vs H Q _ => ∃ n : Nat, vs = [.int n] ∧ 1 ≤ n ∧ n ≤ 60 ∧ ∀ l xs H', Same H H' → H' l = some (.lst xs) → (∀ v ∈ xs, FrT H' n v) → xs.length ≤ 4000 → Q (.ref l) H'
abbrev sFrs : Stmt := top 64
theorem scFrs : FnScope ["_law_most", "_law_found", "_law_bottom", "_law_top"] ["_law_most"] (defScope sFrs) := ⟨rfl, rfl, rfl, by decide +kernel, rfl, by decide +kernel, by decide +kernel⟩
theorem ok_frs {f f1 : Addr} {fd fd1 : FuncData} (F : Fun K "_law_fractions" "_law_fractions" sFrs f fd) (T : Bl mg) (C__law_common : Cal P w K mg base 1 "_law_common" f1 fd1 ["_law_one", "_law_other_here"] spCommon) : FnOk P w K mg base CX0 2 f fd ["_law_most"] spFrs := by
  refine F.ok scFrs (fun vs H Q E h => ?_) (fun cdv A outer s H vs Q E hr h => ?_)
  · obtain ⟨n, rfl, _⟩ := h
    rfl
  · obtain ⟨n, rfl, n0, n60, q⟩ := h
    have nd := scFrs.nd
    refine ⟨_, pss_cons (ps_set (i := 1) nd rfl (Or.inl rfl) (pe_lst pa_nil))
      (pss_cons (ps_for PassesOwn.never rfl (pi_range2 (by rfl) T.range (pa_cons pe_int (pa_cons (pe_op op_add (pv 0) pe_int) pa_nil))) (pg_name (i := 2) nd rfl (Or.inr rfl)) (pss_one (ps_set (i := 1) nd rfl (Or.inl rfl) (pe_op op_cat (pv 1) (pe_lc (own := [("_law_top", 3)]) (g := gName 3) rfl nd (pi_range2 (by rfl) T.range (pa_cons pe_int (pa_cons (pv 2) pa_nil))) (blkOk_by (N := ["_law_most", "_law_found", "_law_bottom", "_law_top"]) (sc := defScope (top 64)) (by decide +kernel)) (fun _ _ _ _ _ => pg_name (i := 3) nd rfl (Or.inl rfl)) (fun _ _ _ _ _ => pts_one (pt_cmpR op_eq (pe_call C__law_common.F (hr.mono (by decide)) (by rfl) C__law_common.mgf C__law_common.kp C__law_common.b .nil pass0 (pa_cons (pv 3) (pa_cons (pv 2) pa_nil))) pe_int (nomark _))) (fun _ _ _ _ _ => (pe_tup (pa_cons (pv 3) (pa_cons (pv 2) pa_nil)))))))))
      (pss_one (ps_ret (pv 1)))), ?_⟩
    refine ⟨(by decide : 0 ≤ sizeLine), fun l0 hl0 => ?_⟩
    have s0 := same_new (o := .lst []) hl0
    refine ⟨_, rfl, _, _, rfl, rfl, 2, _, rfl, ⟨by decide, by decide, by omega, by omega⟩, ?_⟩
    refine for_range (lo := 2) (n := ((n : Int) + 1 - 2).toNat) (fun i σ H' => ∃ l xs y2 y3, σ = [some (.int n), some (.ref l), y2, y3] ∧ Same H H' ∧ H' l = some (.lst xs) ∧ (∀ v ∈ xs, FrT H' n v) ∧ xs.length ≤ 60 * i) ⟨l0, [], _, _, rfl, s0, upd_same, (fun v hv => nomatch hv), Nat.zero_le _⟩ ?_ ?_
    · rintro i σ H1 hi ⟨l, xs, y2, y3, rfl, s1, hl, hxs, hn⟩
      refine ⟨_, rfl, _, rfl, 1, _, rfl, ⟨by decide, by decide, by omega, by omega⟩, fun D hD => ?_⟩
      have sD := same_new (o := .lst []) hD
      refine lc_range (lo := 1) (n := (2 + (i : Int) - 1).toNat) (fun j H' => ∃ acc, H' D = some (.lst acc) ∧ Same H1 H' ∧ (∀ v ∈ acc, FrT H' n v) ∧ acc.length ≤ j) ⟨[], upd_same, sD, (fun v hv => nomatch hv), Nat.le_refl _⟩ ?_ ?_
      · rintro j H' hj ⟨acc, hDa, s2, hacc, hlen⟩
        refine ⟨rfl, _, rfl, _, rfl, _, _, rfl, by omega, by omega, rfl, _, rfl, ?_⟩
        by_cases g : gcdI (1 + (j : Int)) (2 + (i : Int)) = 1
        · refine iteTb (by rw [vdec, decide_eq_true g]) ?_
          refine ⟨_, rfl, _, rfl, (by decide : 2 ≤ sizeLine), fun p hp => ?_⟩
          have s3 := same_new (o := .tup [.int (1 + (j : Int)), .int (2 + (i : Int))]) hp
          have np : p ≠ D := fun e => by rw [e, hDa] at hp; cases hp
          have hD3 := s3 _ _ hDa
          refine ⟨acc, hD3, Nat.lt_of_le_of_lt (show acc.length ≤ 100 by omega) (by decide +kernel), acc ++ [.ref p], upd_same, fun b o hb => ?_, fun v hv => ?_, by rw [List.length_append]; show acc.length + 1 ≤ j + 1; omega⟩
          · rw [upd_ne (ne_of_none hb hD)]
            exact s3 _ _ (s2 _ _ hb)
          · rcases List.mem_append.mp hv with hv | hv
            · exact ((hacc v hv).same s3).but hD3 but_upd
            · rw [List.mem_singleton.mp hv]
              exact ⟨p, _, _, rfl, by rw [upd_ne np]; exact upd_same, by omega, by omega, by omega, g⟩
        · refine iteFb (by rw [vdec, decide_eq_false g]) ?_
          exact ⟨acc, hDa, s2, hacc, by omega⟩
      · rintro H2 ⟨acc, hDa, s2, hacc, hlen⟩
        refine ⟨l, D, xs, acc, rfl, rfl, s2 _ _ hl, hDa, Nat.le_trans (show xs.length + acc.length ≤ 10000 by omega) (by decide +kernel), fun p hp => ?_⟩
        have s3 := same_new (o := .lst (xs ++ acc)) hp
        refine ⟨p, xs ++ acc, _, _, rfl, (s1.trans s2).trans s3, upd_same, fun v hv => ?_, by rw [List.length_append]; omega⟩
        rcases List.mem_append.mp hv with hv | hv
        · exact ((hxs v hv).same s2).same s3
        · exact (hacc v hv).same s3
    · rintro σ H1 ⟨l, xs, y2, y3, rfl, s1, hl, hxs, hn⟩
      exact ⟨_, rfl, q l xs H1 s1 hl hxs (by omega)⟩
end
end Toy
set_option maxRecDepth 100000
set_option maxHeartbeats 4000000
namespace Toy
open PySem L2 Tre
section
variable {P : Program} {w : World} {K : PySem.W.Frag} {mg : Str → Option Value} {base : Heap} {C CG CR : Addr}
def spHas (K : PySem.W.Frag) : Sp := fun vs H Q _ => ∃ w' z u v, vs = [w', .int u, .int v] ∧ LtAt K H z w' ∧ 0 < u ∧ 0 < v ∧ Q (.bl (hasT z u v)) H
def HasInv (K : PySem.W.Frag) (H : Hp) (z : Tr) (u0 v0 : Int) (m : Nat) (σ : St) (H' : Hp) : Prop :=
  ∃ (w' : V) (u v : Int) (z' : Tr), σ = [some w', some (.int u), some (.int v)] ∧ H' = H ∧ LtAt K H z' w' ∧ 0 < u ∧ 0 < v ∧ hasT z u0 v0 = hasT z' u v ∧ m = leafs z'
abbrev sHas : Stmt := top 57
theorem scHas : FnScope ["_law_tree_here", "_law_u", "_law_v"] ["_law_tree_here", "_law_u", "_law_v"] (defScope sHas) := ⟨rfl, rfl, rfl, by decide +kernel, rfl, by decide +kernel, by decide +kernel⟩
theorem ok_has {f : Addr} {fd : FuncData} (F : Fun K "_law_has" "_law_has" sHas f fd) : FnOk P w K mg base CX0 1 f fd ["_law_tree_here", "_law_u", "_law_v"] (spHas K) := by
  refine F.ok scHas (fun vs H Q E h => ?_) (fun cdv A outer s H vs Q E hr h => ?_)
  · obtain ⟨w', z, u, v, rfl, _⟩ := h
    rfl
  · obtain ⟨w', z, u, v, rfl, hz, u0, v0, q⟩ := h
    have nd := scHas.nd
    refine ⟨_, pss_cons (ps_while PassesOwn.never (pt_cmpR op_eq (pe_ix ix_tup (pv 0) pe_int (fun _ _ => rfl)) pe_str (nomark _)) (pss_cons (ps_if (pt_cmpR op_eq (pv 1) (pv 2) (nomark _)) (pss_one (ps_ret (pe_ix ix_tup (pv 0) pe_int (fun _ _ => rfl)))) pss_nil)
      (pss_one (ps_if (pt_cmpR op_gt (pv 1) (pv 2) (nomark _)) (pss_one (ps_par (i := 0) (j := 1) (by rfl) nd rfl rfl (by decide) rfl rfl (pa_cons (pe_ix ix_tup (pv 0) pe_int (fun _ _ => rfl)) (pa_cons (pe_op op_sub (pv 1) (pv 2)) pa_nil)) (by rfl))) (pss_one (ps_par (i := 0) (j := 2) (by rfl) nd rfl rfl (by decide) rfl rfl (pa_cons (pe_ix ix_tup (pv 0) pe_int (fun _ _ => rfl)) (pa_cons (pe_op op_sub (pv 2) (pv 1)) pa_nil)) (by rfl)))))))
      (pss_cons (ps_if (pt_cmpR op_eq (pv 2) pe_int (nomark _)) (pss_one (ps_ret (pe_ix ix_tup (pe_ix ix_tup (pv 0) pe_int (fun _ _ => rfl)) (pe_ifExp (pt_cmpR op_eq (pv 1) pe_int (nomark _)) pe_int pe_int) (fun _ _ => rfl)))) pss_nil)
      (pss_one (ps_ret (pe_ix ix_tup (pe_ix ix_tup (pv 0) pe_int (fun _ _ => rfl)) (pe_ifExp (pt_cmpR op_eq (pv 1) pe_int (nomark _)) pe_int pe_int) (fun _ _ => rfl))))), ?_⟩
    refine ⟨HasInv K H z u v, ⟨leafs z, w', u, v, z, rfl, rfl, hz, u0, v0, rfl, rfl⟩, ?_⟩
    rintro m σ H1 ⟨w1, u1, v1, z1, rfl, rfl, hz1, hu, hv, eq, rfl⟩
    rw [eq] at q
    cases z1 with
    | leaf g =>
      obtain ⟨a, c, rfl, ha, hc⟩ := hz1
      refine ⟨_, rfl, a, _, _, _, rfl, rfl, ha, rfl, rfl, _, rfl, iteFb rfl ?_⟩
      have q' : Q (.bl (atF g u1 v1)) H1 := q
      unfold atF at q'
      refine ⟨_, rfl, rfl, _, rfl, ?_⟩
      by_cases e1 : v1 = 1
      · rw [if_pos e1] at q'
        refine iteTb (by rw [vdec, decide_eq_true e1]) ?_
        refine ⟨_, rfl, a, _, _, _, rfl, rfl, ha, rfl, _, rfl, rfl, _, rfl, ?_⟩
        by_cases e2 : u1 = 1
        · rw [if_pos e2] at q'
          exact ite2 (fun _ => ⟨c, _, _, _, rfl, rfl, hc, rfl, q'⟩) (fun h => absurd (by rw [vdec, decide_eq_true e2]) h)
        · rw [if_neg e2] at q'
          exact ite2 (fun h => by rw [vdec, decide_eq_false e2] at h; cases h) (fun _ => ⟨c, _, _, _, rfl, rfl, hc, rfl, q'⟩)
      · rw [if_neg e1] at q'
        refine iteFb (by rw [vdec, decide_eq_false e1]) ?_
        refine ⟨_, rfl, a, _, _, _, rfl, rfl, ha, rfl, _, rfl, rfl, _, rfl, ?_⟩
        by_cases e2 : u1 = 1
        · rw [if_pos e2] at q'
          exact ite2 (fun _ => ⟨c, _, _, _, rfl, rfl, hc, rfl, q'⟩) (fun h => absurd (by rw [vdec, decide_eq_true e2]) h)
        · rw [if_neg e2] at q'
          exact ite2 (fun h => by rw [vdec, decide_eq_false e2] at h; cases h) (fun _ => ⟨c, _, _, _, rfl, rfl, hc, rfl, q'⟩)
    | node t x y =>
      have hz1' := hz1
      obtain ⟨a, w2, w3, rfl, ha, hx, hy⟩ := hz1'
      refine ⟨_, rfl, a, _, _, _, rfl, rfl, ha, rfl, rfl, _, rfl, iteTb rfl ?_⟩
      refine ⟨fun σ' H' => ∃ m', m' < leafs (.node t x y) ∧ HasInv K H1 z u v m' σ' H', fun _ _ h => h, ?_⟩
      have px := leafs_pos x
      have py := leafs_pos y
      have hh : hasT (.node t x y) u1 v1 = (if u1 = v1 then t else if v1 < u1 then hasT x (u1 - v1) v1 else hasT y u1 (v1 - u1)) := rfl
      refine ⟨_, rfl, _, rfl, rfl, _, rfl, ?_⟩
      by_cases e1 : u1 = v1
      · rw [hh, if_pos e1] at q
        refine iteTb (by rw [vdec, decide_eq_true e1]) ?_
        exact ⟨_, rfl, a, _, _, _, rfl, rfl, ha, rfl, q⟩
      · rw [if_neg e1] at hh
        refine iteFb (by rw [vdec, decide_eq_false e1]) ?_
        refine ⟨_, rfl, _, rfl, _, _, rfl, rfl, _, rfl, ?_⟩
        by_cases lt : v1 < u1
        · rw [if_pos lt] at hh
          refine iteTb (decide_eq_true lt) ?_
          refine ⟨_, rfl, a, _, _, _, rfl, rfl, ha, rfl, _, rfl, _, rfl, _, _, rfl, rfl, _, _, rfl, ?_⟩
          exact ⟨leafs x, by show leafs x < leafs x + leafs y; omega, w2, u1 - v1, v1, x, rfl, rfl, hx, by omega, hv, eq.trans hh, rfl⟩
        · rw [if_neg lt] at hh
          refine iteFb (decide_eq_false lt) ?_
          refine ⟨_, rfl, a, _, _, _, rfl, rfl, ha, rfl, _, rfl, _, rfl, _, _, rfl, rfl, _, _, rfl, ?_⟩
          exact ⟨leafs y, by show leafs y < leafs x + leafs y; omega, w3, u1, v1 - u1, y, rfl, rfl, hy, hu, by omega, eq.trans hh, rfl⟩
end
end Toy
set_option maxRecDepth 100000
set_option maxHeartbeats 4000000
/-! x op= y, x of an own class without a method in place. -/
namespace Own
open PySem PySem.Spec PyProof.Rows L2
open PySem.W (Looks findIn)
/-- no class of the line has the name -/
def noIn (K : PySem.W.Frag) (C : Addr) (i : Str) : Bool := match PySem.W.clsIn K C with
  | some cd => cd.mro.all fun c => match findIn K c i with | some none => true | _ => false
  | none => false
section
variable {M : Model} {h : Heap} {K : PySem.W.Frag} {C : Addr} {nm : String} {add : Bool}
theorem noI (X : K.In h) (hn : noIn K C (dunderI nm) = true) : Looks M h (fillsInplaceSlot (.ref C) nm add) false := by
  unfold noIn at hn
  cases hcd : PySem.W.clsIn K C with
  | none => rw [hcd] at hn; cases hn
  | some cd =>
    rw [hcd] at hn
    dsimp only at hn
    intro A Q E s k q
    have Lm : Looks M h (mroOf (.ref C)) cd.mro := (PySem.W.looks_clsIn X hcd).andThen (f := fun cd => pure cd.mro) .now
    have Lm' := Lm.keeps k
    obtain ⟨hh, g, d, tt, os⟩ := s
    have X' : K.In hh := X.keeps k
    unfold fillsInplaceSlot
    refine wpAny_bind (Lm'.at ?_)
    generalize cd.mro = cs at hn ⊢
    clear Lm Lm'
    induction cs with
    | nil => exact wpAny_pure q
    | cons c r ih =>
      rw [List.all_cons, Bool.and_eq_true] at hn
      obtain ⟨h1, h2⟩ := hn
      rw [List.anyM_cons]
      refine wpAny_bind (wpAny_bind ?_)
      cases hf : findIn K c (dunderI nm) with
      | none => rw [hf] at h1; cases h1
      | some o =>
        cases o with
        | some x => rw [hf] at h1; cases h1
        | none =>
          have L : Looks M hh (typeLookup c (dunderI nm)) none := PySem.W.looks_findIn X' hf
          refine L.at (wpAny_pure ?_)
          exact ih h2
end
section
variable {X : Cx} {CX : CXT} {k : Nat} {C f : Addr} {fd : FuncData} {ps : List Str} {sp : Sp} {E : XK} {op : Operator}
theorem ip_own {fo ro rc : Option Value} (F : FnOk X.prog X.w X.K X.mg X.base CX k f fd ps sp) (hr : Room k X.A) (hs : findIn X.K (.ref C) (PySem.dunder op.info.2) = some (some (.ref f))) (hf : PySem.W.isFn X.K (.ref f) = true)
    (hc : PySem.W.selfFirst X.K C = true) (hR : findIn X.K (.ref C) (dunderR op.info.2) = some rc) (hp : rc = none ∨ ∃ g : Addr, rc = some (.ref g)) (h1 : findIn X.K (.type "int") (PySem.dunder op.info.2) = some fo)
    (h2 : findIn X.K (.type "int") (dunderR op.info.2) = some ro) (hsub : PySem.W.subIn X.K (.type "int") (.ref C) = some false) (hno : noIn X.K C (dunderI op.info.2) = true) (hb : Binds X.K fd ps []) (hx : Passes CX X E) : OpR X (inplaceOp op) (rOwnB C sp E) := by
  intro pins s σ H x y u v Q I rx ry h
  obtain ⟨a, dx, fs, rfl, ha, hy, hsp⟩ := h
  cases rx
  obtain ⟨mA, O, _⟩ := ins_get I.hok ha
  obtain ⟨od, J, _⟩ := O.look
  have KX := I.kIn
  obtain ⟨cd, rest, hcd, hm⟩ := PySem.W.ksp_first hc
  have one : wpAny (model X.prog X.w) X.A (tryMethod (.ref a) (PySem.dunder op.info.2) v) (fun r s' => ∃ z, r = some z ∧ EP X pins σ Q z s') X.xe s := by
    have r2 : Vals [V.ref a, y] [Value.ref a, v] := .cons rfl (.cons ry .nil)
    refine PySem.W.ksp_try KX J hs hf (wpAny_mono (run_fn F hr hb .nil hx I r2 hsp) (fun w s' q => ?_) fun _ _ e => e)
    obtain ⟨v', H', I', rv, q⟩ := q
    exact relV_back rv ⟨v', H', I', rv, q⟩
  have L3 : Looks (model X.prog X.w) s.heap (fillsNumberSlot (.ref C) op.info.2) true := PySem.W.fills_K KX hcd hm hs
  have L6 : Looks (model X.prog X.w) s.heap (numberSlotInPython (.ref C) op.info.2) true := PySem.W.ksp_inPy KX hs hR hp
  unfold inplaceOp
  refine wpAny_holding (wpAny_bind (J.type.here (wpAny_bind ((noI KX hno).here ?_))))
  simp only [Bool.false_eq_true, if_false, pure_bind]
  refine wpAny_bind ?_
  suffices hb1 : wpAny (model X.prog X.w) X.A (binaryOp1 op.info.2 (.ref a) v) (fun r s' => ∃ z, r = some z ∧ EP X pins σ Q z s') X.xe s from
    wpAny_mono hb1 (fun r s' z => by
      obtain ⟨z, rfl, hq⟩ := z
      exact wpAny_pure hq) fun _ _ e => e
  unfold binaryOp1
  refine wpAny_bind (J.type.here ?_)
  rcases hy with ⟨j, rfl⟩ | ⟨b, dy, gs, rfl, hb'⟩
  · obtain ⟨t, rfl⟩ := ry
    have L4 : Looks (model X.prog X.w) s.heap (fillsNumberSlot (.type "int") op.info.2) _ := PySem.W.ksp_fillsT KX h1 h2
    have hne : (Value.ref C == Value.type "int") = false := Bool.eq_false_iff.mpr fun q => by cases beq_iff_eq.mp q
    have hpy : numberSlotInPython (.type "int") op.info.2 = pure false := rfl
    refine wpAny_bind (wpAny_of_eq (show typeOf (.int j t) = pure (.type "int") from rfl) (wpAny_bind (L3.here ?_)))
    simp only [hne, Bool.false_eq_true, if_false]
    refine wpAny_bind (L4.here ?_)
    generalize ((fo.isSome && !isSeqSlot fo) || (ro.isSome && !isSeqSlot ro)) = rt
    cases rt with
    | false =>
      simp only [Bool.and_false, Bool.false_and, Bool.false_eq_true, if_false, if_true, pure_bind]
      refine wpAny_bind (wpAny_mono one (fun r s' z => ?_) fun _ _ e => e)
      obtain ⟨z, rfl, hq⟩ := z
      exact wpAny_pure ⟨_, rfl, hq⟩
    | true =>
      simp only [Bool.and_self, if_true]
      refine wpAny_bind ((PySem.W.looks_subIn KX hsub).here ?_)
      simp only [Bool.false_eq_true, if_false, pure_bind, Bool.not_false, Bool.and_self, if_true]
      refine wpAny_bind (L6.here ?_)
      simp only [hpy, pure_bind, Bool.not_false, if_true]
      refine wpAny_bind ((PySem.W.looks_findIn KX h2).here ?_)
      refine wpAny_bind (wpAny_mono one (fun r s' z => ?_) fun _ _ e => e)
      obtain ⟨z, rfl, hq⟩ := z
      exact wpAny_pure ⟨_, rfl, hq⟩
  · cases ry
    obtain ⟨mB, O', _⟩ := ins_get I.hok hb'
    obtain ⟨od', J', _⟩ := O'.look
    refine wpAny_bind (J'.type.here (wpAny_bind (L3.here ?_)))
    simp only [beq_self_eq_true, if_true, pure_bind, Bool.and_false, Bool.false_and, Bool.false_eq_true, if_false]
    refine wpAny_bind (wpAny_mono one (fun r s' z => ?_) fun _ _ e => e)
    obtain ⟨z, rfl, hq⟩ := z
    exact wpAny_pure ⟨_, rfl, hq⟩
end
end Own
set_option maxRecDepth 100000
set_option maxHeartbeats 4000000
namespace Toy
open PySem L2 Tre
def opT : Nat → Bool → Bool → Bool
  | 0 => ANDf
  | 1 => ORf
  | 2 => LESSf
  | _ => UNLf
theorem way4 {n : Nat} (h : n < 4) : n = 0 ∨ n = 1 ∨ n = 2 ∨ n = 3 := by omega
section
variable {P : Program} {w : World} {K : PySem.W.Frag} {mg : Str → Option Value} {base : Heap} {C CG CR : Addr}
/-- the facts of the operators of regions -/
structure RegW (P : Program) (w : World) (K : PySem.W.Frag) (mg : Str → Option Value) (base : Heap) (C : Addr) (f1 f2 f3 f4 : Addr) (fd1 fd2 fd3 fd4 : FuncData) : Prop where
  and : Opr P w K mg base 44 C "__and__" f1 fd1 ["self", "other"] (spRegB K C ANDf)
  or : Opr P w K mg base 44 C "__or__" f2 fd2 ["self", "other"] (spRegB K C ORf)
  sub : Opr P w K mg base 44 C "__sub__" f3 fd3 ["self", "other"] (spRegB K C LESSf)
  xor : Opr P w K mg base 44 C "__xor__" f4 fd4 ["self", "other"] (spRegB K C UNLf)
  bA : BinF K C .BitAnd
  bO : BinF K C .BitOr
  bS : BinF K C .Sub
  bX : BinF K C .BitXor
  nA : Own.noIn K C (dunderI "and") = true
  nO : Own.noIn K C (dunderI "or") = true
  nS : Own.noIn K C (dunderI "sub") = true
  nX : Own.noIn K C (dunderI "xor") = true
theorem ip_B {X : Cx} {CX : CXT} {k : Nat} {f : Addr} {fd : FuncData} {ps : List Str} {sp : Sp} {E : XK} {op : Operator} (B : BinF X.K C op) (hno : Own.noIn X.K C (dunderI op.info.2) = true) (F : FnOk X.prog X.w X.K X.mg X.base CX k f fd ps sp) (hr : Room k X.A)
    (hs : PySem.W.findIn X.K (.ref C) (PySem.dunder op.info.2) = some (some (.ref f))) (hf : PySem.W.isFn X.K (.ref f) = true) (hb : Binds X.K fd ps []) (hx : Passes CX X E) : OpR X (inplaceOp op) (Own.rOwnB C sp E) := by
  obtain ⟨rc, hR, hp⟩ := B.hR
  obtain ⟨fo, h1⟩ := B.h1
  obtain ⟨ro, h2⟩ := B.h2
  exact Own.ip_own F hr hs hf B.hc hR hp h1 h2 B.hs hno hb hx
theorem rBin {sp : Sp} {E : XK} {H : Hp} {a b : Addr} {x y : Tr} {Q : VK} (ha : RegAt K CG H a x) (hb : RegAt K CG H b y) (k : sp [.ref a, .ref b] H Q E) : Own.rOwnB CG sp E (.ref a) (.ref b) H Q := by
  obtain ⟨dx, u, h1, _⟩ := ha
  obtain ⟨dy, v, h2, _⟩ := hb
  exact ⟨a, dx, _, rfl, h1, .inr ⟨b, dy, _, rfl, h2⟩, k⟩
def spTab (K : PySem.W.Frag) : Sp := fun vs H Q _ => ∃ n : Nat, vs = [.int n] ∧ n < 4 ∧ ∀ v H', Same H H' → TabAt K H' (opT n) v → Q v H'
abbrev sTab : Stmt := top 65
theorem scTab : FnScope ["_law_way", "_law_table_here"] ["_law_way"] (defScope sTab) := ⟨rfl, rfl, rfl, by decide +kernel, rfl, by decide +kernel, by decide +kernel⟩
theorem ok_tab {f : Addr} {fd : FuncData} (F : Fun K "_law_table" "_law_table" sTab f fd) : FnOk P w K mg base CX0 1 f fd ["_law_way"] (spTab K) := by
  refine F.ok scTab (fun vs H Q E h => ?_) (fun cdv A outer s H vs Q E hr h => ?_)
  · obtain ⟨n, rfl, _⟩ := h
    rfl
  · obtain ⟨n, rfl, n4, q⟩ := h
    have nd := scTab.nd
    refine ⟨_, pss_cons (ps_set (i := 1) nd rfl (Or.inl rfl) (pe_lst (pa_cons (pe_tup (pa_cons pe_bl (pa_cons pe_bl (pa_cons pe_bl (pa_cons pe_bl pa_nil))))) (pa_cons (pe_tup (pa_cons pe_bl (pa_cons pe_bl (pa_cons pe_bl (pa_cons pe_bl pa_nil))))) (pa_cons (pe_tup (pa_cons pe_bl (pa_cons pe_bl (pa_cons pe_bl (pa_cons pe_bl pa_nil))))) pa_nil)))))
      (pss_one (ps_ret (pe_ix ix_list (pe_op op_cat (pv 1) (pe_lst (pa_cons (pe_tup (pa_cons pe_bl (pa_cons pe_bl (pa_cons pe_bl (pa_cons pe_bl pa_nil))))) pa_nil))) (pv 0) (fun _ _ => rfl)))), ?_⟩
    refine ⟨(by decide : 4 ≤ sizeLine), fun p1 h1 => ⟨(by decide : 4 ≤ sizeLine), fun p2 h2 => ⟨(by decide : 4 ≤ sizeLine), fun p3 h3 => ⟨(by decide : 3 ≤ sizeLine), fun l hl => ?_⟩⟩⟩⟩
    refine ⟨_, rfl, (by decide : 4 ≤ sizeLine), fun p4 h4 => ⟨(by decide : 1 ≤ sizeLine), fun l2 hl2 => ?_⟩⟩
    have s1 := same_new (o := .tup [.bl false, .bl false, .bl false, .bl true]) h1
    have s2 := same_new (o := .tup [.bl false, .bl true, .bl true, .bl true]) h2
    have s3 := same_new (o := .tup [.bl false, .bl false, .bl true, .bl false]) h3
    have s4 := same_new (o := .lst [.ref p1, .ref p2, .ref p3]) hl
    have s5 := same_new (o := .tup [.bl false, .bl true, .bl true, .bl false]) h4
    have s6 := same_new (o := .lst [.ref p4]) hl2
    refine ⟨l, l2, _, _, rfl, rfl, s6 _ _ (s5 _ _ upd_same), upd_same, (by decide : 3 + 1 ≤ sizeLine), fun l3 hl3 => ?_⟩
    have s7 := same_new (o := .lst ([.ref p1, .ref p2, .ref p3] ++ [.ref p4])) hl3
    have t4 := s6.trans s7
    have t3 := s4.trans (s5.trans t4)
    have t2 := s3.trans t3
    have t1 := s2.trans t2
    have g1 := t1 _ _ (upd_same (H := H) (a := p1) (o := .tup [.bl false, .bl false, .bl false, .bl true]))
    have g2 := t2 _ _ (upd_same (H := upd H p1 (.tup [.bl false, .bl false, .bl false, .bl true])) (a := p2) (o := .tup [.bl false, .bl true, .bl true, .bl true]))
    have g3 := t3 _ _ (upd_same (H := upd (upd H p1 (.tup [.bl false, .bl false, .bl false, .bl true])) p2 (.tup [.bl false, .bl true, .bl true, .bl true])) (a := p3) (o := .tup [.bl false, .bl false, .bl true, .bl false]))
    have g4 := t4 _ _ (upd_same (H := upd (upd (upd (upd H p1 (.tup [.bl false, .bl false, .bl false, .bl true])) p2 (.tup [.bl false, .bl true, .bl true, .bl true])) p3 (.tup [.bl false, .bl false, .bl true, .bl false])) l (.lst [.ref p1, .ref p2, .ref p3])) (a := p4) (o := .tup [.bl false, .bl true, .bl true, .bl false]))
    have q' := q
    have sA := s1.trans t1
    refine ⟨_, rfl, ?_⟩
    rcases way4 n4 with rfl | rfl | rfl | rfl
    · exact ⟨l3, _, _, _, rfl, rfl, SqL.of upd_same, rfl, q _ _ sA ⟨p1, rfl, SqT.of g1⟩⟩
    · exact ⟨l3, _, _, _, rfl, rfl, SqL.of upd_same, rfl, q _ _ sA ⟨p2, rfl, SqT.of g2⟩⟩
    · exact ⟨l3, _, _, _, rfl, rfl, SqL.of upd_same, rfl, q _ _ sA ⟨p3, rfl, SqT.of g3⟩⟩
    · exact ⟨l3, _, _, _, rfl, rfl, SqL.of upd_same, rfl, q _ _ sA ⟨p4, rfl, SqT.of g4⟩⟩
def spJnd (K : PySem.W.Frag) (C : Addr) : Sp := fun vs H Q _ => ∃ (n : Nat) (a b : Addr) (x y : Tr), vs = [.int n, .ref a, .ref b] ∧ n < 4 ∧ RegAt K C H a x ∧ RegAt K C H b y ∧ ((∀ T0, leafs (comb T0 x y) ≤ 2000) ∧ deep x ≤ 40 ∧ deep y ≤ 40) ∧ ∀ r H', Same H H' → RegAt K C H' r (comb (opT n) x y) → Q (.ref r) H'
abbrev sJnd : Stmt := top 66
theorem scJnd : FnScope ["_law_way", "_law_one", "_law_other_here"] ["_law_way", "_law_one", "_law_other_here"] (defScope sJnd) := ⟨rfl, rfl, rfl, by decide +kernel, rfl, by decide +kernel, by decide +kernel⟩
theorem ok_jnd {f f1 f2 f3 f4 : Addr} {fd fd1 fd2 fd3 fd4 : FuncData} (F : Fun K "_law_joined" "_law_joined" sJnd f fd) (W : RegW P w K mg base CG f1 f2 f3 f4 fd1 fd2 fd3 fd4) : FnOk P w K mg base CX0 45 f fd ["_law_way", "_law_one", "_law_other_here"] (spJnd K CG) := by
  refine F.ok scJnd (fun vs H Q E h => ?_) (fun cdv A outer s H vs Q E hr h => ?_)
  · obtain ⟨n, a, b, x, y, rfl, _⟩ := h
    rfl
  · obtain ⟨n, a, b, x, y, rfl, n4, ha, hb, ⟨lc, d1, d2⟩, q⟩ := h
    have nd := scJnd.nd
    refine ⟨_, pss_cons (ps_if (pt_cmpR op_eq (pv 0) pe_int (nomark _)) (pss_one (ps_ret (pe_op (op_B W.bA W.and.F (hr.mono (by decide)) W.and.at_ W.and.fn W.and.b pass0) (pv 1) (pv 2)))) pss_nil)
      (pss_cons (ps_if (pt_cmpR op_eq (pv 0) pe_int (nomark _)) (pss_one (ps_ret (pe_op (op_B W.bO W.or.F (hr.mono (by decide)) W.or.at_ W.or.fn W.or.b pass0) (pv 1) (pv 2)))) pss_nil)
      (pss_one (ps_ret (pe_ifExp (pt_cmpR op_eq (pv 0) pe_int (nomark _)) (pe_op (op_B W.bS W.sub.F (hr.mono (by decide)) W.sub.at_ W.sub.fn W.sub.b pass0) (pv 1) (pv 2)) (pe_op (op_B W.bX W.xor.F (hr.mono (by decide)) W.xor.at_ W.xor.fn W.xor.b pass0) (pv 1) (pv 2)))))), ?_⟩
    rcases way4 n4 with rfl | rfl | rfl | rfl
    · refine ⟨_, rfl, rfl, _, rfl, iteTb (by decide) ?_⟩
      exact ⟨_, rfl, _, rfl, rBin ha hb ⟨a, b, x, y, rfl, ha, hb, ⟨lc _, d1, d2⟩, q⟩⟩
    · refine ⟨_, rfl, rfl, _, rfl, iteFb (by decide) ?_⟩
      refine ⟨_, rfl, rfl, _, rfl, iteTb (by decide) ?_⟩
      exact ⟨_, rfl, _, rfl, rBin ha hb ⟨a, b, x, y, rfl, ha, hb, ⟨lc _, d1, d2⟩, q⟩⟩
    · refine ⟨_, rfl, rfl, _, rfl, iteFb (by decide) ?_⟩
      refine ⟨_, rfl, rfl, _, rfl, iteFb (by decide) ?_⟩
      exact ⟨_, rfl, rfl, _, rfl, ite2 (fun _ => ⟨_, rfl, _, rfl, rBin ha hb ⟨a, b, x, y, rfl, ha, hb, ⟨lc _, d1, d2⟩, q⟩⟩) (fun h => absurd (by decide) h)⟩
    · refine ⟨_, rfl, rfl, _, rfl, iteFb (by decide) ?_⟩
      refine ⟨_, rfl, rfl, _, rfl, iteFb (by decide) ?_⟩
      exact ⟨_, rfl, rfl, _, rfl, ite2 (fun h => absurd h (by decide)) (fun _ => ⟨_, rfl, _, rfl, rBin ha hb ⟨a, b, x, y, rfl, ha, hb, ⟨lc _, d1, d2⟩, q⟩⟩)⟩
abbrev sBnd : Stmt := top 67
theorem scBnd : FnScope ["_law_way", "_law_one", "_law_other_here", "_law_found"] ["_law_way", "_law_one", "_law_other_here"] (defScope sBnd) := ⟨rfl, rfl, rfl, by decide +kernel, rfl, by decide +kernel, by decide +kernel⟩
theorem ok_bnd {f f1 f2 f3 f4 : Addr} {fd fd1 fd2 fd3 fd4 : FuncData} (F : Fun K "_law_bound" "_law_bound" sBnd f fd) (W : RegW P w K mg base CG f1 f2 f3 f4 fd1 fd2 fd3 fd4) : FnOk P w K mg base CX0 45 f fd ["_law_way", "_law_one", "_law_other_here"] (spJnd K CG) := by
  refine F.ok scBnd (fun vs H Q E h => ?_) (fun cdv A outer s H vs Q E hr h => ?_)
  · obtain ⟨n, a, b, x, y, rfl, _⟩ := h
    rfl
  · obtain ⟨n, a, b, x, y, rfl, n4, ha, hb, ⟨lc, d1, d2⟩, q⟩ := h
    have nd := scBnd.nd
    refine ⟨_, pss_cons (ps_set (i := 3) nd rfl (Or.inl rfl) (pv 1))
      (C8.pss_cut (ps_if (pt_cmpR op_eq (pv 0) pe_int (nomark _)) (pss_one (ps_aug (i := 3) nd rfl (.inl rfl) (pv 2) (ip_B W.bA W.nA W.and.F (hr.mono (by decide)) W.and.at_ W.and.fn W.and.b pass0))) (pss_one (ps_if (pt_cmpR op_eq (pv 0) pe_int (nomark _)) (pss_one (ps_aug (i := 3) nd rfl (.inl rfl) (pv 2) (ip_B W.bO W.nO W.or.F (hr.mono (by decide)) W.or.at_ W.or.fn W.or.b pass0))) (pss_one (ps_if (pt_cmpR op_eq (pv 0) pe_int (nomark _)) (pss_one (ps_aug (i := 3) nd rfl (.inl rfl) (pv 2) (ip_B W.bS W.nS W.sub.F (hr.mono (by decide)) W.sub.at_ W.sub.fn W.sub.b pass0))) (pss_one (ps_aug (i := 3) nd rfl (.inl rfl) (pv 2) (ip_B W.bX W.nX W.xor.F (hr.mono (by decide)) W.xor.at_ W.xor.fn W.xor.b pass0))))))))
      (pss_one (ps_ret (pv 3)))), ?_⟩
    refine ⟨_, rfl, fun σ' H' => ∃ r, σ'[3]? = some (some (.ref r)) ∧ Same H H' ∧ RegAt K CG H' r (comb (opT n) x y), ?_, fun σ' H' h => ?_⟩
    · rcases way4 n4 with rfl | rfl | rfl | rfl
      · refine ⟨_, rfl, rfl, _, rfl, iteTb (by decide) ?_⟩
        exact ⟨_, rfl, _, rfl, rBin ha hb ⟨a, b, x, y, rfl, ha, hb, ⟨lc _, d1, d2⟩, fun r H' s hr => ⟨r, rfl, s, hr⟩⟩⟩
      · refine ⟨_, rfl, rfl, _, rfl, iteFb (by decide) ?_⟩
        refine ⟨_, rfl, rfl, _, rfl, iteTb (by decide) ?_⟩
        exact ⟨_, rfl, _, rfl, rBin ha hb ⟨a, b, x, y, rfl, ha, hb, ⟨lc _, d1, d2⟩, fun r H' s hr => ⟨r, rfl, s, hr⟩⟩⟩
      · refine ⟨_, rfl, rfl, _, rfl, iteFb (by decide) ?_⟩
        refine ⟨_, rfl, rfl, _, rfl, iteFb (by decide) ?_⟩
        refine ⟨_, rfl, rfl, _, rfl, iteTb (by decide) ?_⟩
        exact ⟨_, rfl, _, rfl, rBin ha hb ⟨a, b, x, y, rfl, ha, hb, ⟨lc _, d1, d2⟩, fun r H' s hr => ⟨r, rfl, s, hr⟩⟩⟩
      · refine ⟨_, rfl, rfl, _, rfl, iteFb (by decide) ?_⟩
        refine ⟨_, rfl, rfl, _, rfl, iteFb (by decide) ?_⟩
        refine ⟨_, rfl, rfl, _, rfl, iteFb (by decide) ?_⟩
        exact ⟨_, rfl, _, rfl, rBin ha hb ⟨a, b, x, y, rfl, ha, hb, ⟨lc _, d1, d2⟩, fun r H' s hr => ⟨r, rfl, s, hr⟩⟩⟩
    · obtain ⟨r, e, s, hr⟩ := h
      exact ⟨_, e, q r H' s hr⟩
def spOth (K : PySem.W.Frag) : Sp := fun vs H Q _ => ∃ (p cc : Addr) (k : Nat) (v : V) (z : Tr), vs = [.ref p, v] ∧ Pen H p cc k ∧ LtAt K H z v ∧ deep z ≤ 3 ∧ k ≤ 700000 ∧ ∀ v' z' H', Pen H' p cc (k + 100) → But p H H' → LtAt K H' z' v' → deep z' ≤ 4 → Q v' H'
abbrev sOth : Stmt := top 68
theorem scOth : FnScope ["_law_pen_here", "_law_tree_here", "_law_way"] ["_law_pen_here", "_law_tree_here"] (defScope sOth) := ⟨rfl, rfl, rfl, by decide +kernel, rfl, by decide +kernel, by decide +kernel⟩
theorem ok_oth {f f1 f2 f3 : Addr} {fd fd1 fd2 fd3 : FuncData} (F : Fun K "_law_other" "_law_other" sOth f fd) (C__law_draw : Cal P w K mg base 1 "_law_draw" f1 fd1 ["_law_pen_here", "_law_many"] spDraw) (C__law_tree : Cal P w K mg base 7 "_law_tree" f2 fd2 ["_law_pen_here", "_law_deep"] (spLTree K 4)) (C__law_truths : Cal P w K mg base 2 "_law_truths" f3 fd3 ["_law_pen_here"] (spLTru K)) : FnOk P w K mg base CX0 8 f fd ["_law_pen_here", "_law_tree_here"] (spOth K) := by
  refine F.ok scOth (fun vs H Q E h => ?_) (fun cdv A outer s H vs Q E hr h => ?_)
  · obtain ⟨p, cc, k, v, z, rfl, _⟩ := h
    rfl
  · obtain ⟨p, cc, k, v, z, rfl, hP, hz, dz, kb, q⟩ := h
    have nd := scOth.nd
    refine ⟨_, pss_cons (ps_set (i := 2) nd rfl (Or.inl rfl) (pe_call C__law_draw.F (hr.mono (by decide)) (by rfl) C__law_draw.mgf C__law_draw.kp C__law_draw.b .nil pass0 (pa_cons (pv 0) (pa_cons pe_int pa_nil))))
      (pss_cons (ps_if (pt_cmpR op_eq (pv 2) pe_int (nomark _)) (pss_one (ps_ret (pe_call C__law_tree.F (hr.mono (by decide)) (by rfl) C__law_tree.mgf C__law_tree.kp C__law_tree.b .nil pass0 (pa_cons (pv 0) (pa_cons pe_int pa_nil))))) pss_nil)
      (pss_cons (ps_if (pt_cmpR op_eq (pe_ix ix_tup (pv 1) pe_int (fun _ _ => rfl)) pe_str (nomark _)) (pss_one (ps_ret (pe_tup (pa_cons pe_str (pa_cons (pe_cmpR op_eq (pe_call C__law_draw.F (hr.mono (by decide)) (by rfl) C__law_draw.mgf C__law_draw.kp C__law_draw.b .nil pass0 (pa_cons (pv 0) (pa_cons pe_int pa_nil))) pe_int (nomark _)) (pa_cons (pv 1) (pa_cons (pe_tup (pa_cons pe_str (pa_cons (pe_call C__law_truths.F (hr.mono (by decide)) (by rfl) C__law_truths.mgf C__law_truths.kp C__law_truths.b .nil pass0 (pa_cons (pv 0) pa_nil)) pa_nil))) pa_nil))))))) pss_nil)
      (pss_cons (ps_if (pt_cmpR op_eq (pv 2) pe_int (nomark _)) (pss_one (ps_ret (pe_tup (pa_cons pe_str (pa_cons (pe_not (pe_ix ix_tup (pv 1) pe_int (fun _ _ => rfl))) (pa_cons (pe_ix ix_tup (pv 1) pe_int (fun _ _ => rfl)) (pa_cons (pe_ix ix_tup (pv 1) pe_int (fun _ _ => rfl)) pa_nil))))))) pss_nil)
      (pss_one (ps_ret (pe_ifExp (pt_cmpR op_eq (pv 2) pe_int (nomark _)) (pe_tup (pa_cons pe_str (pa_cons (pe_ix ix_tup (pv 1) pe_int (fun _ _ => rfl)) (pa_cons (pe_ix ix_tup (pv 1) pe_int (fun _ _ => rfl)) (pa_cons (pe_ix ix_tup (pv 1) pe_int (fun _ _ => rfl)) pa_nil))))) (pe_tup (pa_cons pe_str (pa_cons (pe_ix ix_tup (pv 1) pe_int (fun _ _ => rfl)) (pa_cons (pe_ix ix_tup (pv 1) pe_int (fun _ _ => rfl)) (pa_cons (pe_tup (pa_cons pe_str (pa_cons (pe_call C__law_truths.F (hr.mono (by decide)) (by rfl) C__law_truths.mgf C__law_truths.kp C__law_truths.b .nil pass0 (pa_cons (pv 0) pa_nil)) pa_nil))) pa_nil))))))))))), ?_⟩
    refine ⟨_, rfl, p, cc, _, k, rfl, hP, by omega, by decide, by decide, fun r H1 r0 r4 P1 B1 => ?_⟩
    obtain ⟨xp, hp⟩ := hP.lst
    have hz1 := hz.but hp B1
    refine ⟨_, rfl, rfl, _, rfl, ?_⟩
    by_cases w0 : r = 0
    · refine iteTb (by rw [vdec, decide_eq_true w0]) ?_
      refine ⟨_, rfl, p, cc, _, 3, rfl, P1, (by show k + 1 + 70 ≤ 800000; omega), by decide, fun v2 z2 H2 P2 B2 h2 d2 _ => ?_⟩
      have P2' : Pen H2 p cc (k + 1 + 70) := P2
      exact q v2 z2 H2 (P2'.mono (by omega)) (B1.trans B2) h2 (by omega)
    · refine iteFb (by rw [vdec, decide_eq_false w0]) ?_
      have hz1' := hz1
      obtain ⟨xp1, hp1⟩ := P1.lst
      cases z with
      | leaf g =>
        obtain ⟨a, c, rfl, ha, hc⟩ := hz1'
        refine ⟨_, rfl, a, _, _, _, rfl, rfl, ha, rfl, rfl, _, rfl, iteTb rfl ?_⟩
        refine ⟨_, rfl, p, cc, _, _, rfl, P1, by omega, by decide, by decide, fun r2 H2 r20 r24 P2 B2 => ⟨rfl, ?_⟩⟩
        obtain ⟨xp2, hp2⟩ := P2.lst
        refine ⟨_, rfl, _, rfl, p, cc, _, rfl, P2, by omega, fun c2 g2 H3 P3 B3 hc2 => ⟨(by decide : 2 ≤ sizeLine), fun p4 hp4 => ⟨(by decide : 4 ≤ sizeLine), fun p5 hp5 => ?_⟩⟩⟩
        have s4 := same_new (o := .tup [.str "leaf", .ref c2]) hp4
        have hz3 := ((hz1.but hp1 B2).but hp2 B3)
        have s5 := same_new (o := .tup [.str "at", .bl (decide (V.int r2 = V.int 0)), .ref a, .ref p4]) hp5
        refine q (.ref p5) (.node (decide (V.int r2 = V.int 0)) (.leaf g) (.leaf g2)) _ (((P3.same s4).same s5).mono (by omega)) (((B1.trans B2).trans B3).trans ((But.same s4).trans (But.same s5))) ⟨p5, _, _, rfl, SqT.of upd_same, (hz3.same s4).same s5, ⟨p4, c2, rfl, SqT.of (s5 _ _ upd_same), (hc2.ext s4).ext s5⟩⟩ (show max 0 0 + 1 ≤ 4 by decide)
      | node t x y =>
        obtain ⟨a, w2, w3, rfl, ha, hx, hy⟩ := hz1'
        have dz' : max (deep x) (deep y) + 1 ≤ 3 := dz
        refine ⟨_, rfl, a, _, _, _, rfl, rfl, ha, rfl, rfl, _, rfl, iteFb rfl ?_⟩
        refine ⟨_, rfl, rfl, _, rfl, ?_⟩
        by_cases w1 : r = 1
        · refine iteTb (by rw [vdec, decide_eq_true w1]) ?_
          refine ⟨_, rfl, a, _, _, _, rfl, rfl, ha, rfl, t, rfl, _, rfl, a, _, _, _, rfl, rfl, ha, rfl, _, rfl, a, _, _, _, rfl, rfl, ha, rfl, (by decide : 4 ≤ sizeLine), fun p5 hp5 => ?_⟩
          have s5 := same_new (o := .tup [.str "at", .bl !t, w2, w3]) hp5
          exact q (.ref p5) (.node (!t) x y) _ ((P1.same s5).mono (by omega)) (B1.trans (But.same s5)) ⟨p5, _, _, rfl, SqT.of upd_same, hx.same s5, hy.same s5⟩ (by show max (deep x) (deep y) + 1 ≤ 4; omega)
        · refine iteFb (by rw [vdec, decide_eq_false w1]) ?_
          refine ⟨_, rfl, rfl, _, rfl, ?_⟩
          by_cases e2 : r = 2
          · refine ite2 (fun _ => ?_) (fun h => absurd (by rw [vdec, decide_eq_true e2]) h)
            refine ⟨_, rfl, a, _, _, _, rfl, rfl, ha, rfl, _, rfl, a, _, _, _, rfl, rfl, ha, rfl, _, rfl, a, _, _, _, rfl, rfl, ha, rfl, (by decide : 4 ≤ sizeLine), fun p5 hp5 => ?_⟩
            have s5 := same_new (o := .tup [.str "at", .bl t, w3, w2]) hp5
            exact q (.ref p5) (.node t y x) _ ((P1.same s5).mono (by omega)) (B1.trans (But.same s5)) ⟨p5, _, _, rfl, SqT.of upd_same, hy.same s5, hx.same s5⟩ (by show max (deep y) (deep x) + 1 ≤ 4; omega)
          · refine ite2 (fun h => by rw [vdec, decide_eq_false e2] at h; cases h) (fun _ => ?_)
            refine ⟨_, rfl, a, _, _, _, rfl, rfl, ha, rfl, _, rfl, a, _, _, _, rfl, rfl, ha, rfl, _, rfl, p, cc, _, rfl, P1, by omega, fun c2 g2 H3 P3 B3 hc2 => ⟨(by decide : 2 ≤ sizeLine), fun p4 hp4 => ⟨(by decide : 4 ≤ sizeLine), fun p5 hp5 => ?_⟩⟩⟩
            have s4 := same_new (o := .tup [.str "leaf", .ref c2]) hp4
            have hx3 := hx.but hp1 B3
            have s5 := same_new (o := .tup [.str "at", .bl t, w2, .ref p4]) hp5
            exact q (.ref p5) (.node t x (.leaf g2)) _ (((P3.same s4).same s5).mono (by omega)) ((B1.trans B3).trans ((But.same s4).trans (But.same s5))) ⟨p5, _, _, rfl, SqT.of upd_same, (hx3.same s4).same s5, ⟨p4, c2, rfl, SqT.of (s5 _ _ upd_same), (hc2.ext s4).ext s5⟩⟩ (by show max (deep x) 0 + 1 ≤ 4; omega)
end
end Toy
set_option maxRecDepth 100000
set_option maxHeartbeats 4000000
namespace Toy
open PySem L2 Tre
open Rat (divInt)
theorem frac_of {t b : Int} (hb : 0 < b) (g : gcdI t b = 1) : (divInt t b).num = t ∧ ((divInt t b).den : Int) = b := by
  have h1 := low_num (t := t) (b := b) (by omega)
  have h2 := low_den (t := t) (b := b) (by omega)
  rw [← h1, ← h2]
  unfold lowT lowB lowD
  rw [if_pos (by omega), g, Int.fdiv_one, Int.fdiv_one]
  exact ⟨rfl, rfl⟩
section
variable {P : Program} {w : World} {K : PySem.W.Frag} {mg : Str → Option Value} {base : Heap} {C CG CR : Addr}
def spIs (K : PySem.W.Frag) (C : Addr) : Sp := fun vs H Q _ => ∃ a v z, vs = [.ref a, v] ∧ RegAt K C H a (least z) ∧ LtAt K H z v ∧ deep z ≤ 8 ∧ ∀ H', Same H H' → Q (.bl true) H'
abbrev sIs : Stmt := top 69
theorem scIs : FnScope ["_law_made", "_law_tree_here", "_law_top", "_law_bottom"] ["_law_made", "_law_tree_here"] (defScope sIs) := ⟨rfl, rfl, rfl, by decide +kernel, rfl, by decide +kernel, by decide +kernel⟩
theorem ok_is {f f1 f2 f3 f4 f5 f6 f7 : Addr} {fd fd1 fd2 fd3 fd4 fd5 fd6 fd7 : FuncData} (F : Fun K "_law_is" "_law_is" sIs f fd) (T : Bl mg) (zs : mg "str" = none) (T_Region : RegT K mg CG) (T_Ratio : RatT K mg CR) (C__law_words : Cal P w K mg base 11 "_law_words" f1 fd1 ["_law_tree_here"] (spLW K 10)) (C__law_least : Cal P w K mg base 12 "_law_least" f2 fd2 ["_law_tree_here"] (spLLe K 10))
    (C__law_fractions : Cal P w K mg base 2 "_law_fractions" f3 fd3 ["_law_most"] spFrs) (C__law_has : Cal P w K mg base 1 "_law_has" f4 fd4 ["_law_tree_here", "_law_u", "_law_v"] (spHas K)) (O_str : Opr P w K mg base 3 CG "__str__" f5 fd5 ["self"] (spStr K CG)) (O_cont : Opr P w K mg base 3 CG "__contains__" f6 fd6 ["self", "x"] (spCont K CG CR)) (M_Ratio : Mak P w K mg base 2 "Ratio" CR f7 fd7 ["self", "top", "bottom"] (spRInit CR)) : FnOk P w K mg base CX0 13 f fd ["_law_made", "_law_tree_here"] (spIs K CG) := by
  refine F.ok scIs (fun vs H Q E h => ?_) (fun cdv A outer s H vs Q E hr h => ?_)
  · obtain ⟨a, v, z, rfl, _⟩ := h
    rfl
  · obtain ⟨a, v, z, rfl, ha, hz, dz, q⟩ := h
    have nd := scIs.nd
    refine ⟨_, pss_cons (ps_if (PW.pt (pw_or (pt_not (pt_val (pe_callB call_isi (by rfl) T.isinstance (by decide +kernel) (pa_cons (pv 0) (pa_cons (Own.pe_gref (by rfl) T_Region.mgC) pa_nil))))) (pw_or1 (pt_cmpR op_ne (pe_callTy (Own.call_ownStr O_str.F (hr.mono (by decide)) O_str.at_ O_str.fn O_str.b pass0) (by rfl) zs (by decide +kernel) (pa_cons (pv 0) pa_nil)) (pe_call C__law_words.F (hr.mono (by decide)) (by rfl) C__law_words.mgf C__law_words.kp C__law_words.b .nil pass0 (pa_cons (pe_call C__law_least.F (hr.mono (by decide)) (by rfl) C__law_least.mgf C__law_least.kp C__law_least.b .nil pass0 (pa_cons (pv 1) pa_nil)) pa_nil)) (nomark _))))) (pss_one (ps_ret pe_bl)) pss_nil)
      (pss_cons (ps_for PassesOwn.never rfl (pi_list (pe_call C__law_fractions.F (hr.mono (by decide)) (by rfl) C__law_fractions.mgf C__law_fractions.kp C__law_fractions.b .nil pass0 (pa_cons pe_int pa_nil))) (pg_tup (by rfl) (pgs_cons (pg_name (i := 2) nd rfl (Or.inl rfl)) (pgs_cons (pg_name (i := 3) nd rfl (Or.inl rfl)) pgs_nil))) (pss_one (ps_if (pt_cmpR op_ne (pe_cmpR (Own.op_inOwn O_cont.F (hr.mono (by decide)) O_cont.at_ O_cont.fn O_cont.b pass0) (pe_make M_Ratio.M M_Ratio.F (hr.mono (by decide)) (by rfl) M_Ratio.mgC M_Ratio.b .nil pass0 (pa_cons (pv 2) (pa_cons (pv 3) pa_nil))) (pv 0) (by rfl)) (pe_call C__law_has.F (hr.mono (by decide)) (by rfl) C__law_has.mgf C__law_has.kp C__law_has.b .nil pass0 (pa_cons (pv 1) (pa_cons (pe_op op_sub (pv 3) (pv 2)) (pa_cons (pv 2) pa_nil)))) (nomark _)) (pss_one (ps_ret pe_bl)) pss_nil)))
      (pss_one (ps_ret pe_bl))), ?_⟩
    have e1 := deep_least z
    have k1 := leafs_least z
    have lz : leafs z ≤ 256 := Nat.le_trans (leafs_pow z) (Nat.pow_le_pow_right (n := 2) (by decide) dz)
    obtain ⟨dx, u, hx, tx⟩ := id ha
    refine ⟨_, rfl, _, _, _, _, true, rfl, .own _, T_Region.ty hx, T_Region.kS, _, rfl, iteF ?_⟩
    refine ⟨_, rfl, a, dx, _, rfl, hx, a, _, rfl, ha, by omega, fun H1 s1 => ⟨⟨_, rfl⟩, ?_⟩⟩
    refine ⟨_, rfl, v, z, rfl, hz.same s1, by omega, fun v2 H2 s2 h2 => ?_⟩
    refine ⟨v2, _, rfl, h2, by omega, by omega, fun H3 s3 => ⟨rfl, _, rfl, iteFb (by rw [decide_eq_true rfl]; rfl) ?_⟩⟩
    have s13 := (s1.trans s2).trans s3
    refine ⟨20, rfl, by decide, by decide, fun l xs H4 s4 hl hxs hn => ?_⟩
    have s14 := s13.trans s4
    refine ⟨l, rfl, ⟨_, SqL.of hl⟩, ?_⟩
    refine for_list (xs := xs) (K := K) (a := l) (fun j σ H' => ∃ y2 y3, σ = [some (.ref a), some v, y2, y3] ∧ Same H4 H') ⟨_, _, rfl, Same.refl _⟩ ?_ ?_ ?_
    · rintro j σ H' _ ⟨_, _, _, s⟩
      exact SqL.of (s _ _ hl)
    · rintro j x σ H' hx ⟨y2, y3, rfl, s⟩
      obtain ⟨e, t, b, rfl, he, t0, tb, b20, g⟩ := hxs x (List.mem_of_getElem? hx)
      obtain ⟨f1, f2⟩ := frac_of (t := t) (b := b) (by omega) g
      have b20' : b ≤ 20 := b20
      refine ⟨_, _, rfl, SqT.of (s _ _ he), rfl, _, _, rfl, _, _, rfl, rfl, ?_⟩
      refine ⟨_, rfl, _, rfl, ?_⟩
      intro r dr hr1 hdr hnr
      refine ⟨r, dr, t, b, rfl, upd_same, by omega, Sz.of (Nat.lt_of_le_of_lt (show b.natAbs ≤ 20 by omega) (by decide +kernel)), fun H5 hR hk => ⟨rfl, ?_⟩⟩
      have s5 := mk_same hr1 hdr hk
      have hQ : RatQ CR H5 r (divInt t b) := by
        rw [low_num (by omega), low_den (by omega)] at hR
        exact hR
      have s15 := (s14.trans s).trans s5
      have ha5 := ha.same s15
      obtain ⟨dx5, u5, hx5, _⟩ := id ha5
      refine ⟨_, rfl, a, dx5, _, rfl, hx5, a, least z, r, divInt t b, rfl, ha5, hQ, ⟨by omega, by omega⟩, fun H6 s6 => ⟨_, rfl, ?_⟩⟩
      rw [f1, f2]
      have gg : gcdI (b - t) t = 1 := by rw [gcd_subl tb t0, gcdI_comm]; exact g
      refine ⟨_, rfl, _, rfl, _, rfl, _, _, rfl, rfl, _, rfl, v, z, b - t, t, rfl, hz.same (s15.trans s6), by omega, t0, rfl, _, rfl, iteFb (by rw [has_least z _ _ (by omega) t0 gg, decide_eq_true rfl]; rfl) ?_⟩
      exact ⟨_, _, rfl, (s.trans s5).trans s6⟩
    · rintro σ H' ⟨_, _, rfl, s⟩
      exact q H' (s14.trans s)
end
end Toy
set_option maxRecDepth 100000
set_option maxHeartbeats 4000000
namespace Toy
open PySem L2 Tre
theorem merge_id {T0 : Bool → Bool → Bool} (h : ∀ a, T0 a a = a) : ∀ z : Tr, merge T0 z z = z
  | .leaf ⟨a, b, c, d, e⟩ => by
    show Tr.leaf ⟨T0 a a, T0 b b, T0 c c, T0 d d, T0 e e⟩ = _
    rw [h, h, h, h, h]
  | .node t x y => by
    show Tr.node (T0 t t) (merge T0 x x) (merge T0 y y) = _
    rw [h, merge_id h x, merge_id h y]
theorem merge_no {T0 : Bool → Bool → Bool} (h : ∀ a, T0 a a = false) : ∀ z : Tr, least (merge T0 z z) = .leaf NoneL
  | .leaf ⟨a, b, c, d, e⟩ => by
    show Tr.leaf ⟨T0 a a, T0 b b, T0 c c, T0 d d, T0 e e⟩ = _
    rw [h, h, h, h, h]
    rfl
  | .node t x y => by
    show branch (T0 t t) (least (merge T0 x x)) (least (merge T0 y y)) = _
    rw [h, merge_no h x, merge_no h y]
    rfl
def notT : Tr → Tr
  | .leaf f => .leaf ⟨!f.m, !f.l, !f.r, !f.o, !f.b⟩
  | .node t x y => .node (!t) (notT x) (notT y)
def NANf : Bool → Bool → Bool := fun a b => !(a && b)
theorem merge_not : ∀ z : Tr, merge LESSf (.leaf EveryL) z = notT z
  | .leaf ⟨a, b, c, d, e⟩ => rfl
  | .node t x y => by
    have hx : mergeL LESSf EveryL x = notT x := merge_not x
    have hy : mergeL LESSf EveryL y = notT y := merge_not y
    show Tr.node (true && !t) (mergeL LESSf EveryL x) (mergeL LESSf EveryL y) = Tr.node (!t) (notT x) (notT y)
    rw [hx, hy, Bool.true_and]
theorem merge_nan : ∀ z : Tr, merge NANf z z = notT z
  | .leaf ⟨a, b, c, d, e⟩ => by
    show Tr.leaf ⟨!(a && a), !(b && b), !(c && c), !(d && d), !(e && e)⟩ = Tr.leaf ⟨!a, !b, !c, !d, !e⟩
    simp
  | .node t x y => by
    show Tr.node (!(t && t)) (merge NANf x x) (merge NANf y y) = Tr.node (!t) (notT x) (notT y)
    rw [merge_nan x, merge_nan y, Bool.and_self]
theorem not_not : ∀ z : Tr, notT (notT z) = z
  | .leaf ⟨a, b, c, d, e⟩ => by
    show Tr.leaf ⟨!!a, !!b, !!c, !!d, !!e⟩ = _
    simp
  | .node t x y => by
    show Tr.node (!!t) (notT (notT x)) (notT (notT y)) = _
    rw [not_not x, not_not y, Bool.not_not]
theorem deep_not : ∀ z : Tr, deep (notT z) = deep z
  | .leaf f => rfl
  | .node t x y => by
    show max (deep (notT x)) (deep (notT y)) + 1 = max (deep x) (deep y) + 1
    rw [deep_not x, deep_not y]
/-- a region taken from all, and again -/
theorem inv_least (z : Tr) : comb LESSf (.leaf EveryL) (least z) = least (notT z) := by
  rw [show (Tr.leaf EveryL) = least (.leaf EveryL) from rfl, comb_of_least, merge_not]
theorem ok_wl : ∀ z : Tr, ∀ n ∈ wl z, n < 0x110000
  | .leaf f, n, h => by
    have d : ∀ b : Bool, dig b < 0x110000 := fun b => by cases b <;> decide
    simp only [wl, List.mem_cons, List.not_mem_nil, or_false] at h
    rcases h with rfl | rfl | rfl | rfl | rfl <;> exact d _
  | .node t x y, n, h => by
    have d : ∀ b : Bool, dig b < 0x110000 := fun b => by cases b <;> decide
    simp only [wl, List.mem_cons, List.mem_append] at h
    rcases h with rfl | rfl | h | rfl | h
    · exact d _
    · decide
    · exact ok_wl x n h
    · decide
    · exact ok_wl y n h
theorem strOk_wl (z : Tr) : PyData.strOk ⟨(wl z).toArray⟩ = true := by
  unfold PyData.strOk
  rw [Array.all_eq_true']
  intro n hn
  exact decide_eq_true (ok_wl z n (by simpa using hn))
theorem sh2 {a b : Str} (h1 : PyData.strOk a = true) (h2 : PyData.strOk b = true) : SeqAt.shaped (.list [.str a, .str b]) = true := by simp [SeqAt.shaped, PyData.canLay0, PyData.canLayAll0, PyData.depth, PyData.depthAll, h1, h2]
theorem eq2 (a b : Str) : PyData.eqv (.list [.str a, .str b]) (.list [.str a, .str b]) = true := by simp [PyData.eqv, PyData.eqvAll]
theorem lc_of {x y : Tr} (hx : deep x ≤ 8) (hy : deep y ≤ 8) (T0 : Bool → Bool → Bool) : leafs (comb T0 (least x) (least y)) ≤ 256 := by
  rw [comb_of_least]
  have h1 := leafs_least (merge T0 x y)
  have h2 := leafs_pow (merge T0 x y)
  have h3 := deep_merge (T := T0) x y
  have h4 : 2 ^ deep (merge T0 x y) ≤ 2 ^ 8 := Nat.pow_le_pow_right (by decide) (by omega)
  omega
section
variable {P : Program} {w : World} {K : PySem.W.Frag} {mg : Str → Option Value} {base : Heap} {C CG CR : Addr}
def spRt (K : PySem.W.Frag) : Sp := fun vs H Q _ => ∃ (p cc : Addr) (k : Nat) (u v : V) (x y : Tr), vs = [.ref p, u, v] ∧ Pen H p cc k ∧ LtAt K H x u ∧ LtAt K H y v ∧ (deep x ≤ 4 ∧ deep y ≤ 4) ∧ k ≤ 900000 ∧ ∀ H', Pen H' p cc (k + 1) → Q (.bl true) H'
abbrev sRt : Stmt := top 70
theorem scRt : FnScope ["_law_pen_here", "_law_mine", "_law_its", "_law_one", "_law_other_here", "_law_kept", "_law_way", "_law_due", "_law_turned", "_law_blank"] ["_law_pen_here", "_law_mine", "_law_its"] (defScope sRt) := ⟨rfl, rfl, rfl, by decide +kernel, rfl, by decide +kernel, by decide +kernel⟩
theorem ok_rt {f f1 f2 f3 f4 f5 f6 f7 f8 f9 f10 p11 f11 : Addr} {fd fd1 fd2 fd3 fd4 fd5 fd6 fd7 fd8 fd9 fd10 fd11 : FuncData} (F : Fun K "_law_right" "_law_right" sRt f fd) (T : Bl mg) (zs : mg "str" = none) (T_Region : RegT K mg CG) (C__law_region : Cal P w K mg base 16 "_law_region" f1 fd1 ["_law_tree_here"] (spLReg K CG 10)) (C__law_merged : Cal P w K mg base 13 "_law_merged" f2 fd2 ["_law_one", "_law_other_here", "_law_table_here"] (spLMe K 10))
    (C__law_table : Cal P w K mg base 1 "_law_table" f3 fd3 ["_law_way"] (spTab K)) (C__law_is : Cal P w K mg base 13 "_law_is" f4 fd4 ["_law_made", "_law_tree_here"] (spIs K CG)) (C__law_joined : Cal P w K mg base 45 "_law_joined" f5 fd5 ["_law_way", "_law_one", "_law_other_here"] (spJnd K CG)) (C__law_bound : Cal P w K mg base 45 "_law_bound" f6 fd6 ["_law_way", "_law_one", "_law_other_here"] (spJnd K CG)) (C__law_draw : Cal P w K mg base 1 "_law_draw" f7 fd7 ["_law_pen_here", "_law_many"] spDraw)
    (O_str : Opr P w K mg base 3 CG "__str__" f8 fd8 ["self"] (spStr K CG)) (O_inv : Opr P w K mg base 44 CG "__invert__" f9 fd9 ["self"] (spRegN K CG)) (O_eq : Opr P w K mg base 45 CG "__eq__" f10 fd10 ["self", "other"] (spRegEq K CG)) (hne : PySem.W.findIn K (.ref CG) "__ne__" = some (some (.builtin "object.__ne__"))) (hsO : PySem.W.subIn K (.ref CG) (.type "object") = some true)
    (S_Region_none : Sta P w K mg base 5 CG "none" p11 f11 fd11 [] (spRegC K CG NoneL)) : FnOk P w K mg base CX0 47 f fd ["_law_pen_here", "_law_mine", "_law_its"] (spRt K) := by
  refine F.ok scRt (fun vs H Q E h => ?_) (fun cdv A outer s H vs Q E hr h => ?_)
  · obtain ⟨p, cc, k, u, v, x, y, rfl, _⟩ := h
    rfl
  · obtain ⟨p, cc, k, u, v, x, y, rfl, hP, hx, hy, ⟨d1, d2⟩, kb, q⟩ := h
    have nd := scRt.nd
    refine ⟨_, pss_cons (ps_par (i := 3) (j := 4) (by rfl) nd rfl rfl (by decide) rfl rfl (pa_cons (pe_call C__law_region.F (hr.mono (by decide)) (by rfl) C__law_region.mgf C__law_region.kp C__law_region.b .nil pass0 (pa_cons (pv 1) pa_nil)) (pa_cons (pe_call C__law_region.F (hr.mono (by decide)) (by rfl) C__law_region.mgf C__law_region.kp C__law_region.b .nil pass0 (pa_cons (pv 2) pa_nil)) pa_nil)) (by rfl))
      (pss_cons (ps_set (i := 5) nd rfl (Or.inl rfl) (pe_lst (pa_cons (pe_callTy (Own.call_ownStr O_str.F (hr.mono (by decide)) O_str.at_ O_str.fn O_str.b pass0) (by rfl) zs (by decide +kernel) (pa_cons (pv 3) pa_nil)) (pa_cons (pe_callTy (Own.call_ownStr O_str.F (hr.mono (by decide)) O_str.at_ O_str.fn O_str.b pass0) (by rfl) zs (by decide +kernel) (pa_cons (pv 4) pa_nil)) pa_nil))))
      (pss_cons (ps_for PassesOwn.never rfl (pi_range1 (by rfl) T.range (pa_cons pe_int pa_nil)) (pg_name (i := 6) nd rfl (Or.inl rfl)) (pss_cons (ps_set (i := 7) nd rfl (Or.inl rfl) (pe_call C__law_merged.F (hr.mono (by decide)) (by rfl) C__law_merged.mgf C__law_merged.kp C__law_merged.b .nil pass0 (pa_cons (pv 1) (pa_cons (pv 2) (pa_cons (pe_call C__law_table.F (hr.mono (by decide)) (by rfl) C__law_table.mgf C__law_table.kp C__law_table.b .nil pass0 (pa_cons (pv 6) pa_nil)) pa_nil)))))
      (pss_cons (ps_if (PW.pt (pw_or (pt_not (pt_val (pe_call C__law_is.F (hr.mono (by decide)) (by rfl) C__law_is.mgf C__law_is.kp C__law_is.b .nil pass0 (pa_cons (pe_call C__law_joined.F (hr.mono (by decide)) (by rfl) C__law_joined.mgf C__law_joined.kp C__law_joined.b .nil pass0 (pa_cons (pv 6) (pa_cons (pv 3) (pa_cons (pv 4) pa_nil)))) (pa_cons (pv 7) pa_nil))))) (pw_or1 (pt_not (pt_val (pe_call C__law_is.F (hr.mono (by decide)) (by rfl) C__law_is.mgf C__law_is.kp C__law_is.b .nil pass0 (pa_cons (pe_call C__law_bound.F (hr.mono (by decide)) (by rfl) C__law_bound.mgf C__law_bound.kp C__law_bound.b .nil pass0 (pa_cons (pv 6) (pa_cons (pv 3) (pa_cons (pv 4) pa_nil)))) (pa_cons (pv 7) pa_nil)))))))) (pss_one (ps_ret pe_bl)) pss_nil)
      (pss_cons (ps_set (i := 8) nd rfl (Or.inl rfl) (pe_call C__law_merged.F (hr.mono (by decide)) (by rfl) C__law_merged.mgf C__law_merged.kp C__law_merged.b .nil pass0 (pa_cons (pv 2) (pa_cons (pv 1) (pa_cons (pe_call C__law_table.F (hr.mono (by decide)) (by rfl) C__law_table.mgf C__law_table.kp C__law_table.b .nil pass0 (pa_cons (pv 6) pa_nil)) pa_nil)))))
      (pss_one (ps_if (PW.pt (pw_or (pt_not (pt_val (pe_call C__law_is.F (hr.mono (by decide)) (by rfl) C__law_is.mgf C__law_is.kp C__law_is.b .nil pass0 (pa_cons (pe_call C__law_joined.F (hr.mono (by decide)) (by rfl) C__law_joined.mgf C__law_joined.kp C__law_joined.b .nil pass0 (pa_cons (pv 6) (pa_cons (pv 4) (pa_cons (pv 3) pa_nil)))) (pa_cons (pv 8) pa_nil))))) (pw_or1 (pt_cmpR (op_neD hr.units) (pe_lst (pa_cons (pe_callTy (Own.call_ownStr O_str.F (hr.mono (by decide)) O_str.at_ O_str.fn O_str.b pass0) (by rfl) zs (by decide +kernel) (pa_cons (pv 3) pa_nil)) (pa_cons (pe_callTy (Own.call_ownStr O_str.F (hr.mono (by decide)) O_str.at_ O_str.fn O_str.b pass0) (by rfl) zs (by decide +kernel) (pa_cons (pv 4) pa_nil)) pa_nil))) (pv 5) (nomark _))))) (pss_one (ps_ret pe_bl)) pss_nil))))))
      (pss_cons (ps_set (i := 9) nd rfl (Or.inl rfl) (pe_call C__law_merged.F (hr.mono (by decide)) (by rfl) C__law_merged.mgf C__law_merged.kp C__law_merged.b .nil pass0 (pa_cons (pv 1) (pa_cons (pv 1) (pa_cons (pe_tup (pa_cons pe_bl (pa_cons pe_bl (pa_cons pe_bl (pa_cons pe_bl pa_nil))))) pa_nil)))))
      (pss_cons (ps_if (PW.pt (pw_or (pt_not (pt_val (pe_call C__law_is.F (hr.mono (by decide)) (by rfl) C__law_is.mgf C__law_is.kp C__law_is.b .nil pass0 (pa_cons (pe_un (Own.un_ownInv (k := 44) O_inv.F (hr.mono (by decide)) O_inv.at_ O_inv.fn O_inv.b pass0) (pv 3)) (pa_cons (pv 9) pa_nil))))) (pw_or (pt_cmpR (Own.op_neK (K := K) (k := 45) rfl O_eq.F (hr.mono (by decide)) O_eq.at_ hne hsO O_eq.fn O_eq.b pass0) (pe_un (Own.un_ownInv (k := 44) O_inv.F (hr.mono (by decide)) O_inv.at_ O_inv.fn O_inv.b pass0) (pe_un (Own.un_ownInv (k := 44) O_inv.F (hr.mono (by decide)) O_inv.at_ O_inv.fn O_inv.b pass0) (pv 3))) (pv 3) (nomark _)) (pw_or1 (pt_cmpR op_ne (pe_callTy (Own.call_ownStr O_str.F (hr.mono (by decide)) O_str.at_ O_str.fn O_str.b pass0) (by rfl) zs (by decide +kernel) (pa_cons (pv 3) pa_nil)) (pe_ix ix_list (pv 5) pe_int (fun _ _ => rfl)) (nomark _)))))) (pss_one (ps_ret pe_bl)) pss_nil)
      (pss_cons (ps_set (i := 6) nd rfl (Or.inl rfl) (pe_call C__law_draw.F (hr.mono (by decide)) (by rfl) C__law_draw.mgf C__law_draw.kp C__law_draw.b .nil pass0 (pa_cons (pv 0) (pa_cons pe_int pa_nil))))
      (pss_one (ps_ret (pe_cmpR (Own.op_ownK (K := K) (k := 45) (op := .Eq) rfl O_eq.F (hr.mono (by decide)) O_eq.at_ O_eq.fn O_eq.b pass0) (pe_call C__law_joined.F (hr.mono (by decide)) (by rfl) C__law_joined.mgf C__law_joined.kp C__law_joined.b .nil pass0 (pa_cons (pv 6) (pa_cons (pv 3) (pa_cons (pv 3) pa_nil)))) (pe_ifExp (pt_cmpR op_lt (pv 6) pe_int (nomark _)) (pv 3) (Own.pe_smeth0 T_Region.rd S_Region_none.s S_Region_none.F (hr.mono (by decide)) S_Region_none.b pass0 (Own.pe_gref (by rfl) T_Region.mgC))) (nomark _))))))))), ?_⟩
    have lx : leafs x ≤ 256 := Nat.le_trans (leafs_pow x) (Nat.pow_le_pow_right (n := 2) (by decide) (show deep x ≤ 8 by omega))
    have ly : leafs y ≤ 256 := Nat.le_trans (leafs_pow y) (Nat.pow_le_pow_right (n := 2) (by decide) (show deep y ≤ 8 by omega))
    have ex := deep_least x
    have ey := deep_least y
    have kx := leafs_least x
    have ky := leafs_least y
    refine ⟨_, rfl, u, x, rfl, hx, by omega, by omega, fun a H1 s1 ha => ?_⟩
    refine ⟨_, rfl, v, y, rfl, hy.same s1, by omega, by omega, fun b H2 s2 hb => ⟨_, _, rfl, ?_⟩⟩
    have ha2 := ha.same s2
    obtain ⟨da, ua, ia, _⟩ := id ha2
    refine ⟨_, rfl, a, da, _, rfl, ia, a, _, rfl, ha2, by omega, fun H3 s3 => ⟨⟨_, rfl⟩, ?_⟩⟩
    have hb3 := hb.same s3
    obtain ⟨db, ub, ib, _⟩ := id hb3
    refine ⟨_, rfl, b, db, _, rfl, ib, b, _, rfl, hb3, by omega, fun H4 s4 => ⟨⟨_, rfl⟩, (by decide : 2 ≤ sizeLine), fun lk hlk => ?_⟩⟩
    have s5 := same_new (o := .lst [.str ⟨(wl (least x)).toArray⟩, .str ⟨(wl (least y)).toArray⟩]) hlk
    have hk5 := upd_same (H := H4) (a := lk) (o := .lst [.str ⟨(wl (least x)).toArray⟩, .str ⟨(wl (least y)).toArray⟩])
    have s05 := (((s1.trans s2).trans s3).trans s4).trans s5
    have ha5 := ((ha2.same s3).same s4).same s5
    have hb5 := (hb3.same s4).same s5
    have hx5 := hx.same s05
    have hy5 := hy.same s05
    have P5 := hP.same s05
    generalize upd H4 lk (.lst [.str ⟨(wl (least x)).toArray⟩, .str ⟨(wl (least y)).toArray⟩]) = H5 at *
    have kd : ∀ {H'' : Hp}, Same H5 H'' → Dp K H'' (.ref lk) (.list [.str ⟨(wl (least x)).toArray⟩, .str ⟨(wl (least y)).toArray⟩]) := fun s => .lst (SqL.of (s _ _ hk5)) (.cons (.str _) (.cons (.str _) .nil))
    refine ⟨4, rfl, by decide, by decide, ?_⟩
    refine for_range (lo := 0) (n := 4) (fun i σ H' => ∃ y6 y7 y8 y9, σ = [some (.ref p), some u, some v, some (.ref a), some (.ref b), some (.ref lk), y6, y7, y8, y9] ∧ Same H5 H') ⟨_, _, _, _, rfl, Same.refl _⟩ ?_ ?_
    · rintro i σ K0 hi ⟨y6, y7, y8, y9, rfl, s⟩
      have e0 : (0 + (i : Int)) = (i : Int) := Int.zero_add _
      rw [e0]
      refine ⟨_, rfl, _, rfl, _, rfl, i, rfl, hi, fun tb K1 t1 ht => ?_⟩
      have u1 := s.trans t1
      refine ⟨opT i, x, y, u, v, tb, rfl, hx5.same u1, hy5.same u1, ht, by omega, by omega, fun due K2 t2 hdue => ?_⟩
      have u2 := u1.trans t2
      refine ⟨_, rfl, _, rfl, _, rfl, i, a, b, least x, least y, rfl, hi, ha5.same u2, hb5.same u2, ⟨fun T0 => Nat.le_trans (lc_of (by omega) (by omega) T0) (by decide), by omega, by omega⟩, fun r3 N3 m3 hr3 => ⟨_, rfl, r3, due, merge (opT i) x y, rfl, (by rw [← comb_of_least]; exact hr3), hdue.same m3, (Nat.le_trans (deep_merge _ _) (by omega)), fun N3' m3' => ⟨_, rfl, iteFb rfl ?_⟩⟩⟩
      have u3 := (u2.trans m3).trans m3'
      refine ⟨_, rfl, _, rfl, _, rfl, i, a, b, least x, least y, rfl, hi, ha5.same u3, hb5.same u3, ⟨fun T0 => Nat.le_trans (lc_of (by omega) (by omega) T0) (by decide), by omega, by omega⟩, fun r4 N4 m4 hr4 => ⟨_, rfl, r4, due, merge (opT i) x y, rfl, (by rw [← comb_of_least]; exact hr4), ((hdue.same m3).same m3').same m4, (Nat.le_trans (deep_merge _ _) (by omega)), fun N4' m4' => ⟨_, rfl, iteFb rfl ?_⟩⟩⟩
      have u4 := (u3.trans m4).trans m4'
      refine ⟨_, rfl, _, rfl, _, rfl, i, rfl, hi, fun tb2 K5 t5 ht2 => ?_⟩
      have u5 := u4.trans t5
      refine ⟨opT i, y, x, v, u, tb2, rfl, hy5.same u5, hx5.same u5, ht2, by omega, by omega, fun turned K6 t6 htn => ?_⟩
      have u6 := u5.trans t6
      refine ⟨_, rfl, _, rfl, _, rfl, i, b, a, least y, least x, rfl, hi, hb5.same u6, ha5.same u6, ⟨fun T0 => Nat.le_trans (lc_of (by omega) (by omega) T0) (by decide), by omega, by omega⟩, fun r7 N7 m7 hr7 => ⟨_, rfl, r7, turned, merge (opT i) y x, rfl, (by rw [← comb_of_least]; exact hr7), htn.same m7, (Nat.le_trans (deep_merge _ _) (by omega)), fun N7' m7' => ⟨_, rfl, iteFb rfl ?_⟩⟩⟩
      have u7 := (u6.trans m7).trans m7'
      have ha7 := ha5.same u7
      obtain ⟨da7, ua7, ia7, _⟩ := id ha7
      refine ⟨_, rfl, a, da7, _, rfl, ia7, a, _, rfl, ha7, by omega, fun K8 t8 => ⟨⟨_, rfl⟩, ?_⟩⟩
      have hb8 := (hb5.same u7).same t8
      obtain ⟨db8, ub8, ib8, _⟩ := id hb8
      refine ⟨_, rfl, b, db8, _, rfl, ib8, b, _, rfl, hb8, by omega, fun K9 t9 => ⟨⟨_, rfl⟩, (by decide : 2 ≤ sizeLine), fun l2 hl2 => ?_⟩⟩
      have t10 := same_new (o := .lst [.str ⟨(wl (least x)).toArray⟩, .str ⟨(wl (least y)).toArray⟩]) hl2
      have u10 := ((u7.trans t8).trans t9).trans t10
      refine ⟨_, rfl, _, _, .lst (SqL.of upd_same) (.cons (.str _) (.cons (.str _) .nil)), kd u10, sh2 (strOk_wl _) (strOk_wl _), sh2 (strOk_wl _) (strOk_wl _), ?_⟩
      rw [eq2]
      refine ⟨_, rfl, iteFb rfl ?_⟩
      exact ⟨_, _, _, _, rfl, u10⟩
    · rintro σ K0 ⟨y6, y7, y8, y9, rfl, s⟩
      have dn := deep_not x
      have ya : ∀ {H'' : Hp}, Same H5 H'' → RegAt K CG H'' a (least x) := fun s => ha5.same s
      refine ⟨_, rfl, _, rfl, (by decide : 4 ≤ sizeLine), fun tp htp => ?_⟩
      have t1 := same_new (o := .tup [.bl true, .bl true, .bl true, .bl false]) htp
      have u1 := s.trans t1
      refine ⟨NANf, x, x, u, u, .ref tp, rfl, hx5.same u1, hx5.same u1, ⟨tp, rfl, SqT.of upd_same⟩, by omega, by omega, fun blank K2 t2 hbl => ?_⟩
      have u2 := u1.trans t2
      have lb : leafs (comb LESSf (.leaf EveryL) (least x)) ≤ 256 := lc_of (x := .leaf EveryL) (y := x) (by decide) (by omega) LESSf
      have db : deep (comb LESSf (.leaf EveryL) (least x)) ≤ 4 := by
        rw [inv_least]
        have := deep_least (notT x)
        omega
      obtain ⟨d2', w2', i2, _⟩ := id (ya u2)
      refine ⟨_, rfl, a, d2', _, rfl, i2, a, _, rfl, ya u2, ⟨by omega, by omega⟩, fun r3 K3 t3 hr3 => ?_⟩
      refine ⟨_, rfl, r3, blank, merge NANf x x, rfl, (by rw [merge_nan, ← inv_least]; exact hr3), hbl.same t3, (Nat.le_trans (deep_merge _ _) (by omega)), fun K4 t4 => ⟨_, rfl, iteFb rfl ?_⟩⟩
      have u4 := (u2.trans t3).trans t4
      obtain ⟨d4', w4', i4, _⟩ := id (ya u4)
      refine ⟨_, rfl, a, d4', _, rfl, i4, a, _, rfl, ya u4, ⟨by omega, by omega⟩, fun r5 K5 t5 hr5 => ?_⟩
      obtain ⟨d5', w5', i5, _⟩ := id hr5
      refine ⟨r5, d5', _, rfl, i5, r5, _, rfl, hr5, ⟨by omega, by omega⟩, fun r6 K6 t6 hr6 => ?_⟩
      have u6 := (u4.trans t5).trans t6
      have hr6' : RegAt K CG K6 r6 (least x) := by
        rw [inv_least, inv_least, not_not] at hr6
        exact hr6
      refine ⟨_, rfl, rNe T_Region hr6' (ya u6) ⟨by omega, by omega⟩ fun K7 t7 => ⟨_, rfl, iteFb (by rw [decide_eq_true rfl]; rfl) ?_⟩⟩
      have u7 := u6.trans t7
      obtain ⟨d7', w7', i7, _⟩ := id (ya u7)
      refine ⟨_, rfl, a, d7', _, rfl, i7, a, _, rfl, ya u7, by omega, fun K8 t8 => ⟨⟨_, rfl⟩, ?_⟩⟩
      have u8 := u7.trans t8
      refine ⟨_, rfl, lk, _, _, _, rfl, rfl, SqL.of (u8 _ _ hk5), rfl, rfl, _, rfl, iteFb (by rw [decide_eq_true rfl]; rfl) ?_⟩
      have P8 := P5.same u8
      refine ⟨_, rfl, p, cc, _, k, rfl, P8, by omega, by decide, by decide, fun r K9 r0 r4 P9 B9 => ?_⟩
      obtain ⟨xp, hp⟩ := P8.lst
      have ha9 := (ya u8).butL hp B9
      obtain ⟨n, rfl⟩ : ∃ n : Nat, r = (n : Int) := ⟨r.toNat, by omega⟩
      have n4 : n < 4 := by omega
      refine ⟨_, rfl, _, rfl, _, rfl, n, a, a, least x, least x, rfl, n4, ha9, ha9, ⟨fun T0 => Nat.le_trans (lc_of (by omega) (by omega) T0) (by decide), by omega, by omega⟩, fun r10 K10 t10 hr10 => ?_⟩
      have lt2 : ∀ i j : Int, i < j → decide (i < j) = true := fun i j h => decide_eq_true h
      have P10 := P9.same t10
      refine ⟨_, rfl, _, _, rfl, rfl, _, rfl, ?_⟩
      have fin1 : comb (opT n) (least x) (least x) = least x → Own.rOwnC K CG (spRegEq K CG) E0 (.ref r10) (.ref a) K10 Q := fun e => by
        rw [e] at hr10
        exact rOp T_Region hr10 (ha9.same t10) ⟨r10, a, _, _, rfl, hr10, ha9.same t10, ⟨by omega, by omega⟩, fun K11 t11 => ⟨⟨_, rfl⟩, by rw [decide_eq_true rfl]; exact q K11 (P10.same t11)⟩⟩
      have fin2 : comb (opT n) (least x) (least x) = .leaf NoneL → ∀ r11 K11, Same K10 K11 → RegAt K CG K11 r11 (.leaf NoneL) → Own.rOwnC K CG (spRegEq K CG) E0 (.ref r10) (.ref r11) K11 Q := fun e r11 K11 t11 h11 => by
        rw [e] at hr10
        exact rOp T_Region (hr10.same t11) h11 ⟨r10, r11, _, _, rfl, hr10.same t11, h11, ⟨by decide, by decide⟩, fun K12 t12 => ⟨⟨_, rfl⟩, by rw [decide_eq_true rfl]; exact q K12 ((P10.same t11).same t12)⟩⟩
      rcases way4 n4 with rfl | rfl | rfl | rfl
      · exact ite2 (fun _ => ⟨_, rfl, fin1 (by rw [comb_of_least, merge_id (fun a => by cases a <;> rfl)])⟩) (fun h => absurd (by decide) h)
      · exact ite2 (fun _ => ⟨_, rfl, fin1 (by rw [comb_of_least, merge_id (fun a => by cases a <;> rfl)])⟩) (fun h => absurd (by decide) h)
      · exact ite2 (fun h => absurd h (by decide)) (fun _ => ⟨rfl, rfl, fun r11 K11 t11 h11 => fin2 (by rw [comb_of_least]; exact merge_no (fun a => by cases a <;> rfl) x) r11 K11 t11 h11⟩)
      · exact ite2 (fun h => absurd h (by decide)) (fun _ => ⟨rfl, rfl, fun r11 K11 t11 h11 => fin2 (by rw [comb_of_least]; exact merge_no (fun a => by cases a <;> rfl) x) r11 K11 t11 h11⟩)
end
end Toy
set_option maxRecDepth 100000
set_option maxHeartbeats 4000000
namespace Toy
open PySem L2 Tre
section
variable {P : Program} {w : World} {K : PySem.W.Frag} {mg : Str → Option Value} {base : Heap} {C CG CR : Addr}
def spLaw (K : PySem.W.Frag) : Sp := fun vs H Q _ => ∃ (a : Addr) (ns : List Int), vs = [.ref a] ∧ SqL K H a (ns.map V.int) ∧ ns.length ≤ 63 ∧ ∀ H', Q (.bl true) H'
abbrev sLaw : Stmt := top 71
theorem scLaw : FnScope ["_law_script", "_law_pen_here", "_law_turn", "_law_mine"] ["_law_script"] (defScope sLaw) := ⟨rfl, rfl, rfl, by decide +kernel, rfl, by decide +kernel, by decide +kernel⟩
theorem ok_law {f f1 f2 f3 f4 p5 f5 p6 f6 p7 f7 f8 f9 g1 g2 g3 g4 : Addr} {fd fd1 fd2 fd3 fd4 fd5 fd6 fd7 fd8 fd9 gd1 gd2 gd3 gd4 : FuncData} (F : Fun K "law" "law" sLaw f fd) (T : Bl mg) (T_Region : RegT K mg CG)
    (C__law_pen : Cal P w K mg base 1 "_law_pen" f1 fd1 ["_law_script"] (spPen K)) (C__law_tree : Cal P w K mg base 7 "_law_tree" f2 fd2 ["_law_pen_here", "_law_deep"] (spLTree K 4)) (C__law_other : Cal P w K mg base 8 "_law_other" f3 fd3 ["_law_pen_here", "_law_tree_here"] (spOth K)) (C__law_right : Cal P w K mg base 47 "_law_right" f4 fd4 ["_law_pen_here", "_law_mine", "_law_its"] (spRt K))
    (S_Region_none : Sta P w K mg base 5 CG "none" p5 f5 fd5 [] (spRegC K CG NoneL)) (S_Region_every : Sta P w K mg base 5 CG "every" p6 f6 fd6 [] (spRegC K CG EveryL)) (S_Region_rational : Sta P w K mg base 5 CG "rational" p7 f7 fd7 [] (spRegC K CG RatnL))
    (O_inv : Opr P w K mg base 44 CG "__invert__" f8 fd8 ["self"] (spRegN K CG)) (O_eq : Opr P w K mg base 45 CG "__eq__" f9 fd9 ["self", "other"] (spRegEq K CG)) (W : RegW P w K mg base CG g1 g2 g3 g4 gd1 gd2 gd3 gd4) : FnOk P w K mg base CX0 48 f fd ["_law_script"] (spLaw K) := by
  refine F.ok scLaw (fun vs H Q E h => ?_) (fun cdv A outer s H vs Q E hr h => ?_)
  · obtain ⟨a, ns, rfl, _⟩ := h
    rfl
  · obtain ⟨a, ns, rfl, hS, hl, kq⟩ := h
    have nd := scLaw.nd
    refine ⟨_, pss_cons (ps_set (i := 1) nd rfl (Or.inl rfl) (pe_call C__law_pen.F (hr.mono (by decide)) (by rfl) C__law_pen.mgf C__law_pen.kp C__law_pen.b .nil pass0 (pa_cons (pv 0) pa_nil)))
      (pss_cons (ps_for PassesOwn.never rfl (pi_range1 (by rfl) T.range (pa_cons pe_int pa_nil)) (pg_name (i := 2) nd rfl (Or.inl rfl)) (pss_cons (ps_set (i := 3) nd rfl (Or.inl rfl) (pe_call C__law_tree.F (hr.mono (by decide)) (by rfl) C__law_tree.mgf C__law_tree.kp C__law_tree.b .nil pass0 (pa_cons (pv 1) (pa_cons pe_int pa_nil))))
      (pss_one (ps_if (pt_not (pt_val (pe_call C__law_right.F (hr.mono (by decide)) (by rfl) C__law_right.mgf C__law_right.kp C__law_right.b .nil pass0 (pa_cons (pv 1) (pa_cons (pv 3) (pa_cons (pe_call C__law_other.F (hr.mono (by decide)) (by rfl) C__law_other.mgf C__law_other.kp C__law_other.b .nil pass0 (pa_cons (pv 1) (pa_cons (pv 3) pa_nil))) pa_nil)))))) (pss_one (ps_ret pe_bl)) pss_nil))))
      (pss_one (ps_ret (pe_and (pe_cmpR (Own.op_ownK (K := K) (k := 45) (op := .Eq) rfl O_eq.F (hr.mono (by decide)) O_eq.at_ O_eq.fn O_eq.b pass0) (pe_op (op_B W.bS W.sub.F (hr.mono (by decide)) W.sub.at_ W.sub.fn W.sub.b pass0) (Own.pe_smeth0 T_Region.rd S_Region_every.s S_Region_every.F (hr.mono (by decide)) S_Region_every.b pass0 (Own.pe_gref (by rfl) T_Region.mgC)) (Own.pe_smeth0 T_Region.rd S_Region_rational.s S_Region_rational.F (hr.mono (by decide)) S_Region_rational.b pass0 (Own.pe_gref (by rfl) T_Region.mgC))) (pe_un (Own.un_ownInv (k := 44) O_inv.F (hr.mono (by decide)) O_inv.at_ O_inv.fn O_inv.b pass0) (Own.pe_smeth0 T_Region.rd S_Region_rational.s S_Region_rational.F (hr.mono (by decide)) S_Region_rational.b pass0 (Own.pe_gref (by rfl) T_Region.mgC))) (nomark _)) (pe_one (pe_cmpR (Own.op_ownK (K := K) (k := 45) (op := .Eq) rfl O_eq.F (hr.mono (by decide)) O_eq.at_ O_eq.fn O_eq.b pass0) (pe_op (op_B W.bX W.xor.F (hr.mono (by decide)) W.xor.at_ W.xor.fn W.xor.b pass0) (Own.pe_smeth0 T_Region.rd S_Region_none.s S_Region_none.F (hr.mono (by decide)) S_Region_none.b pass0 (Own.pe_gref (by rfl) T_Region.mgC)) (Own.pe_smeth0 T_Region.rd S_Region_every.s S_Region_every.F (hr.mono (by decide)) S_Region_every.b pass0 (Own.pe_gref (by rfl) T_Region.mgC))) (pe_un (Own.un_ownInv (k := 44) O_inv.F (hr.mono (by decide)) O_inv.at_ O_inv.fn O_inv.b pass0) (Own.pe_smeth0 T_Region.rd S_Region_none.s S_Region_none.F (hr.mono (by decide)) S_Region_none.b pass0 (Own.pe_gref (by rfl) T_Region.mgC))) (nomark _))))))), ?_⟩
    refine ⟨_, rfl, a, ns, rfl, hS, hl, fun p cc H0 s0 hp0 hP0 => ?_⟩
    refine ⟨4, rfl, by decide, by decide, ?_⟩
    refine for_range (lo := 0) (n := 4) (fun i σ H' => ∃ v2 v3, σ = [some (.ref a), some (.ref p), v2, v3] ∧ Pen H' p cc (1000 * i)) ⟨_, _, rfl, hP0⟩ ?_ ?_
    · rintro i σ H1 hi ⟨v2, v3, rfl, P1⟩
      refine ⟨_, rfl, p, cc, _, 3, rfl, P1, (by show 1000 * i + 70 ≤ 800000; omega), by decide, fun t1 z1 H2 P2 B2 ht1 d1 l1 => ?_⟩
      have P2' : Pen H2 p cc (1000 * i + 70) := P2
      clear P2
      refine ⟨_, rfl, _, rfl, _, rfl, _, rfl, p, cc, _, t1, z1, rfl, P2', ht1, d1, by omega, fun t2 z2 H3 P3 B3 ht2 d2 => ?_⟩
      obtain ⟨xp2, hp2⟩ := P2'.lst
      have ht13 := ht1.but hp2 B3
      refine ⟨p, cc, _, t1, t2, z1, z2, rfl, P3, ht13, ht2, ⟨by omega, by omega⟩, by omega, fun H4 P4 => ⟨_, rfl, iteFb rfl ?_⟩⟩
      exact ⟨_, _, rfl, P4.mono (by omega)⟩
    · rintro σ H1 ⟨v2, v3, rfl, P1⟩
      refine ⟨rfl, rfl, fun x1 H2 s2 h1 => ⟨rfl, rfl, fun x2 H3 s3 h2 => ?_⟩⟩
      refine rBin (h1.same s3) h2 ⟨x1, x2, _, _, rfl, h1.same s3, h2, ⟨by decide, by decide, by decide⟩, fun x3 H4 s4 h3 => ?_⟩
      refine ⟨rfl, rfl, fun x4 H5 s5 h4 => ?_⟩
      obtain ⟨d4, w4, i4, _⟩ := id h4
      refine ⟨x4, d4, _, rfl, i4, x4, _, rfl, h4, ⟨by decide, by decide⟩, fun x5 H6 s6 h5 => ?_⟩
      have h3' := (h3.same s5).same s6
      refine rOp T_Region h3' h5 ⟨x3, x5, _, _, rfl, h3', h5, ⟨by decide, by decide⟩, fun H7 s7 => ⟨⟨_, rfl⟩, _, rfl, ite2 (fun _ => ?_) (fun h => absurd (by decide) h)⟩⟩
      refine ⟨rfl, rfl, fun y1 H8 s8 g1 => ⟨rfl, rfl, fun y2 H9 s9 g2 => ?_⟩⟩
      refine rBin (g1.same s9) g2 ⟨y1, y2, _, _, rfl, g1.same s9, g2, ⟨by decide, by decide, by decide⟩, fun y3 H10 s10 g3 => ?_⟩
      refine ⟨rfl, rfl, fun y4 H11 s11 g4 => ?_⟩
      obtain ⟨e4, w5, j4, _⟩ := id g4
      refine ⟨y4, e4, _, rfl, j4, y4, _, rfl, g4, ⟨by decide, by decide⟩, fun y5 H12 s12 g5 => ?_⟩
      have g3' := (g3.same s11).same s12
      refine rOp T_Region g3' g5 ⟨y3, y5, _, _, rfl, g3', g5, ⟨by decide, by decide⟩, fun H13 s13 => ⟨⟨_, rfl⟩, ?_⟩⟩
      have e : decide (comb UNLf (.leaf NoneL) (.leaf EveryL) = comb LESSf (.leaf EveryL) (.leaf NoneL)) = true := by decide
      rw [e]
      exact kq _
end
end Toy
set_option maxRecDepth 100000
set_option maxHeartbeats 4000000
namespace Own
open PySem PySem.Spec PyProof.Rows L2
open LamX (TabB)
section
variable {P : Program} {w : World} {K : PySem.W.Frag} {a : Addr} {cs : List (Addr × Addr)} {h : Heap} {vs : List Value} {ns : List Int} {H : Hp}
theorem Ent.none (T : Ent P w K a cs h ns H) (ha : h.get? a = some { cls := .type "list", data := .seq vs.toArray }) {b : Addr} {o : Obj} (e : h.get? b = some o) (h1 : ∀ vs n, o.data ≠ .seq vs n) (h2 : o.data ≠ .fields #[]) : H b = none := by
  cases q : H b with
  | none => rfl
  | some u =>
    rcases T.only b u q with ⟨rfl, _⟩ | ⟨_, _, _, rfl⟩
    · have z : h.get? b = some { cls := .none, data := .fields #[] } := T.ok b _ q
      rw [e] at z
      cases z
      exact absurd rfl h2
    · rw [ha] at e
      cases e
      exact absurd rfl (h1 _ _)
theorem Ent.dict (T : Ent P w K a cs h ns H) (ha : h.get? a = some { cls := .type "list", data := .seq vs.toArray }) {b : Addr} {o : Obj} {es : Array DictEntry} {n : Nat} (e : h.get? b = some o) (d : o.data = .dict es n) : H b = .none := T.none ha e (fun vs n z => nomatch d.symm.trans z) fun z => nomatch d.symm.trans z
theorem Ent.nsp (T : Ent P w K a cs h ns H) (ha : h.get? a = some { cls := .type "list", data := .seq vs.toArray }) {b : Addr} {m : Str → Option Value} (x : h.Ns b m) : (hidT h H).Ns b m := by
  obtain ⟨o, es, n, e, d, r⟩ := x
  exact ⟨o, es, n, hidT_get e (T.dict ha e d), d, r⟩
theorem Ent.kin (T : Ent P w K a cs h ns H) (KX : K.In h) : K.In (hidT h H) := fun b o e => hidT_get (KX b o e) (by
  cases q : H b with
  | none => rfl
  | some u => rw [T.out b u q] at e; cases e)
theorem Ent.tabB (T : Ent P w K a cs h ns H) (ha : h.get? a = some { cls := .type "list", data := .seq vs.toArray }) {mg : Str → Option Value} (hg : h.Ns mainGlobals mg) {c p : Addr} (hP : h.get? p = some { cls := .none, data := .fields #[] }) (C : PySem.W.CodeHd h c p)
    (hbm : ∃ (bm : Addr) (ob : Obj), mg "__builtins__" = some (.ref bm) ∧ bm ≠ builtinsNs ∧ h.get? bm = some ob ∧ ob.cls = .type "module" ∧ ob.dict = some builtinsNs ∧ ob.data = .plain) : TabB (hidT h H) mg c p := by
  obtain ⟨og, es, n, eg, dg, _⟩ := hg
  refine ⟨?_, ?_, fun z => ?_⟩
  · obtain ⟨o, us, file, tf, flags, tg, inF, text, tt, e, r1, r2, r3, r⟩ := C
    refine ⟨o, us, file, tf, flags, tg, inF, text, tt, hidT_get e (T.none ha e (fun _ _ z => nomatch r2.symm.trans z) fun z => ?_), r1, r2, r3, r⟩
    have z2 := r2.symm.trans z
    cases z2
    simp at r3
  · obtain ⟨bm, ob, b1, b2, b3, b4, b5, b6⟩ := hbm
    refine ⟨bm, ob, b1, b2, fun z => ?_, fun z => ?_, hidT_get b3 (T.none ha b3 (fun _ _ z => nomatch b6.symm.trans z) fun z => nomatch b6.symm.trans z), b4, b5, b6⟩
    · rw [z, eg] at b3
      cases b3
      exact nomatch dg.symm.trans b6
    · rw [z, hP] at b3
      cases b3
      exact nomatch b6
  · rw [z, hP] at eg
    cases eg
    exact nomatch dg
/-- from the law's promise, at the heap behind the top -/
theorem law_callG {mg mb : Str → Option Value} {k : Nat} {fa : Addr} {fd : FuncData} {x : Str} {sp : Sp} {s : Shared} (KX : K.In s.heap) (hg : s.heap.Ns mainGlobals mg) (hb : s.heap.Ns builtinsNs mb) (hbb : ∀ x : Str, x ≠ "__name__" → mb x = bootBuiltins x) (hlim : s.heap.NoLimit)
    (hgn : s.gens = #[]) (hT : ∀ p ∈ cs, s.heap.get? p.2 = some { cls := .none, data := .fields #[] }) (nT : ∀ p ∈ cs, K.lookup p.2 = none) (C : ∀ p ∈ cs, PySem.W.CodeHd s.heap p.1 p.2)
    (hbm : ∃ (bm : Addr) (ob : Obj), mg "__builtins__" = some (.ref bm) ∧ bm ≠ builtinsNs ∧ s.heap.get? bm = some ob ∧ ob.cls = .type "module" ∧ ob.dict = some builtinsNs ∧ ob.data = .plain)
    (ha : s.heap.get? a = some { cls := .type "list", data := .seq vs.toArray }) (hi : IntsAre vs ns) (hl : ns.length ≤ sizeLine) (hr : Room k callerA)
    (F : ∀ base : Heap, K.In base → base.Ns mainGlobals mg → (∀ p ∈ cs, TabB base mg p.1 p.2) → FnG P w K mg base CX0 k fa fd [x] sp) (hbind : ∀ (s : Shared) (u : Value), BindsTo s fd ⟨[u], []⟩ [(x, u)])
    (hsp : ∀ H : Hp, (∀ p ∈ cs, H p.2 = some (.tbl #[])) → SqL K H a (ns.map V.int) → sp [.ref a] H (fun v _ => v = .bl true) fun _ _ _ => False) :
    codeAny (model P w) callerA (.call (.ref fa) ⟨[.ref a], []⟩) (fun r s' => r = .ok (.ret (.bool true)) ∧ OldK s.heap s'.heap ∧ s'.os = s.os ∧ AllBare s'.gens) s := by
  obtain ⟨H, T⟩ := ent (P := P) (w := w) KX hT nT ha hi hl
  have KB := T.kin KX
  have GB := T.nsp ha hg
  have TB : ∀ p ∈ cs, TabB (hidT s.heap H) mg p.1 p.2 := fun p hp => T.tabB ha hg (hT p hp) (C p hp) hbm
  have M : L2.Mod K mg (hidT s.heap H) := ⟨KB, GB, ⟨mb, T.nsp ha hb, hbb⟩, by obtain ⟨mc, q1, q2⟩ := hlim; exact ⟨mc, T.nsp ha q1, q2⟩⟩
  have e0 : Env0 P w K mg (hidT s.heap H) callerA [] s H := { frames := rfl, mod := M, bs := fun b o e => of_hidT e, bsz := Nat.le_of_eq (hidT_size _ _), funs := trivial, frf := fun b m => absurd (show b ∈ ([] : List Addr) from m) List.not_mem_nil, hok := T.ok, bare := .of_eq hgn }
  refine codeAny_mono ((F _ KB GB TB).run callerA [] s H ⟨[.ref a], []⟩ [.ref a] [.ref a] _ _ rfl hr e0 (hbind s (.ref a)) (.cons rfl .nil) (hsp H T.tab T.scr)) fun r s' q => ?_
  match r, q with
  | .error e, q => exact False.elim q
  | .ok .next, q => exact False.elim q
  | .ok .brk, q => exact False.elim q
  | .ok .cont, q => exact False.elim q
  | .ok (.ret u), q =>
    obtain ⟨v, H', os, bare, un, ok', rv, qv⟩ := q
    obtain rfl : v = .bl true := qv
    obtain rfl : u = Value.bool true := rv
    have old : ∀ b o, s.heap.get? b = some o → (s'.heap.get? b = some o ∧ b ∉ cs.map (·.2)) ∨ (∃ p ∈ cs, p.2 = b ∧ o = { cls := .none, data := .fields #[] } ∧ ∃ more : Array Value, s'.heap.get? b = some { cls := .none, data := .fields more }) := fun b o e => by
      by_cases m : b ∈ cs.map (·.2)
      · obtain ⟨p, hp, rfl⟩ := List.mem_map.mp m
        obtain ⟨more, z⟩ := un.tbls p.2 #[] (T.tab p hp)
        rw [hT p hp] at e
        cases e
        exact .inr ⟨p, hp, rfl, rfl, _, ok' p.2 _ z⟩
      · refine .inl ⟨?_, m⟩
        cases q : H b with
        | none => exact un.keep b o e q (fun z => nomatch (show b ∈ ([] : List Addr) from z)) (fun z => nomatch (show b ∈ ([] : List Addr) from z))
        | some u =>
          rcases T.only b u q with ⟨_, m2⟩ | ⟨xs, ob, rfl, rfl⟩
          · exact absurd m2 m
          · have z1 := (T.ok _ _ q).1
            have z2 := (ok' _ _ (un.frzs _ ob _ q)).1
            rw [e] at z1
            cases z1
            exact z2
    refine ⟨rfl, ⟨fun b o e => ?_, fun b o e => ?_⟩, os, bare⟩
    · rcases old b o e with ⟨z, _⟩ | ⟨p, hp, rfl, rfl, more, z⟩
      · exact .inl z
      · exact .inr (.inl ⟨((C p hp).tab (hT p hp)).isCodeTable, rfl, #[], more, rfl, by rw [Array.empty_append]; exact z⟩)
    · rcases old b o e with ⟨z, _⟩ | ⟨p, hp, rfl, rfl, more, z⟩
      · exact ⟨_, z⟩
      · exact ⟨_, z⟩
end
/-- what is known of the law at the head's heap h; tabs: code objects and tables of the defs that make lambdas -/
structure LawG (l : PySem.W.OpenLaw) (w : World) (K : PySem.W.Frag) (k n : Nat) (x : Str) (mg : Str → Option Value) (fa : Addr) (h : Heap) (tabs : List (Addr × Addr)) : Prop where
  at_ : ∀ p ∈ tabs, PySem.W.CodeHd h p.1 p.2 ∧ h.get? p.2 = some (PySem.W.tabObj #[])
  out : ∀ p ∈ tabs, K.lookup p.2 = none
  pr : ∃ (fd : FuncData) (sp : Sp), (∀ (s : Shared) (u : Value), BindsTo s fd ⟨[u], []⟩ [(x, u)]) ∧
    (∀ (H : Hp) (a : Addr) (ns : List Int), ns.length ≤ n → (∀ p ∈ tabs, H p.2 = some (.tbl #[])) → SqL K H a (ns.map V.int) → sp [.ref a] H (fun v _ => v = .bl true) fun _ _ _ => False) ∧
    ∀ base : Heap, K.In base → base.Ns mainGlobals mg → (∀ p ∈ tabs, TabB base mg p.1 p.2) → FnG l.prog w K mg base CX0 k fa fd [x] sp
theorem walk_ofG {l : PySem.W.OpenLaw} {n k : Nat} {q : Program} {loose : List Str} {XP : (Str → Option Value) → Heap → Prop} {YP : World → Heap → Prop} {d : DefRec} {K : Params → PySem.W.Frag} {x : Str}
    (hn : l.most = some n) (hn2 : n ≤ sizeLine) (hdf : d.params.defaults = []) (hr : Room k callerA) (hY : ∀ (w : World) (h : Heap), YP w h → (K w.params).In h)
    (F : ∀ (w : World) (mg : Str → Option Value) (fa : Addr) (h : Heap), YP w h → (K w.params).In h → h.Ns mainGlobals mg → mg d.name = some (.ref fa) → ∃ tabs, LawG l w (K w.params) k n x mg fa h tabs) :
    PySem.W.WalkO q loose XP YP l.row.toRowW d [] (fun f vs => PySem.call f vs) := by
  refine Att.attach_call hn hdf fun w s₀ s₁ mg mb fa o pm cd doc a vs ns G Y ho hd hcd hmg hobj hints hlen hg => ?_
  have KX := hY w _ Y
  obtain ⟨tabs, L⟩ := F w mg fa _ Y KX G.T.g hmg
  obtain ⟨fd, sp, hb, hsp, hF⟩ := L.pr
  exact law_callG KX G.T.g G.T.b G.T.builtins G.T.nolimit hg (fun p hp => (L.at_ p hp).2) L.out (fun p hp => (L.at_ p hp).1) G.T.bmain hobj hints (Nat.le_trans hlen hn2) hr hF hb fun H h1 h2 => hsp H a ns hlen h1 h2
end Own
set_option maxRecDepth 100000
set_option maxHeartbeats 4000000
namespace Hz
open PySem PySem.W PySem.Calls PyProof.Rows He L2
/-! ### the end -/
theorem walk {l : OpenLaw} {n k : Nat} {q : Program} {loose : List Str} {XP : (Str → Option Value) → Heap → Prop} {YP : World → Heap → Prop} {d : DefRec} {x : Str}
    (hn : l.most = some n) (hn2 : n ≤ sizeLine) (hdf : d.params.defaults = []) (hr : Room k callerA)
    (F : ∀ (w : World) (mg : Str → Option Value) (fa : Addr) (h : Heap), YP w h → h.Ns mainGlobals mg → mg d.name = some (.ref fa) → ∃ K : Frag, K.In h ∧ ∃ tabs, Own.LawG l w K k n x mg fa h tabs) :
    WalkO q loose XP YP l.row.toRowW d [] (fun f vs => PySem.call f vs) := by
  refine Att.attach_call hn hdf fun w s₀ s₁ mg mb fa o pm cd doc a vs ns G Y ho hd hcd hmg hobj hints hlen hg => ?_
  obtain ⟨K, KX, tabs, L⟩ := F w mg fa _ Y G.T.g hmg
  obtain ⟨fd, sp, hb, hsp, hF⟩ := L.pr
  exact Own.law_callG KX G.T.g G.T.b G.T.builtins G.T.nolimit hg (fun p hp => (L.at_ p hp).2) L.out (fun p hp => (L.at_ p hp).1) G.T.bmain hobj hints (Nat.le_trans hlen hn2) hr hF hb fun H h1 h2 => hsp H a ns hlen h1 h2
end Hz
set_option maxRecDepth 100000
set_option maxHeartbeats 4000000
namespace Toy
open PySem L2
/-! ### the end -/
open Tre
theorem FnOk.toG {P : Program} {w : World} {K : PySem.W.Frag} {mg : Str → Option Value} {base : Heap} {CX : CXT} {k : Nat} {f : Addr} {fd : FuncData} {ps : List Str} {sp : Sp} (F : FnOk P w K mg base CX k f fd ps sp) : Own.FnG P w K mg base CX k f fd ps sp := ⟨F.len, fun A outer s H args us vs Q E _ hr => F.run A outer s H args us vs Q E hr⟩
theorem all_mk {l : PySem.W.OpenLaw} {w : World} {K : PySem.W.Frag} {h : Heap} {mg : Str → Option Value} {fa : Addr} (X : K.In h) (G : h.Ns mainGlobals mg) (hfa : mg "law" = some (.ref fa)) (c : Hz.Says zfs zds ztf h K) :
    ∃ tabs, Own.LawG l w K 48 63 "_law_script" mg fa h tabs := by
  have aCR : PySem.W.nsIn K mainGlobals "Ratio" = some (some (.ref (zCR K))) := Hz.bO_ok (c.fact 0)
  have pgCR : PySem.W.plainGet K (zCR K) Str.empty = true := c.fact 1
  have hdCR : PySem.W.hasDictIn K (zCR K) = true := c.fact 2
  have poCR : PySem.W.plainOver K (zCR K) = true := c.fact 3
  have saCR : PySem.W.findIn K (.ref (zCR K)) "__setattr__" = some (some (.builtin "object.__setattr__")) := Hz.bO_ok (c.fact 4)
  have rdCR : PySem.W.readsIn K (zCR K) (.type "type") = true := c.fact 5
  have gaCR : PySem.W.specialIn K (.ref (zCR K)) "__getattribute__" = some (some (.builtin "type.__getattribute__")) := Hz.bO_ok (c.fact 6)
  have caCR : PySem.W.findIn K (.ref (zCR K)) "__class__" = some (some (.builtin "object.__class__")) := Hz.bO_ok (c.fact 7)
  have cmCR : PySem.W.mroIn K (zCR K) (.type "object") = some true := Hz.bB_ok (c.fact 8)
  have sICR : PySem.W.subIn K (.ref (zCR K)) (.type "int") = some false := Hz.bB_ok (c.fact 9)
  have nICR : PySem.W.notFirst K (zCR K) (.type "int") = true := c.fact 10
  have nCCR : PySem.W.notFirst K (zCR K) (.ref (zCR K)) = true := c.fact 11
  have kICR : PySem.W.kitOne K (.ref (zCR K)) (.type "int") = some false := Hz.bB_ok (c.fact 12)
  have kBCR : PySem.W.kitOne K (.ref (zCR K)) (.type "bool") = some false := Hz.bB_ok (c.fact 13)
  have iKCR : PySem.W.kitOne K (.type "int") (.ref (zCR K)) = some false := Hz.bB_ok (c.fact 14)
  have kSCR : PySem.W.kitOne K (.ref (zCR K)) (.ref (zCR K)) = some true := Hz.bB_ok (c.fact 15)
  have n_topCR : PySem.W.findIn K (.ref (zCR K)) "top" = some none := Hz.bO_ok (c.fact 16)
  have n_bottomCR : PySem.W.findIn K (.ref (zCR K)) "bottom" = some none := Hz.bO_ok (c.fact 17)
  have mkCR : PySem.W.makesIn K (zCR K) = true := c.fact 18
  have kcCR : PySem.W.keepIn K (.ref (zCR K)) = true := c.fact 19
  have aCG : PySem.W.nsIn K mainGlobals "Region" = some (some (.ref (zCG K))) := Hz.bO_ok (c.fact 20)
  have pgCG : PySem.W.plainGet K (zCG K) Str.empty = true := c.fact 21
  have hdCG : PySem.W.hasDictIn K (zCG K) = true := c.fact 22
  have poCG : PySem.W.plainOver K (zCG K) = true := c.fact 23
  have saCG : PySem.W.findIn K (.ref (zCG K)) "__setattr__" = some (some (.builtin "object.__setattr__")) := Hz.bO_ok (c.fact 24)
  have rdCG : PySem.W.readsIn K (zCG K) (.type "type") = true := c.fact 25
  have gaCG : PySem.W.specialIn K (.ref (zCG K)) "__getattribute__" = some (some (.builtin "type.__getattribute__")) := Hz.bO_ok (c.fact 26)
  have caCG : PySem.W.findIn K (.ref (zCG K)) "__class__" = some (some (.builtin "object.__class__")) := Hz.bO_ok (c.fact 27)
  have cmCG : PySem.W.mroIn K (zCG K) (.type "object") = some true := Hz.bB_ok (c.fact 28)
  have sICG : PySem.W.subIn K (.ref (zCG K)) (.type "int") = some false := Hz.bB_ok (c.fact 29)
  have nICG : PySem.W.notFirst K (zCG K) (.type "int") = true := c.fact 30
  have nCCG : PySem.W.notFirst K (zCG K) (.ref (zCG K)) = true := c.fact 31
  have kICG : PySem.W.kitOne K (.ref (zCG K)) (.type "int") = some false := Hz.bB_ok (c.fact 32)
  have kBCG : PySem.W.kitOne K (.ref (zCG K)) (.type "bool") = some false := Hz.bB_ok (c.fact 33)
  have iKCG : PySem.W.kitOne K (.type "int") (.ref (zCG K)) = some false := Hz.bB_ok (c.fact 34)
  have kSCG : PySem.W.kitOne K (.ref (zCG K)) (.ref (zCG K)) = some true := Hz.bB_ok (c.fact 35)
  have n__treeCG : PySem.W.findIn K (.ref (zCG K)) "_tree" = some none := Hz.bO_ok (c.fact 36)
  have cLv : Hz.bC K (zCG K) "LEVELS" (V.int 200) = true := c.fact 37
  have cMo : Hz.bC K (zCG K) "MOST" (V.int 2000) = true := c.fact 38
  have mkCG : PySem.W.makesIn K (zCG K) = true := c.fact 39
  have kcCG : PySem.W.keepIn K (.ref (zCG K)) = true := c.fact 40
  have cn : PySem.W.specialIn K (.builtin "object.__class__") "__get__" = some (some (.builtin "getset_descriptor.__get__")) := Hz.bO_ok (c.fact 41)
  have ct : PySem.W.takesIn K (.builtin "object.__class__") = some true := Hz.bB_ok (c.fact 42)
  have z_int : PySem.W.nsIn K mainGlobals "int" = some none := Hz.bO_ok (c.fact 43)
  have z_len : PySem.W.nsIn K mainGlobals "len" = some none := Hz.bO_ok (c.fact 44)
  have z_abs : PySem.W.nsIn K mainGlobals "abs" = some none := Hz.bO_ok (c.fact 45)
  have z_list : PySem.W.nsIn K mainGlobals "list" = some none := Hz.bO_ok (c.fact 46)
  have z_range : PySem.W.nsIn K mainGlobals "range" = some none := Hz.bO_ok (c.fact 47)
  have z_isinstance : PySem.W.nsIn K mainGlobals "isinstance" = some none := Hz.bO_ok (c.fact 48)
  have z_bool : PySem.W.nsIn K mainGlobals "bool" = some none := Hz.bO_ok (c.fact 49)
  have z_str : PySem.W.nsIn K mainGlobals "str" = some none := Hz.bO_ok (c.fact 50)
  have z_zip : PySem.W.nsIn K mainGlobals "zip" = some none := Hz.bO_ok (c.fact 51)
  have z_tuple : PySem.W.nsIn K mainGlobals "tuple" = some none := Hz.bO_ok (c.fact 52)
  have z_gcd : PySem.W.nsIn K mainGlobals "gcd" = some (some (.builtin "math.gcd")) := Hz.bO_ok (c.fact 53)
  have hneG : PySem.W.findIn K (.ref (zCG K)) "__ne__" = some (some (.builtin "object.__ne__")) := Hz.bO_ok (c.fact 54)
  have hOG : PySem.W.subIn K (.ref (zCG K)) (.type "object") = some true := Hz.bB_ok (c.fact 55)
  have sfG : PySem.W.selfFirst K (zCG K) = true := c.fact 56
  have sIG : PySem.W.subIn K (.type "int") (.ref (zCG K)) = some false := Hz.bB_ok (c.fact 57)
  have rrBitAnd : PySem.W.findIn K (.ref (zCG K)) "__rand__" = some none := Hz.bO_ok (c.fact 58)
  obtain ⟨o1gBitAnd, iaBitAnd⟩ := Hz.bS_ok (c.fact 59)
  obtain ⟨o2gBitAnd, ibBitAnd⟩ := Hz.bS_ok (c.fact 60)
  have niBitAnd : Hz.nI K (zCG K) (dunderI "and") = true := c.fact 61
  have rrBitOr : PySem.W.findIn K (.ref (zCG K)) "__ror__" = some none := Hz.bO_ok (c.fact 62)
  obtain ⟨o1gBitOr, iaBitOr⟩ := Hz.bS_ok (c.fact 63)
  obtain ⟨o2gBitOr, ibBitOr⟩ := Hz.bS_ok (c.fact 64)
  have niBitOr : Hz.nI K (zCG K) (dunderI "or") = true := c.fact 65
  have rrSub : PySem.W.findIn K (.ref (zCG K)) "__rsub__" = some none := Hz.bO_ok (c.fact 66)
  obtain ⟨o1gSub, iaSub⟩ := Hz.bS_ok (c.fact 67)
  obtain ⟨o2gSub, ibSub⟩ := Hz.bS_ok (c.fact 68)
  have niSub : Hz.nI K (zCG K) (dunderI "sub") = true := c.fact 69
  have rrBitXor : PySem.W.findIn K (.ref (zCG K)) "__rxor__" = some none := Hz.bO_ok (c.fact 70)
  obtain ⟨o1gBitXor, iaBitXor⟩ := Hz.bS_ok (c.fact 71)
  obtain ⟨o2gBitXor, ibBitXor⟩ := Hz.bS_ok (c.fact 72)
  have niBitXor : Hz.nI K (zCG K) (dunderI "xor") = true := c.fact 73
  have t_NONE : Hz.bT K (zgvNONE K) [V.bl false, V.bl false, V.bl false, V.bl false, V.bl false] = true := c.fact 74
  have t_EVERY : Hz.bT K (zgvEVERY K) [V.bl true, V.bl true, V.bl true, V.bl true, V.bl true] = true := c.fact 75
  have t_LESS : Hz.bT K (zgvLESS K) [V.bl false, V.bl false, V.bl true, V.bl false] = true := c.fact 76
  have t_AND : Hz.bT K (zgvAND K) [V.bl false, V.bl false, V.bl false, V.bl true] = true := c.fact 77
  have t_OR : Hz.bT K (zgvOR K) [V.bl false, V.bl true, V.bl true, V.bl true] = true := c.fact 78
  have t_UNLIKE : Hz.bT K (zgvUNLIKE K) [V.bl false, V.bl true, V.bl true, V.bl false] = true := c.fact 79
  have t_WHOLE : Hz.bT K (zgvWHOLE K) [V.int 0, V.int 1, V.int 1, V.int 1] = true := c.fact 80
  have g_NONE : PySem.W.nsIn K mainGlobals "NONE" = some (some (.ref (zgvNONE K))) := Hz.bO_ok (c.fact 81)
  have g_EVERY : PySem.W.nsIn K mainGlobals "EVERY" = some (some (.ref (zgvEVERY K))) := Hz.bO_ok (c.fact 82)
  have g_LESS : PySem.W.nsIn K mainGlobals "LESS" = some (some (.ref (zgvLESS K))) := Hz.bO_ok (c.fact 83)
  have g_AND : PySem.W.nsIn K mainGlobals "AND" = some (some (.ref (zgvAND K))) := Hz.bO_ok (c.fact 84)
  have g_OR : PySem.W.nsIn K mainGlobals "OR" = some (some (.ref (zgvOR K))) := Hz.bO_ok (c.fact 85)
  have g_UNLIKE : PySem.W.nsIn K mainGlobals "UNLIKE" = some (some (.ref (zgvUNLIKE K))) := Hz.bO_ok (c.fact 86)
  have g_WHOLE : PySem.W.nsIn K mainGlobals "WHOLE" = some (some (.ref (zgvWHOLE K))) := Hz.bO_ok (c.fact 87)
  have a0 : PySem.W.nsIn K mainGlobals "is_int" = some (some (.ref (zf0 K))) := Hz.bO_ok (c.fact 88)
  have a1 : PySem.W.findIn K (.ref (zCR K)) "__init__" = some (some (.ref (zf1 K))) := Hz.bO_ok (c.fact 89)
  have i1 : PySem.W.isFn K (.ref (zf1 K)) = true := c.fact 90
  have a2 : PySem.W.nsIn K mainGlobals "is_branch" = some (some (.ref (zf2 K))) := Hz.bO_ok (c.fact 91)
  have a3 : PySem.W.nsIn K mainGlobals "sizes_of" = some (some (.ref (zf3 K))) := Hz.bO_ok (c.fact 92)
  have a4 : PySem.W.nsIn K mainGlobals "halves_of" = some (some (.ref (zf4 K))) := Hz.bO_ok (c.fact 93)
  have a5 : PySem.W.nsIn K mainGlobals "branch_of" = some (some (.ref (zf5 K))) := Hz.bO_ok (c.fact 94)
  have a6 : PySem.W.nsIn K mainGlobals "combined" = some (some (.ref (zf6 K))) := Hz.bO_ok (c.fact 95)
  have a7 : PySem.W.findIn K (.ref (zCG K)) "__init__" = some (some (.ref (zf7 K))) := Hz.bO_ok (c.fact 96)
  have i7 : PySem.W.isFn K (.ref (zf7 K)) = true := c.fact 97
  have a8 : PySem.W.nsIn K mainGlobals "half_ends" = some (some (.ref (zf8 K))) := Hz.bO_ok (c.fact 98)
  have a9 : PySem.W.nsIn K mainGlobals "words_of" = some (some (.ref (zf9 K))) := Hz.bO_ok (c.fact 99)
  have a10 : PySem.W.findIn K (.ref (zCG K)) "__str__" = some (some (.ref (zf10 K))) := Hz.bO_ok (c.fact 100)
  have i10 : PySem.W.isFn K (.ref (zf10 K)) = true := c.fact 101
  obtain ⟨a11, rest11, r11⟩ := He5.wrapB_ok (c.fact 102)
  obtain ⟨a12, rest12, r12⟩ := He5.wrapB_ok (c.fact 103)
  obtain ⟨a13, rest13, r13⟩ := He5.wrapB_ok (c.fact 104)
  obtain ⟨a14, rest14, r14⟩ := He5.wrapB_ok (c.fact 105)
  obtain ⟨a15, rest15, r15⟩ := He5.wrapB_ok (c.fact 106)
  have a16 : PySem.W.findIn K (.ref (zCG K)) "__invert__" = some (some (.ref (zf16 K))) := Hz.bO_ok (c.fact 107)
  have i16 : PySem.W.isFn K (.ref (zf16 K)) = true := c.fact 108
  have a17 : PySem.W.nsIn K mainGlobals "_is_within" = some (some (.ref (zf17 K))) := Hz.bO_ok (c.fact 109)
  have a18 : PySem.W.findIn K (.ref (zCG K)) "__eq__" = some (some (.ref (zf18 K))) := Hz.bO_ok (c.fact 110)
  have i18 : PySem.W.isFn K (.ref (zf18 K)) = true := c.fact 111
  obtain ⟨a19, rest19, r19⟩ := He5.wrapB_ok (c.fact 112)
  have a20 : PySem.W.nsIn K mainGlobals "node_at" = some (some (.ref (zf20 K))) := Hz.bO_ok (c.fact 113)
  have a21 : PySem.W.nsIn K mainGlobals "truth_at" = some (some (.ref (zf21 K))) := Hz.bO_ok (c.fact 114)
  have a22 : PySem.W.findIn K (.ref (zCG K)) "__contains__" = some (some (.ref (zf22 K))) := Hz.bO_ok (c.fact 115)
  have i22 : PySem.W.isFn K (.ref (zf22 K)) = true := c.fact 116
  have a23 : PySem.W.findIn K (.ref (zCG K)) "__and__" = some (some (.ref (zf23 K))) := Hz.bO_ok (c.fact 117)
  have i23 : PySem.W.isFn K (.ref (zf23 K)) = true := c.fact 118
  have a24 : PySem.W.findIn K (.ref (zCG K)) "__or__" = some (some (.ref (zf24 K))) := Hz.bO_ok (c.fact 119)
  have i24 : PySem.W.isFn K (.ref (zf24 K)) = true := c.fact 120
  have a25 : PySem.W.findIn K (.ref (zCG K)) "__sub__" = some (some (.ref (zf25 K))) := Hz.bO_ok (c.fact 121)
  have i25 : PySem.W.isFn K (.ref (zf25 K)) = true := c.fact 122
  have a26 : PySem.W.findIn K (.ref (zCG K)) "__xor__" = some (some (.ref (zf26 K))) := Hz.bO_ok (c.fact 123)
  have i26 : PySem.W.isFn K (.ref (zf26 K)) = true := c.fact 124
  have a27 : PySem.W.nsIn K mainGlobals "_law_pen" = some (some (.ref (zf27 K))) := Hz.bO_ok (c.fact 125)
  have a28 : PySem.W.nsIn K mainGlobals "_law_draw" = some (some (.ref (zf28 K))) := Hz.bO_ok (c.fact 126)
  have a29 : PySem.W.nsIn K mainGlobals "_law_truths" = some (some (.ref (zf29 K))) := Hz.bO_ok (c.fact 127)
  have a30 : PySem.W.nsIn K mainGlobals "_law_tree" = some (some (.ref (zf30 K))) := Hz.bO_ok (c.fact 128)
  have a31 : PySem.W.nsIn K mainGlobals "_law_region" = some (some (.ref (zf31 K))) := Hz.bO_ok (c.fact 129)
  have a32 : PySem.W.nsIn K mainGlobals "_law_has" = some (some (.ref (zf32 K))) := Hz.bO_ok (c.fact 130)
  have a33 : PySem.W.nsIn K mainGlobals "_law_halves" = some (some (.ref (zf33 K))) := Hz.bO_ok (c.fact 131)
  have a34 : PySem.W.nsIn K mainGlobals "_law_least" = some (some (.ref (zf34 K))) := Hz.bO_ok (c.fact 132)
  have a35 : PySem.W.nsIn K mainGlobals "_law_words" = some (some (.ref (zf35 K))) := Hz.bO_ok (c.fact 133)
  have a36 : PySem.W.nsIn K mainGlobals "_law_split" = some (some (.ref (zf36 K))) := Hz.bO_ok (c.fact 134)
  have a37 : PySem.W.nsIn K mainGlobals "_law_merged" = some (some (.ref (zf37 K))) := Hz.bO_ok (c.fact 135)
  have a38 : PySem.W.nsIn K mainGlobals "_law_common" = some (some (.ref (zf38 K))) := Hz.bO_ok (c.fact 136)
  have a39 : PySem.W.nsIn K mainGlobals "_law_fractions" = some (some (.ref (zf39 K))) := Hz.bO_ok (c.fact 137)
  have a40 : PySem.W.nsIn K mainGlobals "_law_table" = some (some (.ref (zf40 K))) := Hz.bO_ok (c.fact 138)
  have a41 : PySem.W.nsIn K mainGlobals "_law_joined" = some (some (.ref (zf41 K))) := Hz.bO_ok (c.fact 139)
  have a42 : PySem.W.nsIn K mainGlobals "_law_bound" = some (some (.ref (zf42 K))) := Hz.bO_ok (c.fact 140)
  have a43 : PySem.W.nsIn K mainGlobals "_law_other" = some (some (.ref (zf43 K))) := Hz.bO_ok (c.fact 141)
  have a44 : PySem.W.nsIn K mainGlobals "_law_is" = some (some (.ref (zf44 K))) := Hz.bO_ok (c.fact 142)
  have a45 : PySem.W.nsIn K mainGlobals "_law_right" = some (some (.ref (zf45 K))) := Hz.bO_ok (c.fact 143)
  have a46 : PySem.W.nsIn K mainGlobals "law" = some (some (.ref (zf46 K))) := Hz.bO_ok (c.fact 144)
  have e := hfa.symm.trans (PySem.W.mg_of X G a46)
  cases e
  have T : Bl mg := ⟨PySem.W.mg_none_of X G z_int, PySem.W.mg_none_of X G z_len, PySem.W.mg_none_of X G z_abs, PySem.W.mg_none_of X G z_list, PySem.W.mg_none_of X G z_range, PySem.W.mg_none_of X G z_isinstance, PySem.W.mg_none_of X G z_bool, PySem.W.mg_of X G z_gcd⟩
  have T_Ratio : RatT K mg (zCR K) := ⟨⟨⟨pgCR, hdCR, poCR, saCR⟩, PySem.W.mg_of X G aCR, ⟨rdCR, gaCR⟩, caCR, cn, ct, cmCR, kICR, kBCR, kSCR, iKCR, sICR, nICR, nCCR⟩, n_topCR, n_bottomCR⟩
  have T_Region : RegT K mg (zCG K) := ⟨⟨⟨pgCG, hdCG, poCG, saCG⟩, PySem.W.mg_of X G aCG, ⟨rdCG, gaCG⟩, caCG, cn, ct, cmCG, kICG, kBCG, kSCG, iKCG, sICG, nICG, nCCG⟩, n__treeCG, ⟨rdCG, gaCG⟩, Hz.bC_ok cLv, Hz.bC_ok cMo⟩
  obtain ⟨fdz0, Fz0⟩ := c.def_ 0 (d := zd0) rfl
  have k0 := Fz0.kp
  have F0 : Fun K "is_int" "is_int" sIsInt (zf0 K) fdz0 := He5.fun_of Fz0
  have b0 := F0.binds (ps := ["value"]) fun _ _ _ _ _ _ us hl => match us, hl with | [_], _ => rfl
  obtain ⟨fdz1, Fz1⟩ := c.def_ 1 (d := zd1) rfl
  have k1 := Fz1.kp
  have F1 : FunD K "__init__" "Ratio.__init__" (defArgs sRInit) (defBody sRInit) (defScope sRInit) [.int 1] [] (zf1 K) fdz1 := Fz1
  obtain ⟨ds1, hds1, b1⟩ := F1.binds1 (ps := ["self", "top", "bottom"]) 3 1 (fun z => nomatch z) rfl fun _ _ _ _ _ _ _ us its hu hi => match us, hu, its, hi with | [_, _, _], _, [_], _ => ⟨_, rfl, rfl⟩
  cases hds1
  obtain ⟨dv1, hdv1, bd1⟩ := F1.binds1 (ps := ["self", "top", "bottom"]) 2 0 (fun z => nomatch z) rfl fun _ _ _ _ _ _ _ us its hu hi => match us, hu, its, hi with | [_, _], _, [_], _ => ⟨_, rfl, rfl⟩
  obtain ⟨fdz2, Fz2⟩ := c.def_ 2 (d := zd2) rfl
  have k2 := Fz2.kp
  have F2 : Fun K "is_branch" "is_branch" sIsB (zf2 K) fdz2 := He5.fun_of Fz2
  have b2 := F2.binds (ps := ["tree"]) fun _ _ _ _ _ _ us hl => match us, hl with | [_], _ => rfl
  obtain ⟨fdz3, Fz3⟩ := c.def_ 3 (d := zd3) rfl
  have k3 := Fz3.kp
  have F3 : Fun K "sizes_of" "sizes_of" sSiz (zf3 K) fdz3 := He5.fun_of Fz3
  have b3 := F3.binds (ps := ["tree"]) fun _ _ _ _ _ _ us hl => match us, hl with | [_], _ => rfl
  obtain ⟨fdz4, Fz4⟩ := c.def_ 4 (d := zd4) rfl
  have k4 := Fz4.kp
  have F4 : Fun K "halves_of" "halves_of" sHalf (zf4 K) fdz4 := He5.fun_of Fz4
  have b4 := F4.binds (ps := ["leaf"]) fun _ _ _ _ _ _ us hl => match us, hl with | [_], _ => rfl
  obtain ⟨fdz5, Fz5⟩ := c.def_ 5 (d := zd5) rfl
  have k5 := Fz5.kp
  have F5 : Fun K "branch_of" "branch_of" sBr (zf5 K) fdz5 := He5.fun_of Fz5
  have b5 := F5.binds (ps := ["truth", "left", "right"]) fun _ _ _ _ _ _ us hl => match us, hl with | [_, _, _], _ => rfl
  obtain ⟨fdz6, Fz6⟩ := c.def_ 6 (d := zd6) rfl
  have k6 := Fz6.kp
  have F6 : Fun K "combined" "combined" sComb (zf6 K) fdz6 := He5.fun_of Fz6
  have b6 := F6.binds (ps := ["one", "other", "table"]) fun _ _ _ _ _ _ us hl => match us, hl with | [_, _, _], _ => rfl
  obtain ⟨fdz7, Fz7⟩ := c.def_ 7 (d := zd7) rfl
  have k7 := Fz7.kp
  have F7 : Fun K "__init__" "Region.__init__" sRegI (zf7 K) fdz7 := He5.fun_of Fz7
  have b7 := F7.binds (ps := ["self", "tree"]) fun _ _ _ _ _ _ us hl => match us, hl with | [_, _], _ => rfl
  obtain ⟨fdz8, Fz8⟩ := c.def_ 8 (d := zd8) rfl
  have k8 := Fz8.kp
  have F8 : Fun K "half_ends" "half_ends" sHE (zf8 K) fdz8 := He5.fun_of Fz8
  have b8 := F8.binds (ps := ["ends"]) fun _ _ _ _ _ _ us hl => match us, hl with | [_], _ => rfl
  obtain ⟨fdz9, Fz9⟩ := c.def_ 9 (d := zd9) rfl
  have k9 := Fz9.kp
  have F9 : Fun K "words_of" "words_of" sWo (zf9 K) fdz9 := He5.fun_of Fz9
  have b9 := F9.binds (ps := ["tree"]) fun _ _ _ _ _ _ us hl => match us, hl with | [_], _ => rfl
  obtain ⟨fdz10, Fz10⟩ := c.def_ 10 (d := zd10) rfl
  have k10 := Fz10.kp
  have F10 : Fun K "__str__" "Region.__str__" sStr (zf10 K) fdz10 := He5.fun_of Fz10
  have b10 := F10.binds (ps := ["self"]) fun _ _ _ _ _ _ us hl => match us, hl with | [_], _ => rfl
  obtain ⟨fdz11, Fz11⟩ := c.def_ 11 (d := zd11) rfl
  have k11 := Fz11.kp
  have F11 : Fun K "every" "Region.every" sRegEv (zf11 K) fdz11 := He5.fun_of Fz11
  have b11 := F11.binds (ps := []) fun _ _ _ _ _ _ us hl => match us, hl with | [], _ => rfl
  obtain ⟨fdz12, Fz12⟩ := c.def_ 12 (d := zd12) rfl
  have k12 := Fz12.kp
  have F12 : Fun K "none" "Region.none" sRegNo (zf12 K) fdz12 := He5.fun_of Fz12
  have b12 := F12.binds (ps := []) fun _ _ _ _ _ _ us hl => match us, hl with | [], _ => rfl
  obtain ⟨fdz13, Fz13⟩ := c.def_ 13 (d := zd13) rfl
  have k13 := Fz13.kp
  have F13 : Fun K "rational" "Region.rational" sRegRa (zf13 K) fdz13 := He5.fun_of Fz13
  have b13 := F13.binds (ps := []) fun _ _ _ _ _ _ us hl => match us, hl with | [], _ => rfl
  obtain ⟨fdz14, Fz14⟩ := c.def_ 14 (d := zd14) rfl
  have k14 := Fz14.kp
  have F14 : Fun K "leaf" "Region.leaf" sRegF (zf14 K) fdz14 := He5.fun_of Fz14
  have b14 := F14.binds (ps := ["middle", "left", "right", "other", "bare"]) fun _ _ _ _ _ _ us hl => match us, hl with | [_, _, _, _, _], _ => rfl
  obtain ⟨fdz15, Fz15⟩ := c.def_ 15 (d := zd15) rfl
  have k15 := Fz15.kp
  have F15 : Fun K "joined" "Region.joined" sRegJ (zf15 K) fdz15 := He5.fun_of Fz15
  have b15 := F15.binds (ps := ["truth", "left", "right"]) fun _ _ _ _ _ _ us hl => match us, hl with | [_, _, _], _ => rfl
  obtain ⟨fdz16, Fz16⟩ := c.def_ 16 (d := zd16) rfl
  have k16 := Fz16.kp
  have F16 : Fun K "__invert__" "Region.__invert__" sRegN (zf16 K) fdz16 := He5.fun_of Fz16
  have b16 := F16.binds (ps := ["self"]) fun _ _ _ _ _ _ us hl => match us, hl with | [_], _ => rfl
  obtain ⟨fdz17, Fz17⟩ := c.def_ 17 (d := zd17) rfl
  have k17 := Fz17.kp
  have F17 : Fun K "_is_within" "_is_within" sWi (zf17 K) fdz17 := He5.fun_of Fz17
  have b17 := F17.binds (ps := ["one", "other"]) fun _ _ _ _ _ _ us hl => match us, hl with | [_, _], _ => rfl
  obtain ⟨fdz18, Fz18⟩ := c.def_ 18 (d := zd18) rfl
  have k18 := Fz18.kp
  have F18 : Fun K "__eq__" "Region.__eq__" sRegEq (zf18 K) fdz18 := He5.fun_of Fz18
  have b18 := F18.binds (ps := ["self", "other"]) fun _ _ _ _ _ _ us hl => match us, hl with | [_, _], _ => rfl
  obtain ⟨fdz19, Fz19⟩ := c.def_ 19 (d := zd19) rfl
  have k19 := Fz19.kp
  have F19 : Fun K "is_fifth" "Ratio.is_fifth" sIsFifth (zf19 K) fdz19 := He5.fun_of Fz19
  have b19 := F19.binds (ps := ["value"]) fun _ _ _ _ _ _ us hl => match us, hl with | [_], _ => rfl
  obtain ⟨fdz20, Fz20⟩ := c.def_ 20 (d := zd20) rfl
  have k20 := Fz20.kp
  have F20 : Fun K "node_at" "node_at" sNat (zf20 K) fdz20 := He5.fun_of Fz20
  have b20 := F20.binds (ps := ["tree", "fifth"]) fun _ _ _ _ _ _ us hl => match us, hl with | [_, _], _ => rfl
  obtain ⟨fdz21, Fz21⟩ := c.def_ 21 (d := zd21) rfl
  have k21 := Fz21.kp
  have F21 : Fun K "truth_at" "truth_at" sTAt (zf21 K) fdz21 := He5.fun_of Fz21
  have b21 := F21.binds (ps := ["leaf", "u", "v"]) fun _ _ _ _ _ _ us hl => match us, hl with | [_, _, _], _ => rfl
  obtain ⟨fdz22, Fz22⟩ := c.def_ 22 (d := zd22) rfl
  have k22 := Fz22.kp
  have F22 : Fun K "__contains__" "Region.__contains__" sCont (zf22 K) fdz22 := He5.fun_of Fz22
  have b22 := F22.binds (ps := ["self", "x"]) fun _ _ _ _ _ _ us hl => match us, hl with | [_, _], _ => rfl
  obtain ⟨fdz23, Fz23⟩ := c.def_ 23 (d := zd23) rfl
  have k23 := Fz23.kp
  have F23 : Fun K "__and__" "Region.__and__" sRegAnd (zf23 K) fdz23 := He5.fun_of Fz23
  have b23 := F23.binds (ps := ["self", "other"]) fun _ _ _ _ _ _ us hl => match us, hl with | [_, _], _ => rfl
  obtain ⟨fdz24, Fz24⟩ := c.def_ 24 (d := zd24) rfl
  have k24 := Fz24.kp
  have F24 : Fun K "__or__" "Region.__or__" sRegOr (zf24 K) fdz24 := He5.fun_of Fz24
  have b24 := F24.binds (ps := ["self", "other"]) fun _ _ _ _ _ _ us hl => match us, hl with | [_, _], _ => rfl
  obtain ⟨fdz25, Fz25⟩ := c.def_ 25 (d := zd25) rfl
  have k25 := Fz25.kp
  have F25 : Fun K "__sub__" "Region.__sub__" sRegSub (zf25 K) fdz25 := He5.fun_of Fz25
  have b25 := F25.binds (ps := ["self", "other"]) fun _ _ _ _ _ _ us hl => match us, hl with | [_, _], _ => rfl
  obtain ⟨fdz26, Fz26⟩ := c.def_ 26 (d := zd26) rfl
  have k26 := Fz26.kp
  have F26 : Fun K "__xor__" "Region.__xor__" sRegXor (zf26 K) fdz26 := He5.fun_of Fz26
  have b26 := F26.binds (ps := ["self", "other"]) fun _ _ _ _ _ _ us hl => match us, hl with | [_, _], _ => rfl
  obtain ⟨fdz27, Fz27⟩ := c.def_ 27 (d := zd27) rfl
  have k27 := Fz27.kp
  have F27 : Fun K "_law_pen" "_law_pen" sPen (zf27 K) fdz27 := He5.fun_of Fz27
  have b27 := F27.binds (ps := ["_law_script"]) fun _ _ _ _ _ _ us hl => match us, hl with | [_], _ => rfl
  obtain ⟨fdz28, Fz28⟩ := c.def_ 28 (d := zd28) rfl
  have k28 := Fz28.kp
  have F28 : Fun K "_law_draw" "_law_draw" sDraw (zf28 K) fdz28 := He5.fun_of Fz28
  have b28 := F28.binds (ps := ["_law_pen_here", "_law_many"]) fun _ _ _ _ _ _ us hl => match us, hl with | [_, _], _ => rfl
  obtain ⟨fdz29, Fz29⟩ := c.def_ 29 (d := zd29) rfl
  have k29 := Fz29.kp
  have F29 : Fun K "_law_truths" "_law_truths" sLTru (zf29 K) fdz29 := He5.fun_of Fz29
  have b29 := F29.binds (ps := ["_law_pen_here"]) fun _ _ _ _ _ _ us hl => match us, hl with | [_], _ => rfl
  obtain ⟨fdz30, Fz30⟩ := c.def_ 30 (d := zd30) rfl
  have k30 := Fz30.kp
  have F30 : Fun K "_law_tree" "_law_tree" sLTree (zf30 K) fdz30 := He5.fun_of Fz30
  have b30 := F30.binds (ps := ["_law_pen_here", "_law_deep"]) fun _ _ _ _ _ _ us hl => match us, hl with | [_, _], _ => rfl
  obtain ⟨fdz31, Fz31⟩ := c.def_ 31 (d := zd31) rfl
  have k31 := Fz31.kp
  have F31 : Fun K "_law_region" "_law_region" sLReg (zf31 K) fdz31 := He5.fun_of Fz31
  have b31 := F31.binds (ps := ["_law_tree_here"]) fun _ _ _ _ _ _ us hl => match us, hl with | [_], _ => rfl
  obtain ⟨fdz32, Fz32⟩ := c.def_ 32 (d := zd32) rfl
  have k32 := Fz32.kp
  have F32 : Fun K "_law_has" "_law_has" sHas (zf32 K) fdz32 := He5.fun_of Fz32
  have b32 := F32.binds (ps := ["_law_tree_here", "_law_u", "_law_v"]) fun _ _ _ _ _ _ us hl => match us, hl with | [_, _, _], _ => rfl
  obtain ⟨fdz33, Fz33⟩ := c.def_ 33 (d := zd33) rfl
  have k33 := Fz33.kp
  have F33 : Fun K "_law_halves" "_law_halves" sLHv (zf33 K) fdz33 := He5.fun_of Fz33
  have b33 := F33.binds (ps := ["_law_truths_here"]) fun _ _ _ _ _ _ us hl => match us, hl with | [_], _ => rfl
  obtain ⟨fdz34, Fz34⟩ := c.def_ 34 (d := zd34) rfl
  have k34 := Fz34.kp
  have F34 : Fun K "_law_least" "_law_least" sLLe (zf34 K) fdz34 := He5.fun_of Fz34
  have b34 := F34.binds (ps := ["_law_tree_here"]) fun _ _ _ _ _ _ us hl => match us, hl with | [_], _ => rfl
  obtain ⟨fdz35, Fz35⟩ := c.def_ 35 (d := zd35) rfl
  have k35 := Fz35.kp
  have F35 : Fun K "_law_words" "_law_words" sLW (zf35 K) fdz35 := He5.fun_of Fz35
  have b35 := F35.binds (ps := ["_law_tree_here"]) fun _ _ _ _ _ _ us hl => match us, hl with | [_], _ => rfl
  obtain ⟨fdz36, Fz36⟩ := c.def_ 36 (d := zd36) rfl
  have k36 := Fz36.kp
  have F36 : Fun K "_law_split" "_law_split" sLSp (zf36 K) fdz36 := He5.fun_of Fz36
  have b36 := F36.binds (ps := ["_law_tree_here"]) fun _ _ _ _ _ _ us hl => match us, hl with | [_], _ => rfl
  obtain ⟨fdz37, Fz37⟩ := c.def_ 37 (d := zd37) rfl
  have k37 := Fz37.kp
  have F37 : Fun K "_law_merged" "_law_merged" sLMe (zf37 K) fdz37 := He5.fun_of Fz37
  have b37 := F37.binds (ps := ["_law_one", "_law_other_here", "_law_table_here"]) fun _ _ _ _ _ _ us hl => match us, hl with | [_, _, _], _ => rfl
  obtain ⟨fdz38, Fz38⟩ := c.def_ 38 (d := zd38) rfl
  have k38 := Fz38.kp
  have F38 : Fun K "_law_common" "_law_common" sCommon (zf38 K) fdz38 := He5.fun_of Fz38
  have b38 := F38.binds (ps := ["_law_one", "_law_other_here"]) fun _ _ _ _ _ _ us hl => match us, hl with | [_, _], _ => rfl
  obtain ⟨fdz39, Fz39⟩ := c.def_ 39 (d := zd39) rfl
  have k39 := Fz39.kp
  have F39 : Fun K "_law_fractions" "_law_fractions" sFrs (zf39 K) fdz39 := He5.fun_of Fz39
  have b39 := F39.binds (ps := ["_law_most"]) fun _ _ _ _ _ _ us hl => match us, hl with | [_], _ => rfl
  obtain ⟨fdz40, Fz40⟩ := c.def_ 40 (d := zd40) rfl
  have k40 := Fz40.kp
  have F40 : Fun K "_law_table" "_law_table" sTab (zf40 K) fdz40 := He5.fun_of Fz40
  have b40 := F40.binds (ps := ["_law_way"]) fun _ _ _ _ _ _ us hl => match us, hl with | [_], _ => rfl
  obtain ⟨fdz41, Fz41⟩ := c.def_ 41 (d := zd41) rfl
  have k41 := Fz41.kp
  have F41 : Fun K "_law_joined" "_law_joined" sJnd (zf41 K) fdz41 := He5.fun_of Fz41
  have b41 := F41.binds (ps := ["_law_way", "_law_one", "_law_other_here"]) fun _ _ _ _ _ _ us hl => match us, hl with | [_, _, _], _ => rfl
  obtain ⟨fdz42, Fz42⟩ := c.def_ 42 (d := zd42) rfl
  have k42 := Fz42.kp
  have F42 : Fun K "_law_bound" "_law_bound" sBnd (zf42 K) fdz42 := He5.fun_of Fz42
  have b42 := F42.binds (ps := ["_law_way", "_law_one", "_law_other_here"]) fun _ _ _ _ _ _ us hl => match us, hl with | [_, _, _], _ => rfl
  obtain ⟨fdz43, Fz43⟩ := c.def_ 43 (d := zd43) rfl
  have k43 := Fz43.kp
  have F43 : Fun K "_law_other" "_law_other" sOth (zf43 K) fdz43 := He5.fun_of Fz43
  have b43 := F43.binds (ps := ["_law_pen_here", "_law_tree_here"]) fun _ _ _ _ _ _ us hl => match us, hl with | [_, _], _ => rfl
  obtain ⟨fdz44, Fz44⟩ := c.def_ 44 (d := zd44) rfl
  have k44 := Fz44.kp
  have F44 : Fun K "_law_is" "_law_is" sIs (zf44 K) fdz44 := He5.fun_of Fz44
  have b44 := F44.binds (ps := ["_law_made", "_law_tree_here"]) fun _ _ _ _ _ _ us hl => match us, hl with | [_, _], _ => rfl
  obtain ⟨fdz45, Fz45⟩ := c.def_ 45 (d := zd45) rfl
  have k45 := Fz45.kp
  have F45 : Fun K "_law_right" "_law_right" sRt (zf45 K) fdz45 := He5.fun_of Fz45
  have b45 := F45.binds (ps := ["_law_pen_here", "_law_mine", "_law_its"]) fun _ _ _ _ _ _ us hl => match us, hl with | [_, _, _], _ => rfl
  obtain ⟨fdz46, Fz46⟩ := c.def_ 46 (d := zd46) rfl
  have k46 := Fz46.kp
  have F46 : Fun K "law" "law" sLaw (zf46 K) fdz46 := He5.fun_of Fz46
  have b46 := F46.binds (ps := ["_law_script"]) fun _ _ _ _ _ _ us hl => match us, hl with | [_], _ => rfl
  have bLaw := FunD.bindsA (ps := ["_law_script"]) Fz46 fun _ _ _ _ _ _ us hl => match us, hl with | [_], _ => rfl
  refine ⟨[], fun z hz => ?_, fun z hz => ?_, fdz46, (spLaw K), fun s v => bLaw s [v] rfl, fun H a ns hl hT hS => ⟨a, ns, rfl, hS, hl, fun _ => rfl⟩, fun base _ _ TBs => ?_⟩
  · exact absurd hz (List.not_mem_nil)
  · exact absurd hz (List.not_mem_nil)
  have C_is_int : Cal l.prog w K mg base 1 "is_int" (zf0 K) _ ["value"] (spIsInt K) := ⟨(ok_isint F0 T), PySem.W.mg_of X G a0, k0, b0⟩
  have M_Ratio : Mak l.prog w K mg base 2 "Ratio" (zCR K) (zf1 K) _ ["self", "top", "bottom"] (spRInit (zCR K)) := ⟨⟨mkCR, a1, i1, kcCR⟩, (ok_rinit F1 T T_Ratio C_is_int), PySem.W.mg_of X G aCR, b1⟩
  have C_is_branch : Cal l.prog w K mg base 1 "is_branch" (zf2 K) _ ["tree"] (spIsB K) := ⟨(ok_isb F2 T), PySem.W.mg_of X G a2, k2, b2⟩
  have C_sizes_of : Cal l.prog w K mg base 2 "sizes_of" (zf3 K) _ ["tree"] (spSiz K) := ⟨(ok_siz F3 C_is_branch), PySem.W.mg_of X G a3, k3, b3⟩
  have C_halves_of : Cal l.prog w K mg base 1 "halves_of" (zf4 K) _ ["leaf"] (spHalf K) := ⟨(ok_half F4 ), PySem.W.mg_of X G a4, k4, b4⟩
  have C_branch_of : Cal l.prog w K mg base 2 "branch_of" (zf5 K) _ ["truth", "left", "right"] (spBr K) := ⟨(ok_br F5 C_is_branch C_halves_of), PySem.W.mg_of X G a5, k5, b5⟩
  have C_combined : Cal l.prog w K mg base 43 "combined" (zf6 K) _ ["one", "other", "table"] (spComb K 40) := ⟨(ok_comb F6 (PySem.W.mg_of X G a6) b6 (PySem.W.mg_none_of X G z_zip) (PySem.W.mg_none_of X G z_tuple) C_is_branch C_halves_of C_branch_of 40), PySem.W.mg_of X G a6, k6, b6⟩
  have M_Region : Mak l.prog w K mg base 3 "Region" (zCG K) (zf7 K) _ ["self", "tree"] (spRegI K (zCG K)) := ⟨⟨mkCG, a7, i7, kcCG⟩, (ok_regi F7 T_Region C_sizes_of), PySem.W.mg_of X G aCG, b7⟩
  have C_half_ends : Cal l.prog w K mg base 1 "half_ends" (zf8 K) _ ["ends"] (spHE K) := ⟨(ok_he F8 ), PySem.W.mg_of X G a8, k8, b8⟩
  have C_words_of : Cal l.prog w K mg base 2 "words_of" (zf9 K) _ ["tree"] (spWo K) := ⟨(ok_wo F9 C_is_branch), PySem.W.mg_of X G a9, k9, b9⟩
  have O_str : Opr l.prog w K mg base 3 (zCG K) "__str__" (zf10 K) _ ["self"] (spStr K (zCG K)) := ⟨a10, i10, (ok_regstr F10 T_Region C_words_of), b10⟩
  have S_Region_every : Sta l.prog w K mg base 5 (zCG K) "every" (zp11 K) (zf11 K) _ [] (spRegC K (zCG K) EveryL) := ⟨⟨a11, ⟨_, r11⟩, k11⟩, (ok_regevery (PySem.W.mg_of X G g_EVERY) (Hz.bT_ok t_EVERY) F11 M_Region), b11⟩
  have S_Region_none : Sta l.prog w K mg base 5 (zCG K) "none" (zp12 K) (zf12 K) _ [] (spRegC K (zCG K) NoneL) := ⟨⟨a12, ⟨_, r12⟩, k12⟩, (ok_regnone (PySem.W.mg_of X G g_NONE) (Hz.bT_ok t_NONE) F12 M_Region), b12⟩
  have S_Region_rational : Sta l.prog w K mg base 5 (zCG K) "rational" (zp13 K) (zf13 K) _ [] (spRegC K (zCG K) RatnL) := ⟨⟨a13, ⟨_, r13⟩, k13⟩, (ok_regrational F13 M_Region), b13⟩
  have S_Region_leaf : Sta l.prog w K mg base 5 (zCG K) "leaf" (zp14 K) (zf14 K) _ ["middle", "left", "right", "other", "bare"] (spLeaf K (zCG K)) := ⟨⟨a14, ⟨_, r14⟩, k14⟩, (ok_regleaf F14 T M_Region), b14⟩
  have S_Region_joined : Sta l.prog w K mg base 5 (zCG K) "joined" (zp15 K) (zf15 K) _ ["truth", "left", "right"] (spJoin K (zCG K)) := ⟨⟨a15, ⟨_, r15⟩, k15⟩, (ok_regjoin F15 T T_Region M_Region C_branch_of), b15⟩
  have O_inv : Opr l.prog w K mg base 44 (zCG K) "__invert__" (zf16 K) _ ["self"] (spRegN K (zCG K)) := ⟨a16, i16, (ok_reginv F16 T_Region (PySem.W.mg_of X G g_EVERY) (Hz.bT_ok t_EVERY) (PySem.W.mg_of X G g_LESS) (Hz.bT_ok t_LESS) M_Region C_combined), b16⟩
  have C__is_within : Cal l.prog w K mg base 44 "_is_within" (zf17 K) _ ["one", "other"] (spWi K) := ⟨(ok_wi F17 (PySem.W.mg_of X G g_LESS) (PySem.W.mg_of X G g_NONE) (Hz.bT_ok t_LESS) (Hz.bT_ok t_NONE) C_combined), PySem.W.mg_of X G a17, k17, b17⟩
  have O_eq : Opr l.prog w K mg base 45 (zCG K) "__eq__" (zf18 K) _ ["self", "other"] (spRegEq K (zCG K)) := ⟨a18, i18, (ok_regeq F18 T T_Region C__is_within), b18⟩
  have S_Ratio_is_fifth : Sta l.prog w K mg base 1 (zCR K) "is_fifth" (zp19 K) (zf19 K) _ ["value"] (spIsFifth (zCR K)) := ⟨⟨a19, ⟨_, r19⟩, k19⟩, (ok_isfifth F19 T T_Ratio), b19⟩
  have C_node_at : Cal l.prog w K mg base 2 "node_at" (zf20 K) _ ["tree", "fifth"] (spNat K (zCR K)) := ⟨(ok_nodeat F20 (PySem.W.mg_of X G g_WHOLE) (Hz.bT_ok t_WHOLE) T_Ratio C_is_branch C_half_ends), PySem.W.mg_of X G a20, k20, b20⟩
  have C_truth_at : Cal l.prog w K mg base 1 "truth_at" (zf21 K) _ ["leaf", "u", "v"] (spTAt K) := ⟨(ok_tat F21 ), PySem.W.mg_of X G a21, k21, b21⟩
  have O_cont : Opr l.prog w K mg base 3 (zCG K) "__contains__" (zf22 K) _ ["self", "x"] (spCont K (zCG K) (zCR K)) := ⟨a22, i22, (ok_regcont F22 T_Region T_Ratio S_Ratio_is_fifth C_node_at C_is_branch C_truth_at), b22⟩
  have O_and : Opr l.prog w K mg base 44 (zCG K) "__and__" (zf23 K) _ ["self", "other"] (spRegB K (zCG K) ANDf) := ⟨a23, i23, (ok_regand F23 T T_Region (PySem.W.mg_of X G g_AND) (Hz.bT_ok t_AND) M_Region C_combined), b23⟩
  have O_or : Opr l.prog w K mg base 44 (zCG K) "__or__" (zf24 K) _ ["self", "other"] (spRegB K (zCG K) ORf) := ⟨a24, i24, (ok_regor F24 T T_Region (PySem.W.mg_of X G g_OR) (Hz.bT_ok t_OR) M_Region C_combined), b24⟩
  have O_sub : Opr l.prog w K mg base 44 (zCG K) "__sub__" (zf25 K) _ ["self", "other"] (spRegB K (zCG K) LESSf) := ⟨a25, i25, (ok_regsub F25 T T_Region (PySem.W.mg_of X G g_LESS) (Hz.bT_ok t_LESS) M_Region C_combined), b25⟩
  have O_xor : Opr l.prog w K mg base 44 (zCG K) "__xor__" (zf26 K) _ ["self", "other"] (spRegB K (zCG K) UNLf) := ⟨a26, i26, (ok_regxor F26 T T_Region (PySem.W.mg_of X G g_UNLIKE) (Hz.bT_ok t_UNLIKE) M_Region C_combined), b26⟩
  have C__law_pen : Cal l.prog w K mg base 1 "_law_pen" (zf27 K) _ ["_law_script"] (spPen K) := ⟨(ok_pen F27 T), PySem.W.mg_of X G a27, k27, b27⟩
  have C__law_draw : Cal l.prog w K mg base 1 "_law_draw" (zf28 K) _ ["_law_pen_here", "_law_many"] spDraw := ⟨(ok_draw F28 T), PySem.W.mg_of X G a28, k28, b28⟩
  have C__law_truths : Cal l.prog w K mg base 2 "_law_truths" (zf29 K) _ ["_law_pen_here"] (spLTru K) := ⟨(ok_ltru F29 T (PySem.W.mg_none_of X G z_tuple) C__law_draw), PySem.W.mg_of X G a29, k29, b29⟩
  have C__law_tree : Cal l.prog w K mg base 7 "_law_tree" (zf30 K) _ ["_law_pen_here", "_law_deep"] (spLTree K 4) := ⟨(ok_ltree F30 (PySem.W.mg_of X G a30) b30 T C__law_draw C__law_truths 4), PySem.W.mg_of X G a30, k30, b30⟩
  have C__law_region : Cal l.prog w K mg base 16 "_law_region" (zf31 K) _ ["_law_tree_here"] (spLReg K (zCG K) 10) := ⟨(ok_lreg F31 (PySem.W.mg_of X G a31) b31 T_Region S_Region_joined S_Region_leaf 10 (by decide)), PySem.W.mg_of X G a31, k31, b31⟩
  have C__law_has : Cal l.prog w K mg base 1 "_law_has" (zf32 K) _ ["_law_tree_here", "_law_u", "_law_v"] (spHas K) := ⟨(ok_has F32 ), PySem.W.mg_of X G a32, k32, b32⟩
  have C__law_halves : Cal l.prog w K mg base 1 "_law_halves" (zf33 K) _ ["_law_truths_here"] (spLHv K) := ⟨(ok_lhv F33 ), PySem.W.mg_of X G a33, k33, b33⟩
  have C__law_least : Cal l.prog w K mg base 12 "_law_least" (zf34 K) _ ["_law_tree_here"] (spLLe K 10) := ⟨(ok_lle F34 (PySem.W.mg_of X G a34) b34 C__law_halves 10), PySem.W.mg_of X G a34, k34, b34⟩
  have C__law_words : Cal l.prog w K mg base 11 "_law_words" (zf35 K) _ ["_law_tree_here"] (spLW K 10) := ⟨(ok_lw F35 (PySem.W.mg_of X G a35) b35 T (PySem.W.mg_none_of X G z_str) 10), PySem.W.mg_of X G a35, k35, b35⟩
  have C__law_split : Cal l.prog w K mg base 2 "_law_split" (zf36 K) _ ["_law_tree_here"] (spLSp K) := ⟨(ok_lsp F36 C__law_halves), PySem.W.mg_of X G a36, k36, b36⟩
  have C__law_merged : Cal l.prog w K mg base 13 "_law_merged" (zf37 K) _ ["_law_one", "_law_other_here", "_law_table_here"] (spLMe K 10) := ⟨(ok_lme F37 (PySem.W.mg_of X G a37) b37 T (PySem.W.mg_none_of X G z_zip) (PySem.W.mg_none_of X G z_tuple) C__law_split 10), PySem.W.mg_of X G a37, k37, b37⟩
  have C__law_common : Cal l.prog w K mg base 1 "_law_common" (zf38 K) _ ["_law_one", "_law_other_here"] spCommon := ⟨(ok_common F38 T), PySem.W.mg_of X G a38, k38, b38⟩
  have C__law_fractions : Cal l.prog w K mg base 2 "_law_fractions" (zf39 K) _ ["_law_most"] spFrs := ⟨(ok_frs F39 T C__law_common), PySem.W.mg_of X G a39, k39, b39⟩
  have C__law_table : Cal l.prog w K mg base 1 "_law_table" (zf40 K) _ ["_law_way"] (spTab K) := ⟨(ok_tab F40 ), PySem.W.mg_of X G a40, k40, b40⟩
  have W : RegW l.prog w K mg base (zCG K) (zf23 K) (zf24 K) (zf25 K) (zf26 K) fdz23 fdz24 fdz25 fdz26 := ⟨O_and, O_or, O_sub, O_xor, ⟨sfG, ⟨_, rrBitAnd, .inl rfl⟩, ⟨_, iaBitAnd⟩, ⟨_, ibBitAnd⟩, sIG⟩, ⟨sfG, ⟨_, rrBitOr, .inl rfl⟩, ⟨_, iaBitOr⟩, ⟨_, ibBitOr⟩, sIG⟩, ⟨sfG, ⟨_, rrSub, .inl rfl⟩, ⟨_, iaSub⟩, ⟨_, ibSub⟩, sIG⟩, ⟨sfG, ⟨_, rrBitXor, .inl rfl⟩, ⟨_, iaBitXor⟩, ⟨_, ibBitXor⟩, sIG⟩, niBitAnd, niBitOr, niSub, niBitXor⟩
  have C__law_joined : Cal l.prog w K mg base 45 "_law_joined" (zf41 K) _ ["_law_way", "_law_one", "_law_other_here"] (spJnd K (zCG K)) := ⟨(ok_jnd F41 W), PySem.W.mg_of X G a41, k41, b41⟩
  have C__law_bound : Cal l.prog w K mg base 45 "_law_bound" (zf42 K) _ ["_law_way", "_law_one", "_law_other_here"] (spJnd K (zCG K)) := ⟨(ok_bnd F42 W), PySem.W.mg_of X G a42, k42, b42⟩
  have C__law_other : Cal l.prog w K mg base 8 "_law_other" (zf43 K) _ ["_law_pen_here", "_law_tree_here"] (spOth K) := ⟨(ok_oth F43 C__law_draw C__law_tree C__law_truths), PySem.W.mg_of X G a43, k43, b43⟩
  have C__law_is : Cal l.prog w K mg base 13 "_law_is" (zf44 K) _ ["_law_made", "_law_tree_here"] (spIs K (zCG K)) := ⟨(ok_is F44 T (PySem.W.mg_none_of X G z_str) T_Region T_Ratio C__law_words C__law_least C__law_fractions C__law_has O_str O_cont M_Ratio), PySem.W.mg_of X G a44, k44, b44⟩
  have C__law_right : Cal l.prog w K mg base 47 "_law_right" (zf45 K) _ ["_law_pen_here", "_law_mine", "_law_its"] (spRt K) := ⟨(ok_rt F45 T (PySem.W.mg_none_of X G z_str) T_Region C__law_region C__law_merged C__law_table C__law_is C__law_joined C__law_bound C__law_draw O_str O_inv O_eq hneG hOG S_Region_none), PySem.W.mg_of X G a45, k45, b45⟩
  exact FnOk.toG (ok_law F46 T T_Region C__law_pen C__law_tree C__law_other C__law_right S_Region_none S_Region_every S_Region_rational O_inv O_eq W)
end Toy
set_option linter.all false
open PySem PySem.W PyProof.Rows
set_option maxRecDepth 100000 in
set_option maxHeartbeats 0 in
theorem PySem.Challenge.cw_anyfifth_k16_whole_operators_of_regions_holds : PySem.Challenge.rw_anyfifth_k16_whole_operators_of_regions.Holds := by
  w_on; o_law
  refine Hz.head_all (r := OpenLaw.row PySem.Challenge.rw_anyfifth_k16_whole_operators_of_regions) (q := view (OpenLaw.row PySem.Challenge.rw_anyfifth_k16_whole_operators_of_regions).prog [71]) (H := Toy.zhk) (ob := Toy.zob) (M0 := 2000) (M1 := 20000) (loose := Toy.znames) (d := HandSHeadRun.topDef (OpenLaw.row PySem.Challenge.rw_anyfifth_k16_whole_operators_of_regions).prog 71) (kwd := []) Toy.zob_eq
    (by kernel_rfl) Toy.zrun (by kernel_rfl) (by kernel_rfl) (by kernel_rfl) (by rfl) (by first | assumption | decide +kernel) (by decide +kernel) ⟨rfl, rfl, rfl, rfl, rfl, by decide +kernel⟩ ?hw ?hc
  case hw => w_witness2
  case hc =>
    refine Hz.walk (l := PySem.Challenge.rw_anyfifth_k16_whole_operators_of_regions) (n := 63) (k := 48) (x := "_law_script") rfl (by decide) (by kernel_rfl) ⟨rfl, by decide, by decide⟩ ?F
    intro w mg fa h Y G hmg0
    obtain ⟨K, KX, c⟩ := Y
    have hmg : mg ("law" : PySem.Str) = some (.ref fa) := by
      have e : (HandSHeadRun.topDef (OpenLaw.row PySem.Challenge.rw_anyfifth_k16_whole_operators_of_regions).prog 71).name = ("law" : PySem.Str) := by kernel_rfl
      rw [← e]
      exact hmg0
    exact ⟨K, KX, Toy.all_mk KX G hmg c⟩
