import PyProof.Rows.All
import Wide.All
import OpenK.AllK
import Wide.FinOn
import PyProof.ExcClass
import HandS.Defaults
import HandS.Head0
import HandS.Head1
import HandS.Head2
import HandS.HeadHook4
import HandS.HeadNt
import HandS.More
import HandS.ForMost
import HandS.Wide
import HandS.Gcd
import HandS.Codes
import HandS.IsInst
import HandS.ClsMeth
import HandS.Property
import HandS.OwnEq
import KE.KEqSeq
import KE.KOpsOwn
import PyProof.InstEq
import HandS.Exc
import HandS.TryMany
import HandS.ExcField
import HandS.ExcValue
import KE.KExcIs
import HandS.Star
import HandS.EndTab
import HandS.List
import PyProof.ReprRoads
import HandS.FStr
import HandS.Strs
import KE.KFmtOwn
import PyProof.LongRange
import HandS.ExcInit
import HandS.WordsExc
import HandS.Small
import KE.RegKIsAll
import KE.KNestM
import PySem.Challenge.RW_anyfifth_k25_positions_on_pieces
set_option Elab.async false
set_option maxRecDepth 100000
set_option maxHeartbeats 4000000
/-! A head by looks: what the end leans on is looked at behind one run of the top, in the kernel; facts of any kind as Bools, defs at any address, tables of code objects. -/
namespace Hz
open PySem PySem.W PySem.Calls PyProof.Rows He L2
/-- hands a number on once it is one -/
def withN {α : Type} (n : Nat) (k : Nat → α) : α := HandSHeadRun.frNat n k
/-- a set of addresses -/
inductive Tr where
  | nil
  | node (b : Bool) (l r : Tr)
def Tr.has : Tr → Nat → Bool
  | .nil, _ => false
  | .node b l r, i => match Nat.beq i 0 with
    | true => b
    | false => match Nat.beq (i % 2) 1 with
      | true => withN (i / 2) fun i => l.has i
      | false => withN (i / 2 - 1) fun i => r.has i
def Tr.arms : Tr → Bool × Tr × Tr
  | .nil => (false, .nil, .nil)
  | .node b l r => (b, l, r)
def Tr.put : Nat → Tr → Nat → Tr
  | 0, t, _ => t
  | n + 1, t, i => match t.arms with
    | (b, l, r) => match Nat.beq i 0 with
      | true => .node true l r
      | false => match Nat.beq (i % 2) 1 with
        | true => withN (i / 2) fun i => .node b (l.put n i) r
        | false => withN (i / 2 - 1) fun i => .node b l (r.put n i)
/-- the addresses that are not yet in the set -/
def sift : List Addr → Tr → List Addr → List Addr × Tr
  | [], t, r => (r, t)
  | a :: as, t, r => withN a fun a => match t.has a with
    | true => sift as t r
    | false => sift as (t.put 40 a) (a :: r)
/-- n rounds from the addresses that came last -/
def rounds (g : Addr → Option Obj) : Nat → List Addr → Tr → List Addr → List Addr
  | 0, _, _, all => all
  | n + 1, new, t, all => match sift (new.flatMap fun a => match g a with
      | some o => refsD o
      | none => []) t [] with
    | (nx, t2) => rounds g n nx t2 (nx ++ all)
/-- from what these names stand for -/
def reach (g : Addr → Option Obj) (xs : List Str) (n : Nat) : List Addr := match sift [mainGlobals, cStatics] .nil [] with
  | (first, t) => match sift (xs.map fun x => ga (frG g [mainGlobals]) x) t [] with
    | (nx, t) => rounds g n nx t (nx ++ first)
/-- the objects there -/
def objs (g : Addr → Option Obj) (xs : List Str) (n : Nat) : Frag := frT g (reach g xs n)
/-- hands a list of objects on once its cells stand -/
def laid {α : Type} : Frag → (Frag → α) → α
  | [], k => k []
  | (a, o) :: r, k => withN a fun a => laid r fun r => k ((a, o) :: r)
theorem withN_eq {α : Type} (n : Nat) (k : Nat → α) : withN n k = k n := HandSHeadRun.frNat_eq n k
theorem laid_eq {α : Type} : ∀ (K : Frag) (k : Frag → α), laid K k = k K
  | [], _ => rfl
  | (a, o) :: r, k => by
    show (withN a fun a => laid r fun r => k ((a, o) :: r)) = _
    rw [withN_eq, laid_eq r]
/-! ### what is looked at -/
def sees (fs : List (Frag → Bool)) (ds : List He5.DefA) (tf : List Defn) (g : Addr → Option Obj) (K : Frag) : AlD :=
  ((fs.all fun f => f K) && ((ds.all fun d => d.ok K) && tabsB g tf K), ds.map fun d => He5.fnA K (d.at_ K))
def due (ds : List He5.DefA) : AlD := (true, ds.map He5.DefA.val)
structure Says (fs : List (Frag → Bool)) (ds : List He5.DefA) (tf : List Defn) (h : Heap) (K : Frag) : Prop where
  f : ∀ f ∈ fs, f K = true
  d : ∀ d ∈ ds, d.ok K = true
  e : (ds.map fun d => He5.fnA K (d.at_ K)) = ds.map He5.DefA.val
  hd : ∀ p ∈ tf, codeHdIn K (cT K p).1 (cT K p).2 = true
  out : ∀ p ∈ tf, K.lookup (cT K p).2 = none
  em : ∀ p ∈ tf, h.get? (cT K p).2 = some (tabObj #[])
theorem says_of {xs : List Str} {n : Nat} {fs : List (Frag → Bool)} {ds : List He5.DefA} {tf : List Defn} {h : Heap} (e : laid (objs h.get? xs n) (sees fs ds tf h.get?) = due ds) : Says fs ds tf h (objs h.get? xs n) := by
  rw [laid_eq] at e
  have e1 := congrArg (fun z : AlD => z.1) e
  have e2 := congrArg (fun z : AlD => z.2) e
  obtain ⟨h1, h2⟩ := ba (show ((fs.all fun f => f (objs h.get? xs n)) && ((ds.all fun d => d.ok (objs h.get? xs n)) && tabsB h.get? tf (objs h.get? xs n))) = true from e1)
  obtain ⟨h2, h3⟩ := ba h2
  have key : ∀ p ∈ tf, codeHdIn (objs h.get? xs n) (cT (objs h.get? xs n) p).1 (cT (objs h.get? xs n) p).2 = true ∧ ∃ o, h.get? (cT (objs h.get? xs n) p).2 = some o ∧ emptyTab o = true := fun p hp => by
    obtain ⟨h4, h5⟩ := ba (List.all_eq_true.mp h3 p hp)
    refine ⟨h4, ?_⟩
    cases q : h.get? (cT (objs h.get? xs n) p).2 with
    | none => rw [q] at h5; cases h5
    | some o => rw [q] at h5; exact ⟨o, rfl, h5⟩
  refine ⟨fun f hf => List.all_eq_true.mp h1 f hf, fun d hd => List.all_eq_true.mp h2 d hd, e2, fun p hp => (key p hp).1, fun p hp => ?_, fun p hp => ?_⟩
  · obtain ⟨_, o, q, z⟩ := key p hp
    exact frT_none q z
  · obtain ⟨_, o, q, z⟩ := key p hp
    rw [q, emptyTab_eq z]
def hook (xs : List Str) (n : Nat) (fs : List (Frag → Bool)) (ds : List He5.DefA) (tf : List Defn) : PySem.W.Hook where
  α := AlD
  obs := fun s => laid (objs s.heap.get? xs n) (sees fs ds tf s.heap.get?)
  val := fun _ => due ds
  says := fun _ h => ∃ K : Frag, K.In h ∧ Says fs ds tf h K
  of := fun _ _ e => ⟨_, frT_in, says_of e⟩
  keeps := fun _ _ _ ⟨K, hK, c⟩ k => ⟨K, Frag.In.keeps hK k, ⟨c.f, c.d, c.e, c.hd, c.out, fun p hp => k _ _ (c.em p hp)⟩⟩
/-- the same off the tree -/
def ob (xs : List Str) (n : Nat) (fs : List (Frag → Bool)) (ds : List He5.DefA) (tf : List Defn) (s : SharedT) : AlD := laid (objs (HandSHeadRun.getT s) xs n) (sees fs ds tf (HandSHeadRun.getT s))
theorem ob_eq (xs : List Str) (n : Nat) (fs : List (Frag → Bool)) (ds : List He5.DefA) (tf : List Defn) (s : SharedT) : ob xs n fs ds tf s = (hook xs n fs ds tf).obs s.abs := by
  have e : HandSHeadRun.getT s = s.abs.heap.get? := funext (HandSHeadRun.getT_eq s)
  unfold ob
  rw [e]
  rfl
section
variable {fs : List (Frag → Bool)} {ds : List He5.DefA} {tf : List Defn} {h : Heap} {K : Frag}
theorem Says.fact (c : Says fs ds tf h K) (i : Nat) {f : Frag → Bool} (e : fs[i]? = some f := by rfl) : f K = true := c.f f (List.mem_of_getElem? e)
theorem Says.def_ (c : Says fs ds tf h K) (i : Nat) {d : He5.DefA} (e : ds[i]? = some d := by rfl) : ∃ fd, FunD K d.name d.qual d.params d.body d.scope (d.dvs K) (d.kws K) (d.at_ K) fd := by
  have e2 : (ds.map fun d => He5.fnA K (d.at_ K))[i]? = (ds.map He5.DefA.val)[i]? := by rw [c.e]
  rw [List.getElem?_map, List.getElem?_map, e] at e2
  exact He5.DefA.funD (Option.some.inj e2) (c.d d (List.mem_of_getElem? e))
end
/-! ### kinds of facts -/
def bO (a : Option (Option Value)) (b : Option (Option Value)) : Bool := eqO a b
theorem bO_ok {a b : Option (Option Value)} (h : bO a b = true) : a = b := eqO_ok h
def bV (a b : Option Value) : Bool := decide (a = b)
theorem bV_ok {a b : Option Value} (h : bV a b = true) : a = b := of_decide_eq_true h
def bB (a b : Option Bool) : Bool := decide (a = b)
theorem bB_ok {a b : Option Bool} (h : bB a b = true) : a = b := of_decide_eq_true h
/-- there is an answer -/
def bS (a : Option (Option Value)) : Bool := a.isSome
theorem bS_ok {a : Option (Option Value)} (h : bS a = true) : ∃ o, a = some o := by
  cases a with
  | none => cases h
  | some o => exact ⟨o, rfl⟩
/-- a record's first item -/
def bR (a : Option (List Value)) (f : Addr) : Bool := match a with
  | some (.ref x :: _) => decide (x = f)
  | _ => false
theorem bR_ok {a : Option (List Value)} {f : Addr} (h : bR a f = true) : ∃ rest, a = some (.ref f :: rest) := by
  unfold bR at h
  split at h
  · rename_i x r
    exact ⟨r, by rw [of_decide_eq_true h]⟩
  · cases h
/-- an error class with an __init__ of its own, below ValueError -/
def bE (K : Frag) (C : Addr) : Bool := match K.lookup C with
  | some ⟨.type t, _, .cls cd, sl⟩ => decide (t = "type") && ((cd.hasDict && !cd.hasDel) && ((match cd.mro with
      | .ref c :: bm => decide (c = C) && HandSPX.refsVE bm
      | _ => false) && (match sl.toList with
      | [_, _, _, _, some (.builtin b), _] => decide (b = "ValueError.__new__")
      | _ => false)))
  | _ => false
theorem bE_ok {K : Frag} {C : Addr} (h : bE K C = true) : ∃ nm q N bs bm sn sub ab col dd k0 k1 k2 k3 k5, K.lookup C = some (excClassObj nm q C N bs bm true sn sub ab col dd k0 k1 k2 k3 k5 "ValueError.__new__") ∧ HandSPX.refsVE bm = true := by
  unfold bE at h
  cases q : K.lookup C with
  | none => rw [q] at h; cases h
  | some o =>
    obtain ⟨oc, od, dt, sl⟩ := o
    rw [q] at h
    cases oc with
    | type t =>
      cases dt with
      | cls cd =>
        obtain ⟨nm, bs, mro, ns, qn, hdct, sn, sub, ab, col, hdel⟩ := cd
        obtain ⟨h1, h⟩ := ba h
        obtain ⟨h2, h⟩ := ba h
        obtain ⟨h3, h4⟩ := ba h
        obtain ⟨h5, h6⟩ := ba h2
        have e1 : t = "type" := of_decide_eq_true h1
        have e2 : hdct = true := h5
        have e3 : hdel = false := by
          cases hdel with
          | false => rfl
          | true => cases h6
        clear h2 h
        subst e1 e2 e3
        cases mro with
        | nil => cases h3
        | cons m bm =>
          cases m with
          | ref c =>
            obtain ⟨h7, h8⟩ := ba (show (decide (c = C) && HandSPX.refsVE bm) = true from h3)
            have e4 : c = C := of_decide_eq_true h7
            subst e4
            clear h3 h7 h1
            split at h4
            · rename_i k0 k1 k2 k3 b k5 es
              have e5 : b = "ValueError.__new__" := of_decide_eq_true h4
              have e6 : sl = #[k0, k1, k2, k3, some (.builtin b), k5] := by
                rw [← Array.toArray_toList (xs := sl), es]
              subst e5 e6
              exact ⟨nm, qn, ns, bs, bm, sn, sub, ab, col, od, k0, k1, k2, k3, k5, rfl, h8⟩
            · cases h4
          | _ => cases h3
      | _ => cases h
    | _ => cases dt <;> cases h
/-! ### looks one behind another -/
theorem sees_app {fs fs' : List (Frag → Bool)} {ds ds' : List He5.DefA} {tf tf' : List Defn} {g : Addr → Option Obj} {K : Frag} (h : sees fs ds tf g K = due ds) (h' : sees fs' ds' tf' g K = due ds') : sees (fs ++ fs') (ds ++ ds') (tf ++ tf') g K = due (ds ++ ds') := by
  have a1 := congrArg (fun z : AlD => z.1) h
  have a2 := congrArg (fun z : AlD => z.2) h
  have b1 := congrArg (fun z : AlD => z.1) h'
  have b2 := congrArg (fun z : AlD => z.2) h'
  have a1 : ((fs.all fun f => f K) && ((ds.all fun d => d.ok K) && tabsB g tf K)) = true := a1
  have b1 : ((fs'.all fun f => f K) && ((ds'.all fun d => d.ok K) && tabsB g tf' K)) = true := b1
  have a2 : (ds.map fun d => He5.fnA K (d.at_ K)) = ds.map He5.DefA.val := a2
  have b2 : (ds'.map fun d => He5.fnA K (d.at_ K)) = ds'.map He5.DefA.val := b2
  obtain ⟨p1, p2⟩ := ba a1
  obtain ⟨p2, p3⟩ := ba p2
  obtain ⟨q1, q2⟩ := ba b1
  obtain ⟨q2, q3⟩ := ba q2
  have p3 : (tf.all _) = true := p3
  have q3 : (tf'.all _) = true := q3
  unfold sees due tabsB
  rw [List.all_append, List.all_append, List.all_append, List.map_append, List.map_append, p1, p2, p3, q1, q2, q3, a2, b2]
  rfl
theorem ob_app {xs : List Str} {n : Nat} {fs fs' : List (Frag → Bool)} {ds ds' : List He5.DefA} {tf tf' : List Defn} {s : SharedT} (h : ob xs n fs ds tf s = due ds) (h' : ob xs n fs' ds' tf' s = due ds') : ob xs n (fs ++ fs') (ds ++ ds') (tf ++ tf') s = due (ds ++ ds') := by
  unfold ob at *
  rw [laid_eq] at *
  exact sees_app h h'
theorem map_app {α : Type} {A : Option α} {k : α → SharedT} {xs : List Str} {n : Nat} {fs fs' : List (Frag → Bool)} {ds ds' : List He5.DefA} {tf tf' : List Defn} (h : A.map (fun z => ob xs n fs ds tf (k z)) = some (due ds)) (h' : A.map (fun z => ob xs n fs' ds' tf' (k z)) = some (due ds')) : A.map (fun z => ob xs n (fs ++ fs') (ds ++ ds') (tf ++ tf') (k z)) = some (due (ds ++ ds')) := by
  obtain ⟨z, e, h⟩ := Option.map_eq_some_iff.mp h
  rw [e] at h' ⊢
  exact congrArg some (ob_app h (Option.some.inj h'))
end Hz
set_option linter.all false
set_option maxRecDepth 100000
set_option maxHeartbeats 4000000
/-! A head whose opening imports: the opening, the fence, the top, all in one run over the heap as a tree. -/
noncomputable section
namespace Hz
open PySem PySem.W PySem.Calls PyProof.Rows HandSHeadRun
/-- the opening, to where the program is through -/
def impF (st : SharedT → Thread → Option (SharedT × Thread)) : Nat → SharedT → Thread → Option SharedT
  | 0, _, _ => none
  | m + 1, s, t => match t.atExitBegin with
    | some [] => some s
    | some (_ :: _) => none
    | none => match st s t with
      | some (s', t') => frS s' fun s' => impF st m s' t'
      | none => none
theorem impF_ok {tb : String → Option Builtin} {p : Program} {w : World} : ∀ {m : Nat} {s s' : SharedT} {t : Thread}, impF (stepT (denote tb) p w) m s t = some s' → importEnds tb p w m s.abs t = some s'.abs
  | 0, _, _, _, h => by cases h
  | m + 1, s, s', t, h => by
    unfold impF at h
    unfold importEnds
    cases ha : t.atExitBegin with
    | some l =>
      rw [ha] at h
      cases l with
      | nil =>
        cases h
        rfl
      | cons x xs => cases h
    | none =>
      rw [ha] at h
      dsimp only at h ⊢
      cases hs : stepT (denote tb) p w s t with
      | none =>
        rw [hs] at h
        cases h
      | some r =>
        obtain ⟨s2, t2⟩ := r
        rw [hs] at h
        have h3 : (frS s2 fun s' => impF (stepT (denote tb) p w) m s' t2) = some s' := h
        rw [frS_eq] at h3
        rw [stepT_spec hs]
        exact impF_ok h3
/-- the fence of one module, on the tree -/
def fenceT (m : Str) (s : SharedT) : Option SharedT := match boundIn s.abs.heap sysModules m, tameNamesOf? m with
  | some (.ref a), some row => (match getT s a with
    | some o => (match o.dict with
      | some D => (match getT s D, s.tree.get D with
        | some od, some _ => (fenceDict? m row od).map fun u => { s with tree := s.tree.set D fun _ => u }
        | _, _ => none)
      | none => none)
    | none => none)
  | _, _ => none
theorem fenceT_ok {m : Str} {s s' : SharedT} (h : fenceT m s = some s') : fenceModule? m s.abs = some s'.abs := by
  unfold fenceT at h
  unfold fenceModule?
  split at h
  · rename_i a row e1 e2
    rw [e1, e2]
    dsimp only
    rw [← getT_eq]
    split at h
    · rename_i o e3
      rw [e3]
      dsimp only
      split at h
      · rename_i D e4
        rw [e4]
        dsimp only
        rw [← getT_eq]
        split at h
        · rename_i od u e5 e6
          rw [e5]
          dsimp only
          cases e7 : fenceDict? m row od with
          | none =>
            rw [e7] at h
            cases h
          | some v =>
            rw [e7] at h
            cases h
            refine congrArg some ?_
            show (⟨(absHeap s.tree s.n s.life).update D fun _ => v, s.gens, s.drawn, s.toks, s.os⟩ : Shared) = ⟨absHeap (s.tree.set D fun _ => v) s.n s.life, s.gens, s.drawn, s.toks, s.os⟩
            rw [absHeap_set e6]
        · cases h
      · cases h
    · cases h
  · cases h
def fencesT : List Str → SharedT → Option SharedT
  | [], s => some s
  | m :: r, s => match fenceT m s with
    | some s' => fencesT r s'
    | none => none
theorem fencesT_ok : ∀ {l : List Str} {s s' : SharedT}, fencesT l s = some s' → fenceAll? l s.abs = some s'.abs
  | [], _, _, h => by
    cases h
    rfl
  | m :: r, s, s', h => by
    unfold fencesT at h
    unfold fenceAll?
    split at h
    · rename_i u e
      rw [fenceT_ok e]
      exact fencesT_ok h
    · cases h
/-- ahead of the boot -/
def zeroT (p : Program) : SharedT := ⟨.nil, 0, (start p).1.heap.life, (start p).1.gens, (start p).1.drawn, (start p).1.toks, (start p).1.os⟩
theorem zeroT_abs (p : Program) : (zeroT p).abs = (start p).1 := rfl
/-- all of it: the state behind the fence, the state behind the top -/
def allF (st0 st : SharedT → Thread → Option (SharedT × Thread)) (M0 M1 : Nat) (p : Program) : Option (SharedT × SharedT) := match impF st0 M0 (zeroT (opening p)) (start (opening p)).2 with
  | some s => (match fencesT (importedModules p.main.body) s with
    | some f => frS f fun f => (match goF st f.n (f.abs.heap.nsMap mainGlobals "__annotations__") M1 f (topStub p) with
      | some e => some (f, e)
      | none => none)
    | none => none)
  | none => none
def looksA (p : Program) (f e : Shared) : Bool := (f.heap.isNs mainGlobals && f.gens.size == 0) && (staticsOk (importedModules p.main.body) f.heap e.heap && namesBound p e.heap && gensDone e && laidKept f.heap e.heap)
theorem importEnds_le {tb : String → Option Builtin} {p : Program} {w : World} {M N : Nat} {s r : Shared} {t : Thread} (le : Nat.ble M N = true) (h : importEnds tb p w M s t = some r) : importEnds tb p w N s t = some r := by
  have := importEnds_mono (N - M) _ _ _ _ h
  rwa [show M + (N - M) = N by have := Nat.le_of_ble_eq_true le; omega] at this
theorem topRun_le {tb : String → Option Builtin} {p : Program} {w : World} {n0 M N : Nat} {ann : Option Value} {s r : Shared} {t : Thread} (le : Nat.ble M N = true) (h : topRun tb p w n0 ann M s t = some r) : topRun tb p w n0 ann N s t = some r := by
  have := topRun_mono (N - M) _ _ _ _ h
  rwa [show M + (N - M) = N by have := Nat.le_of_ble_eq_true le; omega] at this
theorem left_all {p q : Program} {loose : List Str} {Xt : Shared → Bool} {α : Type} {Yf : Shared → α} {Ya : World → α} {N M0 M1 : Nat}
    (hnp : p.main.body.any namesNumpy = false) (le0 : Nat.ble M0 N = true) (le1 : Nat.ble M1 N = true)
    (run : ∀ w : World, (allF (stepT (denote treeTable) (opening p) w) (stepT (denote treeTable) p w) M0 M1 p).map (fun z => (looksA p z.1.abs z.2.abs, openSeen q loose (importedModules p.main.body) Xt true z.2.abs, Yf z.2.abs)) = some (true, openGood q loose, Ya w)) :
    LeftO p q loose Xt Yf Ya N true := fun w => by
  obtain ⟨⟨f, e⟩, hs, hv⟩ := Option.map_eq_some_iff.mp (run w)
  obtain ⟨l1, l2, l3⟩ : _ ∧ _ ∧ _ := by simpa only [Prod.mk.injEq] using hv
  unfold allF at hs
  split at hs
  · rename_i s e1
    split at hs
    · rename_i f2 e2
      rw [frS_eq] at hs
      split at hs
      · rename_i e3 e4
        cases hs
        have i1 := importEnds_le le0 (impF_ok e1)
        rw [zeroT_abs] at i1
        have i2 : fenceModules? p s.abs = some f.abs := by
          unfold fenceModules?
          rw [fencesT_ok e2]
          show (if p.main.body.any namesNumpy then _ else _) = _
          rw [hnp]
          rfl
        have a : fencedOpening treeTable p w N = some f.abs := by
          unfold fencedOpening
          rw [i1]
          exact i2
        have r := topRun_le le1 (goF_ok e4)
        obtain ⟨k1, k2⟩ := Bool.and_eq_true_iff.mp (show ((f.abs.heap.isNs mainGlobals && f.abs.gens.size == 0) && (staticsOk (importedModules p.main.body) f.abs.heap e.abs.heap && namesBound p e.abs.heap && gensDone e.abs && laidKept f.abs.heap e.abs.heap)) = true from l1)
        have t : topFrom treeTable p w N f.abs = some e.abs := by
          unfold topFrom
          rw [k1]
          have sz : f.abs.heap.objs.size = f.n := absHeap_size _ _ _
          dsimp only
          rw [sz, r]
          show (match staticsOk (importedModules p.main.body) f.abs.heap e.abs.heap && namesBound p e.abs.heap && gensDone e.abs && laidKept f.abs.heap e.abs.heap with | true => some e.abs | false => none) = _
          rw [k2]
        unfold openEnds
        rw [a]
        show (topFrom treeTable p w N _).map _ = _
        rw [t]
        exact congrArg some (Prod.ext l2 l3)
      · cases hs
    · cases hs
  · cases hs
/-- the run's equation at a world -/
def RunAll (r : OpenRow) (q : Program) (H : Hook) (ob : SharedT → H.α) (M0 M1 : Nat) (loose : List Str) (w : World) : Prop :=
  (allF (stepQ (denQ tabQ) (opening r.prog) w) (stepQ (denQ tabQ) r.prog w) M0 M1 r.prog).map (fun z => (looksA r.prog z.1.abs z.2.abs, seenQ q loose (importedModules r.prog.main.body) (fun s => xlAt q [] s && recOk r.toRowW.records s) z.2.abs, ob z.2)) = some (true, openGood q loose, H.val w)
/-- .. from its parts -/
theorem run_of {r : OpenRow} {q : Program} {H : Hook} {ob : SharedT → H.α} {M0 M1 : Nat} {loose : List Str} {w : World}
    (hL : (allF (stepQ (denQ tabQ) (opening r.prog) w) (stepQ (denQ tabQ) r.prog w) M0 M1 r.prog).map (fun z => looksA r.prog z.1.abs z.2.abs) = some true)
    (hS : (allF (stepQ (denQ tabQ) (opening r.prog) w) (stepQ (denQ tabQ) r.prog w) M0 M1 r.prog).map (fun z => seenQ q loose (importedModules r.prog.main.body) (fun s => xlAt q [] s && recOk r.toRowW.records s) z.2.abs) = some (openGood q loose))
    (hF : (allF (stepQ (denQ tabQ) (opening r.prog) w) (stepQ (denQ tabQ) r.prog w) M0 M1 r.prog).map (fun z => ob z.2) = some (H.val w)) : RunAll r q H ob M0 M1 loose w := by
  unfold RunAll
  obtain ⟨z, e, h1⟩ := Option.map_eq_some_iff.mp hL
  rw [e] at hS hF ⊢
  have h2 := Option.some.inj hS
  have h3 := Option.some.inj hF
  exact congrArg some (Prod.ext h1 (Prod.ext h2 h3))
theorem allQ_eq (M0 M1 : Nat) (p : Program) (w : World) : allF (stepT (denote treeTable) (opening p) w) (stepT (denote treeTable) p w) M0 M1 p = allF (stepQ (denQ tabQ) (opening p) w) (stepQ (denQ tabQ) p w) M0 M1 p := by
  rw [stepQ_eq, denQ_eq, tabQ_eq]
theorem head_all {r : OpenRow} {q : Program} {H : Hook} {ob : SharedT → H.α} {M0 M1 : Nat} {loose : List Str} {d : DefRec} {kwd : List (Str × PySem.Expr)} (ho : ∀ s : SharedT, ob s = H.obs s.abs)
    (hnp : r.prog.main.body.any namesNumpy = false) (run : ∀ w, RunAll r q H ob M0 M1 loose w)
    (hdef : defOf q r.name = some (d, kwd)) (hp : r.prog.theDef r.name = some (d.params, d.body, d.scope)) (hk : kwWritten? d.params.kwonlyargs d.params.kw_defaults = some kwd)
    (hwr : (!r.writes || r.records.isEmpty) = true) (k1 : r.wellSaid = true) (ok : (chainsOk q && opensWell r.prog && (frees r.toRowW && r.within.isEmpty)) = true) (hb : r.prog.bare) (hw : r.toRowW.promised)
    (call : WalkO q loose (XL q []) H.says r.toRowW d kwd fun f vs => PySem.call f vs) : r.Holds := by
  have left : LeftO r.prog q loose (fun s => xlAt q [] s && recOk r.toRowW.records s) H.obs H.val (M0 + M1) true :=
    left_all hnp (M0 := M0) (M1 := M1) (Nat.ble_eq_true_of_le (by omega)) (Nat.ble_eq_true_of_le (by omega)) fun w => by
      have z := run w
      have eo : ob = fun s => H.obs s.abs := funext ho
      unfold RunAll at z
      rw [eo] at z
      simp only [allQ_eq, seenQ_eq]
      exact z
  exact holds_open (r := r) (q := q) (loose := loose) (XP := XL q []) (YP := H.says) (d := d) (kwd := kwd) left H.of H.keeps (fun s z => xl_of s (Bool.and_eq_true_iff.mp z).1) XL.keeps hdef hp hk (fun s z => recFacts_of (Bool.and_eq_true_iff.mp z).2) hwr k1 ok hb hw call
end Hz
set_option linter.all false
set_option maxRecDepth 100000
set_option maxHeartbeats 4000000
namespace Toy
open PySem PySem.W PySem.Calls PyProof.Rows L2
/-! ### the head -/
def ztop (i : Nat) : Stmt := PySem.Challenge.pw_anyfifth_k25_positions_on_pieces.main.body.getD i (.Pass ⟨0, 0, 0, 0⟩)
abbrev zCR (K : PySem.W.Frag) : Addr := He.ga K "Ratio"
abbrev zCP (K : PySem.W.Frag) : Addr := He.ga K "Piece"
abbrev zCT (K : PySem.W.Frag) : Addr := He.ga K "Tone"
abbrev zCF (K : PySem.W.Frag) : Addr := He.ga K "FifthError"
abbrev zCBN (K : PySem.W.Frag) : Addr := He.ga K "BadNumber"
abbrev zCBP (K : PySem.W.Frag) : Addr := He.ga K "BadPiece"
abbrev zCM (K : PySem.W.Frag) : Addr := He.ga K "Meets"
abbrev zf0 (K : PySem.W.Frag) : Addr := He.ga K "is_int"
abbrev zp1 (K : PySem.W.Frag) : Addr := He.ma K (zCR K) "is_number"
abbrev zf1 (K : PySem.W.Frag) : Addr := He5.wf K (zCR K) "staticmethod" "is_number"
abbrev zf2 (K : PySem.W.Frag) : Addr := He.ga K "parts_of"
abbrev zf3 (K : PySem.W.Frag) : Addr := He.ga K "_lead"
abbrev zf4 (K : PySem.W.Frag) : Addr := He.ma K (zCR K) "__init__"
abbrev zf5 (K : PySem.W.Frag) : Addr := He.ma K (zCR K) "__lt__"
abbrev zf6 (K : PySem.W.Frag) : Addr := He.ma K (zCR K) "__le__"
abbrev zf7 (K : PySem.W.Frag) : Addr := He.ma K (zCR K) "__gt__"
abbrev zf8 (K : PySem.W.Frag) : Addr := He.ma K (zCR K) "__ge__"
abbrev zp9 (K : PySem.W.Frag) : Addr := He.ma K (zCR K) "of"
abbrev zf9 (K : PySem.W.Frag) : Addr := He5.wf K (zCR K) "staticmethod" "of"
abbrev zf10 (K : PySem.W.Frag) : Addr := He.ga K "_is_left_end"
abbrev zf11 (K : PySem.W.Frag) : Addr := He.ga K "_is_right_end"
abbrev zf12 (K : PySem.W.Frag) : Addr := He.ga K "_are_neighbours"
abbrev zf13 (K : PySem.W.Frag) : Addr := He.ma K (zCP K) "__init__"
abbrev zp14 (K : PySem.W.Frag) : Addr := He.ma K (zCP K) "reach"
abbrev zf14 (K : PySem.W.Frag) : Addr := He5.wf K (zCP K) "property" "reach"
abbrev zf15 (K : PySem.W.Frag) : Addr := He.ma K (zCT K) "__init__"
abbrev zf16 (K : PySem.W.Frag) : Addr := He.ma K (zCT K) "__eq__"
abbrev zf17 (K : PySem.W.Frag) : Addr := He.ma K (He.ga K "BadNumber") "__init__"
abbrev zf18 (K : PySem.W.Frag) : Addr := He.ma K (He.ga K "BadPiece") "__init__"
abbrev zf19 (K : PySem.W.Frag) : Addr := He.ma K (He.ga K "Meets") "__init__"
abbrev zf20 (K : PySem.W.Frag) : Addr := He.ga K "met"
abbrev zf21 (K : PySem.W.Frag) : Addr := He.ga K "rise"
abbrev zf22 (K : PySem.W.Frag) : Addr := He.ga K "position"
abbrev zf23 (K : PySem.W.Frag) : Addr := He.ga K "_law_pen"
abbrev zf24 (K : PySem.W.Frag) : Addr := He.ga K "_law_draw"
abbrev zf25 (K : PySem.W.Frag) : Addr := He.ga K "_law_pick"
abbrev zf26 (K : PySem.W.Frag) : Addr := He.ga K "_law_divisor"
abbrev zf27 (K : PySem.W.Frag) : Addr := He.ga K "_law_ends"
abbrev zf28 (K : PySem.W.Frag) : Addr := He.ga K "_law_far"
abbrev zf29 (K : PySem.W.Frag) : Addr := He.ga K "_law_met"
abbrev zf30 (K : PySem.W.Frag) : Addr := He.ga K "_law_told"
abbrev zf31 (K : PySem.W.Frag) : Addr := He.ga K "_law_right"
abbrev zf32 (K : PySem.W.Frag) : Addr := He.ga K "law"
def zd0 : He5.DefA := ⟨zf0, "is_int", "is_int", defArgs (ztop 18), defBody (ztop 18), defScope (ztop 18), [], []⟩
def zd1 : He5.DefA := ⟨zf1, "is_number", "Ratio.is_number", defArgs (inClass (ztop 22) 1), defBody (inClass (ztop 22) 1), defScope (inClass (ztop 22) 1), [], []⟩
def zd2 : He5.DefA := ⟨zf2, "parts_of", "parts_of", defArgs (ztop 23), defBody (ztop 23), defScope (ztop 23), [], []⟩
def zd3 : He5.DefA := ⟨zf3, "_lead", "_lead", defArgs (ztop 25), defBody (ztop 25), defScope (ztop 25), [], []⟩
def zd4 : He5.DefA := ⟨zf4, "__init__", "Ratio.__init__", defArgs (inClass (ztop 22) 0), defBody (inClass (ztop 22) 0), defScope (inClass (ztop 22) 0), [.int 1], []⟩
def zd5 : He5.DefA := ⟨zf5, "__lt__", "Ratio.__lt__", defArgs (inClass (ztop 22) 22), defBody (inClass (ztop 22) 22), defScope (inClass (ztop 22) 22), [], []⟩
def zd6 : He5.DefA := ⟨zf6, "__le__", "Ratio.__le__", defArgs (inClass (ztop 22) 23), defBody (inClass (ztop 22) 23), defScope (inClass (ztop 22) 23), [], []⟩
def zd7 : He5.DefA := ⟨zf7, "__gt__", "Ratio.__gt__", defArgs (inClass (ztop 22) 24), defBody (inClass (ztop 22) 24), defScope (inClass (ztop 22) 24), [], []⟩
def zd8 : He5.DefA := ⟨zf8, "__ge__", "Ratio.__ge__", defArgs (inClass (ztop 22) 25), defBody (inClass (ztop 22) 25), defScope (inClass (ztop 22) 25), [], []⟩
def zd9 : He5.DefA := ⟨zf9, "of", "Ratio.of", defArgs (inClass (ztop 22) 3), defBody (inClass (ztop 22) 3), defScope (inClass (ztop 22) 3), [], []⟩
def zd10 : He5.DefA := ⟨zf10, "_is_left_end", "_is_left_end", defArgs (ztop 31), defBody (ztop 31), defScope (ztop 31), [], []⟩
def zd11 : He5.DefA := ⟨zf11, "_is_right_end", "_is_right_end", defArgs (ztop 32), defBody (ztop 32), defScope (ztop 32), [], []⟩
def zd12 : He5.DefA := ⟨zf12, "_are_neighbours", "_are_neighbours", defArgs (ztop 34), defBody (ztop 34), defScope (ztop 34), [], []⟩
def zd13 : He5.DefA := ⟨zf13, "__init__", "Piece.__init__", defArgs (inClass (ztop 28) 0), defBody (inClass (ztop 28) 0), defScope (inClass (ztop 28) 0), [], []⟩
def zd14 : He5.DefA := ⟨zf14, "reach", "Piece.reach", defArgs (inClass (ztop 28) 5), defBody (inClass (ztop 28) 5), defScope (inClass (ztop 28) 5), [], []⟩
def zd15 : He5.DefA := ⟨zf15, "__init__", "Tone.__init__", defArgs (inClass (ztop 74) 0), defBody (inClass (ztop 74) 0), defScope (inClass (ztop 74) 0), [.int 0], []⟩
def zd16 : He5.DefA := ⟨zf16, "__eq__", "Tone.__eq__", defArgs (inClass (ztop 74) 10), defBody (inClass (ztop 74) 10), defScope (inClass (ztop 74) 10), [], []⟩
def zd17 : He5.DefA := ⟨zf17, "__init__", "BadNumber.__init__", defArgs (inClass (ztop 8) 0), defBody (inClass (ztop 8) 0), defScope (inClass (ztop 8) 0), [], []⟩
def zd18 : He5.DefA := ⟨zf18, "__init__", "BadPiece.__init__", defArgs (inClass (ztop 9) 0), defBody (inClass (ztop 9) 0), defScope (inClass (ztop 9) 0), [], []⟩
def zd19 : He5.DefA := ⟨zf19, "__init__", "Meets.__init__", defArgs (inClass (ztop 15) 0), defBody (inClass (ztop 15) 0), defScope (inClass (ztop 15) 0), [], []⟩
def zd20 : He5.DefA := ⟨zf20, "met", "met", defArgs (ztop 30), defBody (ztop 30), defScope (ztop 30), [], []⟩
def zd21 : He5.DefA := ⟨zf21, "rise", "rise", defArgs (ztop 77), defBody (ztop 77), defScope (ztop 77), [], []⟩
def zd22 : He5.DefA := ⟨zf22, "position", "position", defArgs (ztop 76), defBody (ztop 76), defScope (ztop 76), [], []⟩
def zd23 : He5.DefA := ⟨zf23, "_law_pen", "_law_pen", defArgs (ztop 80), defBody (ztop 80), defScope (ztop 80), [], []⟩
def zd24 : He5.DefA := ⟨zf24, "_law_draw", "_law_draw", defArgs (ztop 81), defBody (ztop 81), defScope (ztop 81), [], []⟩
def zd25 : He5.DefA := ⟨zf25, "_law_pick", "_law_pick", defArgs (ztop 82), defBody (ztop 82), defScope (ztop 82), [], []⟩
def zd26 : He5.DefA := ⟨zf26, "_law_divisor", "_law_divisor", defArgs (ztop 83), defBody (ztop 83), defScope (ztop 83), [], []⟩
def zd27 : He5.DefA := ⟨zf27, "_law_ends", "_law_ends", defArgs (ztop 84), defBody (ztop 84), defScope (ztop 84), [], []⟩
def zd28 : He5.DefA := ⟨zf28, "_law_far", "_law_far", defArgs (ztop 85), defBody (ztop 85), defScope (ztop 85), [], []⟩
def zd29 : He5.DefA := ⟨zf29, "_law_met", "_law_met", defArgs (ztop 86), defBody (ztop 86), defScope (ztop 86), [], []⟩
def zd30 : He5.DefA := ⟨zf30, "_law_told", "_law_told", defArgs (ztop 87), defBody (ztop 87), defScope (ztop 87), [], []⟩
def zd31 : He5.DefA := ⟨zf31, "_law_right", "_law_right", defArgs (ztop 88), defBody (ztop 88), defScope (ztop 88), [], []⟩
def zd32 : He5.DefA := ⟨zf32, "law", "law", defArgs (ztop 89), defBody (ztop 89), defScope (ztop 89), [], []⟩
def zfs0_0 : List (PySem.W.Frag → Bool) := [fun K => Hz.bO (PySem.W.nsIn K mainGlobals "Ratio") (some (some (.ref (zCR K)))),
  fun K => PySem.W.plainGet K (zCR K) Str.empty,
  fun K => PySem.W.hasDictIn K (zCR K),
  fun K => PySem.W.plainOver K (zCR K),
  fun K => Hz.bO (PySem.W.findIn K (.ref (zCR K)) "__setattr__") (some (some (.builtin "object.__setattr__"))),
  fun K => PySem.W.readsIn K (zCR K) (.type "type"),
  fun K => Hz.bO (PySem.W.specialIn K (.ref (zCR K)) "__getattribute__") (some (some (.builtin "type.__getattribute__"))),
  fun K => Hz.bO (PySem.W.findIn K (.ref (zCR K)) "__class__") (some (some (.builtin "object.__class__"))),
  fun K => Hz.bB (PySem.W.mroIn K (zCR K) (.type "object")) (some true),
  fun K => Hz.bB (PySem.W.subIn K (.ref (zCR K)) (.type "int")) (some false),
  fun K => PySem.W.notFirst K (zCR K) (.type "int"),
  fun K => PySem.W.notFirst K (zCR K) (.ref (zCR K)),
  fun K => Hz.bB (PySem.W.kitOne K (.ref (zCR K)) (.type "int")) (some false),
  fun K => Hz.bB (PySem.W.kitOne K (.ref (zCR K)) (.type "bool")) (some false),
  fun K => Hz.bB (PySem.W.kitOne K (.type "int") (.ref (zCR K))) (some false),
  fun K => Hz.bB (PySem.W.kitOne K (.ref (zCR K)) (.ref (zCR K))) (some true),
  fun K => Hz.bO (PySem.W.findIn K (.ref (zCR K)) "top") (some none),
  fun K => Hz.bO (PySem.W.findIn K (.ref (zCR K)) "bottom") (some none),
  fun K => PySem.W.makesIn K (zCR K),
  fun K => PySem.W.keepIn K (.ref (zCR K))]
def zfs0_1 : List (PySem.W.Frag → Bool) := [fun K => Hz.bO (PySem.W.nsIn K mainGlobals "Piece") (some (some (.ref (zCP K)))),
  fun K => PySem.W.plainGet K (zCP K) Str.empty,
  fun K => PySem.W.hasDictIn K (zCP K),
  fun K => PySem.W.plainOver K (zCP K),
  fun K => Hz.bO (PySem.W.findIn K (.ref (zCP K)) "__setattr__") (some (some (.builtin "object.__setattr__"))),
  fun K => PySem.W.readsIn K (zCP K) (.type "type"),
  fun K => Hz.bO (PySem.W.specialIn K (.ref (zCP K)) "__getattribute__") (some (some (.builtin "type.__getattribute__"))),
  fun K => Hz.bO (PySem.W.findIn K (.ref (zCP K)) "__class__") (some (some (.builtin "object.__class__"))),
  fun K => Hz.bB (PySem.W.mroIn K (zCP K) (.type "object")) (some true),
  fun K => Hz.bB (PySem.W.subIn K (.ref (zCP K)) (.type "int")) (some false),
  fun K => PySem.W.notFirst K (zCP K) (.type "int"),
  fun K => PySem.W.notFirst K (zCP K) (.ref (zCP K)),
  fun K => Hz.bB (PySem.W.kitOne K (.ref (zCP K)) (.type "int")) (some false),
  fun K => Hz.bB (PySem.W.kitOne K (.ref (zCP K)) (.type "bool")) (some false),
  fun K => Hz.bB (PySem.W.kitOne K (.type "int") (.ref (zCP K))) (some false),
  fun K => Hz.bB (PySem.W.kitOne K (.ref (zCP K)) (.ref (zCP K))) (some true),
  fun K => Hz.bO (PySem.W.findIn K (.ref (zCP K)) "left") (some none),
  fun K => Hz.bO (PySem.W.findIn K (.ref (zCP K)) "right") (some none),
  fun K => PySem.W.makesIn K (zCP K),
  fun K => PySem.W.keepIn K (.ref (zCP K))]
def zfs0_2 : List (PySem.W.Frag → Bool) := [fun K => Hz.bO (PySem.W.nsIn K mainGlobals "Tone") (some (some (.ref (zCT K)))),
  fun K => PySem.W.plainGet K (zCT K) Str.empty,
  fun K => PySem.W.hasDictIn K (zCT K),
  fun K => PySem.W.plainOver K (zCT K),
  fun K => Hz.bO (PySem.W.findIn K (.ref (zCT K)) "__setattr__") (some (some (.builtin "object.__setattr__"))),
  fun K => PySem.W.readsIn K (zCT K) (.type "type"),
  fun K => Hz.bO (PySem.W.specialIn K (.ref (zCT K)) "__getattribute__") (some (some (.builtin "type.__getattribute__"))),
  fun K => Hz.bO (PySem.W.findIn K (.ref (zCT K)) "__class__") (some (some (.builtin "object.__class__"))),
  fun K => Hz.bB (PySem.W.mroIn K (zCT K) (.type "object")) (some true),
  fun K => Hz.bB (PySem.W.subIn K (.ref (zCT K)) (.type "int")) (some false),
  fun K => PySem.W.notFirst K (zCT K) (.type "int"),
  fun K => PySem.W.notFirst K (zCT K) (.ref (zCT K)),
  fun K => Hz.bB (PySem.W.kitOne K (.ref (zCT K)) (.type "int")) (some false),
  fun K => Hz.bB (PySem.W.kitOne K (.ref (zCT K)) (.type "bool")) (some false),
  fun K => Hz.bB (PySem.W.kitOne K (.type "int") (.ref (zCT K))) (some false),
  fun K => Hz.bB (PySem.W.kitOne K (.ref (zCT K)) (.ref (zCT K))) (some true),
  fun K => Hz.bO (PySem.W.findIn K (.ref (zCT K)) "octaves") (some none),
  fun K => Hz.bO (PySem.W.findIn K (.ref (zCT K)) "fifths") (some none),
  fun K => PySem.W.makesIn K (zCT K),
  fun K => PySem.W.keepIn K (.ref (zCT K))]
def zfs0_3 : List (PySem.W.Frag → Bool) := [fun K => Hz.bO (PySem.W.specialIn K (.builtin "object.__class__") "__get__") (some (some (.builtin "getset_descriptor.__get__"))),
  fun K => Hz.bB (PySem.W.takesIn K (.builtin "object.__class__")) (some true),
  fun K => Hz.bO (PySem.W.nsIn K mainGlobals "int") (some none),
  fun K => Hz.bO (PySem.W.nsIn K mainGlobals "len") (some none),
  fun K => Hz.bO (PySem.W.nsIn K mainGlobals "abs") (some none),
  fun K => Hz.bO (PySem.W.nsIn K mainGlobals "list") (some none),
  fun K => Hz.bO (PySem.W.nsIn K mainGlobals "range") (some none),
  fun K => Hz.bO (PySem.W.nsIn K mainGlobals "isinstance") (some none),
  fun K => Hz.bO (PySem.W.nsIn K mainGlobals "bool") (some none),
  fun K => Hz.bO (PySem.W.nsIn K mainGlobals "repr") (some none),
  fun K => Hz.bO (PySem.W.nsIn K mainGlobals "min") (some none),
  fun K => Hz.bO (PySem.W.nsIn K mainGlobals "max") (some none),
  fun K => Hz.bO (PySem.W.nsIn K mainGlobals "gcd") (some (some (.builtin "math.gcd"))),
  fun K => Hz.bO (PySem.W.nsIn K mainGlobals "FifthError") (some (some (.ref (zCF K)))),
  fun K => Hz.bO (PySem.W.nsIn K mainGlobals "BadNumber") (some (some (.ref (zCBN K)))),
  fun K => Hz.bE K (zCBN K),
  fun K => Hz.bO (PySem.W.findIn K (.ref (zCBN K)) "__setattr__") (some (some (.builtin "object.__setattr__"))),
  fun K => Hz.bB (PySem.W.subIn K (.ref (zCBN K)) (.type "BaseException")) (some true),
  fun K => Hz.bV (PySem.W.typeIn K (.ref (zCBN K))) (some (.type "type")),
  fun K => PySem.W.keepIn K (.ref (zCBN K))]
def zfs0_4 : List (PySem.W.Frag → Bool) := [fun K => Hz.bO (PySem.W.findIn K (.ref (zCBN K)) "__init__") (some (some (.ref (zf17 K)))),
  fun K => Hz.bV (PySem.W.typeIn K (.ref (zf17 K))) (some (.type "function")),
  fun K => Hz.bO (PySem.W.findIn K (.ref (zCBN K)) "value") (some none),
  fun K => Hz.bO (PySem.W.findIn K (.ref (zCBN K)) "__getattribute__") (some (some (.builtin "BaseException.__getattribute__"))),
  fun K => Hz.bO (PySem.W.findIn K (.ref (zCBN K)) "__getattr__") (some none),
  fun K => PySem.W.hasDictIn K (zCBN K),
  fun K => Hz.bO (PySem.W.nsIn K mainGlobals "BadPiece") (some (some (.ref (zCBP K))))]
def zfs0 : List (PySem.W.Frag → Bool) := zfs0_0 ++ (zfs0_1 ++ (zfs0_2 ++ (zfs0_3 ++ (zfs0_4))))
def zds0_0 : List (He5.DefA) := [zd0,
  zd1,
  zd2,
  zd3,
  zd4,
  zd5,
  zd6,
  zd7,
  zd8,
  zd9,
  zd10,
  zd11,
  zd12,
  zd13,
  zd14,
  zd15]
def zds0 : List (He5.DefA) := zds0_0
def zfs1_0 : List (PySem.W.Frag → Bool) := [fun K => Hz.bE K (zCBP K),
  fun K => Hz.bO (PySem.W.findIn K (.ref (zCBP K)) "__setattr__") (some (some (.builtin "object.__setattr__"))),
  fun K => Hz.bB (PySem.W.subIn K (.ref (zCBP K)) (.type "BaseException")) (some true),
  fun K => Hz.bV (PySem.W.typeIn K (.ref (zCBP K))) (some (.type "type")),
  fun K => PySem.W.keepIn K (.ref (zCBP K)),
  fun K => Hz.bO (PySem.W.findIn K (.ref (zCBP K)) "__init__") (some (some (.ref (zf18 K)))),
  fun K => Hz.bV (PySem.W.typeIn K (.ref (zf18 K))) (some (.type "function")),
  fun K => Hz.bO (PySem.W.findIn K (.ref (zCBP K)) "part") (some none),
  fun K => Hz.bO (PySem.W.findIn K (.ref (zCBP K)) "__getattribute__") (some (some (.builtin "BaseException.__getattribute__"))),
  fun K => Hz.bO (PySem.W.findIn K (.ref (zCBP K)) "__getattr__") (some none),
  fun K => PySem.W.hasDictIn K (zCBP K),
  fun K => Hz.bO (PySem.W.nsIn K mainGlobals "Meets") (some (some (.ref (zCM K)))),
  fun K => Hz.bE K (zCM K),
  fun K => Hz.bO (PySem.W.findIn K (.ref (zCM K)) "__setattr__") (some (some (.builtin "object.__setattr__"))),
  fun K => Hz.bB (PySem.W.subIn K (.ref (zCM K)) (.type "BaseException")) (some true),
  fun K => Hz.bV (PySem.W.typeIn K (.ref (zCM K))) (some (.type "type")),
  fun K => PySem.W.keepIn K (.ref (zCM K)),
  fun K => Hz.bO (PySem.W.findIn K (.ref (zCM K)) "__init__") (some (some (.ref (zf19 K)))),
  fun K => Hz.bV (PySem.W.typeIn K (.ref (zf19 K))) (some (.type "function")),
  fun K => Hz.bO (PySem.W.findIn K (.ref (zCM K)) "one") (some none)]
def zfs1_1 : List (PySem.W.Frag → Bool) := [fun K => Hz.bO (PySem.W.findIn K (.ref (zCM K)) "__getattribute__") (some (some (.builtin "BaseException.__getattribute__"))),
  fun K => Hz.bO (PySem.W.findIn K (.ref (zCM K)) "__getattr__") (some none),
  fun K => PySem.W.hasDictIn K (zCM K),
  fun K => Hz.bB (PySem.W.exmOne K (.ref (zCM K)) (.ref (zCF K))) (some true),
  fun K => Hz.bB (PySem.W.exmOne K (.ref (zCBN K)) (.ref (zCF K))) (some true),
  fun K => Hz.bB (PySem.W.exmOne K (.ref (zCBP K)) (.ref (zCF K))) (some true),
  fun K => Hz.bO (PySem.W.findIn K (.ref (zCM K)) "other") (some none),
  fun K => Hz.bO (PySem.W.findIn K (.ref (zCM K)) "at") (some none),
  fun K => Hz.bB (PySem.W.kitOne K (.ref (zCR K)) (.ref (zCP K))) (some false),
  fun K => Hz.bO (PySem.W.findIn K (.ref (zCM K)) "__class__") (some (some (.builtin "object.__class__"))),
  fun K => Hz.bB (PySem.W.mroIn K (zCM K) (.type "object")) (some true),
  fun K => Hz.bO (PySem.W.findIn K (.ref (zCBN K)) "__class__") (some (some (.builtin "object.__class__"))),
  fun K => Hz.bB (PySem.W.mroIn K (zCBN K) (.type "object")) (some true),
  fun K => Hz.bO (PySem.W.findIn K (.ref (zCBP K)) "__class__") (some (some (.builtin "object.__class__"))),
  fun K => Hz.bB (PySem.W.mroIn K (zCBP K) (.type "object")) (some true),
  fun K => Hz.bB (PySem.W.kitOne K (.type "NoneType") (.ref (zCP K))) (some false),
  fun K => Hz.bB (PySem.W.kitOne K (.type "bool") (.ref (zCP K))) (some false),
  fun K => Hz.bB (PySem.W.kitOne K (.type "str") (.ref (zCP K))) (some false),
  fun K => Hz.bB (PySem.W.kitOne K (.type "list") (.ref (zCP K))) (some false),
  fun K => Hz.bB (PySem.W.kitOne K (.type "tuple") (.ref (zCP K))) (some false)]
def zfs1_2 : List (PySem.W.Frag → Bool) := [fun K => Hz.bB (PySem.W.kitOne K (.ref (zCM K)) (.ref (zCM K))) (some true),
  fun K => Hz.bB (PySem.W.kitOne K (.ref (zCBN K)) (.ref (zCM K))) (some false),
  fun K => Hz.bB (PySem.W.kitOne K (.ref (zCBN K)) (.ref (zCBN K))) (some true),
  fun K => Hz.bB (PySem.W.kitOne K (.ref (zCBP K)) (.ref (zCM K))) (some false),
  fun K => Hz.bB (PySem.W.kitOne K (.ref (zCBP K)) (.ref (zCBN K))) (some false),
  fun K => Hz.bB (PySem.W.kitOne K (.ref (zCBP K)) (.ref (zCBP K))) (some true),
  fun K => Hz.bO (PySem.W.nsIn K mainGlobals "is_int") (some (some (.ref (zf0 K)))),
  fun K => He5.wrapB K (zCR K) "staticmethod" "staticmethod.__get__" "is_number",
  fun K => Hz.bO (PySem.W.nsIn K mainGlobals "parts_of") (some (some (.ref (zf2 K)))),
  fun K => Hz.bO (PySem.W.nsIn K mainGlobals "_lead") (some (some (.ref (zf3 K)))),
  fun K => Hz.bO (PySem.W.findIn K (.ref (zCR K)) "__init__") (some (some (.ref (zf4 K)))),
  fun K => PySem.W.isFn K (.ref (zf4 K)),
  fun K => Hz.bO (PySem.W.findIn K (.ref (zCR K)) "__lt__") (some (some (.ref (zf5 K)))),
  fun K => PySem.W.isFn K (.ref (zf5 K)),
  fun K => Hz.bO (PySem.W.findIn K (.ref (zCR K)) "__le__") (some (some (.ref (zf6 K)))),
  fun K => PySem.W.isFn K (.ref (zf6 K)),
  fun K => Hz.bO (PySem.W.findIn K (.ref (zCR K)) "__gt__") (some (some (.ref (zf7 K)))),
  fun K => PySem.W.isFn K (.ref (zf7 K)),
  fun K => Hz.bO (PySem.W.findIn K (.ref (zCR K)) "__ge__") (some (some (.ref (zf8 K)))),
  fun K => PySem.W.isFn K (.ref (zf8 K))]
def zfs1_3 : List (PySem.W.Frag → Bool) := [fun K => He5.wrapB K (zCR K) "staticmethod" "staticmethod.__get__" "of",
  fun K => Hz.bO (PySem.W.nsIn K mainGlobals "_is_left_end") (some (some (.ref (zf10 K)))),
  fun K => Hz.bO (PySem.W.nsIn K mainGlobals "_is_right_end") (some (some (.ref (zf11 K)))),
  fun K => Hz.bO (PySem.W.nsIn K mainGlobals "_are_neighbours") (some (some (.ref (zf12 K)))),
  fun K => Hz.bO (PySem.W.findIn K (.ref (zCP K)) "__init__") (some (some (.ref (zf13 K)))),
  fun K => PySem.W.isFn K (.ref (zf13 K)),
  fun K => Hz.bO (PySem.W.findIn K (.ref (zCP K)) "reach") (some (some (.ref (zp14 K)))),
  fun K => Hz.bO (PySem.W.specialIn K (.ref (zp14 K)) "__get__") (some (some (.builtin "property.__get__"))),
  fun K => Hz.bB (PySem.W.takesIn K (.ref (zp14 K))) (some true),
  fun K => Hz.bR (PySem.W.recIn K (zp14 K) "property") (zf14 K),
  fun K => Hz.bO (PySem.W.findIn K (.ref (zCT K)) "__init__") (some (some (.ref (zf15 K)))),
  fun K => PySem.W.isFn K (.ref (zf15 K)),
  fun K => Hz.bO (PySem.W.findIn K (.ref (zCT K)) "__eq__") (some (some (.ref (zf16 K)))),
  fun K => PySem.W.isFn K (.ref (zf16 K)),
  fun K => Hz.bO (PySem.W.nsIn K mainGlobals "met") (some (some (.ref (zf20 K)))),
  fun K => Hz.bO (PySem.W.nsIn K mainGlobals "rise") (some (some (.ref (zf21 K)))),
  fun K => Hz.bO (PySem.W.nsIn K mainGlobals "position") (some (some (.ref (zf22 K)))),
  fun K => Hz.bO (PySem.W.nsIn K mainGlobals "_law_pen") (some (some (.ref (zf23 K)))),
  fun K => Hz.bO (PySem.W.nsIn K mainGlobals "_law_draw") (some (some (.ref (zf24 K)))),
  fun K => Hz.bO (PySem.W.nsIn K mainGlobals "_law_pick") (some (some (.ref (zf25 K))))]
def zfs1_4 : List (PySem.W.Frag → Bool) := [fun K => Hz.bO (PySem.W.nsIn K mainGlobals "_law_divisor") (some (some (.ref (zf26 K)))),
  fun K => Hz.bO (PySem.W.nsIn K mainGlobals "_law_ends") (some (some (.ref (zf27 K)))),
  fun K => Hz.bO (PySem.W.nsIn K mainGlobals "_law_far") (some (some (.ref (zf28 K)))),
  fun K => Hz.bO (PySem.W.nsIn K mainGlobals "_law_met") (some (some (.ref (zf29 K)))),
  fun K => Hz.bO (PySem.W.nsIn K mainGlobals "_law_told") (some (some (.ref (zf30 K)))),
  fun K => Hz.bO (PySem.W.nsIn K mainGlobals "_law_right") (some (some (.ref (zf31 K)))),
  fun K => Hz.bO (PySem.W.nsIn K mainGlobals "law") (some (some (.ref (zf32 K))))]
def zfs1 : List (PySem.W.Frag → Bool) := zfs1_0 ++ (zfs1_1 ++ (zfs1_2 ++ (zfs1_3 ++ (zfs1_4))))
def zds1_0 : List (He5.DefA) := [zd16,
  zd17,
  zd18,
  zd19,
  zd20,
  zd21,
  zd22,
  zd23,
  zd24,
  zd25,
  zd26,
  zd27,
  zd28,
  zd29,
  zd30,
  zd31,
  zd32]
def zds1 : List (He5.DefA) := zds1_0
def zfs : List (PySem.W.Frag → Bool) := zfs0 ++ (zfs1)
def zds : List He5.DefA := zds0 ++ (zds1)
def zxs : List Str := ([Str.ofString "Ratio", Str.ofString "Piece", Str.ofString "Tone", Str.ofString "FifthError", Str.ofString "BadNumber", Str.ofString "BadPiece", Str.ofString "Meets", Str.ofString "is_int", Str.ofString "parts_of", Str.ofString "_lead", Str.ofString "_is_left_end", Str.ofString "_is_right_end", Str.ofString "_are_neighbours", Str.ofString "met", Str.ofString "rise", Str.ofString "position", Str.ofString "_law_pen", Str.ofString "_law_draw", Str.ofString "_law_pick", Str.ofString "_law_divisor"] : List Str) ++ ([Str.ofString "_law_ends", Str.ofString "_law_far", Str.ofString "_law_met", Str.ofString "_law_told", Str.ofString "_law_right", Str.ofString "law"] : List Str)
def ztf0 : List He.Defn := []
def ztf : List He.Defn := ztf0 ++ ([])
abbrev zR : OpenRow := OpenLaw.row PySem.Challenge.rw_anyfifth_k25_positions_on_pieces
abbrev zq : Program := PySem.W.view zR.prog [89]
abbrev zhk : PySem.W.Hook := Hz.hook zxs 4 zfs zds ztf
def zob (s : PySem.W.SharedT) : He.AlD := Hz.ob zxs 4 zfs zds ztf s
theorem zob_eq (s : PySem.W.SharedT) : zob s = zhk.obs s.abs := Hz.ob_eq _ _ _ _ _ s
def znames : List PySem.Str := ([PySem.Str.ofString "gcd", PySem.Str.ofString "_wall", PySem.Str.ofString "FifthError", PySem.Str.ofString "BadInput", PySem.Str.ofString "Refused", PySem.Str.ofString "BadRatio", PySem.Str.ofString "BadFifth", PySem.Str.ofString "BadNumber", PySem.Str.ofString "BadPiece", PySem.Str.ofString "BadTruth", PySem.Str.ofString "BadTone", PySem.Str.ofString "BadRegion", PySem.Str.ofString "BadText", PySem.Str.ofString "NoDivisor", PySem.Str.ofString "Meets", PySem.Str.ofString "TooMany", PySem.Str.ofString "is_int", PySem.Str.ofString "written", PySem.Str.ofString "integer_in", PySem.Str.ofString "Ratio"] : List PySem.Str) ++ ([PySem.Str.ofString "parts_of", PySem.Str.ofString "ratio_in", PySem.Str.ofString "_lead", PySem.Str.ofString "_quotient", PySem.Str.ofString "Piece", PySem.Str.ofString "path", PySem.Str.ofString "met", PySem.Str.ofString "_is_left_end", PySem.Str.ofString "_is_right_end", PySem.Str.ofString "_is_from_one_on", PySem.Str.ofString "_are_neighbours", PySem.Str.ofString "_spot", PySem.Str.ofString "Row", PySem.Str.ofString "WHOLE", PySem.Str.ofString "is_branch", PySem.Str.ofString "nodes_of", PySem.Str.ofString "leaves_of", PySem.Str.ofString "sizes_of", PySem.Str.ofString "node_at", PySem.Str.ofString "half_ends"] : List PySem.Str) ++ ([PySem.Str.ofString "NONE", PySem.Str.ofString "EVERY", PySem.Str.ofString "AND", PySem.Str.ofString "OR", PySem.Str.ofString "LESS", PySem.Str.ofString "UNLIKE", PySem.Str.ofString "branch_of", PySem.Str.ofString "halves_of", PySem.Str.ofString "combined", PySem.Str.ofString "mirror_of", PySem.Str.ofString "truth_at", PySem.Str.ofString "above_tree", PySem.Str.ofString "below_tree", PySem.Str.ofString "tree_of", PySem.Str.ofString "tree_in", PySem.Str.ofString "words_of", PySem.Str.ofString "_node_in", PySem.Str.ofString "_turns_to", PySem.Str.ofString "Region", PySem.Str.ofString "_is_in_octave"] : List PySem.Str) ++ ([PySem.Str.ofString "_level_of", PySem.Str.ofString "_check_levels", PySem.Str.ofString "_is_within", PySem.Str.ofString "_tree_of_only", PySem.Str.ofString "_first_spots", PySem.Str.ofString "Tone", PySem.Str.ofString "tone_in", PySem.Str.ofString "position", PySem.Str.ofString "rise", PySem.Str.ofString "_into_octave", PySem.Str.ofString "_law_pen", PySem.Str.ofString "_law_draw", PySem.Str.ofString "_law_pick", PySem.Str.ofString "_law_divisor", PySem.Str.ofString "_law_ends", PySem.Str.ofString "_law_far", PySem.Str.ofString "_law_met", PySem.Str.ofString "_law_told", PySem.Str.ofString "_law_right"] : List PySem.Str)
set_option maxRecDepth 100000 in
set_option maxHeartbeats 0 in
theorem zL (w : World) : (Hz.allF (HandSHeadRun.stepQ (HandSHeadRun.denQ HandSHeadRun.tabQ) (opening zR.prog) w) (HandSHeadRun.stepQ (HandSHeadRun.denQ HandSHeadRun.tabQ) zR.prog w) 2000 20000 zR.prog).map (fun z => Hz.looksA zR.prog z.1.abs z.2.abs) = some true := by
  kernel_rfl
set_option maxRecDepth 100000 in
set_option maxHeartbeats 0 in
theorem zS (w : World) : (Hz.allF (HandSHeadRun.stepQ (HandSHeadRun.denQ HandSHeadRun.tabQ) (opening zR.prog) w) (HandSHeadRun.stepQ (HandSHeadRun.denQ HandSHeadRun.tabQ) zR.prog w) 2000 20000 zR.prog).map (fun z => HandSHeadRun.seenQ zq znames (importedModules zR.prog.main.body) (fun s => xlAt zq [] s && recOk zR.toRowW.records s) z.2.abs) = some (openGood zq znames) := by
  kernel_rfl
set_option maxRecDepth 100000 in
set_option maxHeartbeats 0 in
theorem zF0 (w : World) : (Hz.allF (HandSHeadRun.stepQ (HandSHeadRun.denQ HandSHeadRun.tabQ) (opening zR.prog) w) (HandSHeadRun.stepQ (HandSHeadRun.denQ HandSHeadRun.tabQ) zR.prog w) 2000 20000 zR.prog).map (fun z => Hz.ob zxs 4 zfs0 zds0 ztf0 z.2) = some (Hz.due zds0) := by
  kernel_rfl
set_option maxRecDepth 100000 in
set_option maxHeartbeats 0 in
theorem zF1 (w : World) : (Hz.allF (HandSHeadRun.stepQ (HandSHeadRun.denQ HandSHeadRun.tabQ) (opening zR.prog) w) (HandSHeadRun.stepQ (HandSHeadRun.denQ HandSHeadRun.tabQ) zR.prog w) 2000 20000 zR.prog).map (fun z => Hz.ob zxs 4 zfs1 zds1 [] z.2) = some (Hz.due zds1) := by
  kernel_rfl
theorem zrun (w : World) : Hz.RunAll zR zq zhk zob 2000 20000 znames w := Hz.run_of (zL w) (zS w) (Hz.map_app (zF0 w) (zF1 w))
end Toy
set_option maxRecDepth 100000
set_option maxHeartbeats 4000000
/-! Rules of our own: static methods, comparisons by the text's own operators. -/
namespace Own
open PySem PySem.Spec PyProof.Rows L2
open AutoSeq1 (wpAny_loadPart')

section
variable {X : Cx} {pins : List (Addr × Obj)} {σ : L2.St} {H : Hp} {s : Shared} {C p f : Addr} {mc : Value} {m : Str} {A : Around} {E : Value → Shared → Prop}
/-- C.m is a static method: its record at p, its def at f -/
structure SMet (K : PySem.W.Frag) (C : Addr) (mc : Value) (m : Str) (p f : Addr) : Prop where
  at_ : PySem.W.findCls K (.ref C) mc m = some (.get (.builtin "staticmethod.__get__") (.ref p) .none (.ref C))
  rc : ∃ rest, PySem.W.recIn K p "staticmethod" = some (.ref f :: rest)
  kp : PySem.W.keepIn K (.ref f) = true
theorem getsm_ok {b : Bool} {Q : Value → Shared → Prop} (I : Inv X pins σ H s) (r : ClX.CRead X.K C mc) (k : SMet X.K C mc m p f) (h : ∀ s', Inv X pins σ H s' → Q (.ref f) s') : wpAny (model X.prog X.w) A (getAttr (.ref C) m b) Q E s := by
  obtain ⟨rest, hp⟩ := k.rc
  refine PySem.W.cls_bind I.kIn r.rd k.at_ ?_
  refine wpAny_call (PySem.W.sm_get (s := { s with toks := s.toks + 1 }) I.kIn hp (PySem.W.handed_on rfl ?_))
  exact h _ (I.tok _)
def tSMeth (C : Addr) (sp : Sp) (E : XK) (ta : TE) (t : TA) : TE := fun σ H Q => ta σ H fun x H1 => x = .ref C ∧ t σ H1 fun vs H2 => sp (vs ++ []) H2 Q E
end
section
variable {X : Cx} {CX : CXT} {k : Nat} {C p f : Addr} {mc : Value} {sp : Sp} {E : XK} {o e : Expr} {es : List Expr} {m : Str} {pos apos : Pos} {ta : TE} {t : TA} {pl : Sem Bool} {fd : FuncData} {ps : List Str}
theorem pe_smeth (r : ClX.CRead X.K C mc) (c : SMet X.K C mc m p f) (F : FnOk X.prog X.w X.K X.mg X.base CX k f fd ps sp) (hr : Room k X.A) (hb : Binds X.K fd ps []) (hx : Passes CX X E) (he : PE X o ta) (ha : PA X (e :: es) t)
    (hst : starEach (e :: es) X.env = (false, eval e X.env) :: starEach es X.env := by rfl) (hpl : (backTo pos (starEach es X.env)).any (·.1) = false := by rfl)
    (ht : eval (.Call (.Attribute o m apos) (e :: es) [] pos) X.env = (do
      let ov ← eval o X.env
      standAt apos.atName
      let (f, first) ← holding [ov] (getMethod ov m pl)
      callWith pos f first (backTo pos (starEach (e :: es) X.env)) (backToKw pos (keywordEach [] X.env))) := by rfl) :
    PE X (.Call (.Attribute o m apos) (e :: es) [] pos) (tSMeth C sp E ta t) := by
  refine ⟨fun pins s σ H Q I h => ?_⟩
  refine PySem.W.methodCall_KW (pl := pl) (thn (he.run pins s σ H _ I h) fun u s1 ⟨x, H1, I1, rx, ex, q⟩ => ?_) ht
  subst ex
  obtain rfl : u = Value.ref C := rx
  refine PySem.W.method_cls I1.kIn r.ga (getsm_ok I1 r c fun s2 I2 => ?_)
  refine PySem.W.callWith_K (first := []) (h₀ := X.base) I.ok.mod.kin c.kp (thn (ha.run pos pins s2 σ H1 _ I2 q) fun us s3 ⟨vs, H2, I3, rv, q2⟩ => ⟨I3.kIn, ?_⟩) hst hpl
  exact run_fn F hr hb .nil hx I3 rv q2
end

theorem pe_gref {X : Cx} {x : Str} {a : Addr} {pos : Pos} (hg : Gl X x) (hm : X.mg x = some (.ref a)) (hd : (x == ("__debug__" : Str)) = false := by decide) : PE X (.Name x pos) (tC (.ref a)) := pe_glob hg hm rfl hd
/-! ### calls with keywords alone -/
def tMethK0 (C : Addr) (m : Str) (n : Nat) (sp : Sp) (gV : List V → List V → List V) (E : XK) (ta : TE) (tk : TA) : TE := fun σ H Q => ta σ H fun x H1 => ∃ a dx fs, x = .ref a ∧ H1 a = some (.ins C dx fs) ∧ fs.lookup m = none ∧
  tk σ H1 fun zs H2 => zs.length = n ∧ sp (gV [x] zs) H2 Q E
section
variable {X : Cx} {CX : CXT} {k : Nat} {C p f : Addr} {sp : Sp} {E : XK} {o : Expr} {m : Str} {pos apos : Pos} {ta : TE} {tk : TA} {pl : Sem Bool} {fd : FuncData} {ps ks : List Str} {kws : List Keyword}
  {g : List Value → List Value → List Value} {gV : List V → List V → List V}
theorem pe_methK0 (he : PE X o ta) (c : Cls X.K C) (hm : Meth X.K C m f) (F : FnOk X.prog X.w X.K X.mg X.base CX k f fd ps sp) (hr : Room k X.A) (hb : KBn X.K fd ps 1 ks g gV) (hx : Passes CX X E) (hkw : PK X kws tk)
    (hall : (backToKw pos (keywordEach kws X.env)).all (·.1.isSome) = true := by rfl) (hks : (backToKw pos (keywordEach kws X.env)).filterMap (·.1) = ks := by rfl)
    (hpl : ((backTo pos (starEach [] X.env)).any (·.1) || (backToKw pos (keywordEach kws X.env)).any (·.1.isNone)) = false := by rfl)
    (ht : eval (.Call (.Attribute o m apos) [] kws pos) X.env = (do
      let ov ← eval o X.env
      standAt apos.atName
      let (f, first) ← holding [ov] (getMethod ov m pl)
      callWith pos f first (backTo pos (starEach [] X.env)) (backToKw pos (keywordEach kws X.env))) := by rfl) :
    PE X (.Call (.Attribute o m apos) [] kws pos) (tMethK0 C m ks.length sp gV E ta tk) := by
  refine ⟨fun pins s σ H Q I h => ?_⟩
  refine PySem.W.methodCall_KW (pl := pl) (thn (he.run pins s σ H _ I h) fun u s1 ⟨x, H1, I1, rx, a, dx, fs, ex, ea, l, q⟩ => ?_) ht
  subst ex
  obtain rfl : u = Value.ref a := rx
  refine getmeth_ok I1 ea c hm l ?_
  refine PySem.W.callWith_KW0 (first := [.ref a]) (h₀ := X.base) I.ok.mod.kin hm.kp hall (thn (hkw.run pos pins s1 σ H1 _ I1 q) fun ws s2 ⟨zs, H2, I2, rz, hl, q2⟩ => ⟨I2.kIn, ?_⟩) hpl
  rw [hks]
  exact run_fnN (us := [.ref a]) (vs := [.ref a]) F hr hb hx I2 (.cons rfl .nil) rz rfl hl q2
end
/-! ### comparisons by own operators -/
section
variable {X : Cx} {CX : CXT} {k : Nat} {C f : Addr} {fd : FuncData} {ps : List Str} {sp : Sp} {E : XK} {op : CmpOp}
/-- the left one is an instance with the operator -/
def rOwnC (K : PySem.W.Frag) (C : Addr) (sp : Sp) (E : XK) : R2 := fun x y H Q => ∃ a dx fs t, x = .ref a ∧ H a = some (.ins C dx fs) ∧ TyX K H y t ∧ PySem.W.notFirst K C t = true ∧ sp [x, y] H (fun v H' => (∃ b, v = .bl b) ∧ Q v H') E
theorem op_ownC (F : FnOk X.prog X.w X.K X.mg X.base CX k f fd ps sp) (hr : Room k X.A) (hs : PySem.W.findIn X.K (.ref C) (cmpInfo op).2.1 = some (some (.ref f))) (hf : PySem.W.isFn X.K (.ref f) = true) (hb : Binds X.K fd ps []) (hx : Passes CX X E)
    (hop : ∀ a b, compareOp op a b = richCompare op a b := by intros; rfl) : OpR X (compareOp op) (rOwnC X.K C sp E) := by
  intro pins s σ H x y u v Q I rx ry h
  obtain ⟨a, dx, fs, t, rfl, ha, ty, nf, hsp⟩ := h
  cases rx
  obtain ⟨mA, J, _⟩ := ins_get I.hok ha
  obtain ⟨od, J, _⟩ := J.look
  obtain ⟨m, hF⟩ := I.fr
  obtain ⟨Pk, Z, pk, _⟩ := kit_of I ry ty
  rw [hop]
  refine PySem.W.cmp_K (op := op) (tb := t) hr.units0 hF I.ok.mod.kin J (Z.ty _ _ I.kIn pk) nf hs hf ?_
  have r2 : Vals [V.ref a, y] [Value.ref a, v] := .cons rfl (.cons ry .nil)
  refine wpAny_mono (run_fn F hr hb .nil hx I r2 hsp) (fun w s' q => ?_) fun _ _ e => e
  obtain ⟨v', H', I', rv, ⟨b, rfl⟩, q⟩ := q
  cases rv
  exact ⟨.bl b, H', I', rfl, q⟩

/-- an int on the left, an instance with the reflected operator on the right -/
def rReflC (C : Addr) (sp : Sp) (E : XK) : R2 := fun x y H Q => ∃ i a dx fs, x = .int i ∧ y = .ref a ∧ H a = some (.ins C dx fs) ∧ sp [y, x] H (fun v H' => (∃ b, v = .bl b) ∧ Q v H') E
theorem op_reflC {id : String} {B : Builtin} (F : FnOk X.prog X.w X.K X.mg X.base CX k f fd ps sp) (hr : Room k X.A) (hs : PySem.W.findIn X.K (.ref C) (cmpInfo op).2.2 = some (some (.ref f))) (hf : PySem.W.isFn X.K (.ref f) = true)
    (hsub : PySem.W.subIn X.K (.ref C) (.type "int") = some false) (hb : Binds X.K fd ps []) (hx : Passes CX X E)
    (slot : Slot "int" (cmpInfo op).2.1 id) (entry : entryFor table id = some B) (args : ∀ a b, argsOk id ⟨[a, b], []⟩)
    (dec : ∀ (b : Int) (u : Tok) (l : Addr) (C dx : Addr), Meets (B ⟨[.int b u, .ref l], []⟩) (fun _ R s => s.heap.get? l = some (PySem.W.instObj C dx) ∧ R (.ok (.ret .notImplemented)) s))
    (hne : op ≠ .Eq ∧ op ≠ .NotEq) (hop : ∀ a b, compareOp op a b = richCompare op a b := by intros; rfl) : OpR X (compareOp op) (rReflC C sp E) := by
  intro pins s σ H x y u v Q I rx ry h
  obtain ⟨i, a, dx, fs, rfl, rfl, ha, hsp⟩ := h
  obtain ⟨t, rfl⟩ := rx
  cases ry
  obtain ⟨mA, O, _⟩ := ins_get I.hok ha
  obtain ⟨od, J, _⟩ := O.look
  have ho : s.heap.get? a = some (PySem.W.instObj C dx) := by
    obtain ⟨_, _, _, e, _⟩ := I.hok a _ ha
    exact e
  have KX := I.kIn
  rw [hop]
  have one : wpAny (model X.prog X.w) X.A (tryCompare (.ref a) (cmpInfo op).2.2 (.int i t)) (fun r s' => ∃ v, r = some v ∧ EP X pins σ Q v s') X.xe s := by
    unfold tryCompare
    have r2 : Vals [V.ref a, V.int i] [Value.ref a, Value.int i t] := .cons rfl (.cons ⟨t, rfl⟩ .nil)
    refine wpAny_bind (PySem.W.ifBound_K KX J hs hf (wpAny_mono (run_fn F hr hb .nil hx I r2 hsp) (fun v s' hv => ?_) fun _ _ e => e))
    obtain ⟨v', H', I', rv, ⟨b, rfl⟩, q⟩ := hv
    cases rv
    exact wpAny_pure ⟨_, rfl, .bl b, H', I', rfl, q⟩
  have hT := typeIs_int s i t
  unfold richCompare
  simp only [hT.oneThing_none]
  refine wpAny_holding (wpAny_bind (wpAny_cRoomFor hr.units0 ?_))
  refine wpAny_bind (wpAny_typeOf hT (wpAny_bind (J.type.here ?_)))
  have hne1 : (Value.type "int" != Value.ref C) = true := rfl
  simp only [hne1, if_true]
  refine wpAny_bind ((PySem.W.looks_subIn KX hsub).here ?_)
  simp only [Bool.false_eq_true, if_false, Bool.not_false, if_true]
  refine wpAny_bind (m := tryCompare (.int i t) _ (.ref a)) (wpAny_tryCompare_declines hT slot (call_meets slot hT entry (args _ _) (dec i t a C dx) ⟨ho, rfl, ?_⟩))
  refine wpAny_bind (wpAny_mono one (fun r s' z => ?_) fun _ _ e => e)
  obtain ⟨v, rfl, hq⟩ := z
  exact wpAny_pure hq
end
theorem int_le_dec (b : Int) (u : Tok) (l : Addr) (C dx : Addr) :
    Meets (Builtin.«int.__le__» ⟨[.int b u, .ref l], []⟩) (fun _ R s => s.heap.get? l = some (PySem.W.instObj C dx) ∧ R (.ok (.ret .notImplemented)) s) :=
  .of_wp fun prog w A R s h => by obtain ⟨hp, g, d, tk, os⟩ := s; obtain ⟨hl, h⟩ := h; wp_walk using wpAny_loadPart' hl, wpAny_load hl; exact ⟨_, rfl, h⟩
theorem int_lt_dec (b : Int) (u : Tok) (l : Addr) (C dx : Addr) :
    Meets (Builtin.«int.__lt__» ⟨[.int b u, .ref l], []⟩) (fun _ R s => s.heap.get? l = some (PySem.W.instObj C dx) ∧ R (.ok (.ret .notImplemented)) s) :=
  .of_wp fun prog w A R s h => by obtain ⟨hp, g, d, tk, os⟩ := s; obtain ⟨hl, h⟩ := h; wp_walk using wpAny_loadPart' hl, wpAny_load hl; exact ⟨_, rfl, h⟩
end Own
set_option maxRecDepth 100000
set_option maxHeartbeats 4000000
/-! Rules of our own: arithmetic by the text's own operators, != by its own ==, abs and minus. -/
namespace Own
open PySem PySem.Spec PyProof.Rows L2
open AutoSeq1 (wpAny_loadPart')
theorem relV_back {v : V} {u : Value} {s' : Shared} {Q : Value → Shared → Prop} (r : RelV v u) (q : Q u s') : PySem.W.CmpBack Q u s' := by
  cases v <;> first | (obtain ⟨t, rfl⟩ := r; exact q) | (obtain rfl := r; exact q)
section
variable {X : Cx} {CX : CXT} {k : Nat} {C f : Addr} {fd : FuncData} {ps : List Str} {sp : Sp} {E : XK} {op : Operator}
/-- an own method in the place of an operator: an instance at the left, the same class or an int at the right -/
def rOwnB (C : Addr) (sp : Sp) (E : XK) : R2 := fun x y H Q => ∃ a dx fs, x = .ref a ∧ H a = some (.ins C dx fs) ∧ ((∃ j, y = .int j) ∨ ∃ b dy gs, y = .ref b ∧ H b = some (.ins C dy gs)) ∧ sp [x, y] H Q E
theorem op_ownB {fo ro rc : Option Value} (F : FnOk X.prog X.w X.K X.mg X.base CX k f fd ps sp) (hr : Room k X.A) (hs : PySem.W.findIn X.K (.ref C) (PySem.dunder op.info.2) = some (some (.ref f))) (hf : PySem.W.isFn X.K (.ref f) = true)
    (hc : PySem.W.selfFirst X.K C = true) (hR : PySem.W.findIn X.K (.ref C) (dunderR op.info.2) = some rc) (hp : rc = none ∨ ∃ g : Addr, rc = some (.ref g)) (h1 : PySem.W.findIn X.K (.type "int") (PySem.dunder op.info.2) = some fo)
    (h2 : PySem.W.findIn X.K (.type "int") (dunderR op.info.2) = some ro) (hsub : PySem.W.subIn X.K (.type "int") (.ref C) = some false) (hb : Binds X.K fd ps []) (hx : Passes CX X E) : OpR X (binaryOp op) (rOwnB C sp E) := by
  intro pins s σ H x y u v Q I rx ry h
  obtain ⟨a, dx, fs, rfl, ha, hy, hsp⟩ := h
  cases rx
  obtain ⟨mA, J, _⟩ := ins_get I.hok ha
  obtain ⟨od, J, _⟩ := J.look
  obtain ⟨m, hF⟩ := I.fr
  have r2 : Vals [V.ref a, y] [Value.ref a, v] := .cons rfl (.cons ry .nil)
  have fin : wpAny (model X.prog X.w) X.A (call (.ref f) [.ref a, v]) (PySem.W.CmpBack (EP X pins σ Q)) X.xe s := wpAny_mono (run_fn F hr hb .nil hx I r2 hsp) (fun w s' q => by
    obtain ⟨v', H', I', rv, q⟩ := q
    exact relV_back rv ⟨v', H', I', rv, q⟩) fun _ _ e => e
  rcases hy with ⟨j, rfl⟩ | ⟨b, dy, gs, rfl, hb'⟩
  · obtain ⟨t, rfl⟩ := ry
    exact PySem.W.ksp_binT (T := "int") hF I.ok.mod.kin J rfl hc hs hf hR hp h1 h2 hsub fin
  · cases ry
    obtain ⟨mB, J', _⟩ := ins_get I.hok hb'
    obtain ⟨od', J', _⟩ := J'.look
    exact PySem.W.binop_K hF I.ok.mod.kin J J'.type hc hs hf fin

/-- an int at the left, an instance with the reflected operator at the right -/
def rReflB (C : Addr) (sp : Sp) (E : XK) : R2 := fun x y H Q => ∃ i a dx fs, x = .int i ∧ y = .ref a ∧ H a = some (.ins C dx fs) ∧ sp [y, x] H Q E
theorem op_reflB {f0 : Addr} {id : String} {B : Builtin} (F : FnOk X.prog X.w X.K X.mg X.base CX k f fd ps sp) (hr : Room k X.A) (hs : PySem.W.findIn X.K (.ref C) (dunderR op.info.2) = some (some (.ref f))) (hf : PySem.W.isFn X.K (.ref f) = true)
    (hs0 : PySem.W.findIn X.K (.ref C) (PySem.dunder op.info.2) = some (some (.ref f0))) (hc : PySem.W.selfFirst X.K C = true) (hsub : PySem.W.subIn X.K (.ref C) (.type "int") = some false) (hb : Binds X.K fd ps []) (hx : Passes CX X E)
    (fills : fillsNumberSlot (.type "int") op.info.2 = pure true) (slot : Slot "int" (PySem.dunder op.info.2) id) (entry : entryFor table id = some B) (args : ∀ a b, argsOk id ⟨[a, b], []⟩)
    (dec : ∀ (b : Int) (u : Tok) (l : Addr) (C dx : Addr), Meets (B ⟨[.int b u, .ref l], []⟩) (fun _ R s => s.heap.get? l = some (PySem.W.instObj C dx) ∧ R (.ok (.ret .notImplemented)) s)) : OpR X (binaryOp op) (rReflB C sp E) := by
  intro pins s σ H x y u v Q I rx ry h
  obtain ⟨i, a, dx, fs, rfl, rfl, ha, hsp⟩ := h
  obtain ⟨t, rfl⟩ := rx
  cases ry
  obtain ⟨mA, O, _⟩ := ins_get I.hok ha
  obtain ⟨od, J, _⟩ := O.look
  have ho : s.heap.get? a = some (PySem.W.instObj C dx) := by
    obtain ⟨_, _, _, e, _⟩ := I.hok a _ ha
    exact e
  have KX := I.kIn
  obtain ⟨cd, rest, hcd, hm⟩ := PySem.W.ksp_first hc
  rcases hi : op.info with ⟨sym, nm⟩
  rw [hi] at hs hs0 fills slot
  dsimp only at hs hs0 fills slot
  have one : wpAny (model X.prog X.w) X.A (tryMethod (.ref a) (dunderR nm) (.int i t)) (fun r s' => ∃ v, r = some v ∧ EP X pins σ Q v s') X.xe s := by
    have r2 : Vals [V.ref a, V.int i] [Value.ref a, Value.int i t] := .cons rfl (.cons ⟨t, rfl⟩ .nil)
    refine PySem.W.ksp_try KX J hs hf (wpAny_mono (run_fn F hr hb .nil hx I r2 hsp) (fun v s' hv => ?_) fun _ _ e => e)
    obtain ⟨v', H', I', rv, q⟩ := hv
    exact relV_back rv ⟨v', H', I', rv, q⟩
  have hT := typeIs_int s i t
  have L3 : PySem.W.Looks (model X.prog X.w) s.heap (fillsNumberSlot (.ref C) nm) true := PySem.W.fills_K KX hcd hm hs0
  have hne : (Value.type "int" == Value.ref C) = false := Bool.eq_false_iff.mpr fun q => by cases beq_iff_eq.mp q
  have hpy : numberSlotInPython (.type "int") nm = pure false := rfl
  simp only [binaryOp, hi]
  refine wpAny_holding (wpAny_bind ?_)
  unfold binaryOp1
  refine wpAny_bind (wpAny_typeOf hT (wpAny_bind (J.type.here (wpAny_bind (wpAny_of_eq fills ?_)))))
  simp only [hne, Bool.false_eq_true, if_false]
  refine wpAny_bind (L3.here ?_)
  simp only [Bool.and_self, if_true]
  refine wpAny_bind ((PySem.W.looks_subIn KX hsub).here ?_)
  simp only [Bool.false_eq_true, if_false, pure_bind, Bool.not_false, Bool.and_self, if_true, hpy]
  refine wpAny_bind (wpAny_tryMethod_declines hT slot (call_meets slot hT entry (args _ _) (dec i t a C dx) ⟨ho, rfl, ?_⟩))
  dsimp only
  refine wpAny_bind (wpAny_mono one (fun r s' z => ?_) fun _ _ e => e)
  obtain ⟨v, rfl, hq⟩ := z
  exact wpAny_bind (wpAny_rule (wpAny_pure (wpAny_pure hq)))

/-- minus an instance -/
def rNeg (C : Addr) (sp : Sp) (E : XK) : V → Hp → VK → Prop := fun x H Q => ∃ a dx fs, x = .ref a ∧ H a = some (.ins C dx fs) ∧ sp [x] H Q E
theorem un_ownNeg (F : FnOk X.prog X.w X.K X.mg X.base CX k f fd ps sp) (hr : Room k X.A) (hs : PySem.W.findIn X.K (.ref C) "__neg__" = some (some (.ref f))) (hf : PySem.W.isFn X.K (.ref f) = true) (hb : Binds X.K fd ps []) (hx : Passes CX X E) :
    UnR X (unaryOp .USub) (rNeg C sp E) := by
  intro pins s σ H x v Q I rx h
  obtain ⟨a, dx, fs, rfl, ha, hsp⟩ := h
  cases rx
  obtain ⟨mA, J, _⟩ := ins_get I.hok ha
  obtain ⟨od, J, _⟩ := J.look
  obtain ⟨m, hF⟩ := I.fr
  exact PySem.W.ksp_neg hF I.ok.mod.kin J hs hf (run_fn F hr hb .nil hx I (vs := [.ref a]) (.cons rfl .nil) hsp)

/-- at any place below the body -/
theorem run_fnA {pins : List (Addr × Obj)} {σ : L2.St} {H : Hp} {s : Shared} {Q : VK} {us : List Value} {vs : List V} {A : Around} (F : FnOk X.prog X.w X.K X.mg X.base CX k f fd ps sp) (hr : Room k A) (hA : A.frames = X.A.frames) (hb : Binds X.K fd ps []) (hx : Passes CX X E)
    (I : Inv X pins σ H s) (r : Vals vs us) (h : sp vs H Q E) : wpAny (model X.prog X.w) A (call (.ref f) us) (EP X pins σ Q) X.xe s := by
  have hl : us.length = ps.length := by rw [← r.length]; exact F.len _ _ _ _ h
  have e0 : Env0 X.prog X.w X.K X.mg X.base A X.stack s H := by
    have e := I.env0
    exact ⟨by rw [hA]; exact e.frames, e.mod, e.bs, e.bsz, e.funs, e.frf, e.hok, e.bare⟩
  refine wpAny_call (codeAny_mono (F.run A X.stack s H ⟨us, []⟩ us vs Q E hr e0 (by
    have := hb s us I.kIn (by rw [List.append_nil]; exact hl)
    rwa [List.append_nil] at this) r h) fun r s' hq => ?_)
  cases r with
  | error e => exact hx pins σ H s e s' I hq
  | ok fl =>
    cases fl with
    | ret u => exact I.after hq
    | next => exact False.elim hq
    | brk => exact False.elim hq
    | cont => exact False.elim hq

/-! ### == and != by an own == -/
/-- an own ==: gives a bool -/
def rEqL (C : Addr) (sp : Sp) (E : XK) (g : Bool → Bool) : R2 := fun x y H Q => ∃ a dx fs, x = .ref a ∧ H a = some (.ins C dx fs) ∧ ((∃ j, y = .int j) ∨ ∃ b dy gs, y = .ref b ∧ H b = some (.ins C dy gs)) ∧ sp [x, y] H (fun v H' => ∃ b, v = .bl b ∧ Q (.bl (g b)) H') E
def rEqR (C : Addr) (sp : Sp) (E : XK) (g : Bool → Bool) : R2 := fun x y H Q => ∃ i a dx fs, x = .int i ∧ y = .ref a ∧ H a = some (.ins C dx fs) ∧ sp [y, x] H (fun v H' => ∃ b, v = .bl b ∧ Q (.bl (g b)) H') E
theorem op_eqL (F : FnOk X.prog X.w X.K X.mg X.base CX k f fd ps sp) (hr : Room k X.A) (hs : PySem.W.findIn X.K (.ref C) "__eq__" = some (some (.ref f))) (hf : PySem.W.isFn X.K (.ref f) = true) (hn : PySem.W.notFirst X.K C (.type "int") = true) (hb : Binds X.K fd ps []) (hx : Passes CX X E) :
    OpR X (compareOp .Eq) (rEqL C sp E fun b => b) := by
  intro pins s σ H x y u v Q I rx ry h
  obtain ⟨a, dx, fs, rfl, ha, hy, hsp⟩ := h
  cases rx
  obtain ⟨mA, J, _⟩ := ins_get I.hok ha
  obtain ⟨od, J, _⟩ := J.look
  obtain ⟨m, hF⟩ := I.fr
  have r2 : Vals [V.ref a, y] [Value.ref a, v] := .cons rfl (.cons ry .nil)
  have fin : wpAny (model X.prog X.w) X.A (call (.ref f) [.ref a, v]) (PySem.W.CmpBack (EP X pins σ Q)) X.xe s := wpAny_mono (run_fn F hr hb .nil hx I r2 hsp) (fun w s' q => by
    obtain ⟨v', H', I', rv, b, rfl, q⟩ := q
    cases rv
    exact ⟨.bl b, H', I', rfl, q⟩) fun _ _ e => e
  show wpAny (model X.prog X.w) X.A (richCompare .Eq (.ref a) v) (EP X pins σ Q) X.xe s
  rcases hy with ⟨j, rfl⟩ | ⟨b, dy, gs, rfl, hb'⟩
  · obtain ⟨t, rfl⟩ := ry
    exact PySem.W.cmp_K (op := .Eq) (tb := .type "int") hr.units0 hF I.ok.mod.kin J (PySem.W.Looks.of_pure rfl) hn hs hf fin
  · cases ry
    obtain ⟨mB, J', _⟩ := ins_get I.hok hb'
    obtain ⟨od', J', _⟩ := J'.look
    exact PySem.W.cmp_K (op := .Eq) (tb := .ref C) hr.units0 hF I.ok.mod.kin J J'.type (by simp [PySem.W.notFirst]) hs hf fin
theorem bind_ne (self : Value) : bindSpecial (.builtin "object.__ne__") self = pure (.builtin "object.__ne__", [self]) :=
  (Slot.of (T := "object") (name := "__ne__") (owner := "object") (n := "__ne__") (by rw [typeLookup_type, builtinLookup_eq_fast]; kernel_rfl) (by decide +kernel) (by decide +kernel) (by decide +kernel)
    (.inl (by decide +kernel)) (by rw [isSubtype_type]; kernel_rfl)).bind self
theorem plain_ne : plainId "object.__ne__" = true := by decide +kernel
/-- x.__ne__(y) of an instance without its own one -/
theorem try_ne {pins : List (Addr × Obj)} {σ : L2.St} {H : Hp} {s : Shared} {a dx : Addr} {fs : List (Str × V)} {y : V} {v : Value} {Q : VK} (F : FnOk X.prog X.w X.K X.mg X.base CX k f fd ps sp) (hr : Room (k + 1) X.A) (hs : PySem.W.findIn X.K (.ref C) "__eq__" = some (some (.ref f)))
    (hn : PySem.W.findIn X.K (.ref C) "__ne__" = some (some (.builtin "object.__ne__"))) (hO : PySem.W.subIn X.K (.ref C) (.type "object") = some true) (hf : PySem.W.isFn X.K (.ref f) = true) (hb : Binds X.K fd ps []) (hx : Passes CX X E) (I : Inv X pins σ H s)
    (ha : H a = some (.ins C dx fs)) (ry : RelV y v) (hsp : sp [.ref a, y] H (fun v H' => ∃ b, v = .bl b ∧ Q (.bl (!b)) H') E) :
    wpAny (model X.prog X.w) X.A (tryCompare (.ref a) "__ne__" v) (fun r s' => ∃ w, r = some w ∧ EP X pins σ Q w s') X.xe s := by
  obtain ⟨mA, J, _⟩ := ins_get I.hok ha
  obtain ⟨od, J, _⟩ := J.look
  have KX := I.kIn
  have r2 : Vals [V.ref a, y] [Value.ref a, v] := .cons rfl (.cons ry .nil)
  have inner : wpAny (model X.prog X.w) X.A.in1 (Builtin.«object.__ne__» ⟨[.ref a, v], []⟩) (fun fin s' => ∃ b, fin = .done (.ret (.bool b)) ∧ EP X pins σ Q (.bool b) s') X.xe s := by
    unfold Builtin.«object.__ne__»
    repeat (first | with_reducible refine wpAny_cRoomFor hr.in1.units0 ?_ | ((fail_if_success (with_reducible show wpAny _ _ (callSpecialIfBound? _ _ _) _ _ _)); wp_step))
    refine (PySem.W.ifBound_K KX J hs hf (wpAny_mono (run_fnA F hr.in1 rfl hb hx I r2 hsp) (fun w s' q => ?_) fun _ _ e => e))
    obtain ⟨v', H', I', rv, b, rfl, q⟩ := q
    cases rv
    exact wpAny_bind (wpAny_truthy_bool (wpAny_pure ⟨_, rfl, .bl (!b), H', I', rfl, q⟩))
  unfold tryCompare
  simp only [callSpecialIfBound?, bindSpecialIfBound?]
  refine wpAny_bind (wpAny_holding (wpAny_bind (wpAny_bind (wpAny_bind (J.type.here ((PySem.W.looks_findIn KX hn).here ?_))))))
  refine wpAny_bind (wpAny_askSetting (wpAny_ite ?_))
  have t2 : PySem.W.Looks (model X.prog X.w) s.heap (isInstance (.ref a) (.type "object")) true := J.type.andThen (PySem.W.looks_subIn KX hO)
  have fin : wpAny (model X.prog X.w) X.A (call (.builtin "object.__ne__") ([.ref a] ++ [v]) >>= fun v => pure (some v)) (fun r s' => wpAny (model X.prog X.w) X.A (match (motive := Option Value → Sem (Option Value)) r with
      | some .notImplemented | none => pure none
      | some v => pure (some v)) (fun r s' => ∃ w, r = some w ∧ EP X pins σ Q w s') X.xe s') X.xe s := by
    refine wpAny_bind (wpAny_call (codeAny_call_builtin plain_ne PySem.F.cmpEntry_ne (PySem.W.check_slot PySem.F.cmpKind_ne PySem.F.cmpSplit_ne t2 (PySem.F.cmpArgs_ne _ _) (wpAny_mono inner (fun fin s' q => ?_) fun _ _ e => e))))
    obtain ⟨b, rfl, q⟩ := q
    exact wpAny_pure (wpAny_pure ⟨_, rfl, q⟩)
  split
  · exact wpAny_bind (wpAny_of_eq (bind_ne _) (wpAny_pure (by exact fin)))
  · exact wpAny_tryCatch (wpAny_bind (wpAny_of_eq (bind_ne _) (wpAny_pure (by exact fin))))
end
end Own
set_option maxRecDepth 100000
set_option maxHeartbeats 4000000
namespace Own
open PySem PySem.Spec PyProof.Rows L2
open AutoSeq1 (wpAny_loadPart')
section
variable {X : Cx} {CX : CXT} {k : Nat} {C f : Addr} {fd : FuncData} {ps : List Str} {sp : Sp} {E : XK}
theorem op_neL (F : FnOk X.prog X.w X.K X.mg X.base CX k f fd ps sp) (hr : Room (k + 1) X.A) (hs : PySem.W.findIn X.K (.ref C) "__eq__" = some (some (.ref f))) (hn : PySem.W.findIn X.K (.ref C) "__ne__" = some (some (.builtin "object.__ne__")))
    (hO : PySem.W.subIn X.K (.ref C) (.type "object") = some true) (hf : PySem.W.isFn X.K (.ref f) = true) (hN : PySem.W.notFirst X.K C (.type "int") = true) (hb : Binds X.K fd ps []) (hx : Passes CX X E) : OpR X (compareOp .NotEq) (rEqL C sp E fun b => !b) := by
  intro pins s σ H x y u v Q I rx ry h
  obtain ⟨a, dx, fs, rfl, ha, hy, hsp⟩ := h
  cases rx
  have one := try_ne F hr hs hn hO hf hb hx I ha ry hsp
  obtain ⟨mA, J, _⟩ := ins_get I.hok ha
  obtain ⟨od, J, _⟩ := J.look
  have KX := I.kIn
  have go : ∀ t : Value, PySem.W.Looks (model X.prog X.w) s.heap (typeOf v) t → PySem.W.notFirst X.K C t = true → wpAny (model X.prog X.w) X.A (richCompare .NotEq (.ref a) v) (EP X pins σ Q) X.xe s := fun t hT hn => by
    unfold richCompare
    simp only [oneThing_ref, cmpInfo_NotEq]
    refine wpAny_holding (wpAny_bind (wpAny_cRoomFor hr.units0 ?_))
    refine wpAny_bind (J.type.here (wpAny_bind (hT.here ?_)))
    split
    · rename_i q
      have e : PySem.W.subIn X.K t (.ref C) = some false := by
        rcases Bool.or_eq_true_iff.mp hn with e | e
        · rw [beq_iff_eq.mp e] at q; simp at q
        · exact beq_iff_eq.mp e
      refine wpAny_bind ((PySem.W.looks_subIn KX e).here ?_)
      simp only [Bool.false_eq_true, if_false]
      refine wpAny_bind (wpAny_mono one (fun r s' z => ?_) fun _ _ e => e)
      obtain ⟨v, rfl, hq⟩ := z
      exact wpAny_pure hq
    · refine wpAny_bind (wpAny_pure ?_)
      simp only [Bool.false_eq_true, if_false]
      refine wpAny_bind (wpAny_mono one (fun r s' z => ?_) fun _ _ e => e)
      obtain ⟨v, rfl, hq⟩ := z
      exact wpAny_pure hq
  show wpAny (model X.prog X.w) X.A (richCompare .NotEq (.ref a) v) (EP X pins σ Q) X.xe s
  rcases hy with ⟨j, rfl⟩ | ⟨b, dy, gs, rfl, hb'⟩
  · obtain ⟨t, rfl⟩ := ry
    exact go (.type "int") (PySem.W.Looks.of_pure rfl) hN
  · cases ry
    obtain ⟨mB, J', _⟩ := ins_get I.hok hb'
    obtain ⟨od', J', _⟩ := J'.look
    exact go (.ref C) J'.type (by simp [PySem.W.notFirst])
/-- int == instance, int != instance: the int declines -/
theorem refl_cmp {op : CmpOp} {pins : List (Addr × Obj)} {σ : L2.St} {H : Hp} {s : Shared} {i : Int} {t : Tok} {a dx : Addr} {fs : List (Str × V)} {Q : VK} {id : String} {B : Builtin} (hr : Room k X.A) (I : Inv X pins σ H s) (ha : H a = some (.ins C dx fs))
    (hsub : PySem.W.subIn X.K (.ref C) (.type "int") = some false) (slot : Slot "int" (cmpInfo op).2.1 id) (entry : entryFor table id = some B) (args : ∀ a b, argsOk id ⟨[a, b], []⟩)
    (dec : ∀ (b : Int) (u : Tok) (l : Addr) (C dx : Addr), Meets (B ⟨[.int b u, .ref l], []⟩) (fun _ R s => s.heap.get? l = some (PySem.W.instObj C dx) ∧ R (.ok (.ret .notImplemented)) s))
    (one : wpAny (model X.prog X.w) X.A (tryCompare (.ref a) (cmpInfo op).2.2 (.int i t)) (fun r s' => ∃ v, r = some v ∧ EP X pins σ Q v s') X.xe s) :
    wpAny (model X.prog X.w) X.A (richCompare op (.int i t) (.ref a)) (EP X pins σ Q) X.xe s := by
  obtain ⟨mA, O, _⟩ := ins_get I.hok ha
  obtain ⟨od, J, _⟩ := O.look
  have ho : s.heap.get? a = some (PySem.W.instObj C dx) := by
    obtain ⟨_, _, _, e, _⟩ := I.hok a _ ha
    exact e
  have KX := I.kIn
  have hT := typeIs_int s i t
  unfold richCompare
  simp only [hT.oneThing_none]
  refine wpAny_holding (wpAny_bind (wpAny_cRoomFor hr.units0 ?_))
  refine wpAny_bind (wpAny_typeOf hT (wpAny_bind (J.type.here ?_)))
  have hne1 : (Value.type "int" != Value.ref C) = true := rfl
  simp only [hne1, if_true]
  refine wpAny_bind ((PySem.W.looks_subIn KX hsub).here ?_)
  simp only [Bool.false_eq_true, if_false, Bool.not_false, if_true]
  refine wpAny_bind (m := tryCompare (.int i t) _ (.ref a)) (wpAny_tryCompare_declines hT slot (call_meets slot hT entry (args _ _) (dec i t a C dx) ⟨ho, rfl, ?_⟩))
  refine wpAny_bind (wpAny_mono one (fun r s' z => ?_) fun _ _ e => e)
  obtain ⟨v, rfl, hq⟩ := z
  exact wpAny_pure hq
theorem int_eq_dec (b : Int) (u : Tok) (l : Addr) (C dx : Addr) :
    Meets (Builtin.«int.__eq__» ⟨[.int b u, .ref l], []⟩) (fun _ R s => s.heap.get? l = some (PySem.W.instObj C dx) ∧ R (.ok (.ret .notImplemented)) s) :=
  .of_wp fun prog w A R s h => by obtain ⟨hp, g, d, tk, os⟩ := s; obtain ⟨hl, h⟩ := h; wp_walk using wpAny_loadPart' hl, wpAny_load hl; exact ⟨_, rfl, h⟩
theorem int_ne_dec (b : Int) (u : Tok) (l : Addr) (C dx : Addr) :
    Meets (Builtin.«int.__ne__» ⟨[.int b u, .ref l], []⟩) (fun _ R s => s.heap.get? l = some (PySem.W.instObj C dx) ∧ R (.ok (.ret .notImplemented)) s) :=
  .of_wp fun prog w A R s h => by obtain ⟨hp, g, d, tk, os⟩ := s; obtain ⟨hl, h⟩ := h; wp_walk using wpAny_loadPart' hl, wpAny_load hl; exact ⟨_, rfl, h⟩
theorem int_ge_dec (b : Int) (u : Tok) (l : Addr) (C dx : Addr) :
    Meets (Builtin.«int.__ge__» ⟨[.int b u, .ref l], []⟩) (fun _ R s => s.heap.get? l = some (PySem.W.instObj C dx) ∧ R (.ok (.ret .notImplemented)) s) :=
  .of_wp fun prog w A R s h => by obtain ⟨hp, g, d, tk, os⟩ := s; obtain ⟨hl, h⟩ := h; wp_walk using wpAny_loadPart' hl, wpAny_load hl; exact ⟨_, rfl, h⟩
theorem int_gt_dec (b : Int) (u : Tok) (l : Addr) (C dx : Addr) :
    Meets (Builtin.«int.__gt__» ⟨[.int b u, .ref l], []⟩) (fun _ R s => s.heap.get? l = some (PySem.W.instObj C dx) ∧ R (.ok (.ret .notImplemented)) s) :=
  .of_wp fun prog w A R s h => by obtain ⟨hp, g, d, tk, os⟩ := s; obtain ⟨hl, h⟩ := h; wp_walk using wpAny_loadPart' hl, wpAny_load hl; exact ⟨_, rfl, h⟩
theorem int_add_dec (b : Int) (u : Tok) (l : Addr) (C dx : Addr) :
    Meets (Builtin.«int.__add__» ⟨[.int b u, .ref l], []⟩) (fun _ R s => s.heap.get? l = some (PySem.W.instObj C dx) ∧ R (.ok (.ret .notImplemented)) s) :=
  .of_wp fun prog w A R s h => by obtain ⟨hp, g, d, tk, os⟩ := s; obtain ⟨hl, h⟩ := h; wp_walk using wpAny_loadPart' hl, wpAny_load hl; exact ⟨_, rfl, h⟩
theorem int_sub_dec (b : Int) (u : Tok) (l : Addr) (C dx : Addr) :
    Meets (Builtin.«int.__sub__» ⟨[.int b u, .ref l], []⟩) (fun _ R s => s.heap.get? l = some (PySem.W.instObj C dx) ∧ R (.ok (.ret .notImplemented)) s) :=
  .of_wp fun prog w A R s h => by obtain ⟨hp, g, d, tk, os⟩ := s; obtain ⟨hl, h⟩ := h; wp_walk using wpAny_loadPart' hl, wpAny_load hl; exact ⟨_, rfl, h⟩
theorem int_mul_dec (b : Int) (u : Tok) (l : Addr) (C dx : Addr) :
    Meets (Builtin.«int.__mul__» ⟨[.int b u, .ref l], []⟩) (fun _ R s => s.heap.get? l = some (PySem.W.instObj C dx) ∧ R (.ok (.ret .notImplemented)) s) :=
  .of_wp fun prog w A R s h => by obtain ⟨hp, g, d, tk, os⟩ := s; obtain ⟨hl, h⟩ := h; wp_walk using wpAny_loadPart' hl, wpAny_load hl; exact ⟨_, rfl, h⟩
theorem op_eqR (F : FnOk X.prog X.w X.K X.mg X.base CX k f fd ps sp) (hr : Room k X.A) (hs : PySem.W.findIn X.K (.ref C) "__eq__" = some (some (.ref f))) (hf : PySem.W.isFn X.K (.ref f) = true) (hsub : PySem.W.subIn X.K (.ref C) (.type "int") = some false) (hb : Binds X.K fd ps []) (hx : Passes CX X E) :
    OpR X (compareOp .Eq) (rEqR C sp E fun b => b) := by
  intro pins s σ H x y u v Q I rx ry h
  obtain ⟨i, a, dx, fs, rfl, rfl, ha, hsp⟩ := h
  obtain ⟨t, rfl⟩ := rx
  cases ry
  obtain ⟨mA, O, _⟩ := ins_get I.hok ha
  obtain ⟨od, J, _⟩ := O.look
  refine refl_cmp (op := .Eq) hr I ha hsub PySem.F.slot_int_eq PySem.F.entry_int_eq PySem.F.args_int_eq_2 int_eq_dec ?_
  unfold tryCompare
  have r2 : Vals [V.ref a, V.int i] [Value.ref a, Value.int i t] := .cons rfl (.cons ⟨t, rfl⟩ .nil)
  refine wpAny_bind (PySem.W.ifBound_K I.kIn J hs hf (wpAny_mono (run_fn F hr hb .nil hx I r2 hsp) (fun v s' hv => ?_) fun _ _ e => e))
  obtain ⟨v', H', I', rv, b, rfl, q⟩ := hv
  cases rv
  exact wpAny_pure ⟨_, rfl, .bl b, H', I', rfl, q⟩
theorem op_neR (F : FnOk X.prog X.w X.K X.mg X.base CX k f fd ps sp) (hr : Room (k + 1) X.A) (hs : PySem.W.findIn X.K (.ref C) "__eq__" = some (some (.ref f))) (hn : PySem.W.findIn X.K (.ref C) "__ne__" = some (some (.builtin "object.__ne__")))
    (hO : PySem.W.subIn X.K (.ref C) (.type "object") = some true) (hf : PySem.W.isFn X.K (.ref f) = true) (hsub : PySem.W.subIn X.K (.ref C) (.type "int") = some false) (hb : Binds X.K fd ps []) (hx : Passes CX X E) : OpR X (compareOp .NotEq) (rEqR C sp E fun b => !b) := by
  intro pins s σ H x y u v Q I rx ry h
  obtain ⟨i, a, dx, fs, rfl, rfl, ha, hsp⟩ := h
  obtain ⟨t, rfl⟩ := rx
  cases ry
  exact refl_cmp (op := .NotEq) (hr.mono (Nat.le_succ k)) I ha hsub PySem.F.slot_int_ne PySem.F.entry_int_ne PySem.F.args_int_ne_2 int_ne_dec (try_ne F hr hs hn hO hf hb hx I ha (y := .int i) ⟨t, rfl⟩ hsp)
/-- abs of an instance -/
def rAbs (C : Addr) (sp : Sp) (E : XK) : List V → Hp → VK → Prop := fun xs H Q => ∃ a dx fs, xs = [.ref a] ∧ H a = some (.ins C dx fs) ∧ sp [.ref a] H Q E
theorem call_ownAbs (F : FnOk X.prog X.w X.K X.mg X.base CX k f fd ps sp) (hr : Room (k + 1) X.A) (hs : PySem.W.findIn X.K (.ref C) "__abs__" = some (some (.ref f))) (hf : PySem.W.isFn X.K (.ref f) = true) (hb : Binds X.K fd ps []) (hx : Passes CX X E) :
    CallR X (.builtin "abs") (rAbs C sp E) := by
  intro pins s σ H xs us Q I r h
  obtain ⟨a, dx, fs, rfl, ha, hsp⟩ := h
  obtain ⟨u, rfl, ru⟩ := vals1 r
  obtain rfl : u = Value.ref a := ru
  obtain ⟨mA, J, _⟩ := ins_get I.hok ha
  obtain ⟨od, J, _⟩ := J.look
  have inner : wpAny (model X.prog X.w) X.A.in1 (Builtin.«abs» ⟨[.ref a], []⟩) (fun fin s' => ∃ v, fin = .done (.ret v) ∧ EP X pins σ Q v s') X.xe s := by
    unfold Builtin.«abs»
    repeat (first | ((fail_if_success (with_reducible show wpAny _ _ (callSpecial? _ _ _) _ _ _)); wp_step))
    refine PySem.W.special_fn I.kIn J hs (beq_iff_eq.mp hf) (wpAny_mono (run_fnA F hr.in1 rfl hb hx I (vs := [.ref a]) (.cons rfl .nil) hsp) (fun w s' q => ?_) fun _ _ e => e)
    exact wpAny_pure ⟨_, rfl, q⟩
  refine wpAny_call (codeAny_call_builtin (b := Builtin.«abs») (by decide +kernel) (entryFor_of_tree (by kernel_rfl)) ?_)
  have hchk : checkBuiltinCall "abs" ⟨[.ref a], []⟩ = pure () := by kernel_rfl
  refine wpAny_of_eq hchk (wpAny_mono inner (fun fin s' q => ?_) fun _ _ e => e)
  obtain ⟨v, rfl, q⟩ := q
  exact q
end
end Own
set_option maxRecDepth 100000
set_option maxHeartbeats 4000000
namespace Toy
open PySem L2
def top (i : Nat) : Stmt := PySem.Challenge.pw_anyfifth_k25_positions_on_pieces.main.body.getD i (.Pass ⟨0, 0, 0, 0⟩)

structure Bl (mg : Str → Option Value) : Prop where
  int : mg "int" = none
  len : mg "len" = none
  abs : mg "abs" = none
  list : mg "list" = none
  range : mg "range" = none
  isinstance : mg "isinstance" = none
  bool : mg "bool" = none
  gcd : mg "gcd" = some (.builtin "math.gcd")

/-- all but what stands at p is as it was -/
def But (p : Addr) (H H' : Hp) : Prop := ∀ b o, H b = some o → b ≠ p → H' b = some o
theorem But.refl {p : Addr} {H : Hp} : But p H H := fun _ _ h _ => h
theorem But.upd {p : Addr} {H H1 : Hp} {o : HO} (h : But p H H1) : But p H (upd H1 p o) := fun b u e n => by rw [upd_ne n]; exact h b u e n
theorem But.new {p q : Addr} {H H1 : Hp} {o : HO} (h : But p H H1) (hq : H1 q = none) : But p H (L2.upd H1 q o) := fun b u e n => by
  rw [upd_ne (ne_of_none (h b u e n) hq)]; exact h b u e n
theorem But.trans {p : Addr} {H H1 H2 : Hp} (a : But p H H1) (b : But p H1 H2) : But p H H2 := fun c u e n => b c u (a c u e n) n
theorem But.same {p : Addr} {H H' : Hp} (h : Same H H') : But p H H' := fun b o e _ => h b o e

/-- the state of the drawing at p, behind at most k draws -/
structure PenW (H : Hp) (p c : Addr) (ns : List Int) (b l : Int) : Prop where
  hp : H p = some (.lst [.ref c, .int b, .int l])
  hc : H c = some (.lst (ns.map V.int))
  ln : ns.length ≤ 63
  b0 : 0 ≤ b
def Pen (H : Hp) (p c : Addr) (k : Nat) : Prop := ∃ ns b l, PenW H p c ns b l ∧ b ≤ k
theorem PenW.ne {H : Hp} {p c : Addr} {ns : List Int} {b l : Int} (h : PenW H p c ns b l) : c ≠ p := by
  intro e
  have h1 := h.hp
  have h2 := h.hc
  rw [e, h1] at h2
  have h3 := Option.some.inj h2
  injection h3 with h4
  cases ns with
  | nil => cases h4
  | cons a r => injection h4 with h5 h6; cases h5
theorem PenW.put {H : Hp} {p c : Addr} {ns : List Int} {b l b' l' : Int} (h : PenW H p c ns b l) (hb : 0 ≤ b') : PenW (upd H p (.lst [.ref c, .int b', .int l'])) p c ns b' l' :=
  ⟨upd_same, by rw [upd_ne h.ne]; exact h.hc, h.ln, hb⟩
theorem PenW.new {H : Hp} {p c q : Addr} {ns : List Int} {b l : Int} {o : HO} (h : PenW H p c ns b l) (hq : H q = none) : PenW (upd H q o) p c ns b l :=
  ⟨by rw [upd_ne (ne_of_none h.hp hq)]; exact h.hp, by rw [upd_ne (ne_of_none h.hc hq)]; exact h.hc, h.ln, h.b0⟩
theorem Pen.same {H H' : Hp} {p c : Addr} {k : Nat} (h : Pen H p c k) (e : Same H H') : Pen H' p c k := by
  obtain ⟨ns, b, l, h, hk⟩ := h
  exact ⟨ns, b, l, ⟨e _ _ h.hp, e _ _ h.hc, h.ln, h.b0⟩, hk⟩
theorem Pen.mono {H : Hp} {p c : Addr} {k j : Nat} (h : Pen H p c k) (e : k ≤ j) : Pen H p c j := by
  obtain ⟨ns, b, l, h, hk⟩ := h
  exact ⟨ns, b, l, h, by omega⟩
theorem dpInts {K : PySem.W.Frag} {H : Hp} : ∀ ns : List Int, DpAll K H (ns.map V.int) (ns.map PyData.int)
  | [] => .nil
  | n :: r => .cons (.int n) (dpInts r)
theorem shInts (ns : List Int) : SeqAt.shaped (.list (ns.map PyData.int)) = true := PySem.W.ke_shaped_ints ns
theorem eqvNil (ns : List Int) : PyData.eqv (.list (ns.map PyData.int)) (.list []) = decide (ns = []) := by
  cases ns <;> rfl
theorem modB (a : Int) {m : Int} (h : 0 < m) : 0 ≤ a % m ∧ a % m < m := ⟨Int.emod_nonneg _ (by omega), Int.emod_lt_of_pos _ h⟩
theorem wide_m {i m : Int} (h : 0 < m) (hb : m.natAbs < 2 ^ 2000) : CDivW i m := wide_div h hb (by decide) (by decide)

theorem atI_in {α : Type} {xs : List α} {i : Int} (h0 : 0 ≤ i) (h1 : i < (xs.length : Int)) : atI xs i = some (xs[i.toNat]'(by omega)) := by
  have e : i = ((i.toNat : Nat) : Int) := by omega
  exact (congrArg (atI xs) e).trans (atI_nat (List.getElem?_eq_getElem (by omega)))

theorem p0 {j : Int} (h : decide (0 < j) = true) : 0 < j := of_decide_eq_true h
theorem mulB {x y M N : Int} (hx : 0 ≤ x) (hxM : x ≤ M) (hy : 0 ≤ y) (hyN : y ≤ N) : 0 ≤ x * y ∧ x * y ≤ M * N := ⟨Int.mul_nonneg hx hy, Int.mul_le_mul hxM hyN hy (by omega)⟩
abbrev sDraw : Stmt := top 81
def spDraw : Sp := fun vs H Q _ => ∃ (p c : Addr) (m : Int) (k : Nat), vs = [.ref p, .int m] ∧ Pen H p c k ∧ k ≤ 1000000 ∧ 0 < m ∧ m.natAbs < 2 ^ 2000 ∧
  ∀ r H', 0 ≤ r → r < m → Pen H' p c (k + 1) → But p H H' → Q (.int r) H'
section
variable {P : Program} {w : World} {K : PySem.W.Frag} {mg : Str → Option Value} {base : Heap}
theorem scD : FnScope ["_law_pen_here", "_law_many", "_law_digit", "_law_at", "_law_cell", "_law_great", "_law_mixed"] ["_law_pen_here", "_law_many"] (defScope sDraw) :=
  ⟨rfl, rfl, rfl, by decide +kernel, rfl, by decide +kernel, by decide +kernel⟩
theorem ok_draw {f : Addr} {fd : FuncData} (F : Fun K "_law_draw" "_law_draw" sDraw f fd) (T : Bl mg) : FnOk P w K mg base CX0 1 f fd ["_law_pen_here", "_law_many"] spDraw := by
  refine F.ok scD (fun vs H Q E h => ?_) (fun cdv A outer s H vs Q E hr h => ?_)
  · obtain ⟨p, c, m, k, rfl, _⟩ := h
    rfl
  · obtain ⟨p, c, m, k, rfl, ⟨ns, b, l, W, hb⟩, hk, hm, hmb, q⟩ := h
    have nd := scD.nd
    refine ⟨_, pss_cons (ps_if (pt_cmpR op_gt (pe_ix ix_list (pv 0) pe_int (fun _ _ => rfl)) pe_int (nomark _)) (pss_cons (ps_set (i := 2) nd rfl (Or.inl rfl) (pe_op op_mod (pe_callTy call_int1 (by rfl) T.int (by decide +kernel) (pa_cons (pe_ix ix_list (pv 0) pe_int (fun _ _ => rfl)) pa_nil)) (pv 1)))
      (pss_cons (ps_asg (pe_op op_fdivW (pe_callTy call_int1 (by rfl) T.int (by decide +kernel) (pa_cons (pe_ix ix_list (pv 0) pe_int (fun _ _ => rfl)) pa_nil)) (pv 1)) (pg_sub (pv 0) pe_int set_list))
      (pss_one (ps_ret (pv 2))))) pss_nil)
      (pss_cons (ps_set (i := 3) nd rfl (Or.inl rfl) (pe_ix ix_list (pv 0) pe_int (fun _ _ => rfl)))
      (pss_cons (ps_asg (pe_op op_add (pv 3) pe_int) (pg_sub (pv 0) pe_int set_list))
      (pss_cons (ps_set (i := 4) nd rfl (Or.inl rfl) (pe_op op_add (pe_op op_mul pe_int (pv 3)) pe_int))
      (C8.pss_cut (ps_if (pt_cmpR (op_neD hr.units) (pe_ix ix_list (pv 0) pe_int (fun _ _ => rfl)) (pe_lst pa_nil) (nomark _)) (pss_one (ps_set (i := 4) nd rfl (Or.inl rfl) (pe_ix ix_list (pe_ix ix_list (pv 0) pe_int (fun _ _ => rfl)) (pe_op op_mod (pe_callTy call_int1 (by rfl) T.int (by decide +kernel) (pa_cons (pv 3) pa_nil)) (pe_callB call_len (by rfl) T.len (by decide +kernel) (pa_cons (pe_ix ix_list (pv 0) pe_int (fun _ _ => rfl)) pa_nil))) (fun _ _ => rfl)))) pss_nil)
      (pss_cons (ps_if (PW.pt (pw_and (pt_cmpR op_lt (pv 3) (pe_callB call_len (by rfl) T.len (by decide +kernel) (pa_cons (pe_ix ix_list (pv 0) pe_int (fun _ _ => rfl)) pa_nil)) (nomark _)) (pw_and1 (pt_cmpR op_ge (pe_callB call_abs (by rfl) T.abs (by decide +kernel) (pa_cons (pv 4) pa_nil)) (pe_op op_pow pe_int pe_int) (nomark _))))) (pss_cons (ps_set (i := 5) nd rfl (Or.inl rfl) (pe_op op_add (pe_op op_mul pe_int (pe_op op_sub (pe_callB call_abs (by rfl) T.abs (by decide +kernel) (pa_cons (pv 4) pa_nil)) (pe_op op_pow pe_int pe_int))) (pe_callTy call_int1 (by rfl) T.int (by decide +kernel) (pa_cons (pe_cmpR op_lt (pv 4) pe_int (nomark _)) pa_nil))))
      (pss_cons (ps_asg (pe_op op_fdivW (pe_callTy call_int1 (by rfl) T.int (by decide +kernel) (pa_cons (pv 5) pa_nil)) (pv 1)) (pg_sub (pv 0) pe_int set_list))
      (pss_one (ps_ret (pe_op op_mod (pe_callTy call_int1 (by rfl) T.int (by decide +kernel) (pa_cons (pv 5) pa_nil)) (pv 1)))))) pss_nil)
      (pss_cons (ps_set (i := 6) nd rfl (Or.inl rfl) (pe_op op_mod (pe_callTy call_int1 (by rfl) T.int (by decide +kernel) (pa_cons (pe_op op_pow (pe_op op_add (pe_op op_add (pe_op op_mod (pe_callTy call_int1 (by rfl) T.int (by decide +kernel) (pa_cons (pv 4) pa_nil)) pe_int) (pe_op op_mul pe_int (pv 3))) pe_int) pe_int) pa_nil)) pe_int))
      (pss_cons (ps_set (i := 6) nd rfl (Or.inl rfl) (pe_op op_mod (pe_callTy call_int1 (by rfl) T.int (by decide +kernel) (pa_cons (pe_op op_pow (pe_op op_add (pe_op op_add (pe_op op_mul (pv 6) (pe_op op_add (pe_op op_mul pe_int (pv 3)) pe_int)) (pe_op op_mul (pe_op op_mul pe_int (pv 3)) (pv 3))) pe_int) pe_int) pa_nil)) pe_int))
      (pss_one (ps_ret (pe_op op_mod (pe_callTy call_int1 (by rfl) T.int (by decide +kernel) (pa_cons (pe_op op_fdivW (pv 6) pe_int) pa_nil)) (pv 1))))))))))), ?_⟩
    have hp := W.hp
    -- what is left of a great cell
    refine ⟨_, rfl, p, _, _, _, rfl, rfl, SqL.of hp, rfl, _, _, rfl, rfl, _, rfl, ?_⟩
    refine ite2 (fun _ => ?_) (fun _ => ?_)
    · refine ⟨_, rfl, p, _, _, _, rfl, rfl, SqL.of hp, rfl, .inl ⟨_, rfl, _, rfl, _, _, rfl, rfl, hm, ?_⟩⟩
      refine ⟨_, rfl, p, _, _, _, rfl, rfl, SqL.of hp, rfl, .inl ⟨_, rfl, _, rfl, _, _, rfl, rfl, wide_m hm hmb, ?_⟩⟩
      refine ⟨_, rfl, p, _, _, _, rfl, rfl, hp, rfl, ?_⟩
      refine ⟨_, rfl, ?_⟩
      exact q _ _ (modB _ hm).1 (modB _ hm).2 ⟨ns, b, _, W.put W.b0, by omega⟩ (But.refl.upd)
    · -- begun; the count goes up; cell
      refine ⟨_, rfl, p, _, _, _, rfl, rfl, SqL.of hp, rfl, ?_⟩
      refine ⟨_, rfl, _, _, rfl, rfl, ?_⟩
      refine ⟨_, rfl, p, _, _, _, rfl, rfl, hp, rfl, ?_⟩
      refine ⟨_, rfl, _, _, rfl, rfl, .inl ⟨by decide, by decide⟩, _, _, rfl, rfl, ?_⟩
      have W1 : PenW (upd H p (.lst [.ref c, .int (b + 1), .int l])) p c ns (b + 1) l := W.put (by have := W.b0; omega)
      refine ⟨fun σ' H' => ∃ z : Int, σ' = [some (.ref p), some (.int m), none, some (.int b), some (.int z), none, none] ∧ PenW H' p c ns (b + 1) l ∧ But p H H', ?_, ?_⟩
      · -- a cell of the script
        refine ⟨_, rfl, p, _, _, _, rfl, rfl, SqL.of W1.hp, rfl, by decide, fun e he => ?_⟩
        refine ⟨_, _, .lst (SqL.of (W1.new he).hc) (dpInts ns), .lst (SqL.of upd_same) .nil, shInts ns, by decide, _, rfl, ?_⟩
        have W2 := W1.new (o := .lst []) he
        have B2 : But p H (upd (upd H p (.lst [.ref c, .int (b + 1), .int l])) e (.lst [])) := (But.refl.upd).new he
        rw [eqvNil]
        by_cases hn : ns = []
        · rw [decide_eq_true hn]
          refine iteF ?_
          exact ⟨_, rfl, W2, B2⟩
        · rw [decide_eq_false hn]
          refine iteT ?_
          have hl0 : 0 < ns.length := List.length_pos_iff.mpr hn
          have hm0 : (0 : Int) < ((ns.map V.int).length : Int) := by rw [List.length_map]; omega
          refine ⟨_, rfl, p, _, _, _, rfl, rfl, SqL.of W2.hp, rfl, _, rfl, .inl ⟨_, rfl, _, rfl, p, _, _, _, rfl, rfl, SqL.of W2.hp, rfl, _, _, rfl, .inl ⟨_, SqL.of W2.hc, rfl⟩, _, _, rfl, rfl, hm0, ?_⟩⟩
          obtain ⟨z, hz⟩ : ∃ z, (ns.map V.int)[(b % ((ns.map V.int).length : Int)).toNat]'(by have := modB b hm0; omega) = .int z := ⟨_, List.getElem_map ..⟩
          exact ⟨c, _, _, .int z, rfl, rfl, SqL.of W2.hc, by rw [atI_in (modB b hm0).1 (modB b hm0).2, hz], ⟨_, rfl, W2, B2⟩⟩
      · rintro σ' H' ⟨z, rfl, W2, B2⟩
        have hp2 := W2.hp
        have hb1 := W.b0
        have hb2 : b ≤ 1000000 := by omega
        -- a great cell
        refine ⟨_, rfl, _, rfl, p, _, _, _, rfl, rfl, SqL.of hp2, rfl, _, _, rfl, .inl ⟨_, SqL.of W2.hc, rfl⟩, _, _, rfl, rfl, _, rfl, ?_⟩
        refine ite2 (fun _ => ?_) (fun _ => ?_)
        · refine ⟨_, rfl, _, rfl, _, _, rfl, rfl, ⟨by decide, by decide, by decide⟩, _, _, rfl, rfl, _, rfl, ?_⟩
          refine ite2 (fun _ => ?_) (fun _ => ?_)
          · refine ⟨_, rfl, _, rfl, _, _, rfl, rfl, ⟨by decide, by decide, by decide⟩, _, _, rfl, rfl, _, _, rfl, rfl, .inl ⟨by decide, by decide⟩, ?_⟩
            refine ⟨_, rfl, _, _, rfl, rfl, .inr ⟨_, rfl, _, _, rfl, rfl, ?_⟩⟩
            refine ⟨_, rfl, .inl ⟨_, rfl, _, rfl, _, _, rfl, rfl, wide_m hm hmb, ?_⟩⟩
            refine ⟨_, rfl, p, _, _, _, rfl, rfl, hp2, rfl, ?_⟩
            refine ⟨_, rfl, .inl ⟨_, rfl, _, rfl, _, _, rfl, rfl, hm, ?_⟩⟩
            exact q _ _ (modB _ hm).1 (modB _ hm).2 ⟨ns, b + 1, _, W2.put W2.b0, by omega⟩ B2.upd
          · refine ⟨_, rfl, .inl ⟨_, rfl, _, _, rfl, rfl, p0 rfl, _, rfl, _, _, rfl, rfl, .inl ⟨by decide, by decide⟩, _, _, rfl, rfl, _, _, rfl, rfl, _, _, rfl, rfl, ⟨by decide, by decide, ?_⟩, .inl ⟨_, rfl, _, _, rfl, rfl, p0 rfl, ?_⟩⟩⟩
            · have h1 := modB z (m := 2147483549) (by decide)
              omega
            have hx := modB ((z % 2147483549 + 40433 * b + 347) ^ (5 : Int).toNat) (m := 2147483629) (by decide)
            generalize hxe : (z % 2147483549 + 40433 * b + 347) ^ (5 : Int).toNat % 2147483629 = x at hx
            have p1 := mulB hx.1 (show x ≤ 2147483629 by omega) (show 0 ≤ 2 * b + 131 by omega) (show 2 * b + 131 ≤ 2100000 by omega)
            have p2 := mulB (show 0 ≤ 50333 * b by omega) (show 50333 * b ≤ 100000000000 by omega) hb1 hb2
            refine ⟨_, rfl, _, rfl, _, _, rfl, rfl, .inl ⟨by decide, by decide⟩, _, _, rfl, rfl, _, _, rfl, rfl, .inl ?_, _, rfl, _, _, rfl, rfl, .inl ⟨by decide, by decide⟩, _, rfl, _, _, rfl, rfl, .inl ?_, _, _, rfl, rfl, _, _, rfl, rfl, _, _, rfl, rfl, ⟨by decide, by decide, ?_⟩, .inl ⟨_, rfl, _, _, rfl, rfl, p0 rfl, ?_⟩⟩
            · rw [hxe]; omega
            · omega
            · rw [hxe]; omega
            refine ⟨_, rfl, _, _, rfl, rfl, ⟨by decide, by decide⟩, .inl ⟨_, rfl, _, rfl, _, _, rfl, rfl, hm, ?_⟩⟩
            exact q _ _ (modB _ hm).1 (modB _ hm).2 ⟨ns, b + 1, _, W2, by omega⟩ B2
        · refine ⟨_, rfl, .inl ⟨_, rfl, _, _, rfl, rfl, p0 rfl, _, rfl, _, _, rfl, rfl, .inl ⟨by decide, by decide⟩, _, _, rfl, rfl, _, _, rfl, rfl, _, _, rfl, rfl, ⟨by decide, by decide, ?_⟩, .inl ⟨_, rfl, _, _, rfl, rfl, p0 rfl, ?_⟩⟩⟩
          · have h1 := modB z (m := 2147483549) (by decide)
            omega
          have hx := modB ((z % 2147483549 + 40433 * b + 347) ^ (5 : Int).toNat) (m := 2147483629) (by decide)
          generalize hxe : (z % 2147483549 + 40433 * b + 347) ^ (5 : Int).toNat % 2147483629 = x at hx
          have p1 := mulB hx.1 (show x ≤ 2147483629 by omega) (show 0 ≤ 2 * b + 131 by omega) (show 2 * b + 131 ≤ 2100000 by omega)
          have p2 := mulB (show 0 ≤ 50333 * b by omega) (show 50333 * b ≤ 100000000000 by omega) hb1 hb2
          refine ⟨_, rfl, _, rfl, _, _, rfl, rfl, .inl ⟨by decide, by decide⟩, _, _, rfl, rfl, _, _, rfl, rfl, .inl ?_, _, rfl, _, _, rfl, rfl, .inl ⟨by decide, by decide⟩, _, rfl, _, _, rfl, rfl, .inl ?_, _, _, rfl, rfl, _, _, rfl, rfl, _, _, rfl, rfl, ⟨by decide, by decide, ?_⟩, .inl ⟨_, rfl, _, _, rfl, rfl, p0 rfl, ?_⟩⟩
          · rw [hxe]; omega
          · omega
          · rw [hxe]; omega
          refine ⟨_, rfl, _, _, rfl, rfl, ⟨by decide, by decide⟩, .inl ⟨_, rfl, _, rfl, _, _, rfl, rfl, hm, ?_⟩⟩
          exact q _ _ (modB _ hm).1 (modB _ hm).2 ⟨ns, b + 1, _, W2, by omega⟩ B2
end

/-! ### callees -/
structure Cal (P : Program) (w : World) (K : PySem.W.Frag) (mg : Str → Option Value) (base : Heap) (k : Nat) (x : Str) (f : Addr) (fd : FuncData) (ps : List Str) (sp : Sp) : Prop where
  F : FnOk P w K mg base CX0 k f fd ps sp
  mgf : mg x = some (.ref f)
  kp : PySem.W.keepIn K (.ref f) = true
  b : Binds K fd ps []
structure Mak (P : Program) (w : World) (K : PySem.W.Frag) (mg : Str → Option Value) (base : Heap) (k : Nat) (x : Str) (C f : Addr) (fd : FuncData) (ps : List Str) (sp : Sp) : Prop where
  M : Mk K C f
  F : FnOk P w K mg base CX0 k f fd ps sp
  mgC : mg x = some (.ref C)
  b : Binds K fd ps []
structure Sta (P : Program) (w : World) (K : PySem.W.Frag) (mg : Str → Option Value) (base : Heap) (k : Nat) (C : Addr) (m : Str) (p f : Addr) (fd : FuncData) (ps : List Str) (sp : Sp) : Prop where
  s : Own.SMet K C (.type "type") m p f
  F : FnOk P w K mg base CX0 k f fd ps sp
  b : Binds K fd ps []
structure Dot (P : Program) (w : World) (K : PySem.W.Frag) (mg : Str → Option Value) (base : Heap) (k : Nat) (C : Addr) (m : Str) (f : Addr) (fd : FuncData) (ps : List Str) (sp : Sp) : Prop where
  m : Meth K C m f
  F : FnOk P w K mg base CX0 k f fd ps sp
  b : Binds K fd ps []
/-- facts of an own class -/
structure ClT (K : PySem.W.Frag) (mg : Str → Option Value) (C : Addr) (x : Str) : Prop where
  cl : Cls K C
  mgC : mg x = some (.ref C)
  rd : ClX.CRead K C (.type "type")
  ca : PySem.W.findIn K (.ref C) "__class__" = some (some (.builtin "object.__class__"))
  cn : PySem.W.specialIn K (.builtin "object.__class__") "__get__" = some (some (.builtin "getset_descriptor.__get__"))
  ct : PySem.W.takesIn K (.builtin "object.__class__") = some true
  cm : PySem.W.mroIn K C (.type "object") = some true
  kI : PySem.W.kitOne K (.ref C) (.type "int") = some false
  kB : PySem.W.kitOne K (.ref C) (.type "bool") = some false
  kS : PySem.W.kitOne K (.ref C) (.ref C) = some true
  iK : PySem.W.kitOne K (.type "int") (.ref C) = some false
  sI : PySem.W.subIn K (.ref C) (.type "int") = some false
  nI : PySem.W.notFirst K C (.type "int") = true
  nC : PySem.W.notFirst K C (.ref C) = true
theorem ClT.ty {K : PySem.W.Frag} {mg : Str → Option Value} {C a dx : Addr} {x : Str} {H : Hp} {fs : List (Str × V)} (T : ClT K mg C x) (h : H a = some (.ins C dx fs)) : TyX K H (.ref a) (.ref C) :=
  .base (.ins h T.cl T.ca T.cn T.ct T.cm)
structure RatT (K : PySem.W.Frag) (mg : Str → Option Value) (C : Addr) : Prop extends ClT K mg C "Ratio" where
  nT : NoAttr K C "top"
  nB : NoAttr K C "bottom"
structure PieT (K : PySem.W.Frag) (mg : Str → Option Value) (C : Addr) : Prop extends ClT K mg C "Piece" where
  nL : NoAttr K C "left"
  nR : NoAttr K C "right"

/-! ### ratios -/
theorem tb_ne : ¬ (("bottom" : Str) = "top") := by decide +kernel
theorem bt_ne : ¬ (("top" : Str) = "bottom") := by decide +kernel
def ratF (n d : Int) : List (Str × V) := putF "bottom" (.int d) (putF "top" (.int n) [])
theorem ratF_top (n d : Int) : (ratF n d).lookup ("top" : Str) = some (.int n) := by
  unfold ratF
  rw [lookup_putF, if_neg bt_ne, lookup_putF, if_pos rfl]
theorem ratF_bot (n d : Int) : (ratF n d).lookup ("bottom" : Str) = some (.int d) := by
  unfold ratF
  rw [lookup_putF, if_pos rfl]
/-- a Ratio n / d stands at a -/
def RatAt (C : Addr) (H : Hp) (a : Addr) (n d : Int) : Prop := ∃ dx, H a = some (.ins C dx (ratF n d))
theorem RatAt.same {C : Addr} {H H' : Hp} {a : Addr} {n d : Int} (h : RatAt C H a n d) (e : Same H H') : RatAt C H' a n d := let ⟨dx, h⟩ := h; ⟨dx, e _ _ h⟩
theorem RatAt.but {C p : Addr} {H H' : Hp} {a : Addr} {n d : Int} (h : RatAt C H a n d) (e : But p H H') (hp : a ≠ p) : RatAt C H' a n d := let ⟨dx, h⟩ := h; ⟨dx, e _ _ h hp⟩
/-- a number: an int or a Ratio -/
inductive NumAt (C : Addr) (H : Hp) : V → Int → Int → Prop
  | int (i : Int) : NumAt C H (.int i) i 1
  | rat {a : Addr} {n d : Int} (h : RatAt C H a n d) : NumAt C H (.ref a) n d
theorem NumAt.same {C : Addr} {H H' : Hp} {v : V} {n d : Int} (h : NumAt C H v n d) (e : Same H H') : NumAt C H' v n d := by
  cases h with
  | int => exact .int _
  | rat h => exact .rat (h.same e)
theorem same_new {H : Hp} {p : Addr} {o : HO} (h : H p = none) : Same H (upd H p o) := fun b u e => by rw [upd_ne (ne_of_none e h)]; exact e
theorem same_two {H : Hp} {p q : Addr} {o u : HO} (h : H p = none) (h2 : H q = none) (n : p ≠ q) : Same H (upd (upd H p o) q u) := (same_new h).trans (same_new (by rw [upd_ne n.symm]; exact h2))
/-- small enough to reckon with -/
def Sz (z : Int) : Prop := z.natAbs < 2 ^ 8000
theorem Sz.mul {i j : Int} (a : Sz i) (b : Sz j) : CMulW i j := wide_mul a b (by decide) (by decide) (by decide)
theorem Sz.of {z : Int} (h : z.natAbs < 10 ^ 250) : Sz z := Nat.lt_trans h (by decide +kernel)

section
variable {P : Program} {w : World} {K : PySem.W.Frag} {mg : Str → Option Value} {base : Heap} {C : Addr}
def isIntK (K : PySem.W.Frag) (t : Value) (b : Bool) : Prop := ∃ b1 b2, PySem.W.kitOne K t (.type "int") = some b1 ∧ PySem.W.kitOne K t (.type "bool") = some b2 ∧ b = (b1 && !b2)
theorem isIntK_int : isIntK K (.type "int") true := ⟨true, false, kit_ty (by decide +kernel), kit_ty (by decide +kernel), rfl⟩
theorem isIntK_own {x : Str} (T : ClT K mg C x) : isIntK K (.ref C) false := ⟨false, false, T.kI, T.kB, rfl⟩
def spIsInt (K : PySem.W.Frag) : Sp := fun vs H Q _ => ∃ v t b, vs = [v] ∧ TyX K H v t ∧ isIntK K t b ∧ Q (.bl b) H

abbrev sIsInt : Stmt := top 18
theorem scII : FnScope ["value"] ["value"] (defScope sIsInt) := ⟨rfl, rfl, rfl, by decide +kernel, rfl, by decide +kernel, by decide +kernel⟩
theorem ok_isint {f : Addr} {fd : FuncData} (F : Fun K "is_int" "is_int" sIsInt f fd) (T : Bl mg) : FnOk P w K mg base CX0 1 f fd ["value"] (spIsInt K) := by
  refine F.ok scII (fun vs H Q E h => ?_) (fun cdv A outer s H vs Q E hr h => ?_)
  · obtain ⟨v, t, b, rfl, _⟩ := h
    rfl
  · obtain ⟨v, t, b, rfl, ty, ⟨b1, b2, h1, h2, rfl⟩, q⟩ := h
    have nd := scII.nd
    refine ⟨_, pss_one (ps_ret (pe_and (pe_callB call_isi (by rfl) T.isinstance (by decide +kernel) (pa_cons (pv 0) (pa_cons (pe_bltn (v := .ty "int") (u := .type "int") (by rfl) T.int (by decide +kernel) rfl) pa_nil))) (pe_one (pe_not (pe_callB call_isi (by rfl) T.isinstance (by decide +kernel) (pa_cons (pv 0) (pa_cons (pe_bltn (v := .ty "bool") (u := .type "bool") (by rfl) T.bool (by decide +kernel) rfl) pa_nil))))))), ?_⟩
    refine ⟨_, rfl, _, _, t, _, b1, rfl, .ty _, ty, h1, _, rfl, ?_⟩
    cases b1 with
    | true =>
      refine iteT ?_
      exact ⟨_, rfl, _, _, t, _, b2, rfl, .ty _, ty, h2, _, rfl, q⟩
    | false => exact iteF q

def spIsNum (K : PySem.W.Frag) (C : Addr) : Sp := fun vs H Q _ => ∃ v t b c, vs = [v] ∧ TyX K H v t ∧ isIntK K t b ∧ PySem.W.kitOne K t (.ref C) = some c ∧ Q (.bl (b || c)) H
theorem NumAt.spNum {x : Str} {H : Hp} {v : V} {n d : Int} {Q : VK} {E : XK} (T : ClT K mg C x) (h : NumAt C H v n d) (q : Q (.bl true) H) : spIsNum K C [v] H Q E := by
  cases h with
  | int => exact ⟨_, _, _, _, rfl, .base (.int _), isIntK_int, T.iK, q⟩
  | rat h => obtain ⟨dx, h⟩ := h; exact ⟨_, _, _, _, rfl, T.ty h, isIntK_own T, T.kS, q⟩
abbrev sIsNum : Stmt := inClass (top 22) 1
theorem scIN : FnScope ["value"] ["value"] (defScope sIsNum) := ⟨rfl, rfl, rfl, by decide +kernel, rfl, by decide +kernel, by decide +kernel⟩
theorem ok_isnum {f f1 : Addr} {fd fd1 : FuncData} (F : Fun K "is_number" "Ratio.is_number" sIsNum f fd) (T : Bl mg) (T_Ratio : RatT K mg C) (C_is_int : Cal P w K mg base 1 "is_int" f1 fd1 ["value"] (spIsInt K)) :
    FnOk P w K mg base CX0 2 f fd ["value"] (spIsNum K C) := by
  refine F.ok scIN (fun vs H Q E h => ?_) (fun cdv A outer s H vs Q E hr h => ?_)
  · obtain ⟨v, t, b, c, rfl, _⟩ := h
    rfl
  · obtain ⟨v, t, b, c, rfl, ty, hb, hc, q⟩ := h
    have nd := scIN.nd
    refine ⟨_, pss_one (ps_ret (pe_or (pe_call C_is_int.F (hr.mono (by decide)) (by rfl) C_is_int.mgf C_is_int.kp C_is_int.b .nil pass0 (pa_cons (pv 0) pa_nil)) (pe_one (pe_callB call_isi (by rfl) T.isinstance (by decide +kernel) (pa_cons (pv 0) (pa_cons (Own.pe_gref (by rfl) T_Ratio.mgC) pa_nil)))))), ?_⟩
    refine ⟨_, rfl, _, t, b, rfl, ty, hb, _, rfl, ?_⟩
    cases b with
    | true => exact iteT q
    | false =>
      refine iteF ?_
      exact ⟨_, rfl, _, _, t, _, c, rfl, .own _, ty, hc, q⟩

def spParts (C : Addr) : Sp := fun vs H Q _ => ∃ v n d, vs = [v] ∧ NumAt C H v n d ∧ ∀ p, H p = none → Q (.ref p) (upd H p (.tup [.int n, .int d]))
abbrev sParts : Stmt := top 23
theorem scPa : FnScope ["number"] ["number"] (defScope sParts) := ⟨rfl, rfl, rfl, by decide +kernel, rfl, by decide +kernel, by decide +kernel⟩
theorem ok_parts {f : Addr} {fd : FuncData} (F : Fun K "parts_of" "parts_of" sParts f fd) (T : Bl mg) (T_Ratio : RatT K mg C) : FnOk P w K mg base CX0 1 f fd ["number"] (spParts C) := by
  refine F.ok scPa (fun vs H Q E h => ?_) (fun cdv A outer s H vs Q E hr h => ?_)
  · obtain ⟨v, n, d, rfl, _⟩ := h
    rfl
  · obtain ⟨v, n, d, rfl, hn, q⟩ := h
    have nd := scPa.nd
    refine ⟨_, pss_cons (ps_if (pt_val (pe_callB call_isi (by rfl) T.isinstance (by decide +kernel) (pa_cons (pv 0) (pa_cons (Own.pe_gref (by rfl) T_Ratio.mgC) pa_nil)))) (pss_one (ps_ret (pe_tup (pa_cons (pe_fld (pv 0) rfl) (pa_cons (pe_fld (pv 0) rfl) pa_nil))))) pss_nil)
      (pss_one (ps_ret (pe_tup (pa_cons (pv 0) (pa_cons pe_int pa_nil))))), ?_⟩
    cases hn with
    | int =>
      refine ⟨_, rfl, _, _, _, _, false, rfl, .own _, .base (.int _), T_Ratio.iK, _, rfl, iteF ?_⟩
      exact ⟨_, rfl, (by decide : 2 ≤ sizeLine), fun p hp => q p hp⟩
    | rat h =>
      obtain ⟨dx, h⟩ := h
      refine ⟨_, rfl, _, _, _, _, true, rfl, .own _, T_Ratio.ty h, T_Ratio.kS, _, rfl, iteT ?_⟩
      exact ⟨_, rfl, _, C, dx, _, _, rfl, h, T_Ratio.cl, T_Ratio.nT, ratF_top _ _, _, rfl, _, C, dx, _, _, rfl, h, T_Ratio.cl, T_Ratio.nB, ratF_bot _ _, (by decide : 2 ≤ sizeLine), fun p hp => q p hp⟩

def spLead (C : Addr) : Sp := fun vs H Q _ => ∃ v u n d m e, vs = [v, u] ∧ NumAt C H v n d ∧ NumAt C H u m e ∧ (Sz n ∧ Sz d ∧ Sz m ∧ Sz e) ∧ ∀ H', Same H H' → Q (.int (n * e - m * d)) H'
abbrev sLead : Stmt := top 25
theorem scLe : FnScope ["one", "other", "top", "bottom", "other_top", "other_bottom"] ["one", "other"] (defScope sLead) := ⟨rfl, rfl, rfl, by decide +kernel, rfl, by decide +kernel, by decide +kernel⟩
theorem ok_lead {f f1 : Addr} {fd fd1 : FuncData} (F : Fun K "_lead" "_lead" sLead f fd) (C_parts_of : Cal P w K mg base 1 "parts_of" f1 fd1 ["number"] (spParts C)) : FnOk P w K mg base CX0 2 f fd ["one", "other"] (spLead C) := by
  refine F.ok scLe (fun vs H Q E h => ?_) (fun cdv A outer s H vs Q E hr h => ?_)
  · obtain ⟨v, u, n, d, m, e, rfl, _⟩ := h
    rfl
  · obtain ⟨v, u, n, d, m, e, rfl, hv, hu, ⟨z1, z2, z3, z4⟩, q⟩ := h
    have nd := scLe.nd
    refine ⟨_, pss_cons (ps_asg (pe_call C_parts_of.F (hr.mono (by decide)) (by rfl) C_parts_of.mgf C_parts_of.kp C_parts_of.b .nil pass0 (pa_cons (pv 0) pa_nil)) (pg_tup (by rfl) (pgs_cons (pg_name (i := 2) nd rfl (Or.inl rfl)) (pgs_cons (pg_name (i := 3) nd rfl (Or.inl rfl)) pgs_nil))))
      (pss_cons (ps_asg (pe_call C_parts_of.F (hr.mono (by decide)) (by rfl) C_parts_of.mgf C_parts_of.kp C_parts_of.b .nil pass0 (pa_cons (pv 1) pa_nil)) (pg_tup (by rfl) (pgs_cons (pg_name (i := 4) nd rfl (Or.inl rfl)) (pgs_cons (pg_name (i := 5) nd rfl (Or.inl rfl)) pgs_nil))))
      (pss_one (ps_ret (pe_op op_sub (pe_op op_mulW (pv 2) (pv 5)) (pe_op op_mulW (pv 4) (pv 3)))))), ?_⟩
    refine ⟨_, rfl, _, _, _, rfl, hv, fun p hp => ⟨_, _, rfl, SqT.of upd_same, rfl, _, _, rfl, _, _, rfl, rfl, ?_⟩⟩
    have s1 : Same H (upd H p (.tup [.int n, .int d])) := same_new hp
    refine ⟨_, rfl, _, _, _, rfl, hu.same s1, fun p2 hp2 => ⟨_, _, rfl, SqT.of upd_same, rfl, _, _, rfl, _, _, rfl, rfl, ?_⟩⟩
    exact ⟨_, rfl, _, rfl, _, _, rfl, rfl, z1.mul z4, _, rfl, _, rfl, _, _, rfl, rfl, z3.mul z2, _, _, rfl, rfl, q _ (s1.trans (same_new hp2))⟩
end
end Toy
set_option maxRecDepth 100000
set_option maxHeartbeats 4000000
namespace Toy
open PySem L2
/-! ### a ratio made -/
theorem vint_ne {b c : Int} (h : b ≠ c) : ¬ (decide (V.int b = V.int c) = true) := fun e => h (V.int.inj (of_decide_eq_true e))
def CDivZ (_ j : Int) : Prop := j ≠ 0 ∧ j.natAbs.log2 < 9000
theorem op_fdivZ {X : Cx} : OpR X (binaryOp .FloorDiv) (rI CDivZ fun i j => .int (i.fdiv j)) := opI fun i j _ _ _ _ _ hc q => PyProof.Rows.floordiv_int hc.1 q (.inl (PyProof.noPylong_of_log2 hc.2))
def gcdI (t b : Int) : Int := ((Nat.gcd t.natAbs b.natAbs : Nat) : Int)
def lowD (t b : Int) : Int := if 0 < b then gcdI t b else -gcdI t b
def lowT (t b : Int) : Int := t.fdiv (lowD t b)
def lowB (t b : Int) : Int := b.fdiv (lowD t b)
theorem gcdI_pos {t b : Int} (h : b ≠ 0) : 0 < gcdI t b := by
  have h1 : 0 < b.natAbs := by omega
  have h2 := Nat.gcd_pos_of_pos_right t.natAbs h1
  unfold gcdI
  omega
theorem gcdI_neg {t b : Int} (h : b ≠ 0) : -gcdI t b ≠ 0 := by
  have := gcdI_pos (t := t) h
  omega
theorem gcdI_le {t b : Int} (h : b ≠ 0) : (gcdI t b).natAbs ≤ b.natAbs := by
  have h1 : 0 < b.natAbs := by omega
  have h2 := Nat.gcd_le_right t.natAbs h1
  unfold gcdI
  omega
theorem Sz.div {i j : Int} (h : j ≠ 0) (z : Sz j) : CDivZ i j := ⟨h, Nat.lt_trans (PySem.Flt.log2_lt_of (by decide) z) (by decide)⟩
theorem Sz.gcd {t b : Int} (h : b ≠ 0) (z : Sz b) : Sz (gcdI t b) := Nat.lt_of_le_of_lt (gcdI_le h) z
theorem Sz.neg {b : Int} (z : Sz b) : Sz (-b) := by unfold Sz; rw [Int.natAbs_neg]; exact z
theorem lowT_one {t b : Int} (h : 0 < b) (g : gcdI t b = 1) : lowT t b = t := by
  unfold lowT lowD
  rw [if_pos h, g]
  exact Int.fdiv_one t
theorem lowB_one {t b : Int} (h : 0 < b) (g : gcdI t b = 1) : lowB t b = b := by
  unfold lowB lowD
  rw [if_pos h, g]
  exact Int.fdiv_one b
theorem iteNot {b : Bool} {A B : Prop} (h : b = true) (x : B) : if (!b) = true then A else B := by
  subst h
  exact iteF x
theorem NumAt.info {K : PySem.W.Frag} {mg : Str → Option Value} {C : Addr} {x : Str} {H : Hp} {v : V} {n d : Int} (T : ClT K mg C x) (h : NumAt C H v n d) :
    ∃ t b c, TyX K H v t ∧ isIntK K t b ∧ PySem.W.kitOne K t (.ref C) = some c ∧ (b || c) = true := by
  cases h with
  | int => exact ⟨_, _, _, .base (.int _), isIntK_int, T.iK, rfl⟩
  | rat h => obtain ⟨dx, h⟩ := h; exact ⟨_, _, _, T.ty h, isIntK_own T, T.kS, rfl⟩
section
variable {P : Program} {w : World} {K : PySem.W.Frag} {mg : Str → Option Value} {base : Heap} {C : Addr}
def spRInit (C : Addr) : Sp := fun vs H Q _ => ∃ x dx t b, vs = [.ref x, .int t, .int b] ∧ H x = some (.ins C dx []) ∧ b ≠ 0 ∧ Sz b ∧ ∀ H', RatAt C H' x (lowT t b) (lowB t b) → (∀ c o, H c = some o → c ≠ x → H' c = some o) → Q .non H'
theorem spRInit.make {H1 : Hp} {t b : Int} {Q : VK} {E : XK} (hb : b ≠ 0) (hz : Sz b) (q : ∀ x H', H1 x = none → Same H1 H' → RatAt C H' x (lowT t b) (lowB t b) → Q (.ref x) H') :
    ∀ x dx, H1 x = none → H1 dx = none → dx ≠ x → spRInit C [.ref x, .int t, .int b] (upd (upd H1 dx (.own x)) x (.ins C dx [])) (fun v H2 => v = .non ∧ Q (.ref x) H2) E := fun x dx hx hdx hne =>
  ⟨x, dx, t, b, rfl, upd_same, hb, hz, fun H' hR hk => ⟨rfl, q x H' hx (fun c o e => hk c o (by rw [upd_ne (ne_of_none e hx), upd_ne (ne_of_none e hdx)]; exact e) (ne_of_none e hx)) hR⟩⟩
abbrev sRInit : Stmt := inClass (top 22) 0
theorem scRI : FnScope ["self", "top", "bottom", "divisor"] ["self", "top", "bottom"] (defScope sRInit) := ⟨rfl, rfl, rfl, by decide +kernel, rfl, by decide +kernel, by decide +kernel⟩
theorem ok_rinit {f f1 : Addr} {fd fd1 : FuncData} (F : FunD K "__init__" "Ratio.__init__" (defArgs sRInit) (defBody sRInit) (defScope sRInit) [.int 1] [] f fd) (T : Bl mg) (T_Ratio : RatT K mg C) (C_is_int : Cal P w K mg base 1 "is_int" f1 fd1 ["value"] (spIsInt K)) :
    FnOk P w K mg base CX0 2 f fd ["self", "top", "bottom"] (spRInit C) := by
  refine F.ok scRI (fun vs H Q E h => ?_) (fun cdv A outer s H vs Q E hr h => ?_)
  · obtain ⟨x, dx, t, b, rfl, _⟩ := h
    rfl
  · obtain ⟨x, dx, t, b, rfl, hx, hb, hz, q⟩ := h
    have nd := scRI.nd
    refine ⟨_, pss_cons (ps_if (pt_not (pt_val (pe_call C_is_int.F (hr.mono (by decide)) (by rfl) C_is_int.mgf C_is_int.kp C_is_int.b .nil pass0 (pa_cons (pv 1) pa_nil)))) pss_never pss_nil)
      (pss_cons (ps_if (pt_not (pt_val (pe_call C_is_int.F (hr.mono (by decide)) (by rfl) C_is_int.mgf C_is_int.kp C_is_int.b .nil pass0 (pa_cons (pv 2) pa_nil)))) pss_never pss_nil)
      (pss_cons (ps_if (pt_cmpR op_eq (pv 2) pe_int (nomark _)) pss_never pss_nil)
      (pss_cons (ps_set (i := 3) nd rfl (Or.inl rfl) (pe_ifExp (pt_cmpR op_gt (pv 2) pe_int (nomark _)) (pe_callBfun cr_gcd (by rfl) T.gcd (pa_cons (pv 1) (pa_cons (pv 2) pa_nil))) (pe_un un_neg (pe_callBfun cr_gcd (by rfl) T.gcd (pa_cons (pv 1) (pa_cons (pv 2) pa_nil))))))
      (pss_cons (ps_fld (pv 0) (pe_op op_fdivZ (pv 1) (pv 3)) rfl)
      (pss_one (ps_fld (pv 0) (pe_op op_fdivZ (pv 2) (pv 3)) rfl)))))), ?_⟩
    refine ⟨_, rfl, _, _, true, rfl, .base (.int _), isIntK_int, _, rfl, iteF ?_⟩
    refine ⟨_, rfl, _, _, true, rfl, .base (.int _), isIntK_int, _, rfl, iteF ?_⟩
    refine ⟨_, rfl, rfl, _, rfl, ?_⟩
    refine ite2 (fun e => absurd e (vint_ne hb)) (fun _ => ?_)
    refine ⟨_, rfl, _, _, rfl, rfl, _, rfl, ?_⟩
    have fin : ∀ z : Int, z = lowD t b → Q .non (upd (upd H x (.ins C dx (putF "top" (.int (t.fdiv z)) []))) x (.ins C dx (putF "bottom" (.int (b.fdiv z)) (putF "top" (.int (t.fdiv z)) [])))) := fun z e =>
      q _ ⟨dx, by rw [e]; exact upd_same⟩ fun c o h n => by rw [upd_ne n, upd_ne n]; exact h
    refine ite2 (fun hp => ?_) (fun hp => ?_)
    · have hp1 : 0 < b := of_decide_eq_true hp
      refine ⟨_, rfl, _, rfl, _, _, rfl, ?_⟩
      refine ⟨_, rfl, _, rfl, _, _, rfl, rfl, (Sz.gcd hb hz).div (by have := gcdI_pos (t := t) hb; exact Int.ne_of_gt this), _, rfl, x, C, dx, _, rfl, hx, T_Ratio.cl, T_Ratio.nT, (by decide : 0 < 1000), ?_⟩
      refine ⟨_, rfl, _, rfl, _, _, rfl, rfl, (Sz.gcd hb hz).div (by have := gcdI_pos (t := t) hb; exact Int.ne_of_gt this), _, rfl, x, C, dx, _, rfl, upd_same, T_Ratio.cl, T_Ratio.nB, (by decide : 1 < 1000), ?_⟩
      exact fin _ (by unfold lowD; rw [if_pos hp1]; rfl)
    · have hp1 : ¬ 0 < b := fun e => hp (decide_eq_true e)
      refine ⟨_, rfl, _, rfl, _, _, rfl, _, rfl, ?_⟩
      refine ⟨_, rfl, _, rfl, _, _, rfl, rfl, (Sz.gcd hb hz).neg.div (gcdI_neg hb), _, rfl, x, C, dx, _, rfl, hx, T_Ratio.cl, T_Ratio.nT, (by decide : 0 < 1000), ?_⟩
      refine ⟨_, rfl, _, rfl, _, _, rfl, rfl, (Sz.gcd hb hz).neg.div (gcdI_neg hb), _, rfl, x, C, dx, _, rfl, upd_same, T_Ratio.cl, T_Ratio.nB, (by decide : 1 < 1000), ?_⟩
      exact fin _ (by unfold lowD; rw [if_neg hp1]; rfl)

/-- comparisons -/
def spCmp (C : Addr) (g : Int → Bool) : Sp := fun vs H Q _ => ∃ v u n d m e, vs = [v, u] ∧ NumAt C H v n d ∧ NumAt C H u m e ∧ (Sz n ∧ Sz d ∧ Sz m ∧ Sz e) ∧ ∀ H', Same H H' → Q (.bl (g (n * e - m * d))) H'
structure Opr (P : Program) (w : World) (K : PySem.W.Frag) (mg : Str → Option Value) (base : Heap) (k : Nat) (C : Addr) (m : Str) (f : Addr) (fd : FuncData) (ps : List Str) (sp : Sp) : Prop where
  at_ : PySem.W.findIn K (.ref C) m = some (some (.ref f))
  fn : PySem.W.isFn K (.ref f) = true
  F : FnOk P w K mg base CX0 k f fd ps sp
  b : Binds K fd ps []
abbrev sLt : Stmt := inClass (top 22) 22
theorem scLt : FnScope ["self", "other"] ["self", "other"] (defScope sLt) := ⟨rfl, rfl, rfl, by decide +kernel, rfl, by decide +kernel, by decide +kernel⟩
theorem ok_lt {f p1 f1 f2 : Addr} {fd fd1 fd2 : FuncData} (F : Fun K "__lt__" "Ratio.__lt__" sLt f fd) (T_Ratio : RatT K mg C)
    (S_Ratio_is_number : Sta P w K mg base 2 C "is_number" p1 f1 fd1 ["value"] (spIsNum K C)) (C__lead : Cal P w K mg base 2 "_lead" f2 fd2 ["one", "other"] (spLead C)) : FnOk P w K mg base CX0 3 f fd ["self", "other"] (spCmp C fun z => decide (z < 0)) := by
  refine F.ok scLt (fun vs H Q E h => ?_) (fun cdv A outer s H vs Q E hr h => ?_)
  · obtain ⟨v, u, n, d, m, e, rfl, _⟩ := h
    rfl
  · obtain ⟨v, u, n, d, m, e, rfl, hv, hu, hz, q⟩ := h
    have nd := scLt.nd
    refine ⟨_, pss_cons (ps_if (pt_not (pt_val (Own.pe_smeth T_Ratio.rd S_Ratio_is_number.s S_Ratio_is_number.F (hr.mono (by decide)) S_Ratio_is_number.b pass0 (Own.pe_gref (by rfl) T_Ratio.mgC) (pa_cons (pv 1) pa_nil)))) pss_never pss_nil)
      (pss_one (ps_ret (pe_cmpR op_lt (pe_call C__lead.F (hr.mono (by decide)) (by rfl) C__lead.mgf C__lead.kp C__lead.b .nil pass0 (pa_cons (pv 0) (pa_cons (pv 1) pa_nil))) pe_int (nomark _)))), ?_⟩
    obtain ⟨t, b, c, ty, hb, hc, hbc⟩ := hu.info T_Ratio.toClT
    refine ⟨rfl, _, rfl, _, t, b, c, rfl, ty, hb, hc, _, rfl, iteNot hbc ?_⟩
    exact ⟨_, rfl, _, rfl, v, u, n, d, m, e, rfl, hv, hu, hz, fun H' s1 => ⟨_, _, rfl, rfl, q H' s1⟩⟩
abbrev sLeq : Stmt := inClass (top 22) 23
theorem scLeq : FnScope ["self", "other"] ["self", "other"] (defScope sLeq) := ⟨rfl, rfl, rfl, by decide +kernel, rfl, by decide +kernel, by decide +kernel⟩
theorem ok_le {f p1 f1 f2 : Addr} {fd fd1 fd2 : FuncData} (F : Fun K "__le__" "Ratio.__le__" sLeq f fd) (T_Ratio : RatT K mg C)
    (S_Ratio_is_number : Sta P w K mg base 2 C "is_number" p1 f1 fd1 ["value"] (spIsNum K C)) (C__lead : Cal P w K mg base 2 "_lead" f2 fd2 ["one", "other"] (spLead C)) : FnOk P w K mg base CX0 3 f fd ["self", "other"] (spCmp C fun z => decide (z ≤ 0)) := by
  refine F.ok scLeq (fun vs H Q E h => ?_) (fun cdv A outer s H vs Q E hr h => ?_)
  · obtain ⟨v, u, n, d, m, e, rfl, _⟩ := h
    rfl
  · obtain ⟨v, u, n, d, m, e, rfl, hv, hu, hz, q⟩ := h
    have nd := scLeq.nd
    refine ⟨_, pss_cons (ps_if (pt_not (pt_val (Own.pe_smeth T_Ratio.rd S_Ratio_is_number.s S_Ratio_is_number.F (hr.mono (by decide)) S_Ratio_is_number.b pass0 (Own.pe_gref (by rfl) T_Ratio.mgC) (pa_cons (pv 1) pa_nil)))) pss_never pss_nil)
      (pss_one (ps_ret (pe_cmpR op_le (pe_call C__lead.F (hr.mono (by decide)) (by rfl) C__lead.mgf C__lead.kp C__lead.b .nil pass0 (pa_cons (pv 0) (pa_cons (pv 1) pa_nil))) pe_int (nomark _)))), ?_⟩
    obtain ⟨t, b, c, ty, hb, hc, hbc⟩ := hu.info T_Ratio.toClT
    refine ⟨rfl, _, rfl, _, t, b, c, rfl, ty, hb, hc, _, rfl, iteNot hbc ?_⟩
    exact ⟨_, rfl, _, rfl, v, u, n, d, m, e, rfl, hv, hu, hz, fun H' s1 => ⟨_, _, rfl, rfl, q H' s1⟩⟩
abbrev sGt : Stmt := inClass (top 22) 24
theorem scGt : FnScope ["self", "other"] ["self", "other"] (defScope sGt) := ⟨rfl, rfl, rfl, by decide +kernel, rfl, by decide +kernel, by decide +kernel⟩
theorem ok_gt {f p1 f1 f2 : Addr} {fd fd1 fd2 : FuncData} (F : Fun K "__gt__" "Ratio.__gt__" sGt f fd) (T_Ratio : RatT K mg C)
    (S_Ratio_is_number : Sta P w K mg base 2 C "is_number" p1 f1 fd1 ["value"] (spIsNum K C)) (C__lead : Cal P w K mg base 2 "_lead" f2 fd2 ["one", "other"] (spLead C)) : FnOk P w K mg base CX0 3 f fd ["self", "other"] (spCmp C fun z => decide (0 < z)) := by
  refine F.ok scGt (fun vs H Q E h => ?_) (fun cdv A outer s H vs Q E hr h => ?_)
  · obtain ⟨v, u, n, d, m, e, rfl, _⟩ := h
    rfl
  · obtain ⟨v, u, n, d, m, e, rfl, hv, hu, hz, q⟩ := h
    have nd := scGt.nd
    refine ⟨_, pss_cons (ps_if (pt_not (pt_val (Own.pe_smeth T_Ratio.rd S_Ratio_is_number.s S_Ratio_is_number.F (hr.mono (by decide)) S_Ratio_is_number.b pass0 (Own.pe_gref (by rfl) T_Ratio.mgC) (pa_cons (pv 1) pa_nil)))) pss_never pss_nil)
      (pss_one (ps_ret (pe_cmpR op_gt (pe_call C__lead.F (hr.mono (by decide)) (by rfl) C__lead.mgf C__lead.kp C__lead.b .nil pass0 (pa_cons (pv 0) (pa_cons (pv 1) pa_nil))) pe_int (nomark _)))), ?_⟩
    obtain ⟨t, b, c, ty, hb, hc, hbc⟩ := hu.info T_Ratio.toClT
    refine ⟨rfl, _, rfl, _, t, b, c, rfl, ty, hb, hc, _, rfl, iteNot hbc ?_⟩
    exact ⟨_, rfl, _, rfl, v, u, n, d, m, e, rfl, hv, hu, hz, fun H' s1 => ⟨_, _, rfl, rfl, q H' s1⟩⟩
abbrev sGe : Stmt := inClass (top 22) 25
theorem scGe : FnScope ["self", "other"] ["self", "other"] (defScope sGe) := ⟨rfl, rfl, rfl, by decide +kernel, rfl, by decide +kernel, by decide +kernel⟩
theorem ok_ge {f p1 f1 f2 : Addr} {fd fd1 fd2 : FuncData} (F : Fun K "__ge__" "Ratio.__ge__" sGe f fd) (T_Ratio : RatT K mg C)
    (S_Ratio_is_number : Sta P w K mg base 2 C "is_number" p1 f1 fd1 ["value"] (spIsNum K C)) (C__lead : Cal P w K mg base 2 "_lead" f2 fd2 ["one", "other"] (spLead C)) : FnOk P w K mg base CX0 3 f fd ["self", "other"] (spCmp C fun z => decide (0 ≤ z)) := by
  refine F.ok scGe (fun vs H Q E h => ?_) (fun cdv A outer s H vs Q E hr h => ?_)
  · obtain ⟨v, u, n, d, m, e, rfl, _⟩ := h
    rfl
  · obtain ⟨v, u, n, d, m, e, rfl, hv, hu, hz, q⟩ := h
    have nd := scGe.nd
    refine ⟨_, pss_cons (ps_if (pt_not (pt_val (Own.pe_smeth T_Ratio.rd S_Ratio_is_number.s S_Ratio_is_number.F (hr.mono (by decide)) S_Ratio_is_number.b pass0 (Own.pe_gref (by rfl) T_Ratio.mgC) (pa_cons (pv 1) pa_nil)))) pss_never pss_nil)
      (pss_one (ps_ret (pe_cmpR op_ge (pe_call C__lead.F (hr.mono (by decide)) (by rfl) C__lead.mgf C__lead.kp C__lead.b .nil pass0 (pa_cons (pv 0) (pa_cons (pv 1) pa_nil))) pe_int (nomark _)))), ?_⟩
    obtain ⟨t, b, c, ty, hb, hc, hbc⟩ := hu.info T_Ratio.toClT
    refine ⟨rfl, _, rfl, _, t, b, c, rfl, ty, hb, hc, _, rfl, iteNot hbc ?_⟩
    exact ⟨_, rfl, _, rfl, v, u, n, d, m, e, rfl, hv, hu, hz, fun H' s1 => ⟨_, _, rfl, rfl, q H' s1⟩⟩

end
end Toy
set_option maxRecDepth 100000
set_option maxHeartbeats 4000000
namespace Toy
open PySem L2
open Rat (divInt)
/-! ### numbers of the program as rationals -/
theorem gcdI_eq (t b : Int) : gcdI t b = (Int.gcd b t : Int) := by
  unfold gcdI Int.gcd
  rw [Nat.gcd_comm]
theorem low_num {t b : Int} (h : b ≠ 0) : lowT t b = (divInt t b).num := by
  rw [Rat.num_divInt]
  unfold lowT lowD
  rw [gcdI_eq]
  have hg : (0 : Int) < (Int.gcd b t : Int) := by
    rw [← gcdI_eq]; exact gcdI_pos h
  by_cases hb : 0 < b
  · rw [if_pos hb, Int.sign_eq_one_of_pos hb, Int.one_mul, Int.fdiv_eq_ediv_of_nonneg _ (by omega)]
  · have hb2 : b < 0 := by omega
    rw [if_neg hb, Int.sign_eq_neg_one_of_neg hb2, Int.neg_one_mul, ← Int.fdiv_eq_ediv_of_nonneg _ (by omega), ← Int.neg_fdiv_neg, Int.neg_neg]
theorem low_den {t b : Int} (h : b ≠ 0) : lowB t b = ((divInt t b).den : Int) := by
  rw [Rat.den_divInt, if_neg h]
  unfold lowB lowD
  rw [gcdI_eq]
  have hg : (0 : Int) < (Int.gcd b t : Int) := by
    rw [← gcdI_eq]; exact gcdI_pos h
  rw [Int.natCast_ediv]
  by_cases hb : 0 < b
  · rw [if_pos hb, Int.fdiv_eq_ediv_of_nonneg _ (by omega), Int.natAbs_of_nonneg (by omega)]
  · rw [if_neg hb, show ((b.natAbs : Nat) : Int) = -b by omega, ← Int.fdiv_eq_ediv_of_nonneg _ (by omega), ← Int.neg_fdiv_neg, Int.neg_neg]
/-- a number below 2 ^ k over one below 2 ^ k -/
def Sq (k : Nat) (q : Rat) : Prop := q.num.natAbs < 2 ^ k ∧ q.den < 2 ^ k
theorem Sq.mono {j k : Nat} {q : Rat} (h : Sq j q) (e : j ≤ k) : Sq k q := ⟨Nat.lt_of_lt_of_le h.1 (Nat.pow_le_pow_right (by decide) e), Nat.lt_of_lt_of_le h.2 (Nat.pow_le_pow_right (by decide) e)⟩
theorem Sq.n {k : Nat} {q : Rat} (h : Sq k q) (e : k ≤ 8000) : Sz q.num := (h.mono e).1
theorem Sq.d {k : Nat} {q : Rat} (h : Sq k q) (e : k ≤ 8000) : Sz (q.den : Int) := (h.mono e).2
theorem num_le (t b : Int) : (divInt t b).num.natAbs ≤ t.natAbs := by
  rw [Rat.num_divInt]
  refine Nat.le_trans (Int.natAbs_ediv_le_natAbs _ _) ?_
  rw [Int.natAbs_mul]
  rcases Int.lt_trichotomy b 0 with h | h | h
  · rw [Int.sign_eq_neg_one_of_neg h]; simp
  · subst h; simp
  · rw [Int.sign_eq_one_of_pos h]; simp
theorem den_le {t b : Int} (h : b ≠ 0) : (divInt t b).den ≤ b.natAbs := by
  rw [Rat.den_divInt, if_neg h]
  exact Nat.div_le_self _ _
theorem Sq.of {k : Nat} {t b : Int} (h : b ≠ 0) (ht : t.natAbs < 2 ^ k) (hb : b.natAbs < 2 ^ k) : Sq k (divInt t b) := ⟨Nat.lt_of_le_of_lt (num_le t b) ht, Nat.lt_of_le_of_lt (den_le h) hb⟩
theorem den_ne (q : Rat) : (q.den : Int) ≠ 0 := by have := q.den_pos; omega
theorem den_pos (q : Rat) : (0 : Int) < (q.den : Int) := by have := q.den_pos; omega
theorem q_add (p q : Rat) : divInt (p.num * q.den + q.num * p.den) (p.den * q.den) = p + q := by
  conv => rhs; rw [← Rat.num_divInt_den p, ← Rat.num_divInt_den q]
  rw [Rat.divInt_add_divInt _ _ (den_ne p) (den_ne q)]
theorem q_sub (p q : Rat) : divInt (p.num * q.den - q.num * p.den) (p.den * q.den) = p - q := by
  conv => rhs; rw [← Rat.num_divInt_den p, ← Rat.num_divInt_den q]
  rw [Rat.divInt_sub_divInt _ _ (den_ne p) (den_ne q)]
theorem q_mul (p q : Rat) : divInt (p.num * q.num) (p.den * q.den) = p * q := by
  conv => rhs; rw [← Rat.num_divInt_den p, ← Rat.num_divInt_den q]
  rw [Rat.divInt_mul_divInt]
theorem q_div {p q : Rat} : divInt (p.num * q.den) (p.den * q.num) = p / q := by
  rw [Rat.divInt_eq_div]
  conv => rhs; rw [← Rat.num_divInt_den p, ← Rat.num_divInt_den q]
  rw [Rat.divInt_eq_div, Rat.divInt_eq_div, Rat.intCast_mul, Rat.intCast_mul]
  have h1 : ((p.den : Int) : Rat) ≠ 0 := by simpa using den_ne p
  have h2 : ((q.den : Int) : Rat) ≠ 0 := by simpa using den_ne q
  grind
theorem q_neg (p : Rat) : divInt (-p.num) p.den = -p := by
  conv => rhs; rw [← Rat.num_divInt_den p]
  rw [Rat.neg_divInt]
theorem fdiv_pos (n d k : Int) (hd : 0 < d) (hk : 0 < k) : (n * k).fdiv (d * k) = n / d := by
  rw [Int.fdiv_eq_ediv_of_nonneg _ (by exact Int.le_of_lt (Int.mul_pos hd hk)), Int.mul_ediv_mul_of_pos_left _ _ hk]
theorem q_fdiv {t b : Int} (h : b ≠ 0) : t.fdiv b = (divInt t b).floor := by
  obtain ⟨m, hm, e1, e2⟩ := Rat.divInt_num_den (n := t) (n' := (divInt t b).num) (d' := (divInt t b).den) (z' := (divInt t b).den_nz) (c := (divInt t b).reduced) h rfl
  rw [Rat.floor_def]
  have hd := den_pos (divInt t b)
  generalize (divInt t b).num = n at *
  generalize ((divInt t b).den : Int) = d at *
  rw [e1, e2]
  by_cases hp : 0 < m
  · exact fdiv_pos n d m hd hp
  · rw [← Int.neg_fdiv_neg, ← Int.mul_neg, ← Int.mul_neg]
    exact fdiv_pos n d (-m) hd (by omega)
theorem q_lt (p q : Rat) : decide (p.num * q.den - q.num * p.den < 0) = decide (p < q) := decide_eq_decide.mpr ⟨fun h => (Rat.lt_iff p q).mpr (by omega), fun h => by have := (Rat.lt_iff p q).mp h; omega⟩
theorem q_le (p q : Rat) : decide (p.num * q.den - q.num * p.den ≤ 0) = decide (p ≤ q) := decide_eq_decide.mpr ⟨fun h => (Rat.le_iff p q).mpr (by omega), fun h => by have := (Rat.le_iff p q).mp h; omega⟩
theorem q_gt (p q : Rat) : decide (0 < p.num * q.den - q.num * p.den) = decide (q < p) := decide_eq_decide.mpr ⟨fun h => (Rat.lt_iff q p).mpr (by omega), fun h => by have := (Rat.lt_iff q p).mp h; omega⟩
theorem q_ge (p q : Rat) : decide (0 ≤ p.num * q.den - q.num * p.den) = decide (q ≤ p) := decide_eq_decide.mpr ⟨fun h => (Rat.le_iff q p).mpr (by omega), fun h => by have := (Rat.le_iff q p).mp h; omega⟩
theorem q_eq (p q : Rat) : (decide (p.num = q.num) && decide ((p.den : Int) = q.den)) = decide (p = q) := by
  by_cases h : p = q
  · subst h; simp
  · rw [decide_eq_false h]
    by_cases h1 : p.num = q.num
    · have h2 : (p.den : Int) ≠ q.den := fun e => h (Rat.ext h1 (by exact_mod_cast e))
      simp [h2]
    · simp [h1]
/-! ### sizes -/
theorem mul_lt {i j : Int} {a b : Nat} (ha : i.natAbs < 2 ^ a) (hb : j.natAbs < 2 ^ b) : (i * j).natAbs < 2 ^ (a + b) := wide_lt ha hb
theorem den_abs (q : Rat) : ((q.den : Int)).natAbs = q.den := Int.natAbs_natCast _
theorem add_lt {i j : Int} {a : Nat} (ha : i.natAbs < 2 ^ a) (hb : j.natAbs < 2 ^ a) : (i + j).natAbs < 2 ^ (a + 1) := by
  have := Int.natAbs_add_le i j
  rw [Nat.pow_succ]
  omega
theorem sub_lt {i j : Int} {a : Nat} (ha : i.natAbs < 2 ^ a) (hb : j.natAbs < 2 ^ a) : (i - j).natAbs < 2 ^ (a + 1) := by
  have := Int.natAbs_sub_le i j
  rw [Nat.pow_succ]
  omega
theorem Sq.dd {k : Nat} {q : Rat} (h : Sq k q) : ((q.den : Int)).natAbs < 2 ^ k := by rw [den_abs]; exact h.2
section
variable {j k : Nat} {p q : Rat}
theorem Sq.dm (a : Sq j p) (b : Sq k q) : ((p.den : Int) * q.den).natAbs < 2 ^ (j + k) := mul_lt a.dd b.dd
theorem Sq.tadd (a : Sq j p) (b : Sq k q) : (p.num * q.den + q.num * p.den).natAbs < 2 ^ (j + k + 1) := add_lt (mul_lt a.1 b.dd) (by rw [Nat.add_comm]; exact mul_lt b.1 a.dd)
theorem Sq.tsub (a : Sq j p) (b : Sq k q) : (p.num * q.den - q.num * p.den).natAbs < 2 ^ (j + k + 1) := sub_lt (mul_lt a.1 b.dd) (by rw [Nat.add_comm]; exact mul_lt b.1 a.dd)
theorem dm_ne (p q : Rat) : (p.den : Int) * q.den ≠ 0 := Int.mul_ne_zero (den_ne p) (den_ne q)
theorem Sq.add (a : Sq j p) (b : Sq k q) : Sq (j + k + 1) (p + q) := by rw [← q_add]; exact Sq.of (dm_ne p q) (a.tadd b) (Nat.lt_of_lt_of_le (a.dm b) (Nat.pow_le_pow_right (by decide) (by omega)))
theorem Sq.sub (a : Sq j p) (b : Sq k q) : Sq (j + k + 1) (p - q) := by rw [← q_sub]; exact Sq.of (dm_ne p q) (a.tsub b) (Nat.lt_of_lt_of_le (a.dm b) (Nat.pow_le_pow_right (by decide) (by omega)))
theorem Sq.mul (a : Sq j p) (b : Sq k q) : Sq (j + k) (p * q) := by rw [← q_mul]; exact Sq.of (dm_ne p q) (mul_lt a.1 b.1) (a.dm b)
theorem num_ne {q : Rat} (h : q ≠ 0) : q.num ≠ 0 := fun e => h (Rat.num_eq_zero.mp e)
theorem dn_ne (p : Rat) {q : Rat} (h : q ≠ 0) : (p.den : Int) * q.num ≠ 0 := Int.mul_ne_zero (den_ne p) (num_ne h)
theorem Sq.div (a : Sq j p) (b : Sq k q) (h : q ≠ 0) : Sq (j + k) (p / q) := by rw [← q_div]; exact Sq.of (dn_ne p h) (mul_lt a.1 b.dd) (mul_lt a.dd b.1)
theorem Sq.neg (a : Sq j p) : Sq j (-p) := by
  refine ⟨?_, a.2⟩
  show (-p.num).natAbs < _
  rw [Int.natAbs_neg]
  exact a.1
theorem Sq.abs (a : Sq j p) : Sq j p.abs := by
  unfold Rat.abs
  split
  · exact a
  · exact a.neg
theorem Sq.int {i : Int} (h : i.natAbs < 2 ^ k) (h0 : 0 < k) : Sq k (i : Rat) := ⟨by rw [Rat.num_intCast]; exact h, by rw [Rat.den_intCast]; exact Nat.one_lt_two_pow (by omega)⟩
end
end Toy
set_option maxRecDepth 100000
set_option maxHeartbeats 4000000
namespace Toy
open PySem L2
open Rat (divInt)
/-! ### what the operators of Ratio promise, in rationals -/
def RatQ (C : Addr) (H : Hp) (a : Addr) (q : Rat) : Prop := RatAt C H a q.num q.den
inductive NumQ (C : Addr) (H : Hp) : V → Rat → Prop
  | int (i : Int) : NumQ C H (.int i) (i : Rat)
  | rat {a : Addr} {q : Rat} (h : RatQ C H a q) : NumQ C H (.ref a) q
theorem RatQ.same {C : Addr} {H H' : Hp} {a : Addr} {q : Rat} (h : RatQ C H a q) (e : Same H H') : RatQ C H' a q := RatAt.same h e
theorem RatQ.but {C p : Addr} {H H' : Hp} {a : Addr} {q : Rat} (h : RatQ C H a q) (e : But p H H') (hp : a ≠ p) : RatQ C H' a q := RatAt.but h e hp
theorem NumQ.same {C : Addr} {H H' : Hp} {v : V} {q : Rat} (h : NumQ C H v q) (e : Same H H') : NumQ C H' v q := by
  cases h with
  | int => exact .int _
  | rat h => exact .rat (h.same e)
theorem NumQ.at_ {C : Addr} {H : Hp} {v : V} {q : Rat} (h : NumQ C H v q) : NumAt C H v q.num q.den := by
  cases h with
  | int i => exact .int i
  | rat h => exact .rat h
theorem RatQ.ins {C : Addr} {H : Hp} {a : Addr} {q : Rat} (h : RatQ C H a q) : ∃ dx fs, H a = some (.ins C dx fs) := let ⟨dx, h⟩ := h; ⟨dx, _, h⟩
/-- an int or an instance, as the operators' rules ask -/
theorem NumQ.ri {C : Addr} {H : Hp} {v : V} {q : Rat} (h : NumQ C H v q) : (∃ j, v = .int j) ∨ ∃ b dy gs, v = .ref b ∧ H b = some (.ins C dy gs) := by
  cases h with
  | int i => exact .inl ⟨i, rfl⟩
  | rat h => obtain ⟨dx, h⟩ := h; exact .inr ⟨_, dx, _, rfl, h⟩
theorem NumQ.cases {C : Addr} {H : Hp} {v : V} {q : Rat} (h : NumQ C H v q) : (∃ i : Int, v = .int i ∧ q = i) ∨ ∃ a, v = .ref a ∧ RatQ C H a q := by
  cases h with
  | int i => exact .inl ⟨i, rfl, rfl⟩
  | rat h => exact .inr ⟨_, rfl, h⟩
section
variable {P : Program} {w : World} {K : PySem.W.Frag} {mg : Str → Option Value} {base : Heap} {C : Addr}
theorem mkQ {H1 : Hp} {t b : Int} {Q : VK} {E : XK} {q : Rat} (hb : b ≠ 0) (hz : Sz b) (e : divInt t b = q) (k : ∀ x H', Same H1 H' → RatQ C H' x q → Q (.ref x) H') :
    ∀ x dx, H1 x = none → H1 dx = none → dx ≠ x → spRInit C [.ref x, .int t, .int b] (upd (upd H1 dx (.own x)) x (.ins C dx [])) (fun v H2 => v = .non ∧ Q (.ref x) H2) E :=
  spRInit.make hb hz fun x H' _ s r => k x H' s (by rw [low_num hb, low_den hb, e] at r; exact r)
/-- a Ratio and a number, a Ratio out -/
def spBin (C : Addr) (G : Rat → Rat → Prop) (f : Rat → Rat → Rat) : Sp := fun vs H Q _ => ∃ a u p q, vs = [.ref a, u] ∧ RatQ C H a p ∧ NumQ C H u q ∧ (Sq 3900 p ∧ Sq 3900 q) ∧ G p q ∧ ∀ x H', Same H H' → RatQ C H' x (f p q) → Q (.ref x) H'
def spUn (C : Addr) (f : Rat → Rat) : Sp := fun vs H Q _ => ∃ a p, vs = [.ref a] ∧ RatQ C H a p ∧ Sq 3900 p ∧ ∀ x H', Same H H' → RatQ C H' x (f p) → Q (.ref x) H'
abbrev GT : Rat → Rat → Prop := fun _ _ => True
theorem z4 {p : Rat} (h : Sq 3900 p) : Sz p.num ∧ Sz (p.den : Int) := ⟨h.n (by decide), h.d (by decide)⟩
theorem szd {p q : Rat} (a : Sq 3900 p) (b : Sq 3900 q) : Sz ((p.den : Int) * q.den) := Nat.lt_of_lt_of_le (a.dm b) (Nat.pow_le_pow_right (by decide) (by decide))
abbrev sAdd : Stmt := inClass (top 22) 8
theorem scAdd : FnScope ["self", "other", "top", "bottom"] ["self", "other"] (defScope sAdd) := ⟨rfl, rfl, rfl, by decide +kernel, rfl, by decide +kernel, by decide +kernel⟩
theorem ok_add {f p1 f1 f2 f3 : Addr} {fd fd1 fd2 fd3 : FuncData} (F : Fun K "__add__" "Ratio.__add__" sAdd f fd) (T_Ratio : RatT K mg C) (S_Ratio_is_number : Sta P w K mg base 2 C "is_number" p1 f1 fd1 ["value"] (spIsNum K C)) (C_parts_of : Cal P w K mg base 1 "parts_of" f2 fd2 ["number"] (spParts C)) (M_Ratio : Mak P w K mg base 2 "Ratio" C f3 fd3 ["self", "top", "bottom"] (spRInit C)) :
    FnOk P w K mg base CX0 4 f fd ["self", "other"] (spBin C GT fun p q => p + q) := by
  refine F.ok scAdd (fun vs H Q E h => ?_) (fun cdv A outer s H vs Q E hr h => ?_)
  · obtain ⟨a, u, p, q, rfl, _⟩ := h
    rfl
  · obtain ⟨a, u, p, q, rfl, hp, hq, ⟨zp, zq⟩, hG, k⟩ := h
    have nd := scAdd.nd
    refine ⟨_, pss_cons (ps_if (pt_not (pt_val (Own.pe_smeth T_Ratio.rd S_Ratio_is_number.s S_Ratio_is_number.F (hr.mono (by decide)) S_Ratio_is_number.b pass0 (Own.pe_gref (by rfl) T_Ratio.mgC) (pa_cons (pv 1) pa_nil)))) pss_never pss_nil)
      (pss_cons (ps_asg (pe_call C_parts_of.F (hr.mono (by decide)) (by rfl) C_parts_of.mgf C_parts_of.kp C_parts_of.b .nil pass0 (pa_cons (pv 1) pa_nil)) (pg_tup (by rfl) (pgs_cons (pg_name (i := 2) nd rfl (Or.inl rfl)) (pgs_cons (pg_name (i := 3) nd rfl (Or.inl rfl)) pgs_nil))))
      (pss_one (ps_ret (pe_make M_Ratio.M M_Ratio.F (hr.mono (by decide)) (by rfl) M_Ratio.mgC M_Ratio.b .nil pass0 (pa_cons (pe_op op_add (pe_op op_mulW (pe_fld (pv 0) rfl) (pv 3)) (pe_op op_mulW (pv 2) (pe_fld (pv 0) rfl))) (pa_cons (pe_op op_mulW (pe_fld (pv 0) rfl) (pv 3)) pa_nil)))))), ?_⟩
    have hv := hq.at_
    obtain ⟨dx, h0⟩ := id hp
    obtain ⟨t, b, c, ty, hb, hc, hbc⟩ := hv.info T_Ratio.toClT
    refine ⟨rfl, _, rfl, _, t, b, c, rfl, ty, hb, hc, _, rfl, iteNot hbc ?_⟩
    refine ⟨_, rfl, _, _, _, rfl, hv, fun p1 hp1 => ⟨_, _, rfl, SqT.of upd_same, rfl, _, _, rfl, _, _, rfl, rfl, ?_⟩⟩
    have s1 : Same H (upd H p1 (.tup [.int q.num, .int (q.den : Int)])) := same_new hp1
    have h1 := s1 _ _ h0
    refine ⟨_, rfl, _, C, dx, _, _, rfl, h1, T_Ratio.cl, T_Ratio.nT, ratF_top _ _, _, rfl, _, _, rfl, rfl, ((z4 zp).1.mul (z4 zq).2), _, rfl, _, rfl, _, C, dx, _, _, rfl, h1, T_Ratio.cl, T_Ratio.nB, ratF_bot _ _, _, _, rfl, rfl, ((z4 zq).1.mul (z4 zp).2), _, _, rfl, rfl, _, rfl, _, C, dx, _, _, rfl, h1, T_Ratio.cl, T_Ratio.nB, ratF_bot _ _, _, rfl, _, _, rfl, rfl, ((z4 zp).2.mul (z4 zq).2), ?_⟩
    exact mkQ (dm_ne p q) (szd zp zq) (q_add p q) fun x H' s2 r => k x H' (s1.trans s2) r
abbrev sSub : Stmt := inClass (top 22) 10
theorem scSub : FnScope ["self", "other", "top", "bottom"] ["self", "other"] (defScope sSub) := ⟨rfl, rfl, rfl, by decide +kernel, rfl, by decide +kernel, by decide +kernel⟩
theorem ok_sub {f p1 f1 f2 f3 : Addr} {fd fd1 fd2 fd3 : FuncData} (F : Fun K "__sub__" "Ratio.__sub__" sSub f fd) (T_Ratio : RatT K mg C) (S_Ratio_is_number : Sta P w K mg base 2 C "is_number" p1 f1 fd1 ["value"] (spIsNum K C)) (C_parts_of : Cal P w K mg base 1 "parts_of" f2 fd2 ["number"] (spParts C)) (M_Ratio : Mak P w K mg base 2 "Ratio" C f3 fd3 ["self", "top", "bottom"] (spRInit C)) :
    FnOk P w K mg base CX0 4 f fd ["self", "other"] (spBin C GT fun p q => p - q) := by
  refine F.ok scSub (fun vs H Q E h => ?_) (fun cdv A outer s H vs Q E hr h => ?_)
  · obtain ⟨a, u, p, q, rfl, _⟩ := h
    rfl
  · obtain ⟨a, u, p, q, rfl, hp, hq, ⟨zp, zq⟩, hG, k⟩ := h
    have nd := scSub.nd
    refine ⟨_, pss_cons (ps_if (pt_not (pt_val (Own.pe_smeth T_Ratio.rd S_Ratio_is_number.s S_Ratio_is_number.F (hr.mono (by decide)) S_Ratio_is_number.b pass0 (Own.pe_gref (by rfl) T_Ratio.mgC) (pa_cons (pv 1) pa_nil)))) pss_never pss_nil)
      (pss_cons (ps_asg (pe_call C_parts_of.F (hr.mono (by decide)) (by rfl) C_parts_of.mgf C_parts_of.kp C_parts_of.b .nil pass0 (pa_cons (pv 1) pa_nil)) (pg_tup (by rfl) (pgs_cons (pg_name (i := 2) nd rfl (Or.inl rfl)) (pgs_cons (pg_name (i := 3) nd rfl (Or.inl rfl)) pgs_nil))))
      (pss_one (ps_ret (pe_make M_Ratio.M M_Ratio.F (hr.mono (by decide)) (by rfl) M_Ratio.mgC M_Ratio.b .nil pass0 (pa_cons (pe_op op_sub (pe_op op_mulW (pe_fld (pv 0) rfl) (pv 3)) (pe_op op_mulW (pv 2) (pe_fld (pv 0) rfl))) (pa_cons (pe_op op_mulW (pe_fld (pv 0) rfl) (pv 3)) pa_nil)))))), ?_⟩
    have hv := hq.at_
    obtain ⟨dx, h0⟩ := id hp
    obtain ⟨t, b, c, ty, hb, hc, hbc⟩ := hv.info T_Ratio.toClT
    refine ⟨rfl, _, rfl, _, t, b, c, rfl, ty, hb, hc, _, rfl, iteNot hbc ?_⟩
    refine ⟨_, rfl, _, _, _, rfl, hv, fun p1 hp1 => ⟨_, _, rfl, SqT.of upd_same, rfl, _, _, rfl, _, _, rfl, rfl, ?_⟩⟩
    have s1 : Same H (upd H p1 (.tup [.int q.num, .int (q.den : Int)])) := same_new hp1
    have h1 := s1 _ _ h0
    refine ⟨_, rfl, _, C, dx, _, _, rfl, h1, T_Ratio.cl, T_Ratio.nT, ratF_top _ _, _, rfl, _, _, rfl, rfl, ((z4 zp).1.mul (z4 zq).2), _, rfl, _, rfl, _, C, dx, _, _, rfl, h1, T_Ratio.cl, T_Ratio.nB, ratF_bot _ _, _, _, rfl, rfl, ((z4 zq).1.mul (z4 zp).2), _, _, rfl, rfl, _, rfl, _, C, dx, _, _, rfl, h1, T_Ratio.cl, T_Ratio.nB, ratF_bot _ _, _, rfl, _, _, rfl, rfl, ((z4 zp).2.mul (z4 zq).2), ?_⟩
    exact mkQ (dm_ne p q) (szd zp zq) (q_sub p q) fun x H' s2 r => k x H' (s1.trans s2) r
abbrev sMul : Stmt := inClass (top 22) 12
theorem scMul : FnScope ["self", "other", "top", "bottom"] ["self", "other"] (defScope sMul) := ⟨rfl, rfl, rfl, by decide +kernel, rfl, by decide +kernel, by decide +kernel⟩
theorem ok_mul {f p1 f1 f2 f3 : Addr} {fd fd1 fd2 fd3 : FuncData} (F : Fun K "__mul__" "Ratio.__mul__" sMul f fd) (T_Ratio : RatT K mg C) (S_Ratio_is_number : Sta P w K mg base 2 C "is_number" p1 f1 fd1 ["value"] (spIsNum K C)) (C_parts_of : Cal P w K mg base 1 "parts_of" f2 fd2 ["number"] (spParts C)) (M_Ratio : Mak P w K mg base 2 "Ratio" C f3 fd3 ["self", "top", "bottom"] (spRInit C)) :
    FnOk P w K mg base CX0 4 f fd ["self", "other"] (spBin C GT fun p q => p * q) := by
  refine F.ok scMul (fun vs H Q E h => ?_) (fun cdv A outer s H vs Q E hr h => ?_)
  · obtain ⟨a, u, p, q, rfl, _⟩ := h
    rfl
  · obtain ⟨a, u, p, q, rfl, hp, hq, ⟨zp, zq⟩, hG, k⟩ := h
    have nd := scMul.nd
    refine ⟨_, pss_cons (ps_if (pt_not (pt_val (Own.pe_smeth T_Ratio.rd S_Ratio_is_number.s S_Ratio_is_number.F (hr.mono (by decide)) S_Ratio_is_number.b pass0 (Own.pe_gref (by rfl) T_Ratio.mgC) (pa_cons (pv 1) pa_nil)))) pss_never pss_nil)
      (pss_cons (ps_asg (pe_call C_parts_of.F (hr.mono (by decide)) (by rfl) C_parts_of.mgf C_parts_of.kp C_parts_of.b .nil pass0 (pa_cons (pv 1) pa_nil)) (pg_tup (by rfl) (pgs_cons (pg_name (i := 2) nd rfl (Or.inl rfl)) (pgs_cons (pg_name (i := 3) nd rfl (Or.inl rfl)) pgs_nil))))
      (pss_one (ps_ret (pe_make M_Ratio.M M_Ratio.F (hr.mono (by decide)) (by rfl) M_Ratio.mgC M_Ratio.b .nil pass0 (pa_cons (pe_op op_mulW (pe_fld (pv 0) rfl) (pv 2)) (pa_cons (pe_op op_mulW (pe_fld (pv 0) rfl) (pv 3)) pa_nil)))))), ?_⟩
    have hv := hq.at_
    obtain ⟨dx, h0⟩ := id hp
    obtain ⟨t, b, c, ty, hb, hc, hbc⟩ := hv.info T_Ratio.toClT
    refine ⟨rfl, _, rfl, _, t, b, c, rfl, ty, hb, hc, _, rfl, iteNot hbc ?_⟩
    refine ⟨_, rfl, _, _, _, rfl, hv, fun p1 hp1 => ⟨_, _, rfl, SqT.of upd_same, rfl, _, _, rfl, _, _, rfl, rfl, ?_⟩⟩
    have s1 : Same H (upd H p1 (.tup [.int q.num, .int (q.den : Int)])) := same_new hp1
    have h1 := s1 _ _ h0
    refine ⟨_, rfl, _, C, dx, _, _, rfl, h1, T_Ratio.cl, T_Ratio.nT, ratF_top _ _, _, rfl, _, _, rfl, rfl, ((z4 zp).1.mul (z4 zq).1), _, rfl, _, C, dx, _, _, rfl, h1, T_Ratio.cl, T_Ratio.nB, ratF_bot _ _, _, rfl, _, _, rfl, rfl, ((z4 zp).2.mul (z4 zq).2), ?_⟩
    exact mkQ (dm_ne p q) (szd zp zq) (q_mul p q) fun x H' s2 r => k x H' (s1.trans s2) r
end
end Toy
set_option maxRecDepth 100000
set_option maxHeartbeats 4000000
set_option exponentiation.threshold 3000
namespace Toy
open PySem L2
open Rat (divInt)
theorem q_abs (p : Rat) : divInt (if p.num < 0 then -p.num else p.num) p.den = p.abs := by
  by_cases h : p.num < 0
  · rw [if_pos h, q_neg, Rat.abs, if_neg]
    intro z
    have := Rat.num_nonneg.mpr z
    omega
  · rw [if_neg h, Rat.num_divInt_den, Rat.abs, if_pos (Rat.num_nonneg.mp (by omega))]
theorem eqvT (n m x y : Int) : PyData.eqv (.tuple [.int n, .int m]) (.tuple [.int x, .int y]) = (decide (n = x) && decide (m = y)) := by
  show (n == x && (m == y && true)) = _
  rw [Bool.and_true]
  rfl
section
variable {P : Program} {w : World} {K : PySem.W.Frag} {mg : Str → Option Value} {base : Heap} {C : Addr}
/-- facts for an operator of Ratio with a Ratio at the left -/
structure BinF (K : PySem.W.Frag) (C : Addr) (op : Operator) : Prop where
  hc : PySem.W.selfFirst K C = true
  hR : ∃ rc, PySem.W.findIn K (.ref C) (dunderR op.info.2) = some rc ∧ (rc = none ∨ ∃ g : Addr, rc = some (.ref g))
  h1 : ∃ fo, PySem.W.findIn K (.type "int") (PySem.dunder op.info.2) = some fo
  h2 : ∃ ro, PySem.W.findIn K (.type "int") (dunderR op.info.2) = some ro
  hs : PySem.W.subIn K (.type "int") (.ref C) = some false
theorem op_B {X : Cx} {CX : CXT} {k : Nat} {f : Addr} {fd : FuncData} {ps : List Str} {sp : Sp} {E : XK} {op : Operator} (B : BinF X.K C op) (F : FnOk X.prog X.w X.K X.mg X.base CX k f fd ps sp) (hr : Room k X.A)
    (hs : PySem.W.findIn X.K (.ref C) (PySem.dunder op.info.2) = some (some (.ref f))) (hf : PySem.W.isFn X.K (.ref f) = true) (hb : Binds X.K fd ps []) (hx : Passes CX X E) : OpR X (binaryOp op) (Own.rOwnB C sp E) := by
  obtain ⟨rc, hR, hp⟩ := B.hR
  obtain ⟨fo, h1⟩ := B.h1
  obtain ⟨ro, h2⟩ := B.h2
  exact Own.op_ownB F hr hs hf B.hc hR hp h1 h2 B.hs hb hx
abbrev sNeg : Stmt := inClass (top 22) 18
theorem scNeg : FnScope ["self"] ["self"] (defScope sNeg) := ⟨rfl, rfl, rfl, by decide +kernel, rfl, by decide +kernel, by decide +kernel⟩
theorem ok_neg {f f3 : Addr} {fd fd3 : FuncData} (F : Fun K "__neg__" "Ratio.__neg__" sNeg f fd) (T_Ratio : RatT K mg C) (M_Ratio : Mak P w K mg base 2 "Ratio" C f3 fd3 ["self", "top", "bottom"] (spRInit C)) :
    FnOk P w K mg base CX0 4 f fd ["self"] (spUn C fun p => -p) := by
  refine F.ok scNeg (fun vs H Q E h => ?_) (fun cdv A outer s H vs Q E hr h => ?_)
  · obtain ⟨a, p, rfl, _⟩ := h
    rfl
  · obtain ⟨a, p, rfl, hp, zp, k⟩ := h
    have nd := scNeg.nd
    refine ⟨_, pss_one (ps_ret (pe_make M_Ratio.M M_Ratio.F (hr.mono (by decide)) (by rfl) M_Ratio.mgC M_Ratio.b .nil pass0 (pa_cons (pe_un un_neg (pe_fld (pv 0) rfl)) (pa_cons (pe_fld (pv 0) rfl) pa_nil)))), ?_⟩
    obtain ⟨dx, h1⟩ := id hp
    refine ⟨_, rfl, _, C, dx, _, _, rfl, h1, T_Ratio.cl, T_Ratio.nT, ratF_top _ _, _, rfl, _, rfl, _, C, dx, _, _, rfl, h1, T_Ratio.cl, T_Ratio.nB, ratF_bot _ _, ?_⟩
    exact mkQ (den_ne p) (z4 zp).2 (q_neg p) k
abbrev sAbs : Stmt := inClass (top 22) 19
theorem scAbs : FnScope ["self"] ["self"] (defScope sAbs) := ⟨rfl, rfl, rfl, by decide +kernel, rfl, by decide +kernel, by decide +kernel⟩
theorem ok_abs {f f3 : Addr} {fd fd3 : FuncData} (F : Fun K "__abs__" "Ratio.__abs__" sAbs f fd) (T : Bl mg) (T_Ratio : RatT K mg C) (M_Ratio : Mak P w K mg base 2 "Ratio" C f3 fd3 ["self", "top", "bottom"] (spRInit C)) :
    FnOk P w K mg base CX0 4 f fd ["self"] (spUn C Rat.abs) := by
  refine F.ok scAbs (fun vs H Q E h => ?_) (fun cdv A outer s H vs Q E hr h => ?_)
  · obtain ⟨a, p, rfl, _⟩ := h
    rfl
  · obtain ⟨a, p, rfl, hp, zp, k⟩ := h
    have nd := scAbs.nd
    refine ⟨_, pss_one (ps_ret (pe_make M_Ratio.M M_Ratio.F (hr.mono (by decide)) (by rfl) M_Ratio.mgC M_Ratio.b .nil pass0 (pa_cons (pe_callB call_abs (by rfl) T.abs (by decide +kernel) (pa_cons (pe_fld (pv 0) rfl) pa_nil)) (pa_cons (pe_fld (pv 0) rfl) pa_nil)))), ?_⟩
    obtain ⟨dx, h1⟩ := id hp
    refine ⟨_, rfl, _, C, dx, _, _, rfl, h1, T_Ratio.cl, T_Ratio.nT, ratF_top _ _, _, rfl, _, rfl, _, C, dx, _, _, rfl, h1, T_Ratio.cl, T_Ratio.nB, ratF_bot _ _, ?_⟩
    exact mkQ (den_ne p) (z4 zp).2 (q_abs p) k
/-- == with a number -/
def spEqQ (C : Addr) : Sp := fun vs H Q _ => ∃ a u p q, vs = [.ref a, u] ∧ RatQ C H a p ∧ NumQ C H u q ∧ ∀ H', Same H H' → Q (.bl (decide (p = q))) H'
abbrev sEq : Stmt := inClass (top 22) 21
theorem scEq : FnScope ["self", "other"] ["self", "other"] (defScope sEq) := ⟨rfl, rfl, rfl, by decide +kernel, rfl, by decide +kernel, by decide +kernel⟩
theorem ok_eq {f p1 f1 f2 : Addr} {fd fd1 fd2 : FuncData} (F : Fun K "__eq__" "Ratio.__eq__" sEq f fd) (T_Ratio : RatT K mg C) (S_Ratio_is_number : Sta P w K mg base 2 C "is_number" p1 f1 fd1 ["value"] (spIsNum K C)) (C_parts_of : Cal P w K mg base 1 "parts_of" f2 fd2 ["number"] (spParts C)) :
    FnOk P w K mg base CX0 3 f fd ["self", "other"] (spEqQ C) := by
  refine F.ok scEq (fun vs H Q E h => ?_) (fun cdv A outer s H vs Q E hr h => ?_)
  · obtain ⟨a, u, p, q, rfl, _⟩ := h
    rfl
  · obtain ⟨a, u, p, q, rfl, hp, hq, k⟩ := h
    have nd := scEq.nd
    refine ⟨_, pss_cons (ps_if (pt_not (pt_val (Own.pe_smeth T_Ratio.rd S_Ratio_is_number.s S_Ratio_is_number.F (hr.mono (by decide)) S_Ratio_is_number.b pass0 (Own.pe_gref (by rfl) T_Ratio.mgC) (pa_cons (pv 1) pa_nil)))) (pss_one (ps_ret pe_bl)) pss_nil)
      (pss_one (ps_ret (pe_cmpR (op_eqD hr.units) (pe_call C_parts_of.F (hr.mono (by decide)) (by rfl) C_parts_of.mgf C_parts_of.kp C_parts_of.b .nil pass0 (pa_cons (pv 0) pa_nil)) (pe_call C_parts_of.F (hr.mono (by decide)) (by rfl) C_parts_of.mgf C_parts_of.kp C_parts_of.b .nil pass0 (pa_cons (pv 1) pa_nil)) (nomark _)))), ?_⟩
    obtain ⟨t, b, c, ty, hb, hc, hbc⟩ := hq.at_.info T_Ratio.toClT
    refine ⟨rfl, _, rfl, _, t, b, c, rfl, ty, hb, hc, _, rfl, iteNot hbc ?_⟩
    refine ⟨_, rfl, _, _, _, rfl, (NumQ.rat hp).at_, fun x1 hx1 => ?_⟩
    have s1 : Same H (upd H x1 (.tup [.int p.num, .int (p.den : Int)])) := same_new hx1
    refine ⟨_, rfl, _, _, _, rfl, (hq.same s1).at_, fun x2 hx2 => ?_⟩
    have s2 := same_new (o := .tup [.int q.num, .int (q.den : Int)]) hx2
    refine ⟨_, _, .tup (SqT.of (s2 _ _ upd_same)) (.cons (.int _) (.cons (.int _) .nil)), .tup (SqT.of upd_same) (.cons (.int _) (.cons (.int _) .nil)), rfl, rfl, ?_⟩
    rw [eqvT, q_eq]
    exact k _ (s1.trans s2)
/-- the whole quotient -/
def spQuo (C : Addr) : Sp := fun vs H Q _ => ∃ v u p q, vs = [v, u] ∧ NumQ C H v p ∧ NumQ C H u q ∧ (Sq 3900 p ∧ Sq 3900 q) ∧ q ≠ 0 ∧ ∀ H', Same H H' → Q (.int (p / q).floor) H'
abbrev sQuo : Stmt := top 26
theorem scQuo : FnScope ["one", "other", "top", "bottom", "other_top", "other_bottom"] ["one", "other"] (defScope sQuo) := ⟨rfl, rfl, rfl, by decide +kernel, rfl, by decide +kernel, by decide +kernel⟩
theorem ok_quo {f f2 : Addr} {fd fd2 : FuncData} (F : Fun K "_quotient" "_quotient" sQuo f fd) (C_parts_of : Cal P w K mg base 1 "parts_of" f2 fd2 ["number"] (spParts C)) :
    FnOk P w K mg base CX0 2 f fd ["one", "other"] (spQuo C) := by
  refine F.ok scQuo (fun vs H Q E h => ?_) (fun cdv A outer s H vs Q E hr h => ?_)
  · obtain ⟨v, u, p, q, rfl, _⟩ := h
    rfl
  · obtain ⟨v, u, p, q, rfl, hp, hq, ⟨zp, zq⟩, h0, k⟩ := h
    have nd := scQuo.nd
    refine ⟨_, pss_cons (ps_asg (pe_call C_parts_of.F (hr.mono (by decide)) (by rfl) C_parts_of.mgf C_parts_of.kp C_parts_of.b .nil pass0 (pa_cons (pv 0) pa_nil)) (pg_tup (by rfl) (pgs_cons (pg_name (i := 2) nd rfl (Or.inl rfl)) (pgs_cons (pg_name (i := 3) nd rfl (Or.inl rfl)) pgs_nil))))
      (pss_cons (ps_asg (pe_call C_parts_of.F (hr.mono (by decide)) (by rfl) C_parts_of.mgf C_parts_of.kp C_parts_of.b .nil pass0 (pa_cons (pv 1) pa_nil)) (pg_tup (by rfl) (pgs_cons (pg_name (i := 4) nd rfl (Or.inl rfl)) (pgs_cons (pg_name (i := 5) nd rfl (Or.inl rfl)) pgs_nil))))
      (pss_cons (ps_if (pt_cmpR op_eq (pv 4) pe_int (nomark _)) pss_never pss_nil)
      (pss_one (ps_ret (pe_op op_fdivZ (pe_op op_mulW (pv 2) (pv 5)) (pe_op op_mulW (pv 3) (pv 4))))))), ?_⟩
    refine ⟨_, rfl, _, _, _, rfl, hp.at_, fun x1 hx1 => ⟨_, _, rfl, SqT.of upd_same, rfl, _, _, rfl, _, _, rfl, rfl, ?_⟩⟩
    have s1 : Same H (upd H x1 (.tup [.int p.num, .int (p.den : Int)])) := same_new hx1
    refine ⟨_, rfl, _, _, _, rfl, (hq.same s1).at_, fun x2 hx2 => ⟨_, _, rfl, SqT.of upd_same, rfl, _, _, rfl, _, _, rfl, rfl, ?_⟩⟩
    have s2 := same_new (o := .tup [.int q.num, .int (q.den : Int)]) hx2
    refine ⟨_, rfl, rfl, _, rfl, ?_⟩
    refine ite2 (fun e => absurd e (vint_ne (num_ne h0))) (fun _ => ?_)
    have hd : (p.den : Int) * q.num ≠ 0 := dn_ne p h0
    have zd : Sz ((p.den : Int) * q.num) := Nat.lt_of_lt_of_le (mul_lt zp.dd zq.1) (Nat.pow_le_pow_right (by decide) (by decide))
    refine ⟨_, rfl, _, rfl, _, _, rfl, rfl, (z4 zp).1.mul (z4 zq).2, _, rfl, _, rfl, _, _, rfl, rfl, (z4 zp).2.mul (z4 zq).1, _, _, rfl, rfl, zd.div hd, ?_⟩
    show Q (.int ((p.num * (q.den : Int)).fdiv ((p.den : Int) * q.num))) _
    rw [q_fdiv hd, q_div]
    exact k _ (s1.trans s2)
abbrev sRAdd : Stmt := inClass (top 22) 9
theorem scRAdd : FnScope ["self", "other"] ["self", "other"] (defScope sRAdd) := ⟨rfl, rfl, rfl, by decide +kernel, rfl, by decide +kernel, by decide +kernel⟩
theorem ok_radd {f g : Addr} {fd gd : FuncData} (F : Fun K "__radd__" "Ratio.__radd__" sRAdd f fd) (B : BinF K C .Add) (O : Opr P w K mg base 4 C "__add__" g gd ["self", "other"] (spBin C GT fun p q => p + q)) :
    FnOk P w K mg base CX0 5 f fd ["self", "other"] (spBin C GT fun p q => p + q) := by
  refine F.ok scRAdd (fun vs H Q E h => ?_) (fun cdv A outer s H vs Q E hr h => ?_)
  · obtain ⟨a, u, p, q, rfl, _⟩ := h
    rfl
  · obtain ⟨a, u, p, q, rfl, hp, hq, z, g, k⟩ := h
    have nd := scRAdd.nd
    refine ⟨_, pss_one (ps_ret (pe_op (op_B B O.F (hr.mono (by decide)) O.at_ O.fn O.b pass0) (pv 0) (pv 1))), ?_⟩
    obtain ⟨dx, fs, h1⟩ := hp.ins
    exact ⟨_, rfl, _, rfl, a, dx, fs, rfl, h1, hq.ri, a, u, p, q, rfl, hp, hq, z, g, k⟩
abbrev sRMul : Stmt := inClass (top 22) 13
theorem scRMul : FnScope ["self", "other"] ["self", "other"] (defScope sRMul) := ⟨rfl, rfl, rfl, by decide +kernel, rfl, by decide +kernel, by decide +kernel⟩
theorem ok_rmul {f g : Addr} {fd gd : FuncData} (F : Fun K "__rmul__" "Ratio.__rmul__" sRMul f fd) (B : BinF K C .Mult) (O : Opr P w K mg base 4 C "__mul__" g gd ["self", "other"] (spBin C GT fun p q => p * q)) :
    FnOk P w K mg base CX0 5 f fd ["self", "other"] (spBin C GT fun p q => p * q) := by
  refine F.ok scRMul (fun vs H Q E h => ?_) (fun cdv A outer s H vs Q E hr h => ?_)
  · obtain ⟨a, u, p, q, rfl, _⟩ := h
    rfl
  · obtain ⟨a, u, p, q, rfl, hp, hq, z, g, k⟩ := h
    have nd := scRMul.nd
    refine ⟨_, pss_one (ps_ret (pe_op (op_B B O.F (hr.mono (by decide)) O.at_ O.fn O.b pass0) (pv 0) (pv 1))), ?_⟩
    obtain ⟨dx, fs, h1⟩ := hp.ins
    exact ⟨_, rfl, _, rfl, a, dx, fs, rfl, h1, hq.ri, a, u, p, q, rfl, hp, hq, z, g, k⟩
abbrev sFDiv : Stmt := inClass (top 22) 14
theorem scFDiv : FnScope ["self", "other"] ["self", "other"] (defScope sFDiv) := ⟨rfl, rfl, rfl, by decide +kernel, rfl, by decide +kernel, by decide +kernel⟩
theorem ok_fdiv {f p1 f1 f2 : Addr} {fd fd1 fd2 : FuncData} (F : Fun K "__floordiv__" "Ratio.__floordiv__" sFDiv f fd) (T_Ratio : RatT K mg C) (S_Ratio_is_number : Sta P w K mg base 2 C "is_number" p1 f1 fd1 ["value"] (spIsNum K C)) (C__quotient : Cal P w K mg base 2 "_quotient" f2 fd2 ["one", "other"] (spQuo C)) :
    FnOk P w K mg base CX0 3 f fd ["self", "other"] (spQuo C) := by
  refine F.ok scFDiv (fun vs H Q E h => ?_) (fun cdv A outer s H vs Q E hr h => ?_)
  · obtain ⟨v, u, p, q, rfl, _⟩ := h
    rfl
  · obtain ⟨v, u, p, q, rfl, hp, hq, z, h0, k⟩ := h
    have nd := scFDiv.nd
    refine ⟨_, pss_cons (ps_if (pt_not (pt_val (Own.pe_smeth T_Ratio.rd S_Ratio_is_number.s S_Ratio_is_number.F (hr.mono (by decide)) S_Ratio_is_number.b pass0 (Own.pe_gref (by rfl) T_Ratio.mgC) (pa_cons (pv 1) pa_nil)))) pss_never pss_nil)
      (pss_one (ps_ret (pe_call C__quotient.F (hr.mono (by decide)) (by rfl) C__quotient.mgf C__quotient.kp C__quotient.b .nil pass0 (pa_cons (pv 0) (pa_cons (pv 1) pa_nil))))), ?_⟩
    obtain ⟨t, b, c, ty, hb, hc, hbc⟩ := hq.at_.info T_Ratio.toClT
    refine ⟨rfl, _, rfl, _, t, b, c, rfl, ty, hb, hc, _, rfl, iteNot hbc ?_⟩
    exact ⟨_, rfl, _, rfl, v, u, p, q, rfl, hp, hq, z, h0, k⟩
/-- a number as a Ratio -/
def spOfQ (C : Addr) : Sp := fun vs H Q _ => ∃ v q, vs = [v] ∧ NumQ C H v q ∧ ∀ r H', RatQ C H' r q → Same H H' → Q (.ref r) H'
theorem gcdI_one (i : Int) : gcdI i 1 = 1 := by
  unfold gcdI
  show ((Nat.gcd i.natAbs 1 : Nat) : Int) = 1
  rw [Nat.gcd_one_right]
  rfl
theorem Sz1 : Sz 1 := by unfold Sz; decide +kernel
theorem q_int (i : Int) : divInt i 1 = (i : Rat) := by
  rw [Rat.divInt_eq_div]
  have h : ((1 : Int) : Rat) = 1 := rfl
  grind
abbrev sOf : Stmt := inClass (top 22) 3
theorem scOf : FnScope ["number"] ["number"] (defScope sOf) := ⟨rfl, rfl, rfl, by decide +kernel, rfl, by decide +kernel, by decide +kernel⟩
theorem ok_of {f f1 f2 : Addr} {fd fd1 fd2 : FuncData} {dvs : List Value} (F : Fun K "of" "Ratio.of" sOf f fd) (T : Bl mg) (T_Ratio : RatT K mg C) (C_is_int : Cal P w K mg base 1 "is_int" f1 fd1 ["value"] (spIsInt K))
    (M_Ratio : Mak P w K mg base 2 "Ratio" C f2 fd2 ["self", "top", "bottom"] (spRInit C)) (hd : Vals [V.int 1] dvs) (hb1 : Binds K fd2 ["self", "top", "bottom"] dvs) : FnOk P w K mg base CX0 4 f fd ["number"] (spOfQ C) := by
  refine F.ok scOf (fun vs H Q E h => ?_) (fun cdv A outer s H vs Q E hr h => ?_)
  · obtain ⟨v, q, rfl, _⟩ := h
    rfl
  · obtain ⟨v, q, rfl, hv, k⟩ := h
    have nd := scOf.nd
    refine ⟨_, pss_cons (ps_if (pt_val (pe_callB call_isi (by rfl) T.isinstance (by decide +kernel) (pa_cons (pv 0) (pa_cons (Own.pe_gref (by rfl) T_Ratio.mgC) pa_nil)))) (pss_one (ps_ret (pv 0))) pss_nil)
      (pss_cons (ps_if (pt_not (pt_val (pe_call C_is_int.F (hr.mono (by decide)) (by rfl) C_is_int.mgf C_is_int.kp C_is_int.b .nil pass0 (pa_cons (pv 0) pa_nil)))) pss_never pss_nil)
      (pss_one (ps_ret (pe_make M_Ratio.M M_Ratio.F (hr.mono (by decide)) (by rfl) M_Ratio.mgC hb1 hd pass0 (pa_cons (pv 0) pa_nil))))), ?_⟩
    rcases hv.cases with ⟨i, rfl, rfl⟩ | ⟨a, rfl, hR⟩
    · refine ⟨_, rfl, _, _, _, _, false, rfl, .own _, .base (.int _), T_Ratio.iK, _, rfl, iteF ?_⟩
      refine ⟨_, rfl, _, _, true, rfl, .base (.int _), isIntK_int, _, rfl, iteF ?_⟩
      exact ⟨_, rfl, mkQ (by decide) Sz1 (q_int i) fun x H' s1 hR => k x H' hR s1⟩
    · obtain ⟨dx, h⟩ := id hR
      refine ⟨_, rfl, _, _, _, _, true, rfl, .own _, T_Ratio.ty h, T_Ratio.kS, _, rfl, iteT ?_⟩
      exact ⟨_, rfl, k a H hR (Same.refl H)⟩
/-- the rest -/
def qmod (p q : Rat) : Rat := p - ((p / q).floor : Rat) * q
def spMod (C : Addr) : Sp := spBin C (fun p q => q ≠ 0 ∧ Sq 1000 p ∧ Sq 1000 q) qmod
/-- int at the left, the reflected operator -/
theorem op_R {X : Cx} {CX : CXT} {k : Nat} {f f0 : Addr} {fd : FuncData} {ps : List Str} {sp : Sp} {E : XK} {op : Operator} {id : String} {Bi : Builtin} (B : BinF X.K C op) (F : FnOk X.prog X.w X.K X.mg X.base CX k f fd ps sp) (hr : Room k X.A)
    (hs : PySem.W.findIn X.K (.ref C) (dunderR op.info.2) = some (some (.ref f))) (hf : PySem.W.isFn X.K (.ref f) = true) (hs0 : PySem.W.findIn X.K (.ref C) (PySem.dunder op.info.2) = some (some (.ref f0))) (hsub : PySem.W.subIn X.K (.ref C) (.type "int") = some false)
    (hb : Binds X.K fd ps []) (hx : Passes CX X E) (fills : fillsNumberSlot (.type "int") op.info.2 = pure true) (slot : Slot "int" (PySem.dunder op.info.2) id) (entry : entryFor table id = some Bi) (args : ∀ a b, argsOk id ⟨[a, b], []⟩)
    (dec : ∀ (b : Int) (u : Tok) (l : Addr) (C dx : Addr), Meets (Bi ⟨[.int b u, .ref l], []⟩) (fun _ R s => s.heap.get? l = some (PySem.W.instObj C dx) ∧ R (.ok (.ret .notImplemented)) s)) : OpR X (binaryOp op) (Own.rReflB C sp E) :=
  Own.op_reflB F hr hs hf hs0 B.hc hsub hb hx fills slot entry args dec
theorem floor_sz {p q : Rat} (zp : Sq 1000 p) (zq : Sq 1000 q) (h : q ≠ 0) : (p / q).floor.natAbs < 2 ^ 2001 := by
  have h1 := (zp.div zq h).1
  rw [Rat.floor_def]
  have h2 := Int.natAbs_ediv_le_natAbs (p / q).num ((p / q).den : Int)
  exact Nat.lt_of_le_of_lt h2 (Nat.lt_of_lt_of_le h1 (Nat.pow_le_pow_right (by decide) (by decide)))
abbrev sMod : Stmt := inClass (top 22) 16
theorem scMod : FnScope ["self", "other"] ["self", "other"] (defScope sMod) := ⟨rfl, rfl, rfl, by decide +kernel, rfl, by decide +kernel, by decide +kernel⟩
theorem ok_mod {f p1 f1 f2 f3 p3 f4 f5 f6 : Addr} {fd fd1 fd2 fd3 fd4 fd5 fd6 : FuncData} (F : Fun K "__mod__" "Ratio.__mod__" sMod f fd) (T_Ratio : RatT K mg C) (S_Ratio_is_number : Sta P w K mg base 2 C "is_number" p1 f1 fd1 ["value"] (spIsNum K C)) (C__quotient : Cal P w K mg base 2 "_quotient" f2 fd2 ["one", "other"] (spQuo C))
    (S_Ratio_of : Sta P w K mg base 4 C "of" p3 f3 fd3 ["number"] (spOfQ C)) (BM : BinF K C .Mult) (BS : BinF K C .Sub) (O_mul : Opr P w K mg base 4 C "__mul__" f4 fd4 ["self", "other"] (spBin C GT fun p q => p * q)) (O_rmul : Opr P w K mg base 5 C "__rmul__" f5 fd5 ["self", "other"] (spBin C GT fun p q => p * q))
    (O_sub : Opr P w K mg base 4 C "__sub__" f6 fd6 ["self", "other"] (spBin C GT fun p q => p - q)) :
    FnOk P w K mg base CX0 6 f fd ["self", "other"] (spMod C) := by
  refine F.ok scMod (fun vs H Q E h => ?_) (fun cdv A outer s H vs Q E hr h => ?_)
  · obtain ⟨v, u, p, q, rfl, _⟩ := h
    rfl
  · obtain ⟨v, u, p, q, rfl, hp, hq, z, ⟨h0, yp, yq⟩, k⟩ := h
    have nd := scMod.nd
    refine ⟨_, pss_cons (ps_if (pt_not (pt_val (Own.pe_smeth T_Ratio.rd S_Ratio_is_number.s S_Ratio_is_number.F (hr.mono (by decide)) S_Ratio_is_number.b pass0 (Own.pe_gref (by rfl) T_Ratio.mgC) (pa_cons (pv 1) pa_nil)))) pss_never pss_nil)
      (pss_one (ps_ret (pe_op (op_B BS O_sub.F (hr.mono (by decide)) O_sub.at_ O_sub.fn O_sub.b pass0) (pv 0) (pe_op (op_R BM O_rmul.F (hr.mono (by decide)) O_rmul.at_ O_rmul.fn O_mul.at_ T_Ratio.sI O_rmul.b pass0 PySem.F.fills_int_mul PySem.F.slot_int_mul PySem.F.entry_int_mul PySem.F.args_int_mul_2 Own.int_mul_dec) (pe_call C__quotient.F (hr.mono (by decide)) (by rfl) C__quotient.mgf C__quotient.kp C__quotient.b .nil pass0 (pa_cons (pv 0) (pa_cons (pv 1) pa_nil))) (Own.pe_smeth T_Ratio.rd S_Ratio_of.s S_Ratio_of.F (hr.mono (by decide)) S_Ratio_of.b pass0 (Own.pe_gref (by rfl) T_Ratio.mgC) (pa_cons (pv 1) pa_nil)))))), ?_⟩
    obtain ⟨t, b, c, ty, hb, hc, hbc⟩ := hq.at_.info T_Ratio.toClT
    refine ⟨rfl, _, rfl, _, t, b, c, rfl, ty, hb, hc, _, rfl, iteNot hbc ?_⟩
    refine ⟨_, rfl, _, rfl, _, rfl, _, _, p, q, rfl, .rat hp, hq, z, h0, fun H1 s1 => ?_⟩
    refine ⟨rfl, _, rfl, _, q, rfl, hq.same s1, fun r H2 hr2 s2 => ?_⟩
    obtain ⟨dx, fs, h1⟩ := hr2.ins
    have zf : Sq 2001 ((p / q).floor : Rat) := Sq.int (floor_sz yp yq h0) (by decide)
    refine ⟨_, r, dx, fs, rfl, rfl, h1, r, _, q, _, rfl, hr2, .int _, ⟨z.2, zf.mono (by decide)⟩, True.intro, fun x H3 s3 hx => ?_⟩
    have hp3 := hp.same (s1.trans (s2.trans s3))
    obtain ⟨dv, gs, hv1⟩ := hp3.ins
    obtain ⟨dx2, fs2, hx2⟩ := hx.ins
    refine ⟨v, dv, gs, rfl, hv1, .inr ⟨x, dx2, fs2, rfl, hx2⟩, v, _, p, _, rfl, hp3, .rat hx, ⟨z.1, (yq.mul zf).mono (by decide)⟩, True.intro, fun y H4 s4 hy => ?_⟩
    refine k y H4 (s1.trans (s2.trans (s3.trans s4))) ?_
    unfold qmod
    rw [Rat.mul_comm _ q]
    exact hy
end
end Toy
set_option maxRecDepth 100000
set_option maxHeartbeats 4000000
set_option exponentiation.threshold 3000
namespace Toy
open PySem L2
open Rat (divInt)
/-! ### comparisons, read in rationals -/
theorem q_self {q : Rat} (h : (q.den : Int) = 1) : q = (q.num : Rat) := by
  apply Rat.ext
  · rw [Rat.num_intCast]
  · rw [Rat.den_intCast]
    omega
section
variable {P : Program} {w : World} {K : PySem.W.Frag} {mg : Str → Option Value} {base : Heap} {C : Addr} {H : Hp} {a : Addr} {u : V} {p q : Rat} {Q : VK} {E : XK} {g g1 g2 : Int → Bool} {r : Bool}
theorem cmpL (T : RatT K mg C) (hp : RatQ C H a p) (hq : NumQ C H u q) (zp : Sq 3900 p) (zq : Sq 3900 q) (e : g (p.num * q.den - q.num * p.den) = r) (k : ∀ H', Same H H' → Q (.bl r) H') : Own.rOwnC K C (spCmp C g) E (.ref a) u H Q := by
  obtain ⟨dx, h⟩ := id hp
  have ty : ∃ t, TyX K H u t ∧ PySem.W.notFirst K C t = true := by
    rcases hq.cases with ⟨i, rfl, _⟩ | ⟨b, rfl, hb⟩
    · exact ⟨_, .base (.int _), T.nI⟩
    · obtain ⟨dy, h2⟩ := hb
      exact ⟨_, T.ty h2, T.nC⟩
  obtain ⟨t, t1, t2⟩ := ty
  exact ⟨a, dx, _, t, rfl, h, t1, t2, _, _, _, _, _, _, rfl, (NumQ.rat hp).at_, hq.at_, ⟨(z4 zp).1, (z4 zp).2, (z4 zq).1, (z4 zq).2⟩, fun H' s => ⟨⟨_, rfl⟩, by rw [e]; exact k H' s⟩⟩
theorem cmpB (T : RatT K mg C) (hp : RatQ C H a p) (hq : NumQ C H u q) (zp : Sq 3900 p) (zq : Sq 3900 q) (e1 : g1 (q.num * p.den - p.num * q.den) = r) (e2 : g2 (p.num * q.den - q.num * p.den) = r) (k : ∀ H', Same H H' → Q (.bl r) H') :
    Own.rOwnC K C (spCmp C g1) E u (.ref a) H Q ∨ Own.rReflC C (spCmp C g2) E u (.ref a) H Q := by
  rcases hq.cases with ⟨i, rfl, rfl⟩ | ⟨b, rfl, hb⟩
  · obtain ⟨dx, h⟩ := id hp
    exact .inr ⟨i, a, dx, _, rfl, rfl, h, _, _, _, _, _, _, rfl, (NumQ.rat hp).at_, hq.at_, ⟨(z4 zp).1, (z4 zp).2, (z4 zq).1, (z4 zq).2⟩, fun H' s => ⟨⟨_, rfl⟩, by rw [e2]; exact k H' s⟩⟩
  · exact .inl (cmpL T hb (.rat hp) zq zp e1 k)
theorem eqLq {g : Bool → Bool} (hp : RatQ C H a p) (hq : NumQ C H u q) (k : ∀ H', Same H H' → Q (.bl (g (decide (p = q)))) H') : Own.rEqL C (spEqQ C) E g (.ref a) u H Q := by
  obtain ⟨dx, h⟩ := id hp
  exact ⟨a, dx, _, rfl, h, hq.ri, a, u, p, q, rfl, hp, hq, fun H' s => ⟨_, rfl, k H' s⟩⟩
theorem eqBq {g : Bool → Bool} (hp : RatQ C H a p) (hq : NumQ C H u q) (k : ∀ H', Same H H' → Q (.bl (g (decide (p = q)))) H') : Own.rEqL C (spEqQ C) E g u (.ref a) H Q ∨ Own.rEqR C (spEqQ C) E g u (.ref a) H Q := by
  rcases hq.cases with ⟨i, rfl, rfl⟩ | ⟨b, rfl, hb⟩
  · obtain ⟨dx, h⟩ := id hp
    exact .inr ⟨i, a, dx, _, rfl, rfl, h, a, _, p, _, rfl, hp, hq, fun H' s => ⟨_, rfl, k H' s⟩⟩
  · refine .inl (eqLq hb (.rat hp) fun H' s => ?_)
    rw [show decide (q = p) = decide (p = q) from decide_eq_decide.mpr eq_comm]
    exact k H' s
theorem mk_same {H1 H' : Hp} {x dx C : Addr} (hx : H1 x = none) (hdx : H1 dx = none) (hk : ∀ c o, (upd (upd H1 dx (.own x)) x (.ins C dx [])) c = some o → c ≠ x → H' c = some o) : Same H1 H' := fun c o e =>
  hk c o (by rw [upd_ne (ne_of_none e hx), upd_ne (ne_of_none e hdx)]; exact e) (ne_of_none e hx)
theorem asQ {x : Addr} {t b : Int} (hb : b ≠ 0) (e : divInt t b = q) (h : RatAt C H x (lowT t b) (lowB t b)) : RatQ C H x q := by
  rw [low_num hb, low_den hb, e] at h
  exact h
theorem dec_sub1 (x y : Int) : decide (x - y < 0) = decide (x < y) := decide_eq_decide.mpr (by omega)
theorem dec_sub2 (x y : Int) : decide (x - y ≤ 0) = decide (x ≤ y) := decide_eq_decide.mpr (by omega)
theorem dec_sub3 (x y : Int) : decide (0 < x - y) = decide (y < x) := decide_eq_decide.mpr (by omega)
theorem dec_sub4 (x y : Int) : decide (0 ≤ x - y) = decide (y ≤ x) := decide_eq_decide.mpr (by omega)
end
end Toy
set_option maxRecDepth 100000
set_option maxHeartbeats 4000000
set_option exponentiation.threshold 3000
namespace Toy
open PySem L2
open Rat (divInt)
theorem vdec (a b : Int) : decide (V.int a = V.int b) = decide (a = b) := by
  by_cases h : a = b
  · rw [decide_eq_true h, decide_eq_true (congrArg V.int h)]
  · rw [decide_eq_false h, decide_eq_false fun e => h (V.int.inj e)]
theorem iteTb {b : Bool} {A B : Prop} (h : b = true) (x : A) : if b = true then A else B := by
  subst h
  exact iteT x
theorem iteFb {b : Bool} {A B : Prop} (h : b = false) (x : B) : if b = true then A else B := by
  subst h
  exact iteF x
theorem cm {i j : Int} (h : i.natAbs ≤ 1000000000) : CMul i j := .inl ⟨by omega, by omega⟩
theorem cmr {i j : Int} (h : j.natAbs ≤ 1000000000) : CMul i j := .inr ⟨by omega, by omega⟩
theorem Sz.divW {i j : Int} (h0 : 0 < j) (z : Sz j) : CDivW i j := wide_div h0 z (by decide) (by decide)
theorem gcd_step {x y : Int} (hx : 0 ≤ x) (hy : 0 < y) : gcdI y (x % y) = gcdI x y := by
  obtain ⟨n, rfl⟩ := Int.eq_ofNat_of_zero_le hx
  obtain ⟨m, rfl⟩ := Int.eq_ofNat_of_zero_le (show 0 ≤ y by omega)
  unfold gcdI
  have e : ((n : Int) % (m : Int)) = ((n % m : Nat) : Int) := rfl
  rw [e, Int.natAbs_natCast, Int.natAbs_natCast, Int.natAbs_natCast, Nat.gcd_comm n m, Nat.gcd_rec m n, Nat.gcd_comm m]
theorem gcd_zero {x : Int} (hx : 0 ≤ x) : gcdI x 0 = x := by
  unfold gcdI
  show ((Nat.gcd x.natAbs 0 : Nat) : Int) = x
  rw [Nat.gcd_zero_right]
  omega
section
variable {P : Program} {w : World} {K : PySem.W.Frag} {mg : Str → Option Value} {base : Heap} {C : Addr}
def spPen (K : PySem.W.Frag) : Sp := fun vs H Q _ => ∃ (a : Addr) (ns : List Int), vs = [.ref a] ∧ SqL K H a (ns.map V.int) ∧ ns.length ≤ 63 ∧ ∀ p c H', Same H H' → H p = none → Pen H' p c 0 → Q (.ref p) H'
abbrev sPen : Stmt := top 80
theorem scPe : FnScope ["_law_script"] ["_law_script"] (defScope sPen) := ⟨rfl, rfl, rfl, by decide +kernel, rfl, by decide +kernel, by decide +kernel⟩
theorem cutV_ints (ns : List Int) (lo hi : Option Int) : ∃ ms : List Int, cutV (ns.map V.int) lo hi = ms.map V.int ∧ ms.length ≤ ns.length := by
  refine ⟨(ns.drop (HT.sIx (ns.map V.int).length 0 lo)).take (HT.sIx (ns.map V.int).length (ns.map V.int).length hi - HT.sIx (ns.map V.int).length 0 lo), ?_, ?_⟩
  · unfold cutV
    rw [← List.map_drop, ← List.map_take]
  · rw [List.length_take, List.length_drop]
    omega
theorem ok_pen {f : Addr} {fd : FuncData} (F : Fun K "_law_pen" "_law_pen" sPen f fd) (T : Bl mg) : FnOk P w K mg base CX0 1 f fd ["_law_script"] (spPen K) := by
  refine F.ok scPe (fun vs H Q E h => ?_) (fun cdv A outer s H vs Q E hr h => ?_)
  · obtain ⟨a, ns, rfl, _⟩ := h
    rfl
  · obtain ⟨a, ns, rfl, hS, hl, q⟩ := h
    have nd := scPe.nd
    refine ⟨_, pss_one (ps_ret (pe_lst (pa_cons (pe_callTy call_list_of (by rfl) T.list (by decide +kernel) (pa_cons (pe_slice sl_list (pv 0) po_none (po_some pe_int)) pa_nil)) (pa_cons pe_int (pa_cons pe_int pa_nil))))), ?_⟩
    obtain ⟨ms, e, hm⟩ := cutV_ints ns none (some 63)
    refine ⟨_, rfl, _, rfl, a, _, rfl, hS, fun c1 h1 => ⟨c1, _, rfl, .inl (SqL.of upd_same), fun c2 h2 => ⟨(by decide : 3 ≤ sizeLine), fun p hp => ?_⟩⟩⟩
    have s1 : Same H (upd H c1 (.lst (cutV (ns.map V.int) none (some 63)))) := same_new h1
    have s2 := s1.trans (same_new (o := .lst (cutV (ns.map V.int) none (some 63))) h2)
    have s3 := s2.trans (same_new (o := .lst [.ref c2, .int 0, .int 0]) hp)
    refine q p c2 _ s3 (s2.free hp) ⟨ms, 0, 0, ⟨upd_same, ?_, by omega, by decide⟩, by decide⟩
    have n2 : c2 ≠ p := by
      intro e2
      rw [← e2, upd_same] at hp
      cases hp
    rw [upd_ne n2, upd_same, e]
def spPick : Sp := fun vs H Q _ => ∃ p c s xs k, vs = [.ref p, .ref s] ∧ Pen H p c k ∧ k ≤ 1000000 ∧ H s = some (.lst xs) ∧ s ≠ p ∧ 0 < xs.length ∧ xs.length ≤ 1000 ∧ ∀ v H', v ∈ xs → Pen H' p c (k + 1) → But p H H' → Q v H'
abbrev sPick : Stmt := top 82
theorem scPk : FnScope ["_law_pen_here", "_law_some"] ["_law_pen_here", "_law_some"] (defScope sPick) := ⟨rfl, rfl, rfl, by decide +kernel, rfl, by decide +kernel, by decide +kernel⟩
theorem small_i {z : Int} (h : z.natAbs ≤ 1000000000) : z.natAbs < 2 ^ 2000 := Nat.lt_of_le_of_lt h (by decide +kernel)
theorem small_len {n : Nat} (h : n ≤ 1000000000) : (n : Int).natAbs < 2 ^ 2000 := Nat.lt_of_le_of_lt (show (n : Int).natAbs ≤ 1000000000 by omega) (by decide +kernel)
theorem ok_pick {f f1 : Addr} {fd fd1 : FuncData} (F : Fun K "_law_pick" "_law_pick" sPick f fd) (T : Bl mg) (C__law_draw : Cal P w K mg base 1 "_law_draw" f1 fd1 ["_law_pen_here", "_law_many"] spDraw) : FnOk P w K mg base CX0 2 f fd ["_law_pen_here", "_law_some"] spPick := by
  refine F.ok scPk (fun vs H Q E h => ?_) (fun cdv A outer s H vs Q E hr h => ?_)
  · obtain ⟨p, c, l, xs, k, rfl, _⟩ := h
    rfl
  · obtain ⟨p, c, l, xs, k, rfl, hP, hk, hl, hne, h0, h1, q⟩ := h
    have nd := scPk.nd
    refine ⟨_, pss_one (ps_ret (pe_ix ix_list (pv 1) (pe_call C__law_draw.F (hr.mono (by decide)) (by rfl) C__law_draw.mgf C__law_draw.kp C__law_draw.b .nil pass0 (pa_cons (pv 0) (pa_cons (pe_callB call_len (by rfl) T.len (by decide +kernel) (pa_cons (pv 1) pa_nil)) pa_nil))) (fun _ _ => rfl))), ?_⟩
    refine ⟨_, rfl, _, rfl, _, rfl, _, _, rfl, .inl ⟨_, SqL.of hl, rfl⟩, p, c, _, k, rfl, hP, hk, by omega, small_len (by omega), fun r H' r0 r1 hP' hB => ?_⟩
    exact ⟨l, xs, r, _, rfl, rfl, SqL.of (hB _ _ hl hne), atI_in r0 r1, q _ H' (List.getElem_mem _) hP' hB⟩

theorem Pen.ne_none {H : Hp} {p c a : Addr} {k : Nat} (h : Pen H p c k) (e : H a = none) : a ≠ p := by
  obtain ⟨_, _, _, W, _⟩ := h
  exact (ne_of_none W.hp e).symm
theorem Pen.ne_cell {H : Hp} {p c a : Addr} {k : Nat} (h : Pen H p c k) (e : H a = none) : a ≠ c := by
  obtain ⟨_, _, _, W, _⟩ := h
  exact (ne_of_none W.hc e).symm
theorem Pen.put {H : Hp} {p c a : Addr} {o : HO} {k : Nat} (h : Pen H p c k) (h1 : a ≠ p) (h2 : a ≠ c) : Pen (upd H a o) p c k := by
  obtain ⟨ns, b, l, W, hk⟩ := h
  exact ⟨ns, b, l, ⟨by rw [upd_ne h1.symm]; exact W.hp, by rw [upd_ne h2.symm]; exact W.hc, W.ln, W.b0⟩, hk⟩
theorem small_t {m : Int} (h0 : 0 < m) (h : m ≤ 10 ^ 38) : m.natAbs < 2 ^ 2000 := Nat.lt_of_le_of_lt (show m.natAbs ≤ 10 ^ 38 by omega) (by decide +kernel)
/-- a drawn integer -/
def spInteger : Sp := fun vs H Q _ => ∃ p c k, vs = [.ref p] ∧ Pen H p c k ∧ k ≤ 900000 ∧ ∀ z H', z.natAbs < 10 ^ 38 → Pen H' p c (k + 3) → But p H H' → Q (.int z) H'
/-- a drawn pair, the second not 0 -/
def spPair : Sp := fun vs H Q _ => ∃ p c k, vs = [.ref p] ∧ Pen H p c k ∧ k ≤ 800000 ∧ ∀ t b x H', t.natAbs < 10 ^ 38 → b.natAbs < 10 ^ 38 → b ≠ 0 → Pen H' p c (k + 6) → But p H H' → H' x = some (.tup [.int t, .int b]) → Q (.ref x) H'
/-- lowest terms -/
def spLowest : Sp := fun vs H Q _ => ∃ t b, vs = [.int t, .int b] ∧ b ≠ 0 ∧ Sz t ∧ Sz b ∧ ∀ c, H c = none → Q (.ref c) (upd H c (.tup [.int (divInt t b).num, .int ((divInt t b).den : Int)]))
theorem low_pos {t b : Int} (h : 0 < b) : (1 * t) / gcdI t b = (divInt t b).num ∧ (1 * b) / gcdI t b = ((divInt t b).den : Int) := by
  have hg := gcdI_pos (t := t) (b := b) (by omega)
  rw [← low_num (by omega), ← low_den (by omega), Int.one_mul, Int.one_mul]
  unfold lowT lowB lowD
  rw [if_pos h, Int.fdiv_eq_ediv_of_nonneg _ (by omega), Int.fdiv_eq_ediv_of_nonneg _ (by omega)]
  exact ⟨rfl, rfl⟩
theorem low_neg {t b : Int} (h : b < 0) : (-1 * t) / gcdI t b = (divInt t b).num ∧ (-1 * b) / gcdI t b = ((divInt t b).den : Int) := by
  have hg := gcdI_pos (t := t) (b := b) (by omega)
  rw [← low_num (by omega), ← low_den (by omega)]
  unfold lowT lowB lowD
  rw [if_neg (by omega), ← Int.fdiv_eq_ediv_of_nonneg _ (by omega), ← Int.fdiv_eq_ediv_of_nonneg _ (by omega), ← Int.neg_fdiv_neg t, ← Int.neg_fdiv_neg b, Int.neg_neg, Int.neg_one_mul, Int.neg_one_mul]
  exact ⟨rfl, rfl⟩
end
end Toy
set_option maxRecDepth 100000
set_option maxHeartbeats 4000000
namespace Toy
open PySem L2
/-! ### Ratio.of, ends -/
theorem Sz0 : Sz 0 := by unfold Sz; decide +kernel
theorem NumAt.ref {C : Addr} {H : Hp} {v : V} {n d : Int} (h : NumAt C H v n d) : (∃ i, v = .int i ∧ n = i ∧ d = 1) ∨ ∃ a, v = .ref a ∧ RatAt C H a n d := by
  cases h with
  | int => exact .inl ⟨_, rfl, rfl, rfl⟩
  | rat h => exact .inr ⟨_, rfl, h⟩
theorem and2 {a b : Bool} (h : a = true) (h' : b = true) : (a && b) = true := by rw [h, h']; rfl
section
variable {P : Program} {w : World} {K : PySem.W.Frag} {mg : Str → Option Value} {base : Heap} {C CP : Addr}
def spOf (C : Addr) : Sp := fun vs H Q _ => ∃ v n d, vs = [v] ∧ NumAt C H v n d ∧ ∀ r H', RatAt C H' r n d → Same H H' → Q (.ref r) H'
theorem ok_ofN {f f1 f2 : Addr} {fd fd1 fd2 : FuncData} {dvs : List Value} (F : Fun K "of" "Ratio.of" sOf f fd) (T : Bl mg) (T_Ratio : RatT K mg C) (C_is_int : Cal P w K mg base 1 "is_int" f1 fd1 ["value"] (spIsInt K))
    (M_Ratio : Mak P w K mg base 2 "Ratio" C f2 fd2 ["self", "top", "bottom"] (spRInit C)) (hd : Vals [V.int 1] dvs) (hb1 : Binds K fd2 ["self", "top", "bottom"] dvs) : FnOk P w K mg base CX0 4 f fd ["number"] (spOf C) := by
  refine F.ok scOf (fun vs H Q E h => ?_) (fun cdv A outer s H vs Q E hr h => ?_)
  · obtain ⟨v, n, d, rfl, _⟩ := h
    rfl
  · obtain ⟨v, n, d, rfl, hv, q⟩ := h
    have nd := scOf.nd
    refine ⟨_, pss_cons (ps_if (pt_val (pe_callB call_isi (by rfl) T.isinstance (by decide +kernel) (pa_cons (pv 0) (pa_cons (Own.pe_gref (by rfl) T_Ratio.mgC) pa_nil)))) (pss_one (ps_ret (pv 0))) pss_nil)
      (pss_cons (ps_if (pt_not (pt_val (pe_call C_is_int.F (hr.mono (by decide)) (by rfl) C_is_int.mgf C_is_int.kp C_is_int.b .nil pass0 (pa_cons (pv 0) pa_nil)))) pss_never pss_nil)
      (pss_one (ps_ret (pe_make M_Ratio.M M_Ratio.F (hr.mono (by decide)) (by rfl) M_Ratio.mgC hb1 hd pass0 (pa_cons (pv 0) pa_nil))))), ?_⟩
    rcases hv.ref with ⟨i, rfl, rfl, rfl⟩ | ⟨a, rfl, hR⟩
    · refine ⟨_, rfl, _, _, _, _, false, rfl, .own _, .base (.int _), T_Ratio.iK, _, rfl, iteF ?_⟩
      refine ⟨_, rfl, _, _, true, rfl, .base (.int _), isIntK_int, _, rfl, iteF ?_⟩
      refine ⟨_, rfl, ?_⟩
      refine spRInit.make (t := n) (b := 1) (by decide) Sz1 fun x H' _ s1 hR => ?_
      rw [lowT_one (by decide) (gcdI_one n), lowB_one (by decide) (gcdI_one n)] at hR
      exact q x H' hR s1
    · obtain ⟨dx, h⟩ := id hR
      refine ⟨_, rfl, _, _, _, _, true, rfl, .own _, T_Ratio.ty h, T_Ratio.kS, _, rfl, iteT ?_⟩
      exact ⟨_, rfl, q a H hR (Same.refl H)⟩

/-- whether a number lies from its left bound on and below the right one -/
def spEnd (C : Addr) (g : Int → Int → Bool) : Sp := fun vs H Q _ => ∃ v n d, vs = [v] ∧ NumAt C H v n d ∧ 0 < d ∧ (Sz n ∧ Sz d) ∧ ∀ H', Same H H' → Q (.bl (g n d)) H'
abbrev sLE : Stmt := top 31
theorem scLE : FnScope ["value"] ["value"] (defScope sLE) := ⟨rfl, rfl, rfl, by decide +kernel, rfl, by decide +kernel, by decide +kernel⟩
theorem ok_lend {f p1 f1 f2 f3 : Addr} {fd fd1 fd2 fd3 : FuncData} (F : Fun K "_is_left_end" "_is_left_end" sLE f fd) (T_Ratio : RatT K mg C) (S_Ratio_is_number : Sta P w K mg base 2 C "is_number" p1 f1 fd1 ["value"] (spIsNum K C))
    (O_ge : Opr P w K mg base 3 C "__ge__" f2 fd2 ["self", "other"] (spCmp C fun z => decide (0 ≤ z))) (O_lt : Opr P w K mg base 3 C "__lt__" f3 fd3 ["self", "other"] (spCmp C fun z => decide (z < 0))) :
    FnOk P w K mg base CX0 4 f fd ["value"] (spEnd C fun n d => decide (0 ≤ n) && decide (n < d)) := by
  refine F.ok scLE (fun vs H Q E h => ?_) (fun cdv A outer s H vs Q E hr h => ?_)
  · obtain ⟨v, n, d, rfl, _⟩ := h
    rfl
  · obtain ⟨v, n, d, rfl, hv, hd, ⟨z1, z2⟩, q⟩ := h
    have nd := scLE.nd
    have q' : ∀ H', Same H H' → Q (.bl (decide (0 ≤ n) && decide (n < d))) H' := q
    refine ⟨_, pss_one (ps_ret (pe_and (Own.pe_smeth T_Ratio.rd S_Ratio_is_number.s S_Ratio_is_number.F (hr.mono (by decide)) S_Ratio_is_number.b pass0 (Own.pe_gref (by rfl) T_Ratio.mgC) (pa_cons (pv 0) pa_nil)) (pe_and (pe_cmpR (OpR.or op_le (Own.op_reflC O_ge.F (hr.mono (by decide)) O_ge.at_ O_ge.fn T_Ratio.sI O_ge.b pass0 PySem.F.slot_int_le PySem.F.entry_int_le PySem.F.args_int_le_2 Own.int_le_dec ⟨by decide, by decide⟩)) pe_int (pv 0) (nomark _)) (pe_one (pe_cmpR (OpR.or op_lt (Own.op_ownC O_lt.F (hr.mono (by decide)) O_lt.at_ O_lt.fn O_lt.b pass0)) (pv 0) pe_int (nomark _)))))), ?_⟩
    obtain ⟨t, b, c, ty, hb, hc, hbc⟩ := hv.info T_Ratio.toClT
    refine ⟨rfl, _, rfl, _, t, b, c, rfl, ty, hb, hc, _, rfl, ?_⟩
    rw [hbc]
    refine iteT ?_
    rcases hv.ref with ⟨i, rfl, rfl, rfl⟩ | ⟨a, rfl, hR⟩
    · refine ⟨_, rfl, .inl ⟨_, _, rfl, rfl, _, rfl, ?_⟩⟩
      by_cases h0 : 0 ≤ n
      · refine iteTb (decide_eq_true h0) ⟨_, rfl, .inl ⟨_, _, rfl, rfl, ?_⟩⟩
        have := q' H (Same.refl H)
        rw [decide_eq_true h0, Bool.true_and] at this
        exact this
      · refine iteFb (decide_eq_false h0) ?_
        have := q' H (Same.refl H)
        rw [decide_eq_false h0, Bool.false_and] at this
        exact this
    · obtain ⟨dx, h⟩ := id hR
      refine ⟨_, rfl, .inr ⟨_, a, dx, _, rfl, rfl, h, .ref a, .int 0, n, d, 0, 1, rfl, .rat hR, .int 0, ⟨z1, z2, Sz0, Sz1⟩, fun H' s1 => ⟨⟨_, rfl⟩, _, rfl, ?_⟩⟩⟩
      have e0 : n * 1 - 0 * d = n := by omega
      by_cases h0 : 0 ≤ n
      · refine iteTb (by rw [e0]; exact decide_eq_true h0) ⟨_, rfl, .inr ⟨a, dx, _, _, rfl, s1 _ _ h, .base (.int 1), T_Ratio.nI, .ref a, .int 1, n, d, 1, 1, rfl, .rat (hR.same s1), .int 1, ⟨z1, z2, Sz1, Sz1⟩, fun H2 s2 => ⟨⟨_, rfl⟩, ?_⟩⟩⟩
        show Q (.bl (decide (n * 1 - 1 * d < 0))) H2
        rw [show n * 1 - 1 * d = n - d by omega]
        have := q' H2 (s1.trans s2)
        rw [decide_eq_true h0, Bool.true_and] at this
        rw [show decide (n - d < 0) = decide (n < d) from decide_eq_decide.mpr (by omega)]
        exact this
      · refine iteFb (by rw [e0]; exact decide_eq_false h0) ?_
        have := q' H' s1
        rw [decide_eq_false h0, Bool.false_and] at this
        exact this
abbrev sRE : Stmt := top 32
theorem scRE : FnScope ["value"] ["value"] (defScope sRE) := ⟨rfl, rfl, rfl, by decide +kernel, rfl, by decide +kernel, by decide +kernel⟩
theorem ok_rend {f p1 f1 f2 f3 : Addr} {fd fd1 fd2 fd3 : FuncData} (F : Fun K "_is_right_end" "_is_right_end" sRE f fd) (T_Ratio : RatT K mg C) (S_Ratio_is_number : Sta P w K mg base 2 C "is_number" p1 f1 fd1 ["value"] (spIsNum K C))
    (O_gt : Opr P w K mg base 3 C "__gt__" f2 fd2 ["self", "other"] (spCmp C fun z => decide (0 < z))) (O_le : Opr P w K mg base 3 C "__le__" f3 fd3 ["self", "other"] (spCmp C fun z => decide (z ≤ 0))) :
    FnOk P w K mg base CX0 4 f fd ["value"] (spEnd C fun n d => decide (0 < n) && decide (n ≤ d)) := by
  refine F.ok scRE (fun vs H Q E h => ?_) (fun cdv A outer s H vs Q E hr h => ?_)
  · obtain ⟨v, n, d, rfl, _⟩ := h
    rfl
  · obtain ⟨v, n, d, rfl, hv, hd, ⟨z1, z2⟩, q⟩ := h
    have nd := scRE.nd
    have q' : ∀ H', Same H H' → Q (.bl (decide (0 < n) && decide (n ≤ d))) H' := q
    refine ⟨_, pss_one (ps_ret (pe_and (Own.pe_smeth T_Ratio.rd S_Ratio_is_number.s S_Ratio_is_number.F (hr.mono (by decide)) S_Ratio_is_number.b pass0 (Own.pe_gref (by rfl) T_Ratio.mgC) (pa_cons (pv 0) pa_nil)) (pe_and (pe_cmpR (OpR.or op_lt (Own.op_reflC O_gt.F (hr.mono (by decide)) O_gt.at_ O_gt.fn T_Ratio.sI O_gt.b pass0 PySem.F.slot_int_lt PySem.F.entry_int_lt PySem.F.args_int_lt_2 Own.int_lt_dec ⟨by decide, by decide⟩)) pe_int (pv 0) (nomark _)) (pe_one (pe_cmpR (OpR.or op_le (Own.op_ownC O_le.F (hr.mono (by decide)) O_le.at_ O_le.fn O_le.b pass0)) (pv 0) pe_int (nomark _)))))), ?_⟩
    obtain ⟨t, b, c, ty, hb, hc, hbc⟩ := hv.info T_Ratio.toClT
    refine ⟨rfl, _, rfl, _, t, b, c, rfl, ty, hb, hc, _, rfl, ?_⟩
    rw [hbc]
    refine iteT ?_
    rcases hv.ref with ⟨i, rfl, rfl, rfl⟩ | ⟨a, rfl, hR⟩
    · refine ⟨_, rfl, .inl ⟨_, _, rfl, rfl, _, rfl, ?_⟩⟩
      by_cases h0 : 0 < n
      · refine iteTb (decide_eq_true h0) ⟨_, rfl, .inl ⟨_, _, rfl, rfl, ?_⟩⟩
        have := q' H (Same.refl H)
        rw [decide_eq_true h0, Bool.true_and] at this
        exact this
      · refine iteFb (decide_eq_false h0) ?_
        have := q' H (Same.refl H)
        rw [decide_eq_false h0, Bool.false_and] at this
        exact this
    · obtain ⟨dx, h⟩ := id hR
      refine ⟨_, rfl, .inr ⟨_, a, dx, _, rfl, rfl, h, .ref a, .int 0, n, d, 0, 1, rfl, .rat hR, .int 0, ⟨z1, z2, Sz0, Sz1⟩, fun H' s1 => ⟨⟨_, rfl⟩, _, rfl, ?_⟩⟩⟩
      have e0 : n * 1 - 0 * d = n := by omega
      by_cases h0 : 0 < n
      · refine iteTb (by rw [e0]; exact decide_eq_true h0) ⟨_, rfl, .inr ⟨a, dx, _, _, rfl, s1 _ _ h, .base (.int 1), T_Ratio.nI, .ref a, .int 1, n, d, 1, 1, rfl, .rat (hR.same s1), .int 1, ⟨z1, z2, Sz1, Sz1⟩, fun H2 s2 => ⟨⟨_, rfl⟩, ?_⟩⟩⟩
        show Q (.bl (decide (n * 1 - 1 * d ≤ 0))) H2
        rw [show n * 1 - 1 * d = n - d by omega]
        have := q' H2 (s1.trans s2)
        rw [decide_eq_true h0, Bool.true_and] at this
        rw [show decide (n - d ≤ 0) = decide (n ≤ d) from decide_eq_decide.mpr (by omega)]
        exact this
      · refine iteFb (by rw [e0]; exact decide_eq_false h0) ?_
        have := q' H' s1
        rw [decide_eq_false h0, Bool.false_and] at this
        exact this

def spNeigh (C : Addr) : Sp := fun vs H Q _ => ∃ v u a b c d, vs = [v, u] ∧ NumAt C H v a b ∧ NumAt C H u c d ∧ (Sz a ∧ Sz b ∧ Sz c ∧ Sz d) ∧ ∀ H', Same H H' → Q (.bl (decide (b * c - a * d = 1))) H'
abbrev sNeigh : Stmt := top 34
theorem scNe : FnScope ["left", "right", "a", "b", "c", "d"] ["left", "right"] (defScope sNeigh) := ⟨rfl, rfl, rfl, by decide +kernel, rfl, by decide +kernel, by decide +kernel⟩
theorem ok_neigh {f f1 : Addr} {fd fd1 : FuncData} (F : Fun K "_are_neighbours" "_are_neighbours" sNeigh f fd) (C_parts_of : Cal P w K mg base 1 "parts_of" f1 fd1 ["number"] (spParts C)) : FnOk P w K mg base CX0 2 f fd ["left", "right"] (spNeigh C) := by
  refine F.ok scNe (fun vs H Q E h => ?_) (fun cdv A outer s H vs Q E hr h => ?_)
  · obtain ⟨v, u, a, b, c, d, rfl, _⟩ := h
    rfl
  · obtain ⟨v, u, a, b, c, d, rfl, hv, hu, ⟨z1, z2, z3, z4⟩, q⟩ := h
    have nd := scNe.nd
    refine ⟨_, pss_cons (ps_asg (pe_call C_parts_of.F (hr.mono (by decide)) (by rfl) C_parts_of.mgf C_parts_of.kp C_parts_of.b .nil pass0 (pa_cons (pv 0) pa_nil)) (pg_tup (by rfl) (pgs_cons (pg_name (i := 2) nd rfl (Or.inl rfl)) (pgs_cons (pg_name (i := 3) nd rfl (Or.inl rfl)) pgs_nil))))
      (pss_cons (ps_asg (pe_call C_parts_of.F (hr.mono (by decide)) (by rfl) C_parts_of.mgf C_parts_of.kp C_parts_of.b .nil pass0 (pa_cons (pv 1) pa_nil)) (pg_tup (by rfl) (pgs_cons (pg_name (i := 4) nd rfl (Or.inl rfl)) (pgs_cons (pg_name (i := 5) nd rfl (Or.inl rfl)) pgs_nil))))
      (pss_one (ps_ret (pe_cmpR op_eq (pe_op op_sub (pe_op op_mulW (pv 3) (pv 4)) (pe_op op_mulW (pv 2) (pv 5))) pe_int (nomark _))))), ?_⟩
    refine ⟨_, rfl, _, _, _, rfl, hv, fun p hp => ⟨_, _, rfl, SqT.of upd_same, rfl, _, _, rfl, _, _, rfl, rfl, ?_⟩⟩
    have s1 : Same H (upd H p (.tup [.int a, .int b])) := same_new hp
    refine ⟨_, rfl, _, _, _, rfl, hu.same s1, fun p2 hp2 => ⟨_, _, rfl, SqT.of upd_same, rfl, _, _, rfl, _, _, rfl, rfl, ?_⟩⟩
    refine ⟨_, rfl, _, rfl, _, _, rfl, rfl, z2.mul z3, _, rfl, _, rfl, _, _, rfl, rfl, z1.mul z4, _, _, rfl, rfl, rfl, ?_⟩
    rw [vdec]
    exact q _ (s1.trans (same_new hp2))

/-! ### a piece made -/
def pieF (l r : Addr) : List (Str × V) := putF "right" (.ref r) (putF "left" (.ref l) [])
theorem lr_ne : ¬ (("left" : Str) = "right") := by decide +kernel
theorem pieF_left (l r : Addr) : (pieF l r).lookup ("left" : Str) = some (.ref l) := by
  unfold pieF
  rw [lookup_putF, if_neg lr_ne, lookup_putF, if_pos rfl]
theorem pieF_right (l r : Addr) : (pieF l r).lookup ("right" : Str) = some (.ref r) := by
  unfold pieF
  rw [lookup_putF, if_pos rfl]
theorem pieF_no (l r : Addr) {m : Str} (h1 : ¬ m = "right") (h2 : ¬ m = "left") : (pieF l r).lookup m = none := by
  unfold pieF
  rw [lookup_putF, if_neg h1, lookup_putF, if_neg h2]
  all_goals rfl
/-- the Piece (a/b, c/d) stands at x -/
def PieAt (CP C : Addr) (H : Hp) (x : Addr) (a b c d : Int) : Prop := ∃ dx l r, H x = some (.ins CP dx (pieF l r)) ∧ RatAt C H l a b ∧ RatAt C H r c d
theorem PieAt.same {H H' : Hp} {x : Addr} {a b c d : Int} (h : PieAt CP C H x a b c d) (e : Same H H') : PieAt CP C H' x a b c d := let ⟨dx, l, r, h, h1, h2⟩ := h; ⟨dx, l, r, e _ _ h, h1.same e, h2.same e⟩
structure Nbr (a b c d : Int) : Prop where
  a0 : 0 ≤ a
  ab : a < b
  c0 : 0 < c
  cd : c ≤ d
  nb : b * c - a * d = 1
  za : Sz a
  zb : Sz b
  zc : Sz c
  zd : Sz d
def spPInit (CP C : Addr) : Sp := fun vs H Q _ => ∃ x dx v u a b c d, vs = [.ref x, v, u] ∧ H x = some (.ins CP dx []) ∧ NumAt C H v a b ∧ NumAt C H u c d ∧ Nbr a b c d ∧
  ∀ H', PieAt CP C H' x a b c d → (∀ y o, H y = some o → y ≠ x → H' y = some o) → Q .non H'
theorem spPInit.make {H1 : Hp} {v u : V} {a b c d : Int} {Q : VK} {E : XK} (hv : NumAt C H1 v a b) (hu : NumAt C H1 u c d) (hn : Nbr a b c d) (q : ∀ x H', H1 x = none → Same H1 H' → PieAt CP C H' x a b c d → Q (.ref x) H') :
    ∀ x dx, H1 x = none → H1 dx = none → dx ≠ x → spPInit CP C [.ref x, v, u] (upd (upd H1 dx (.own x)) x (.ins CP dx [])) (fun v H2 => v = .non ∧ Q (.ref x) H2) E := fun x dx hx hdx hne => by
  have s1 : Same H1 (upd (upd H1 dx (.own x)) x (.ins CP dx [])) := same_two hdx hx hne
  exact ⟨x, dx, v, u, a, b, c, d, rfl, upd_same, hv.same s1, hu.same s1, hn, fun H' hR hk => ⟨rfl, q x H' hx (fun y o e => hk y o (s1 _ _ e) (ne_of_none e hx)) hR⟩⟩
abbrev sPInit : Stmt := inClass (top 28) 0
theorem scPI : FnScope ["self", "left", "right"] ["self", "left", "right"] (defScope sPInit) := ⟨rfl, rfl, rfl, by decide +kernel, rfl, by decide +kernel, by decide +kernel⟩
theorem ok_pinit {f p1 f1 f2 f3 f4 : Addr} {fd fd1 fd2 fd3 fd4 : FuncData} (F : Fun K "__init__" "Piece.__init__" sPInit f fd) (T_Ratio : RatT K mg C) (T_Piece : PieT K mg CP) (S_Ratio_of : Sta P w K mg base 4 C "of" p1 f1 fd1 ["number"] (spOf C))
    (C__is_left_end : Cal P w K mg base 4 "_is_left_end" f2 fd2 ["value"] (spEnd C fun n d => decide (0 ≤ n) && decide (n < d))) (C__is_right_end : Cal P w K mg base 4 "_is_right_end" f3 fd3 ["value"] (spEnd C fun n d => decide (0 < n) && decide (n ≤ d)))
    (C__are_neighbours : Cal P w K mg base 2 "_are_neighbours" f4 fd4 ["left", "right"] (spNeigh C)) : FnOk P w K mg base CX0 5 f fd ["self", "left", "right"] (spPInit CP C) := by
  refine F.ok scPI (fun vs H Q E h => ?_) (fun cdv A outer s H vs Q E hr h => ?_)
  · obtain ⟨x, dx, v, u, a, b, c, d, rfl, _⟩ := h
    rfl
  · obtain ⟨x, dx, v, u, a, b, c, d, rfl, hx, hv, hu, hn, q⟩ := h
    have nd := scPI.nd
    refine ⟨_, pss_cons (ps_if (pt_not (pt_val (pe_call C__is_left_end.F (hr.mono (by decide)) (by rfl) C__is_left_end.mgf C__is_left_end.kp C__is_left_end.b .nil pass0 (pa_cons (pv 1) pa_nil)))) pss_never pss_nil)
      (pss_cons (ps_if (pt_not (pt_val (pe_call C__is_right_end.F (hr.mono (by decide)) (by rfl) C__is_right_end.mgf C__is_right_end.kp C__is_right_end.b .nil pass0 (pa_cons (pv 2) pa_nil)))) pss_never pss_nil)
      (pss_cons (ps_if (pt_not (pt_val (pe_call C__are_neighbours.F (hr.mono (by decide)) (by rfl) C__are_neighbours.mgf C__are_neighbours.kp C__are_neighbours.b .nil pass0 (pa_cons (pv 1) (pa_cons (pv 2) pa_nil))))) pss_never pss_nil)
      (pss_cons (ps_fld (pv 0) (Own.pe_smeth T_Ratio.rd S_Ratio_of.s S_Ratio_of.F (hr.mono (by decide)) S_Ratio_of.b pass0 (Own.pe_gref (by rfl) T_Ratio.mgC) (pa_cons (pv 1) pa_nil)) rfl)
      (pss_one (ps_fld (pv 0) (Own.pe_smeth T_Ratio.rd S_Ratio_of.s S_Ratio_of.F (hr.mono (by decide)) S_Ratio_of.b pass0 (Own.pe_gref (by rfl) T_Ratio.mgC) (pa_cons (pv 2) pa_nil)) rfl))))), ?_⟩
    refine ⟨_, rfl, v, a, b, rfl, hv, by have := hn.a0; have := hn.ab; omega, ⟨hn.za, hn.zb⟩, fun H1 s1 => ⟨_, rfl, iteNot (and2 (decide_eq_true hn.a0) (decide_eq_true hn.ab)) ?_⟩⟩
    refine ⟨_, rfl, u, c, d, rfl, hu.same s1, by have := hn.c0; have := hn.cd; omega, ⟨hn.zc, hn.zd⟩, fun H2 s2 => ⟨_, rfl, iteNot (and2 (decide_eq_true hn.c0) (decide_eq_true hn.cd)) ?_⟩⟩
    refine ⟨_, rfl, _, rfl, v, u, a, b, c, d, rfl, (hv.same s1).same s2, (hu.same s1).same s2, ⟨hn.za, hn.zb, hn.zc, hn.zd⟩, fun H3 s3 => ⟨_, rfl, iteNot (decide_eq_true hn.nb) ?_⟩⟩
    have t3 : Same H H3 := (s1.trans s2).trans s3
    refine ⟨rfl, _, rfl, v, a, b, rfl, hv.same t3, fun l H4 hl s4 => ⟨_, rfl, x, CP, dx, _, rfl, s4 _ _ (t3 _ _ hx), T_Piece.cl, T_Piece.nL, (by decide : 0 < 1000), ?_⟩⟩
    have t4 : ∀ y o, H y = some o → y ≠ x → (upd H4 x (.ins CP dx (putF "left" (.ref l) []))) y = some o := fun y o e n => by rw [upd_ne n]; exact s4 _ _ (t3 _ _ e)
    have hu4 : NumAt C (upd H4 x (.ins CP dx (putF "left" (.ref l) []))) u c d := by
      rcases hu.ref with ⟨i, rfl, rfl, rfl⟩ | ⟨r, rfl, dr, hr⟩
      · exact .int _
      · exact .rat ⟨dr, t4 _ _ hr (ne_of hr hx (by intro z; injection z with z1 z2 z3; cases z3))⟩
    refine ⟨rfl, _, rfl, u, c, d, rfl, hu4, fun r H5 hr s5 => ⟨_, rfl, x, CP, dx, _, rfl, s5 _ _ upd_same, T_Piece.cl, T_Piece.nR, (by decide : 1 < 1000), ?_⟩⟩
    have e5 : ∀ {y : Addr} {n m : Int}, RatAt C H5 y n m → RatAt C (upd H5 x (.ins CP dx (putF "right" (.ref r) (putF "left" (.ref l) [])))) y n m := fun {y n m} h => by
      obtain ⟨dy, h⟩ := h
      refine ⟨dy, ?_⟩
      rw [upd_ne (ne_of h (s5 _ _ upd_same) (by intro z; injection z with z1 z2 z3; cases z3))]
      exact h
    have hl4 : RatAt C (upd H4 x (.ins CP dx (putF "left" (.ref l) []))) l a b := by
      obtain ⟨dl, h⟩ := hl
      refine ⟨dl, ?_⟩
      rw [upd_ne (ne_of h (s4 _ _ (t3 _ _ hx)) (by intro z; injection z with z1 z2 z3; cases z3))]
      exact h
    refine q _ ⟨dx, l, r, upd_same, e5 (hl4.same s5), e5 hr⟩ fun y o e n => ?_
    rw [upd_ne n]
    exact s5 _ _ (t4 y o e n)
/-! ### middle, and - with an int at the left -/
theorem pq_mid (n d m e : Int) (h : d + e ≠ 0) : lowT (n + m) (d + e) = (Rat.divInt (n + m) (d + e)).num := low_num h
def spMid (CP C : Addr) : Sp := fun vs H Q _ => ∃ x a b c d, vs = [.ref x] ∧ PieAt CP C H x a b c d ∧ 0 < b + d ∧ Sz (b + d) ∧ ∀ r H', Same H H' → RatQ C H' r (Rat.divInt (a + c) (b + d)) → Q (.ref r) H'
abbrev sMid : Stmt := inClass (top 28) 3
theorem scMid : FnScope ["self"] ["self"] (defScope sMid) := ⟨rfl, rfl, rfl, by decide +kernel, rfl, by decide +kernel, by decide +kernel⟩
theorem ok_mid {f f3 : Addr} {fd fd3 : FuncData} (F : Fun K "middle" "Piece.middle" sMid f fd) (T_Ratio : RatT K mg C) (T_Piece : PieT K mg CP) (M_Ratio : Mak P w K mg base 2 "Ratio" C f3 fd3 ["self", "top", "bottom"] (spRInit C)) : FnOk P w K mg base CX0 4 f fd ["self"] (spMid CP C) := by
  refine F.ok scMid (fun vs H Q E h => ?_) (fun cdv A outer s H vs Q E hr h => ?_)
  · obtain ⟨x, a, b, c, d, rfl, _⟩ := h
    rfl
  · obtain ⟨x, a, b, c, d, rfl, ⟨dx, l, r, hx, ⟨dl, hl⟩, ⟨dr, hr2⟩⟩, h0, hz, k⟩ := h
    have nd := scMid.nd
    refine ⟨_, pss_one (ps_ret (pe_make M_Ratio.M M_Ratio.F (hr.mono (by decide)) (by rfl) M_Ratio.mgC M_Ratio.b .nil pass0 (pa_cons (pe_op op_add (pe_fld (pe_fld (pv 0) rfl) rfl) (pe_fld (pe_fld (pv 0) rfl) rfl)) (pa_cons (pe_op op_add (pe_fld (pe_fld (pv 0) rfl) rfl) (pe_fld (pe_fld (pv 0) rfl) rfl)) pa_nil)))), ?_⟩
    have L := fun (f : Str) => f
    refine ⟨_, rfl, _, CP, dx, _, _, rfl, hx, T_Piece.cl, T_Piece.nL, pieF_left _ _, _, C, dl, _, _, rfl, hl, T_Ratio.cl, T_Ratio.nT, ratF_top _ _, _, rfl, _, CP, dx, _, _, rfl, hx, T_Piece.cl, T_Piece.nR, pieF_right _ _, _, C, dr, _, _, rfl, hr2, T_Ratio.cl, T_Ratio.nT, ratF_top _ _, _, _, rfl, rfl,
      _, rfl, _, CP, dx, _, _, rfl, hx, T_Piece.cl, T_Piece.nL, pieF_left _ _, _, C, dl, _, _, rfl, hl, T_Ratio.cl, T_Ratio.nB, ratF_bot _ _, _, rfl, _, CP, dx, _, _, rfl, hx, T_Piece.cl, T_Piece.nR, pieF_right _ _, _, C, dr, _, _, rfl, hr2, T_Ratio.cl, T_Ratio.nB, ratF_bot _ _, _, _, rfl, rfl, ?_⟩
    exact mkQ (by omega) hz rfl k
abbrev sRSub : Stmt := inClass (top 22) 11
theorem scRSub : FnScope ["self", "other"] ["self", "other"] (defScope sRSub) := ⟨rfl, rfl, rfl, by decide +kernel, rfl, by decide +kernel, by decide +kernel⟩
theorem ok_rsub {f g g2 : Addr} {fd gd gd2 : FuncData} (F : Fun K "__rsub__" "Ratio.__rsub__" sRSub f fd) (B : BinF K C .Add) (O_add : Opr P w K mg base 4 C "__add__" g gd ["self", "other"] (spBin C GT fun p q => p + q)) (O_neg : Opr P w K mg base 4 C "__neg__" g2 gd2 ["self"] (spUn C fun p => -p)) :
    FnOk P w K mg base CX0 5 f fd ["self", "other"] (spBin C GT fun p q => -p + q) := by
  refine F.ok scRSub (fun vs H Q E h => ?_) (fun cdv A outer s H vs Q E hr h => ?_)
  · obtain ⟨a, u, p, q, rfl, _⟩ := h
    rfl
  · obtain ⟨a, u, p, q, rfl, hp, hq, z, g, k⟩ := h
    have nd := scRSub.nd
    refine ⟨_, pss_one (ps_ret (pe_op (op_B B O_add.F (hr.mono (by decide)) O_add.at_ O_add.fn O_add.b pass0) (pe_un (Own.un_ownNeg O_neg.F (hr.mono (by decide)) O_neg.at_ O_neg.fn O_neg.b pass0) (pv 0)) (pv 1))), ?_⟩
    obtain ⟨dx, fs, h1⟩ := hp.ins
    refine ⟨_, rfl, a, dx, fs, rfl, h1, a, p, rfl, hp, z.1, fun x H1 s1 hx => ?_⟩
    obtain ⟨dy, gs, h2⟩ := hx.ins
    exact ⟨_, rfl, x, dy, gs, rfl, h2, (hq.same s1).ri, x, _, -p, q, rfl, hx, hq.same s1, ⟨z.1.neg, z.2⟩, True.intro, fun y H2 s2 hy => k y H2 (s1.trans s2) hy⟩
end
end Toy
set_option maxRecDepth 100000
set_option maxHeartbeats 4000000
set_option exponentiation.threshold 9000
namespace Toy
open PySem L2
open Rat (divInt)
/-! ### tones and terms -/
structure TonT (K : PySem.W.Frag) (mg : Str → Option Value) (C : Addr) : Prop extends ClT K mg C "Tone" where
  nO : NoAttr K C "octaves"
  nF : NoAttr K C "fifths"
def tonF (o k : Int) : List (Str × V) := putF "fifths" (.int k) (putF "octaves" (.int o) [])
theorem of_ne : ¬ (("octaves" : Str) = "fifths") := by decide +kernel
theorem tonF_oct (o k : Int) : (tonF o k).lookup ("octaves" : Str) = some (.int o) := by
  unfold tonF
  rw [lookup_putF, if_neg of_ne, lookup_putF, if_pos rfl]
theorem tonF_fif (o k : Int) : (tonF o k).lookup ("fifths" : Str) = some (.int k) := by
  unfold tonF
  rw [lookup_putF, if_pos rfl]
def TonAt (C : Addr) (H : Hp) (a : Addr) (o k : Int) : Prop := ∃ dx, H a = some (.ins C dx (tonF o k))
theorem TonAt.same {C : Addr} {H H' : Hp} {a : Addr} {o k : Int} (h : TonAt C H a o k) (e : Same H H') : TonAt C H' a o k := let ⟨dx, h⟩ := h; ⟨dx, e _ _ h⟩
def terF (b : Int) : List (Str × V) := putF "number" (.int b) []
theorem terF_num (b : Int) : (terF b).lookup ("number" : Str) = some (.int b) := by
  unfold terF
  rw [lookup_putF, if_pos rfl]
/-- where the parts of the class of terms stand: Term, Moving, Note, the property and its getter, the methods -/
structure TAd where
  tm : Addr
  cm : Addr
  cn : Addr
  pm : Addr
  im : Addr
  nt : Addr
  po : Addr
  mo : Addr
  mi : Addr
  eq : Addr
/-- a class of terms: Moving (m) or Note -/
structure TerC (K : PySem.W.Frag) (A : TAd) (C : Addr) (m : Bool) : Prop where
  cl : Cls K C
  nN : NoAttr K C "number"
  ty : ∀ {H : Hp} {a dx : Addr} {fs : List (Str × V)}, H a = some (.ins C dx fs) → TyX K H (.ref a) (.ref C)
  kM : PySem.W.kitOne K (.ref C) (.ref A.cm) = some m
  kT : PySem.W.kitOne K (.ref C) (.ref A.tm) = some true
  pm : PropOf K C "is_moving" A.pm A.im
  mn : Meth K C "note" A.nt
  mp : Meth K C "position" A.po
  mv : Meth K C "moved" A.mo
  mi : Meth K C "mirrored" A.mi
  eq : PySem.W.findIn K (.ref C) "__eq__" = some (some (.ref A.eq))
  ne : PySem.W.findIn K (.ref C) "__ne__" = some (some (.builtin "object.__ne__"))
  sO : PySem.W.subIn K (.ref C) (.type "object") = some true
  nI : PySem.W.notFirst K C (.type "int") = true
  nM : PySem.W.notFirst K C (.ref A.cm) = true
  nC : PySem.W.notFirst K C (.ref A.cn) = true
  cls : C = if m then A.cm else A.cn
def TerAt (C : Addr) (H : Hp) (a : Addr) (b : Int) : Prop := ∃ dx, H a = some (.ins C dx (terF b))
theorem TerAt.same {C : Addr} {H H' : Hp} {a : Addr} {b : Int} (h : TerAt C H a b) (e : Same H H') : TerAt C H' a b := let ⟨dx, h⟩ := h; ⟨dx, e _ _ h⟩
section
variable {P : Program} {w : World} {K : PySem.W.Frag} {mg : Str → Option Value} {base : Heap} {C CT : Addr} {A : TAd}
def spFromTo : Sp := fun vs H Q _ => ∃ v lo hi : Int, vs = [.int v, .int lo, .int hi] ∧ Q (.bl (decide (lo ≤ v) && decide (v ≤ hi))) H
def spIsFifth (C : Addr) : Sp := fun vs H Q _ => ∃ a q, vs = [.ref a] ∧ RatQ C H a q ∧ Q (.bl (decide (0 < q.num) && decide (q.num < (q.den : Int)))) H
abbrev sIsFifth : Stmt := inClass (top 22) 2
theorem scIF : FnScope ["value"] ["value"] (defScope sIsFifth) := ⟨rfl, rfl, rfl, by decide +kernel, rfl, by decide +kernel, by decide +kernel⟩
theorem ok_isfifth {f : Addr} {fd : FuncData} (F : Fun K "is_fifth" "Ratio.is_fifth" sIsFifth f fd) (T : Bl mg) (T_Ratio : RatT K mg C) : FnOk P w K mg base CX0 1 f fd ["value"] (spIsFifth C) := by
  refine F.ok scIF (fun vs H Q E h => ?_) (fun cdv A outer s H vs Q E hr h => ?_)
  · obtain ⟨a, q, rfl, _⟩ := h
    rfl
  · obtain ⟨a, q, rfl, ⟨dx, h⟩, k⟩ := h
    have nd := scIF.nd
    refine ⟨_, pss_one (ps_ret (pe_and (pe_callB call_isi (by rfl) T.isinstance (by decide +kernel) (pa_cons (pv 0) (pa_cons (Own.pe_gref (by rfl) T_Ratio.mgC) pa_nil))) (pe_one (pe_chain op_lt op_lt pe_int (pe_fld (pv 0) rfl) (pe_fld (pv 0) rfl))))), ?_⟩
    refine ⟨_, rfl, _, _, _, _, true, rfl, .own _, T_Ratio.ty h, T_Ratio.kS, _, rfl, iteT ?_⟩
    refine ⟨_, rfl, _, C, dx, _, _, rfl, h, T_Ratio.cl, T_Ratio.nT, ratF_top _ _, _, _, rfl, rfl, _, rfl, ?_⟩
    by_cases h1 : 0 < q.num
    · refine iteTb (decide_eq_true h1) ?_
      rw [decide_eq_true h1, Bool.true_and] at k
      exact ⟨_, rfl, _, C, dx, _, _, rfl, h, T_Ratio.cl, T_Ratio.nB, ratF_bot _ _, _, _, rfl, rfl, k⟩
    · refine iteFb (decide_eq_false h1) ?_
      rw [decide_eq_false h1, Bool.false_and] at k
      exact k
def spTonI (C : Addr) : Sp := fun vs H Q _ => ∃ x dx o k, vs = [.ref x, .int o, .int k] ∧ H x = some (.ins C dx []) ∧ ∀ H', TonAt C H' x o k → (∀ c o, H c = some o → c ≠ x → H' c = some o) → Q .non H'
abbrev sTonI : Stmt := inClass (top 74) 0
theorem scTI : FnScope ["self", "octaves", "fifths"] ["self", "octaves", "fifths"] (defScope sTonI) := ⟨rfl, rfl, rfl, by decide +kernel, rfl, by decide +kernel, by decide +kernel⟩
theorem ok_toni {f f1 : Addr} {fd fd1 : FuncData} (F : FunD K "__init__" "Tone.__init__" (defArgs sTonI) (defBody sTonI) (defScope sTonI) [.int 0] [] f fd) (T_Tone : TonT K mg CT) (C_is_int : Cal P w K mg base 1 "is_int" f1 fd1 ["value"] (spIsInt K)) : FnOk P w K mg base CX0 2 f fd ["self", "octaves", "fifths"] (spTonI CT) := by
  refine F.ok scTI (fun vs H Q E h => ?_) (fun cdv A outer s H vs Q E hr h => ?_)
  · obtain ⟨x, dx, o, k, rfl, _⟩ := h
    rfl
  · obtain ⟨x, dx, o, k, rfl, hx, q⟩ := h
    have nd := scTI.nd
    refine ⟨_, pss_cons (ps_if (pt_not (pt_val (pe_call C_is_int.F (hr.mono (by decide)) (by rfl) C_is_int.mgf C_is_int.kp C_is_int.b .nil pass0 (pa_cons (pv 1) pa_nil)))) pss_never pss_nil)
      (pss_cons (ps_if (pt_not (pt_val (pe_call C_is_int.F (hr.mono (by decide)) (by rfl) C_is_int.mgf C_is_int.kp C_is_int.b .nil pass0 (pa_cons (pv 2) pa_nil)))) pss_never pss_nil)
      (pss_cons (ps_fld (pv 0) (pv 1) rfl)
      (pss_one (ps_fld (pv 0) (pv 2) rfl)))), ?_⟩
    refine ⟨_, rfl, _, _, true, rfl, .base (.int _), isIntK_int, _, rfl, iteF ?_⟩
    refine ⟨_, rfl, _, _, true, rfl, .base (.int _), isIntK_int, _, rfl, iteF ?_⟩
    refine ⟨_, rfl, _, rfl, x, CT, dx, _, rfl, hx, T_Tone.cl, T_Tone.nO, (by decide : 0 < 1000), ?_⟩
    refine ⟨_, rfl, _, rfl, x, CT, dx, _, rfl, upd_same, T_Tone.cl, T_Tone.nF, (by decide : 1 < 1000), ?_⟩
    exact q _ ⟨dx, upd_same⟩ fun c o h n => by rw [upd_ne n, upd_ne n]; exact h
/-- == with another Tone -/
def spTonEq (CT : Addr) : Sp := fun vs H Q _ => ∃ a b o k o' k', vs = [.ref a, .ref b] ∧ TonAt CT H a o k ∧ TonAt CT H b o' k' ∧ Q (.bl (decide (o = o') && decide (k = k'))) H
abbrev sTonE : Stmt := inClass (top 74) 10
theorem scTE : FnScope ["self", "other"] ["self", "other"] (defScope sTonE) := ⟨rfl, rfl, rfl, by decide +kernel, rfl, by decide +kernel, by decide +kernel⟩
theorem ok_toneq {f : Addr} {fd : FuncData} (F : Fun K "__eq__" "Tone.__eq__" sTonE f fd) (T : Bl mg) (T_Tone : TonT K mg CT) : FnOk P w K mg base CX0 1 f fd ["self", "other"] (spTonEq CT) := by
  refine F.ok scTE (fun vs H Q E h => ?_) (fun cdv A outer s H vs Q E hr h => ?_)
  · obtain ⟨a, b, o, k, o', k', rfl, _⟩ := h
    rfl
  · obtain ⟨a, b, o, k, o', k', rfl, ⟨dx, h1⟩, ⟨dy, h2⟩, q⟩ := h
    have nd := scTE.nd
    refine ⟨_, pss_cons (ps_if (pt_not (pt_val (pe_callB call_isi (by rfl) T.isinstance (by decide +kernel) (pa_cons (pv 1) (pa_cons (Own.pe_gref (by rfl) T_Tone.mgC) pa_nil))))) (pss_one (ps_ret pe_bl)) pss_nil)
      (pss_one (ps_ret (pe_and (pe_cmpR op_eq (pe_fld (pv 0) rfl) (pe_fld (pv 1) rfl) (nomark _)) (pe_one (pe_cmpR op_eq (pe_fld (pv 0) rfl) (pe_fld (pv 1) rfl) (nomark _)))))), ?_⟩
    refine ⟨_, rfl, _, _, _, _, true, rfl, .own _, T_Tone.ty h2, T_Tone.kS, _, rfl, iteF ?_⟩
    refine ⟨_, rfl, _, CT, dx, _, _, rfl, h1, T_Tone.cl, T_Tone.nO, tonF_oct _ _, _, rfl, _, CT, dy, _, _, rfl, h2, T_Tone.cl, T_Tone.nO, tonF_oct _ _, rfl, _, rfl, ?_⟩
    by_cases e : o = o'
    · refine iteTb (by rw [vdec]; exact decide_eq_true e) ?_
      refine ⟨_, rfl, _, CT, dx, _, _, rfl, h1, T_Tone.cl, T_Tone.nF, tonF_fif _ _, _, rfl, _, CT, dy, _, _, rfl, h2, T_Tone.cl, T_Tone.nF, tonF_fif _ _, rfl, ?_⟩
      rw [vdec]
      rw [decide_eq_true e, Bool.true_and] at q
      exact q
    · refine iteFb (by rw [vdec]; exact decide_eq_false e) ?_
      rw [decide_eq_false e, Bool.false_and] at q
      exact q
end
end Toy
set_option maxRecDepth 100000
set_option maxHeartbeats 4000000
/-! Several except clauses, with and without a name. -/
namespace Own
open PySem PySem.Spec PyProof.Rows L2
/-- an exception of the body, come down, ahead of a clause -/
structure Dn (X : Cx) (pins : List (Addr × Obj)) (a : Addr) (cls : Value) (d : Option Addr) (σ : L2.St) (H : Hp) (B : Heap) (sI s : Shared) : Prop where
  J : Inv X pins σ H sI
  nb : ∀ b o, sI.heap.get? b = some o → b ∉ frs X.stack → B.get? b = some o
  up : sI.heap.UpToSlots s.heap
  fl : HandSPX.FlyingZ B (X.env :: X.outer) a (Zc cls d) s.heap
  na : H a = none
  os : s.os = sI.os
  ag : AllBare s.gens
section
variable {X : Cx} {pins : List (Addr × Obj)} {a : Addr} {cls : Value} {d : Option Addr} {σ : L2.St} {H : Hp} {B : Heap} {sI s : Shared}
theorem Dn.inv (k : Dn X pins a cls d σ H B sI s) : Inv X pins σ H s := k.J.landed k.nb k.fl.1 k.up k.os k.ag
theorem Dn.out (k : Dn X pins a cls d σ H B sI s) : a ∉ frs (X.env :: X.outer) := fun hm => by
  obtain ⟨oe, vs, he, _, hd⟩ := k.fl.there
  obtain ⟨_, o', e', hnf⟩ := k.fl.2.2.1.mem hm
  rw [he] at e'; cases e'
  exact hnf _ hd
theorem Dn.nL (k : Dn X pins a cls d σ H B sI s) (hf : X.env.frame = some X.env.locals) : a ≠ X.env.locals := fun z => k.out (by
  rw [z]
  exact List.mem_filterMap.mpr ⟨X.env, List.mem_cons_self, hf⟩)
theorem Dn.nF (k : Dn X pins a cls d σ H B sI s) : a ∉ X.fs := fun hm => by
  obtain ⟨e, he, q⟩ := List.mem_filterMap.mp hm
  exact k.out (List.mem_filterMap.mpr ⟨e, List.mem_cons_of_mem _ he, q⟩)
/-- what the clauses hds do with an exception for which w holds -/
def Cl (X : Cx) (hds : List ExceptHandler) (w : Ends → WX) : Prop :=
  ∀ (pins : List (Addr × Obj)) (a : Addr) (cls : Value) (d : Option Addr) (σ : L2.St) (H : Hp) (B : Heap) (sI s : Shared) (D : Ends), Dn X pins a cls d σ H B sI s → w D cls d σ H →
    wpAny (model X.prog X.w) X.A (handleBy (.ref a) X.env hds) (SP X pins D) X.xe s
theorem cl_nil {Wout : WX} (hs : X.stack = X.env :: X.outer) (hf : X.env.frame = some X.env.locals) (tk : Takes X Wout) : Cl X [] fun _ => Wout := by
  intro pins a cls d σ H B sI s D k w
  refine wpAny_handleBy_nil ?_
  obtain ⟨k1, k2, k3, oe, vs, T, oT, ts', he, hz, hd, h1, hr⟩ := id k.fl
  unfold PySem.passOn
  refine wpAny_bind (wpAny_field he hd h1 ?_)
  rw [if_neg (show ¬ ((Value.ref T == Value.none) = true) from by simp)]
  have go : wpAny (model X.prog X.w) X.A (setFlight (.ref a) X.env.frame) (fun _ s2 => wpAny (model X.prog X.w) X.A (throw (.ref a) : Sem Flow) (SP X pins D) X.xe s2) X.xe s := by
    rw [hf]
    exact HandSPX.setFlight_upZ k.fl fun h2 hh up => wpAny_throw (tk _ _ ⟨a, B, sI, pins, σ, H, cls, d, rfl, k.J, k.nb, k.up.trans up, .inr (.inr (by rw [hs]; exact hh)), k.na, k.os, k.ag, w⟩)
  first
    | exact wpAny_bind (wpAny_pure (wpAny_bind go))
    | exact wpAny_bind go
/-- the clause's class is looked up and compared -/
theorem Dn.ask {x : Str} {np : Pos} {c : Value} {b : Bool} {Q : Bool → Shared → Prop} {E : Value → Shared → Prop} (k : Dn X pins a cls d σ H B sI s) (hf : X.env.frame = some X.env.locals) (hc : Names X x c) (hb : PySem.W.exmOne X.K cls c = some b) (q : Q b s) :
    wpAny (model X.prog X.w) (X.A.mark (some (.ref a))) (eval (.Name x np) X.env) (fun c s₁ => wpAny (model X.prog X.w) (X.A.mark (some (.ref a))) (excMatches (.ref a) c) Q E s₁) E s := by
  obtain ⟨oe, vs, he, hz, hd⟩ := k.fl.there
  have S := k.inv.suite he hd k.na (k.nL hf) k.nF
  have ty : PySem.W.Looks (model X.prog X.w) s.heap (typeOf (.ref a)) cls := fun A Q E s k q => wpAny_typeOf_ref (k _ _ he) (by rw [hz.1]; exact q)
  have em := PySem.W.exm_one (M := model X.prog X.w) k.inv.kIn ty hb
  obtain ⟨hg, hdb, hm | ⟨hm, hv, hnn⟩⟩ := hc
  · exact ld_glob (X := X.suite a ((a, oe) :: (X.pn ++ pins))) S hg hm (em.here q) hdb
  · exact ld_blt (X := X.suite a ((a, oe) :: (X.pn ++ pins))) S hg hm hv (em.here q) hnn hdb
theorem cl_on {x : Str} {c : Value} {ts : Addr → Value → Option Addr → TS} {b₀ : Stmt} {suite : List Stmt} {np pos : Pos} {hds : List ExceptHandler} {w : Ends → WX} (hf : X.env.frame = some X.env.locals) (hc : Names X x c)
    (hsu : ∀ (a : Addr) (oe : Obj) (cls : Value) (d : Option Addr) (pn : List (Addr × Obj)), Zc cls d oe → (∃ vs, oe.data = .fields vs) → PSs (X.suite a ((a, oe) :: pn)) (b₀ :: suite) (ts a cls d)) (r : Cl X hds w) :
    Cl X (.ExceptHandler (some (.Name x np)) none (b₀ :: suite) pos :: hds) fun D cls d σ H => ∃ b, PySem.W.exmOne X.K cls c = some b ∧ (b = true → ∀ a, H a = none → ts a cls d D σ H) ∧ (b = false → w D cls d σ H) := by
  intro pins a cls d σ H B sI s D k ⟨b, hb, yes, no⟩
  refine wpAny_handleBy_cons (codeAny_handlers_test (k.ask hf hc hb ?_)) (by intro q; cases q)
  cases b with
  | false => exact r pins a cls d σ H B sI s D k (no rfl)
  | true =>
    refine codeAny_handlers_suite (HandSPX.lands_againZ k.fl fun h2 fl2 up2 => ?_)
    have k2 : Dn X pins a cls d σ H B sI { s with heap := h2 } := ⟨k.J, k.nb, k.up.trans up2, fl2, k.na, k.os, k.ag⟩
    obtain ⟨oe, vs, he, hz, hd⟩ := fl2.there
    have S := k2.inv.suite he hd k.na (k.nL hf) k.nF
    refine wpAny_mono ((hsu a oe cls d (X.pn ++ pins) hz ⟨_, hd⟩).run [] _ σ H _ S (yes rfl a k.na)) (fun f s3 hsp => ?_) (fun _ _ z => False.elim z)
    have ok := k.J.ok
    cases f with
    | next => obtain ⟨σ3, H3, S3, q3⟩ := hsp; exact ⟨σ3, H3, S3.unsuite ok, q3⟩
    | brk => obtain ⟨σ3, H3, S3, q3⟩ := hsp; exact ⟨σ3, H3, S3.unsuite ok, q3⟩
    | cont => obtain ⟨σ3, H3, S3, q3⟩ := hsp; exact ⟨σ3, H3, S3.unsuite ok, q3⟩
    | ret u => obtain ⟨v3, σ3, H3, S3, r3, q3⟩ := hsp; exact ⟨v3, σ3, H3, S3.unsuite ok, r3, q3⟩
/-- what is wanted behind a suite whose name goes -/
def Ends.gone (D : Ends) (i : Nat) : Ends := { nx := fun σ H => D.nx (σ.set i none) H, rt := D.rt, bk := fun σ H => D.bk (σ.set i none) H, ct := fun σ H => D.ct (σ.set i none) H }
theorem cl_as {x n : Str} {c : Value} {i : Nat} {ts : Addr → Value → Option Addr → TS} {b₀ : Stmt} {suite : List Stmt} {np pos : Pos} {hds : List ExceptHandler} {w : Ends → WX} (hf : X.env.frame = some X.env.locals) (hN : X.N.Nodup) (hi : X.N[i]? = some n) (hln : X.env.kindOf n = some .local) (hc : Names X x c)
    (hsu : ∀ (a : Addr) (oe : Obj) (cls : Value) (d : Option Addr) (pn : List (Addr × Obj)), Zc cls d oe → (∃ vs, oe.data = .fields vs) → PSs (X.suite a ((a, oe) :: pn)) (b₀ :: suite) (ts a cls d)) (r : Cl X hds w) :
    Cl X (.ExceptHandler (some (.Name x np)) (some n) (b₀ :: suite) pos :: hds) fun D cls d σ H => ∃ b, PySem.W.exmOne X.K cls c = some b ∧ (b = true → σ.length = X.N.length → ∀ a, H a = none → ts a cls d (Ends.gone D i) (σ.set i (some (.ref a))) H) ∧ (b = false → w D cls d σ H) := by
  intro pins a cls d σ H B sI s D k ⟨b, hb, yes, no⟩
  refine wpAny_handleBy_cons (codeAny_handlers_test (k.ask hf hc hb ?_)) (by intro q; cases q)
  cases b with
  | false => exact r pins a cls d σ H B sI s D k (no rfl)
  | true =>
    refine codeAny_handlers_suite_as (HandSPX.lands_againZ k.fl fun h2 fl2 up2 => ?_)
    have k2 : Dn X pins a cls d σ H B sI { s with heap := h2 } := ⟨k.J, k.nb, k.up.trans up2, fl2, k.na, k.os, k.ag⟩
    obtain ⟨oe, vs, he, hz, hd⟩ := fl2.there
    have S := k2.inv.suite he hd k.na (k.nL hf) k.nF
    have ok := k.J.ok
    refine store_ok (X := X.suite a ((a, oe) :: (X.pn ++ pins))) (v := .ref a) S hN hi (.inl hln) rfl (fun s3 S3 => ?_) (.inr hln)
    refine wpAny_mono ((hsu a oe cls d (X.pn ++ pins) hz ⟨_, hd⟩).run [] s3 _ H _ S3 (yes rfl k.J.len a k.na)) (fun f s4 hsp => ?_) (fun _ _ z => False.elim z)
    have bye : ∀ {σ4 : L2.St} {H4 : Hp} {Q : Shared → Prop}, Inv (X.suite a ((a, oe) :: (X.pn ++ pins))) [] σ4 H4 s4 → (∀ s5, Inv X pins (σ4.set i none) H4 s5 → Q s5) →
        wpAny (model X.prog X.w) X.A (do bindName X.env n .none; unbindBehindTheSuite X.env n pos) (fun _ s5 => Q s5) X.xe s4 := fun {σ4 H4 Q} S4 hq => gone_ok (S4.unsuite ok) hN hi hln hq
    cases f with
    | next => obtain ⟨σ4, H4, S4, q4⟩ := hsp; exact bye S4 fun s5 J5 => ⟨_, _, J5, q4⟩
    | brk => obtain ⟨σ4, H4, S4, q4⟩ := hsp; exact bye S4 fun s5 J5 => ⟨_, _, J5, q4⟩
    | cont => obtain ⟨σ4, H4, S4, q4⟩ := hsp; exact bye S4 fun s5 J5 => ⟨_, _, J5, q4⟩
    | ret u => obtain ⟨v4, σ4, H4, S4, r4, q4⟩ := hsp; exact bye S4 fun s5 J5 => ⟨_, _, _, J5, r4, q4⟩
end
section
variable {X : Cx} {body : List Stmt} {h₀ : ExceptHandler} {hds : List ExceptHandler} {pos : Pos} {tb : WX → TS} {w : Ends → WX}
theorem ps_try_cl (hs : X.stack = X.env :: X.outer) (hf : X.env.frame = some X.env.locals)
    (hb : ∀ (W : WX) (pn : List (Addr × Obj)) (xe : Value → Shared → Prop), Takes (X.tr pn xe) W → PassesOwn (model X.prog X.w) X.A X.env xe → PSs (X.tr pn xe) body (tb W)) (hh : Cl X (h₀ :: hds) w) :
    PS X (.Try body (h₀ :: hds) [] [] pos) (fun D σ H => tb (w D) D σ H) := by
  refine ⟨fun pins s σ H D I h => ?_⟩
  have ok := I.ok
  have hfr : X.A.frames = some (X.env :: X.outer) := by rw [ok.frames, hs]
  refine wpAny_Try_except ?_
  have catch_ : Takes (X.tr (X.pn ++ pins) fun e s₁ => wpAny (model X.prog X.w) X.A (noteFrame e X.env) (fun _ s₂ => wpAny (model X.prog X.w) X.A (setFlight e none) (fun _ s₃ =>
      wpAny (model X.prog X.w) X.A (handleBy e X.env (h₀ :: hds)) (SP X pins D) X.xe s₃) X.xe s₂) X.xe s₁) (w D) := fun u s' xx => by
    obtain ⟨a, B, sI, pins', σ', H', cls, d, rfl, J', nb, up, sky, na, os, ag, ww⟩ := xx
    have sky' : Sky B (X.env :: X.outer) a (Zc cls d) X.env.locals s'.heap := by rw [← hs]; exact sky
    exact Sky.land Zc.steady hfr hf sky' fun h3 fl3 up3 => hh pins a cls d σ' H' B sI _ D ⟨J'.ofTry ok, nb, up.trans up3, fl3, na, os, ag⟩ ww
  refine wpAny_mono ((hb (w D) (X.pn ++ pins) _ catch_ PassesOwn.looking).run [] s σ H D (I.toTry _) h) (fun f s1 hsp => ?_) (fun e s1 he => he)
  cases f with
  | next => obtain ⟨σ', H', J', q⟩ := hsp; exact wpAny_execs_nil ⟨σ', H', J'.ofTry ok, q⟩
  | brk => obtain ⟨σ', H', J', q⟩ := hsp; exact ⟨σ', H', J'.ofTry ok, q⟩
  | cont => obtain ⟨σ', H', J', q⟩ := hsp; exact ⟨σ', H', J'.ofTry ok, q⟩
  | ret u => obtain ⟨v, σ', H', J', r, q⟩ := hsp; exact ⟨v, σ', H', J'.ofTry ok, r, q⟩
end
end Own
set_option maxRecDepth 100000
set_option maxHeartbeats 4000000
/-! An exception that a handler keeps in another name: what is known of it behind the handler, isinstance of it, its fields. -/
namespace Own
open PySem PySem.Spec PyProof.Rows L2
/-- an exception of this class, with this dict, stands at a -/
def KeO (cls : Value) (d : Option Addr) (a : Addr) : HO := .ext fun h => ∃ (oe : Obj) (vs : Array Value), h.get? a = some oe ∧ Zc cls d oe ∧ oe.data = .fields vs
theorem keO_ok {P : Program} {w : World} {H : Hp} {h : Heap} {a : Addr} {cls : Value} {d : Option Addr} {oe : Obj} {vs : Array Value} (e : h.get? a = some oe) (z : Zc cls d oe) (q : oe.data = .fields vs) : ObjOk P w H h a (KeO cls d a) :=
  ⟨⟨oe, vs, e, z, q⟩, ⟨oe, e⟩, fun _ _ ⟨o, us, e1, e2, e3⟩ k => ⟨o, us, k _ e1, e2, e3⟩⟩
theorem keO_at {P : Program} {w : World} {H : Hp} {h : Heap} {a : Addr} {cls : Value} {d : Option Addr} (x : ObjOk P w H h a (KeO cls d a)) : ∃ (oe : Obj) (vs : Array Value), h.get? a = some oe ∧ Zc cls d oe ∧ oe.data = .fields vs := x.1
/-- it is known from now on -/
theorem Inv.keep {X : Cx} {pins : List (Addr × Obj)} {σ : L2.St} {H : Hp} {s : Shared} {a : Addr} {cls : Value} {d : Option Addr} {oe : Obj} {vs : Array Value} (I : Inv X pins σ H s) (e : s.heap.get? a = some oe) (z : Zc cls d oe) (q : oe.data = .fields vs) (hn : H a = none)
    (h0 : X.s_0.heap.get? a = none) (hl : a ≠ X.env.locals) (hp : ∀ p ∈ X.pn ++ pins, p.1 ≠ a) : Inv X pins σ (upd H a (KeO cls d a)) s where
  ok := I.ok
  os := I.os
  bare := I.bare
  base := by
    have u := I.base
    refine ⟨u.keep, u.slot, fun b o hb h1 h2 => ?_, u.there, fun b xs hb => ?_, fun b o v hb => ?_, fun b ps hb => ?_⟩
    · have ne : b ≠ a := fun x => by rw [x, h0] at hb; cases hb
      rw [upd_ne ne]
      exact u.free b o hb h1 h2
    · have hb' := u.tups b xs hb
      rw [upd_ne (ne_of_none hb' hn)]
      exact hb'
    · have hb' := u.frzs b o v hb
      rw [upd_ne (ne_of_none hb' hn)]
      exact hb'
    · obtain ⟨more, hb'⟩ := u.tbls b ps hb
      exact ⟨more, by rw [upd_ne (ne_of_none hb' hn)]; exact hb'⟩
  loc := I.loc
  cell := I.cell
  free := by rw [upd_ne hl.symm]; exact I.free
  freeC := fun x c hc => by
    have ne : c ≠ a := fun y => by
      obtain ⟨v, hv⟩ := I.cell x c hc
      subst y
      obtain ⟨o, ho, ho2⟩ := hv
      rw [e] at ho
      cases ho
      rw [q] at ho2
      simp at ho2
    rw [upd_ne ne]
    exact I.freeC x c hc
  pin := fun p hm => by
    obtain ⟨h1, h2, h3⟩ := I.pin p hm
    exact ⟨h1, by rw [upd_ne (hp p hm)]; exact h2, h3⟩
  hok := I.hok.laidN (fun _ _ x => x) hn (keO_ok e z q)
  len := I.len
section
variable {X : Cx}
/-- what is wanted behind a suite whose name goes, and what the name held stays -/
def Ends.kept (D : Ends) (i : Nat) (a : Addr) (cls : Value) (d : Option Addr) : Ends :=
  { nx := fun σ H => D.nx (σ.set i none) (upd H a (KeO cls d a)), rt := D.rt, bk := fun σ H => D.bk (σ.set i none) H, ct := fun σ H => D.ct (σ.set i none) H }
theorem cl_keep {x n : Str} {c : Value} {i : Nat} {ts : Addr → Value → Option Addr → TS} {b₀ : Stmt} {suite : List Stmt} {np pos : Pos} {hds : List ExceptHandler} {w : Ends → WX} (hs : X.stack = X.env :: X.outer) (hf : X.env.frame = some X.env.locals) (hx : X.ex = []) (hN : X.N.Nodup) (hi : X.N[i]? = some n) (hln : X.env.kindOf n = some .local) (hc : Names X x c)
    (hsu : ∀ (a : Addr) (oe : Obj) (cls : Value) (d : Option Addr) (pn : List (Addr × Obj)), Zc cls d oe → (∃ vs, oe.data = .fields vs) → PSs (X.suite a ((a, oe) :: pn)) (b₀ :: suite) (ts a cls d)) (r : Cl X hds w) :
    Cl X (.ExceptHandler (some (.Name x np)) (some n) (b₀ :: suite) pos :: hds) fun D cls d σ H => ∃ b, PySem.W.exmOne X.K cls c = some b ∧ (b = true → σ.length = X.N.length → ∀ a, H a = none → ts a cls d (Ends.kept D i a cls d) (σ.set i (some (.ref a))) H) ∧ (b = false → w D cls d σ H) := by
  intro pins a cls d σ H B sI s D k hw
  obtain ⟨b, hb, yes, no⟩ := hw
  refine wpAny_handleBy_cons (codeAny_handlers_test (k.ask hf hc hb ?_)) (by intro q; cases q)
  cases b with
  | false => exact r pins a cls d σ H B sI s D k (no rfl)
  | true =>
    have sIa : sI.heap.get? a = none := by
      cases z : sI.heap.get? a with
      | none => rfl
      | some o =>
        have q := k.nb a o z (by rw [hs]; exact k.out)
        have q2 := k.fl.2.1
        rw [q2] at q
        cases q
    have s0a : X.s_0.heap.get? a = none := by
      cases z : X.s_0.heap.get? a with
      | none => rfl
      | some o =>
        obtain ⟨o', q⟩ := k.J.base.there a o z (by rw [hx]; exact List.not_mem_nil)
        rw [sIa] at q
        cases q
    have pna : ∀ p ∈ X.pn ++ pins, p.1 ≠ a := fun p hp y => by
      have q := (k.J.pin p hp).1
      rw [y, sIa] at q
      cases q
    refine codeAny_handlers_suite_as (HandSPX.lands_againZ k.fl fun h2 fl2 up2 => ?_)
    have k2 : Dn X pins a cls d σ H B sI { s with heap := h2 } := ⟨k.J, k.nb, k.up.trans up2, fl2, k.na, k.os, k.ag⟩
    obtain ⟨oe, vs, he, hz, hd⟩ := fl2.there
    have S := k2.inv.suite he hd k.na (k.nL hf) k.nF
    have ok := k.J.ok
    refine store_ok (X := X.suite a ((a, oe) :: (X.pn ++ pins))) (v := .ref a) S hN hi (.inl hln) rfl (fun s3 S3 => ?_) (.inr hln)
    refine wpAny_mono ((hsu a oe cls d (X.pn ++ pins) hz ⟨_, hd⟩).run [] s3 _ H _ S3 (yes rfl k.J.len a k.na)) (fun f s4 hsp => ?_) (fun _ _ z => False.elim z)
    have bye : ∀ {σ4 : L2.St} {H4 : Hp} {Q : Shared → Prop}, Inv X pins σ4 H4 s4 → (∀ s5, Inv X pins (σ4.set i none) H4 s5 → Q s5) →
        wpAny (model X.prog X.w) X.A (do bindName X.env n .none; unbindBehindTheSuite X.env n pos) (fun _ s5 => Q s5) X.xe s4 := fun {σ4 H4 Q} S4 hq => gone_ok S4 hN hi hln hq
    cases f with
    | next =>
      obtain ⟨σ4, H4, S4, q4⟩ := hsp
      obtain ⟨p1, p2, p3, _⟩ := S4.pin (a, oe) (List.mem_append_left _ List.mem_cons_self)
      exact bye (Inv.keep (S4.unsuite ok) p1 hz hd p2 s0a p3 pna) fun s5 J5 => ⟨_, _, J5, q4⟩
    | brk => obtain ⟨σ4, H4, S4, q4⟩ := hsp; exact bye (S4.unsuite ok) fun s5 J5 => ⟨_, _, J5, q4⟩
    | cont => obtain ⟨σ4, H4, S4, q4⟩ := hsp; exact bye (S4.unsuite ok) fun s5 J5 => ⟨_, _, J5, q4⟩
    | ret u => obtain ⟨v4, σ4, H4, S4, r4, q4⟩ := hsp; exact bye (S4.unsuite ok) fun s5 J5 => ⟨_, _, _, J5, r4, q4⟩
/-- what a class of exceptions must say -/
structure KxC (K : PySem.W.Frag) (D : Addr) : Prop extends XfC K D where
  ca : PySem.W.findIn K (.ref D) "__class__" = some (some (.builtin "object.__class__"))
  cn : PySem.W.specialIn K (.builtin "object.__class__") "__get__" = some (some (.builtin "getset_descriptor.__get__"))
  ct : PySem.W.takesIn K (.builtin "object.__class__") = some true
  cm : PySem.W.mroIn K D (.type "object") = some true
/-- its dict, if it has one -/
def KeD (H : Hp) (d : Option Addr) : Prop := d = none ∨ ∃ dd fs, d = some dd ∧ H dd = some (.xd fs)
theorem ke_inst {pins : List (Addr × Obj)} {σ : L2.St} {H : Hp} {s : Shared} {a D : Addr} {d : Option Addr} (I : Inv X pins σ H s) (h : H a = some (KeO (.ref D) d a)) (hd : KeD H d) : ∃ oe od, PySem.W.InstAt s.heap a oe D od := by
  obtain ⟨oe, vs, he, hz, hv⟩ := keO_at (I.hok a _ h)
  have nc : PySem.W.notCls oe = true := by unfold PySem.W.notCls; rw [hv]
  rcases hd with rfl | ⟨dd, fs, rfl, hx⟩
  · exact ⟨oe, none, he, hz.1, nc, by rw [hz.2]; trivial⟩
  · obtain ⟨mA, hns, _⟩ := I.hok dd _ hx
    obtain ⟨oD, hD, _⟩ := lookIn_ns hns
    exact ⟨oe, some oD, he, hz.1, nc, by rw [hz.2]; exact hD⟩
def rIsK (K : PySem.W.Frag) : List V → Hp → VK → Prop := fun xs H Q => ∃ (a D : Addr) (d : Option Addr) (c : V) (cv : Value) (b : Bool), xs = [.ref a, c] ∧ H a = some (KeO (.ref D) d a) ∧ KeD H d ∧ KxC K D ∧ (∀ u, RelV c u → u = cv) ∧ PySem.W.kitOne K (.ref D) cv = some b ∧ Q (.bl b) H
theorem call_isK : CallR X (.builtin "isinstance") (rIsK X.K) := by
  intro pins s σ H xs us Q I r h
  obtain ⟨a, D, d, c, cv, b, rfl, ha, hd, C, hcv, e, q⟩ := h
  cases r with
  | cons rx rr =>
    cases rr with
    | cons rt rr =>
      cases rr
      cases rx
      have ec := hcv _ rt
      subst ec
      obtain ⟨oe, od, J⟩ := ke_inst I ha hd
      have hcl : (PySem.W.clsIn X.K D).isSome = true := by
        obtain ⟨cd, hc, _⟩ := PySem.W.any_some C.hdC
        rw [hc]
        rfl
      exact PySem.W.kia_one (PySem.W.kitx_exc hcl C.ga C.gg C.exC C.ca C.cn C.ct C.cm) I.kIn J e (fun z => nomatch z) fun tk => ⟨.bl b, H, I.kept (t' := tk) fun _ _ z => z, rfl, q⟩
/-- one of its fields -/
def tKf (K : PySem.W.Frag) (f : Str) (te : TE) : TE := fun σ H Q => te σ H fun x H1 => ∃ (a D dd : Addr) (fs : List (Str × V)) (v : V), x = .ref a ∧ H1 a = some (KeO (.ref D) (some dd) a) ∧ XfC K D ∧ PySem.W.findIn K (.ref D) f = some none ∧ H1 dd = some (.xd fs) ∧ fs.lookup f = some v ∧ Q v H1
theorem pe_kf {e : Expr} {te : TE} {pos : Pos} {n : Str} (he : PE X e te) (hb : attributeBase e n X.env (eval e X.env) = eval e X.env := by rfl) : PE X (.Attribute e n pos) (tKf X.K n te) := by
  refine ⟨fun pins s σ H Q I h => ?_⟩
  refine attr_of hb (thn (he.run pins s σ H _ I h) fun u s1 hh => ?_)
  obtain ⟨x, H1, I1, rx, a, D, dd, fs, v, ex, ha, T, hno, hx, l, q⟩ := hh
  subst ex
  obtain rfl : u = Value.ref a := rx
  obtain ⟨oe, vs, he1, hz, hv⟩ := keO_at (I1.hok a _ ha)
  obtain ⟨mA, nsA, rA⟩ := I1.hok dd _ hx
  obtain ⟨oD, hD, lD⟩ := lookIn_ns nsA
  obtain ⟨uf, huf, ruf⟩ := RelO.some_of (v := v) (o := mA n) (by rw [← l]; exact rA n)
  have J : PySem.W.InstAt s1.heap a oe D (some oD) := ⟨he1, hz.1, by unfold PySem.W.notCls; rw [hv], by rw [hz.2]; exact hD⟩
  exact HandSPX.exc_get I1.kIn J T.ga T.gg T.exC (PySem.W.findObj_own T.hdC hno rfl (by rw [lD, huf])) (handed_of ruf) ⟨v, H1, I1.tok _, ruf, q⟩
end
end Own
set_option maxRecDepth 100000
set_option maxHeartbeats 4000000
/-! x(*y, e, ..): a starred argument first, others behind it. -/
namespace Own
open PySem PySem.Spec PyProof.Rows L2 StX
theorem args_sf {M : Model} {A : Around} {E : Value → Shared → Prop} {s : Shared} {f : Value} {x : Sem Value} {y : Bool × Sem Value} {rest : List (Bool × Sem Value)} {Q : Args → Shared → Prop}
    (h : wpAny M A (spliced ((true, x) :: y :: rest)) (fun vs s' => Q ⟨vs, []⟩ s') E s) : wpAny M A (evalArgs f true ((true, x) :: y :: rest) []) Q E s := by
  unfold evalArgs
  show wpAny M A (spliced ((true, x) :: y :: rest) >>= _) Q E s
  refine wpAny_bind (wpAny_mono h (fun vs s' q => ?_) fun _ _ x => x)
  exact wpAny_holding (wpAny_bind (wpAny_pure (wpAny_bind (wpAny_pure (wpAny_pure q)))))
section
variable {X : Cx} {CX : CXT} {k : Nat} {f : Addr} {sp : Sp} {E : XK} {x : Str} {e e2 : Expr} {es : List Expr} {te : TE} {t : TA} {p sp_ pos : Pos}
theorem pe_callSF (F : FnR X.prog X.w X.K X.mg X.base CX k f sp) (hr : Room k X.A) (hk : PySem.W.keepIn X.K (.ref f) = true) (hg : Gl X x) (hm : X.mg x = some (.ref f)) (hx : Passes CX X E) (he : PE X e te) (ha : PA X (e2 :: es) t) (hd : (x == ("__debug__" : Str)) = false := by decide)
    (hst : starEach (.Starred e sp_ :: e2 :: es) X.env = (true, eval e X.env) :: (false, eval e2 X.env) :: starEach es X.env := by rfl) (hs2 : starEach (.Starred e sp_ :: e2 :: es) X.env = (true, eval e X.env) :: starEach (e2 :: es) X.env := by rfl) :
    PE X (.Call (.Name x p) (.Starred e sp_ :: e2 :: es) [] pos) (fun σ H Q => te σ H fun y H1 => ∃ a xs, y = V.ref a ∧ (SqT X.K H1 a xs ∨ SqL X.K H1 a xs) ∧ t σ H1 fun ys H2 => sp (xs ++ ys) H2 Q E) := by
  refine ⟨fun pins s σ H Q I h => ?_⟩
  refine wpAny_Call_Name_kw (ld_glob I hg hm ?_ hd)
  have go : wpAny (model X.prog X.w) X.A (spliced (backTo pos (starEach (.Starred e sp_ :: e2 :: es) X.env))) (fun vs s1 => X.K.In s1.heap ∧ wpAny (model X.prog X.w) X.A (call (.ref f) ([] ++ vs)) (EP X pins σ Q) X.xe s1) X.xe s := by
    refine PySem.W.items_star (thn (he.run pins s σ H _ I h) fun v s1 z => ?_) hs2
    obtain ⟨y, H1, I1, ry, a, xs, ey, hxs, q⟩ := z
    subst ey
    obtain rfl : v = Value.ref a := ry
    refine star_any I1 hxs fun us s2 I2 rv => ?_
    refine thn (ha.run pos pins s2 σ H1 _ I2 q) fun ws s3 z => ?_
    obtain ⟨vs, H3, I3, r3, q3⟩ := z
    exact ⟨I3.kIn, wpAny_call (run_fnR F hr hx I3 (rv.append r3) q3)⟩
  rw [hst] at go ⊢
  exact PySem.W.ks_call rfl (PySem.W.keeps_K hk) (args_sf go)
end
/-! f(k = v, ..) with keywords alone -/
def tCallK0 (n : Nat) (sp : Sp) (gV : List V → List V → List V) (E : XK) (tk : TA) : TE := fun σ H Q => tk σ H fun zs H1 => zs.length = n ∧ sp (gV [] zs) H1 Q E
section
variable {X : Cx} {CX : CXT} {k : Nat} {f : Addr} {fd : FuncData} {sp : Sp} {E : XK} {x : Str} {p pos : Pos} {ps ks : List Str} {kws : List Keyword} {tk : TA} {g : List Value → List Value → List Value} {gV : List V → List V → List V}
theorem pe_callK0 (F : FnOk X.prog X.w X.K X.mg X.base CX k f fd ps sp) (hr : Room k X.A) (hg : Gl X x) (hm : X.mg x = some (.ref f)) (hk : PySem.W.keepIn X.K (.ref f) = true) (hb : KBn X.K fd ps 0 ks g gV) (hx : Passes CX X E) (hkw : PK X kws tk)
    (hall : (backToKw pos (keywordEach kws X.env)).all (·.1.isSome) = true := by rfl) (hks : (backToKw pos (keywordEach kws X.env)).filterMap (·.1) = ks := by rfl)
    (hdb : (x == ("__debug__" : Str)) = false := by decide) (hpl : ((backTo pos (starEach [] X.env)).any (·.1) || (backToKw pos (keywordEach kws X.env)).any (·.1.isNone)) = false := by rfl) :
    PE X (.Call (.Name x p) [] kws pos) (tCallK0 ks.length sp gV E tk) := by
  refine ⟨fun pins s σ H Q I h => ?_⟩
  refine wpAny_Call_Name_kw (ld_glob I hg hm ?_ hdb)
  refine PySem.W.callWith_KW0 (first := []) (h₀ := X.base) I.ok.mod.kin hk hall (thn (hkw.run pos pins s σ H _ I h) fun ws s2 ⟨zs, H2, I2, rz, hl, q2⟩ => ⟨I2.kIn, ?_⟩) hpl
  rw [hks]
  exact run_fnN (us := []) (vs := []) F hr hb hx I2 .nil rz rfl hl q2
end
end Own
set_option maxRecDepth 100000
set_option maxHeartbeats 4000000
/-! Promises of defs that are called where no object is being shown (for repr), and the end of such a law, with tables of code objects. -/
namespace Own
open PySem PySem.Spec PyProof.Rows L2
structure FnG (P : Program) (w : World) (K : PySem.W.Frag) (mg : Str → Option Value) (base : Heap) (CX : CXT) (k : Nat) (f : Addr) (fd : FuncData) (ps : List Str) (sp : Sp) : Prop where
  len : ∀ vs H Q E, sp vs H Q E → vs.length = ps.length
  run : ∀ (A : Around) (outer : List Env) (s : Shared) (H : Hp) (args : Args) (us : List Value) (vs : List V) (Q : VK) (E : XK), A.guards = some [] → Room k A → Env0 P w K mg base A outer s H → BindsTo s fd args (ps.zip us) → Vals vs us →
    sp vs H Q E → codeAny (model P w) A (.call (.ref f) args) (CR CX outer P w H s Q E) s
section
variable {P : Program} {w : World} {K : PySem.W.Frag} {mg : Str → Option Value} {base : Heap} {x qual : Str} {st : Stmt} {f c : Addr} {fd : FuncData} {N ps : List Str} {k : Nat} {sp : Sp}
theorem okG (F : Fun K x qual st f fd) (S : FnScope N ps (defScope st)) (len : ∀ vs H Q E, sp vs H Q E → vs.length = ps.length)
    (hbody : ∀ (cdv : Value) (A : Around) (outer : List Env) (s : Shared) (H : Hp) (vs : List V) (Q : VK) (E : XK), A.guards = some [] → Room k (A.deeper (envOfC qual (defScope st) s.heap.objs.size f cdv)) → sp vs H Q E →
      ∃ t, PSs (cxOf CX0 P w K mg base N qual (defScope st) f cdv A outer s H E).nox (defBody st) t ∧ t { nx := fun _ H' => Q .non H', rt := Q } (start N vs) H) : FnG P w K mg base CX0 (k + 1) f fd ps sp := by
  obtain ⟨oc, od, kV, doc, pm, an, cdv, ct, osl, rfl, lk, hcd⟩ := F.ex
  refine ⟨len, fun A outer s H args us vs Q E hg hr e0 hb r hsp => LamX.run_ofS lk hcd S hr e0 hb r (len _ _ _ _ hsp) fun hr2 => ?_⟩
  obtain ⟨t, h, q⟩ := hbody cdv A outer s H vs Q E hg hr2 hsp
  exact ⟨t, h.nox, q⟩
/-- its code object is known -/
theorem okC (F : Fun K x qual st f fd) (hc : fd.code = .ref c) (S : FnScope N ps (defScope st)) (len : ∀ vs H Q E, sp vs H Q E → vs.length = ps.length)
    (hbody : ∀ (A : Around) (outer : List Env) (s : Shared) (H : Hp) (vs : List V) (Q : VK) (E : XK), Room k (A.deeper (envOfC qual (defScope st) s.heap.objs.size f (.ref c))) → sp vs H Q E →
      ∃ t, PSs (cxOf CX0 P w K mg base N qual (defScope st) f (.ref c) A outer s H E).nox (defBody st) t ∧ t { nx := fun _ H' => Q .non H', rt := Q } (start N vs) H) : FnOk P w K mg base CX0 (k + 1) f fd ps sp := by
  obtain ⟨oc, od, kV, doc, pm, an, cdv, ct, osl, rfl, lk, hcd⟩ := F.ex
  obtain rfl : cdv = .ref c := hc
  refine fn_of lk hcd S len fun A outer s H vs Q E hr hsp => ?_
  obtain ⟨t, h, q⟩ := hbody A outer s H vs Q E hr hsp
  exact ⟨t, h.nox, q⟩
end
section
variable {X : Cx} {CX : CXT} {k : Nat} {f : Addr} {fd : FuncData} {ps : List Str} {sp : Sp} {E : XK} {x : Str} {e : Expr} {es : List Expr} {t : TA} {p pos : Pos}
theorem run_fnG {pins : List (Addr × Obj)} {σ : L2.St} {H : Hp} {s : Shared} {Q : VK} {us : List Value} {vs : List V} (F : FnG X.prog X.w X.K X.mg X.base CX k f fd ps sp) (hg : X.A.guards = some []) (hr : Room k X.A) (hb : Binds X.K fd ps []) (hx : Passes CX X E)
    (I : Inv X pins σ H s) (r : Vals vs us) (h : sp vs H Q E) : wpAny (model X.prog X.w) X.A (call (.ref f) us) (EP X pins σ Q) X.xe s := by
  have hl : us.length = ps.length := by rw [← r.length]; exact F.len _ _ _ _ h
  have hb2 : BindsTo s fd ⟨us, []⟩ (ps.zip us) := by
    have := hb s us I.kIn (by rw [List.append_nil]; exact hl)
    rwa [List.append_nil] at this
  refine wpAny_call (codeAny_mono (F.run X.A X.stack s H ⟨us, []⟩ us vs Q E hg hr I.env0 hb2 r h) fun r s' hq => ?_)
  match r, hq with
  | .error e, hq => exact hx pins σ H s e s' I hq
  | .ok (.ret u), hq => exact I.after hq
  | .ok .next, hq => exact False.elim hq
  | .ok .brk, hq => exact False.elim hq
  | .ok .cont, hq => exact False.elim hq
theorem pe_callG (F : FnG X.prog X.w X.K X.mg X.base CX k f fd ps sp) (hg : X.A.guards = some []) (hr : Room k X.A) (hn : Gl X x) (hm : X.mg x = some (.ref f)) (hk : PySem.W.keepIn X.K (.ref f) = true) (hb : Binds X.K fd ps []) (hx : Passes CX X E)
    (ha : PA X (e :: es) t) (hdb : (x == ("__debug__" : Str)) = false := by decide) (he : starEach (e :: es) X.env = (false, eval e X.env) :: starEach es X.env := by rfl) (hpl : (backTo pos (starEach es X.env)).any (·.1) = false := by rfl) :
    PE X (.Call (.Name x p) (e :: es) [] pos) (fun σ H Q => t σ H fun vs H1 => sp vs H1 Q E) := by
  refine ⟨fun pins s σ H Q I h => wpAny_Call_Name_kw (ld_glob I hn hm ?_ hdb)⟩
  refine PySem.W.callWith_K (h₀ := X.base) I.ok.mod.kin hk (thn (ha.run pos pins s σ H _ I h) fun us s1 z => ?_) he hpl
  obtain ⟨vs, H1, I1, r, q⟩ := z
  exact ⟨I1.kIn, run_fnG F hg hr hb hx I1 r q⟩
/-- repr of data -/
def rRepr (K : PySem.W.Frag) : List V → Hp → VK → Prop := fun xs H Q => ∃ a d, xs = [.ref a] ∧ Dp K H (.ref a) d ∧ d.showable = true ∧ d.hasDict = false ∧ d.depth ≤ 60 ∧ d.shown.length ≤ sizeLine ∧ Q (.str d.shown) H
theorem call_repr (hg : X.A.guards = some []) (hu : X.A.units + 64 < cLine) : CallR X (.builtin "repr") (rRepr X.K) := by
  intro pins s σ H xs us Q I r h
  obtain ⟨a, d, rfl, hd, h1, h2, h3, h4, q⟩ := h
  obtain ⟨u, rfl, ru⟩ := vals1 r
  obtain rfl : u = Value.ref a := ru
  obtain ⟨as, rd⟩ := Dp.reads I d _ _ hd rfl
  exact repr_of_reads' rd h1 (fun e => by rw [h2] at e; cases e) hg (by omega) (fun _ _ e => e) (fun h' u tk hk => ⟨.str d.shown, H, I.kept hk, ⟨u, rfl⟩, q⟩) h4
end

/-! ### the end -/
/-- what is tracked at the law's entry: the tables, and the script unless it is the module's own -/
structure Ent (P : Program) (w : World) (K : PySem.W.Frag) (a : Addr) (cs : List (Addr × Addr)) (h : Heap) (ns : List Int) (H : Hp) : Prop where
  tab : ∀ p ∈ cs, H p.2 = some (.tbl #[])
  scr : SqL K H a (ns.map V.int)
  ok : HOk P w H h
  out : ∀ b u, H b = some u → K.lookup b = none
  only : ∀ b u, H b = some u → (u = .tbl #[] ∧ b ∈ cs.map (·.2)) ∨ (∃ xs o, u = .frz o (.lst xs) ∧ b = a)
theorem ent {P : Program} {w : World} {K : PySem.W.Frag} {a : Addr} {cs : List (Addr × Addr)} {h : Heap} {vs : List Value} {ns : List Int} (KX : K.In h) (hT : ∀ p ∈ cs, h.get? p.2 = some { cls := .none, data := .fields #[] }) (nT : ∀ p ∈ cs, K.lookup p.2 = none)
    (ha : h.get? a = some { cls := .type "list", data := .seq vs.toArray }) (hi : IntsAre vs ns) (hl : ns.length ≤ sizeLine) : ∃ H, Ent P w K a cs h ns H := by
  have rv := vals_ints hi
  have inT : ∀ b, b ∈ cs.map (·.2) → h.get? b = some { cls := .none, data := .fields #[] } ∧ K.lookup b = none := fun b m => by
    obtain ⟨p, hp, rfl⟩ := List.mem_map.mp m
    exact ⟨hT p hp, nT p hp⟩
  have aT : a ∉ cs.map (·.2) := fun m => by
    have z := (inT a m).1
    rw [ha] at z
    exact nomatch congrArg Obj.cls (Option.some.inj z)
  have hm : ∀ p ∈ cs, p.2 ∈ cs.map (·.2) := fun p hp => List.mem_map_of_mem hp
  by_cases hk : K.lookup a = none
  · refine ⟨fun b => if b ∈ cs.map (·.2) then some (.tbl #[]) else if b = a then some (.frz { cls := .type "list", data := .seq vs.toArray } (.lst (ns.map V.int))) else none,
      fun p hp => if_pos (hm p hp), .inl (.inr ⟨{ cls := .type "list", data := .seq vs.toArray }, ?_⟩), fun b u e => ?_, fun b u e => ?_, fun b u e => ?_⟩
    · show (if a ∈ cs.map (·.2) then _ else _) = _
      rw [if_neg aT, if_pos rfl]
    · by_cases m : b ∈ cs.map (·.2)
      · rw [if_pos m] at e
        cases e
        exact (inT b m).1
      · rw [if_neg m] at e
        by_cases eb : b = a
        · rw [if_pos eb] at e
          cases e
          subst eb
          exact ⟨ha, by rw [List.length_map]; exact hl, vs, _, rv, ha⟩
        · rw [if_neg eb] at e
          cases e
    · by_cases m : b ∈ cs.map (·.2)
      · exact (inT b m).2
      · rw [if_neg m] at e
        by_cases eb : b = a
        · rw [eb]; exact hk
        · rw [if_neg eb] at e
          cases e
    · by_cases m : b ∈ cs.map (·.2)
      · rw [if_pos m] at e
        cases e
        exact .inl ⟨rfl, m⟩
      · rw [if_neg m] at e
        by_cases eb : b = a
        · rw [if_pos eb] at e
          cases e
          exact .inr ⟨_, _, rfl, eb⟩
        · rw [if_neg eb] at e
          cases e
  · obtain ⟨o, ho⟩ := Option.ne_none_iff_exists'.mp hk
    have e0 := KX a o ho
    rw [ha] at e0
    cases e0
    refine ⟨fun b => if b ∈ cs.map (·.2) then some (.tbl #[]) else none, fun p hp => if_pos (hm p hp), .inr ⟨_, vs.toArray, _, ho, rfl, rfl, rfl, by rw [List.size_toArray, hi.length]; exact hl, by simpa using rv⟩, fun b u e => ?_, fun b u e => ?_, fun b u e => ?_⟩
    · by_cases m : b ∈ cs.map (·.2)
      · rw [if_pos m] at e
        cases e
        exact (inT b m).1
      · rw [if_neg m] at e
        cases e
    · by_cases m : b ∈ cs.map (·.2)
      · exact (inT b m).2
      · rw [if_neg m] at e
        cases e
    · by_cases m : b ∈ cs.map (·.2)
      · rw [if_pos m] at e
        cases e
        exact .inl ⟨rfl, m⟩
      · rw [if_neg m] at e
        cases e
end Own
set_option maxRecDepth 100000
set_option maxHeartbeats 4000000
/-! str(x), f"{x}" and x in y by own methods; repr of any plain value. -/
namespace Own
open PySem PySem.Spec PyProof.Rows L2
section
variable {X : Cx} {CX : CXT} {k : Nat} {C f : Addr} {fd : FuncData} {ps : List Str} {sp : Sp} {E : XK}
/-- str of an instance whose class has __str__ -/
def rStr (C : Addr) (sp : Sp) (E : XK) : List V → Hp → VK → Prop := fun xs H Q => ∃ a dx fs, xs = [.ref a] ∧ H a = some (.ins C dx fs) ∧ sp [.ref a] H (fun v H' => (∃ y, v = .str y) ∧ Q v H') E
theorem call_ownStr (F : FnOk X.prog X.w X.K X.mg X.base CX k f fd ps sp) (hr : Room (k + 2) X.A) (hs : PySem.W.findIn X.K (.ref C) "__str__" = some (some (.ref f))) (hf : PySem.W.isFn X.K (.ref f) = true) (hb : Binds X.K fd ps []) (hx : Passes CX X E) :
    CallR X (.type "str") (rStr C sp E) := by
  intro pins s σ H xs us Q I r h
  obtain ⟨a, dx, fs, rfl, ha, hsp⟩ := h
  obtain ⟨u, rfl, ru⟩ := vals1 r
  obtain rfl : u = Value.ref a := ru
  obtain ⟨mA, J, _⟩ := ins_get I.hok ha
  obtain ⟨od, J, _⟩ := J.look
  have hr2 : Room k X.A.in1.in1 := (Room.in1 (k := k + 1) hr).in1
  refine PySem.W.kso_call hr2.units0 I.kIn J hs hf (wpAny_mono (run_fnA F hr2 rfl hb hx I (vs := [.ref a]) (.cons rfl .nil) hsp) (fun w s' q => ?_) fun _ _ e => e)
  obtain ⟨v', H', I', rv, ⟨y, rfl⟩, q⟩ := q
  obtain ⟨t, rfl⟩ := rv
  exact ⟨.str y, H', I', ⟨t, rfl⟩, q⟩
/-- f"{x}" of such an instance -/
def tFmtO (C : Addr) (sp : Sp) (E : XK) (te : TE) : TE := fun σ H Q => te σ H fun x H1 => ∃ a dx fs, x = .ref a ∧ H1 a = some (.ins C dx fs) ∧ sp [.ref a] H1 (fun v H' => (∃ y, v = .str y) ∧ Q v H') E
theorem pe_fmtO {e : Expr} {te : TE} {pos : Pos} (he : PE X e te) (F : FnOk X.prog X.w X.K X.mg X.base CX k f fd ps sp) (hr : Room (k + 1) X.A) (hs : PySem.W.findIn X.K (.ref C) "__str__" = some (some (.ref f))) (hf : PySem.W.isFn X.K (.ref f) = true)
    (hfm : PySem.W.findIn X.K (.ref C) "__format__" = some (some (.builtin "object.__format__"))) (hm : PySem.W.mroIn X.K C (.type "object") = some true) (hb : Binds X.K fd ps []) (hx : Passes CX X E) : PE X (.FormattedValue e (-1) none pos) (tFmtO C sp E te) := by
  refine ⟨fun pins s σ H Q I h => ?_⟩
  refine wpAny_FormattedValue_plain (thn (he.run pins s σ H _ I h) fun v s1 hv => ?_)
  obtain ⟨x, H1, I1, r1, a, dx, fs, rfl, ha, hsp⟩ := hv
  obtain rfl : v = Value.ref a := r1
  obtain ⟨mA, J, _⟩ := ins_get I1.hok ha
  obtain ⟨od, J, _⟩ := J.look
  have hr1 : Room k X.A.in1 := hr.in1
  refine PySem.W.kfo_fieldS hr1.units0 I1.kIn J hfm hm hs hf (wpAny_mono (run_fnA F hr1 rfl hb hx (I1.tok _) (vs := [.ref a]) (.cons rfl .nil) hsp) (fun w s' q => ?_) fun _ _ e => e)
  obtain ⟨v', H', I', rv, ⟨y, rfl⟩, q⟩ := q
  obtain ⟨t, rfl⟩ := rv
  exact ⟨.str y, H', I', ⟨t, rfl⟩, q⟩
/-- x in y, y an instance whose class has __contains__ -/
def rIn (C : Addr) (sp : Sp) (E : XK) : R2 := fun x y H Q => ∃ a dx fs, y = .ref a ∧ H a = some (.ins C dx fs) ∧ sp [y, x] H (fun v H' => ∃ b, v = .bl b ∧ Q (.bl b) H') E
theorem op_inOwn (F : FnOk X.prog X.w X.K X.mg X.base CX k f fd ps sp) (hr : Room k X.A) (hs : PySem.W.findIn X.K (.ref C) "__contains__" = some (some (.ref f))) (hf : PySem.W.isFn X.K (.ref f) = true) (hb : Binds X.K fd ps []) (hx : Passes CX X E) :
    OpR X (compareOp .In) (rIn C sp E) := by
  intro pins s σ H x y u v Q I rx ry h
  obtain ⟨a, dx, fs, rfl, ha, hsp⟩ := h
  obtain rfl : v = Value.ref a := ry
  obtain ⟨mA, J, _⟩ := ins_get I.hok ha
  obtain ⟨od, J, _⟩ := J.look
  have KX := I.kIn
  have hty := beq_iff_eq.mp hf
  show wpAny _ _ (do return Value.bool (← contains (.ref a) u)) _ _ _
  refine wpAny_bind ?_
  unfold contains
  refine wpAny_holding ?_
  show wpAny _ _ (do if (← specialOf (.ref a) "__contains__") == some .none then _ else _) _ _ _
  refine wpAny_bind (wpAny_bind (J.type.here ((PySem.W.looks_findIn KX hs).here ?_)))
  have hne : ((some (Value.ref f) : Option Value) == some Value.none) = false := rfl
  simp only [hne, Bool.false_eq_true, if_false]
  unfold callSpecialUnlessNone?
  refine wpAny_bind (wpAny_bind (wpAny_bind (J.type.here ((PySem.W.looks_findIn KX hs).here ?_))))
  dsimp only
  refine wpAny_holding (wpAny_bind ((PySem.W.bind_fn KX _ hty).here ?_))
  have hne2 : (Value.ref f == Value.none) = false := rfl
  simp only [hne2, Bool.false_eq_true, if_false]
  have r2 : Vals [V.ref a, x] [Value.ref a, u] := .cons rfl (.cons rx .nil)
  refine wpAny_bind (wpAny_mono (run_fn F hr hb .nil hx I r2 hsp) (fun w s' q => ?_) fun _ _ e => e)
  obtain ⟨v', H', I', rv, b, rfl, q⟩ := q
  obtain rfl : w = Value.bool b := rv
  refine wpAny_pure ?_
  show wpAny _ _ (truthy (.bool b)) _ _ _
  exact wpAny_pure (wpAny_pure ⟨.bl b, H', I', rfl, q⟩)
end
/-- what repr shows of a plain value -/
inductive ReprOf (K : PySem.W.Frag) (H : Hp) : V → Str → Prop
  | non : ReprOf K H .non "None"
  | bl (b : Bool) : ReprOf K H (.bl b) (if b then "True" else "False")
  | int (i : Int) (h : i.natAbs.log2 < 1920) : ReprOf K H (.int i) (toString i : String)
  | str (x : Str) (h : (reprText x).length ≤ sizeLine) : ReprOf K H (.str x) (reprText x)
  | dat {a : Addr} {d : PyData} (h : Dp K H (.ref a) d) (h1 : d.showable = true) (h2 : d.hasDict = false) (h3 : d.depth ≤ 60) (h4 : d.shown.length ≤ sizeLine) : ReprOf K H (.ref a) d.shown
  | dct {a : Addr} (h : H a = some (.dK [])) : ReprOf K H (.ref a) (PyData.dict []).shown
def rReprA (K : PySem.W.Frag) : List V → Hp → VK → Prop := fun xs H Q => ∃ v t, xs = [v] ∧ ReprOf K H v t ∧ Q (.str t) H
section
variable {X : Cx}
theorem call_reprA (hg : X.A.guards = some []) (hu : X.A.units + 64 < cLine) : CallR X (.builtin "repr") (rReprA X.K) := by
  intro pins s σ H xs us Q I r h
  obtain ⟨v, t, rfl, hv, q⟩ := h
  obtain ⟨u, rfl, ru⟩ := vals1 r
  cases hv with
  | non =>
    obtain rfl : u = Value.none := ru
    exact PySem.P.repr_of_none ⟨.str _, H, I.tok _, ⟨_, rfl⟩, q⟩
  | bl b =>
    obtain rfl : u = Value.bool b := ru
    exact PySem.P.repr_of_bool ⟨.str _, H, I.tok _, ⟨_, rfl⟩, q⟩
  | int i h =>
    obtain ⟨tk, rfl⟩ := ru
    exact PySem.P.repr_of_int h ⟨.str _, H, I.tok _, ⟨_, rfl⟩, q⟩
  | str x h =>
    obtain ⟨tk, rfl⟩ := ru
    exact PySem.P.repr_of_str (h := ⟨.str _, H, I.tok _, ⟨_, rfl⟩, q⟩) (hsz := h)
  | dat h h1 h2 h3 h4 =>
    rename_i a d
    obtain rfl : u = Value.ref a := ru
    obtain ⟨as, rd⟩ := Dp.reads I d _ _ h rfl
    exact repr_of_reads' rd h1 (fun e => by rw [h2] at e; cases e) hg (by omega) (fun _ _ e => e) (fun h' u tk hk => ⟨.str d.shown, H, I.kept hk, ⟨u, rfl⟩, q⟩) h4
  | dct h =>
    rename_i a
    obtain rfl : u = Value.ref a := ru
    obtain ⟨_, hsm, vs, hkv, o, es, ep, e1, e2, e3, _, e5, _⟩ := dk_of I.hok h
    cases hkv
    have e6 : es.toList = [] := by
      cases hl : es.toList with
      | nil => rfl
      | cons x r => rw [hl] at e5; cases e5
    have rd : Reads s.heap (.ref a) (.dict []) (a :: [] ++ []) := Reads.dict e1 e2.1 e3 (by rw [e6]; exact .nil) (by rw [e6]; exact .nil)
    have hn : sysModules ∉ (a :: [] ++ [] : List Addr) := fun m => by
      rcases List.mem_cons.mp m with e | e
      · rw [e] at hsm
        simp at hsm
      · cases e
    exact repr_of_reads' rd (by rfl) (fun _ => hn) hg (by have : (PyData.dict []).depth ≤ 60 := by decide +kernel
                                                          omega) (fun _ _ e => e) (fun h' u tk hk => ⟨.str (PyData.dict []).shown, H, I.kept hk, ⟨u, rfl⟩, q⟩) (by decide +kernel)
end
end Own
set_option maxRecDepth 100000
set_option maxHeartbeats 4000000
/-! for x in range(i, j), however great i and j are. -/
namespace Own
open PySem PySem.Spec PyProof.Rows L2
theorem turn_long {P : Program} {w : World} {K : PySem.W.Frag} {tg : Expr} (b0 : Addr) (lo : Int) (n : Nat) : Turn P w K tg (Itr lo n) [b0] b0 (fun i h => IsLongIter h b0 (lo + (i : Nat) * 1) ((n : Int) - (i : Nat)) 1) where
  mem := List.mem_cons_self
  obj := fun i h st b hb => by
    obtain rfl : b = b0 := by simpa using hb
    exact ⟨_, st, fun v z => by
      have zz : Data.fields _ = Data.cell v := z
      cases zz⟩
  keep := fun _ _ _ st k => k b0 List.mem_cons_self _ st
  item := by
    intro X eP ew eK calm i pins s σ H E I fp st lt
    subst eP ew eK
    obtain ⟨q0, q1, q2, q3, q4, q5⟩ := fp b0 List.mem_cons_self
    have W := Walks.longrange (prog := X.prog) (w := X.w) (I.ok.hd calm) b0 lo 1 n
    refine W.item i s _ _ lt st fun v h' tk hv st2 kk => ?_
    obtain ⟨t, rfl⟩ := hv
    have I2 : Inv X pins σ H { s with heap := h', toks := tk } := I.turned (fun b o hb e => kk b o (by simpa using hb) e) q0 q1 q3 q4 q5
    refine ⟨_, rfl, go_of (s := { s with heap := h', toks := tk }) (n := "longrange_iterator") st2 rfl rfl (by decide) ⟨.int (lo + i), H, I2, ⟨t, by rw [Int.mul_one]⟩, ⟨rfl, rfl⟩, st2, fun b hb => (fp b hb).1⟩⟩
  done := by
    intro X eP ew eK calm i pins s σ H E I fp st ge
    subst eP ew eK
    obtain ⟨q0, q1, q2, q3, q4, q5⟩ := fp b0 List.mem_cons_self
    exact wpAny_pyNext_long_end (I.ok.hd calm) st (by have : n ≤ i := ge; omega) fun h' eb => ⟨rfl, I.turned (t' := s.toks) (fun b o hb e => eb b o hb e) q0 q1 q3 q4 q5⟩
  self := fun _ _ _ _ _ st h => wpAny_pyIter_longiter st h
section
variable {X : Cx} {tg : Expr}
def iRngW (ta : TA) : TI := fun σ H R => ta σ H fun vs H1 => ∃ i j : Int, vs = [.int i, .int j] ∧ R (Itr i (j - i).toNat) H1
theorem wide_it {pins : List (Addr × Obj)} {σ : L2.St} {H1 : Hp} {s1 : Shared} {R : It → Hp → Prop} {E : Value → Shared → Prop} {lo hi : Int} {ta tb tc : Tok} {tk : Nat} (I1 : Inv X pins σ H1 s1) (q : R (Itr lo (hi - lo).toNat) H1) :
    wpAny (model X.prog X.w) X.A (pyIter (.ref s1.heap.objs.size)) (PIE X pins σ tg R) E { s1 with heap := s1.heap.push { cls := .type "range", data := .fields #[.int lo ta, .int hi tb, .int 1 tc] }, toks := tk } := by
  have e2 : (((hi - lo).toNat : Nat) : Int) - ((0 : Nat) : Int) = Builtin.Range.rangeSize lo hi 1 := by rw [rangeSize_one]; split <;> omega
  have e1 : lo + ((0 : Nat) : Int) * 1 = lo := by simp
  have I2 : Inv X pins σ H1 { s1 with heap := s1.heap.push { cls := .type "range", data := .fields #[.int lo ta, .int hi tb, .int 1 tc] }, toks := tk } := I1.kept (t' := tk) fun b o e => Heap.get?_push_of_some _ e
  cases sm : Builtin.Range.small lo hi 1 with
  | true =>
    refine wpAny_pyIter_range (IsRange.new ..) sm ?_
    refine ⟨_, [_], _, _, H1, rfl, I2.kept (t' := tk) fun b o e => Heap.get?_push_of_some _ e, turn_range _ lo (hi - lo).toNat, ?_, fun b hb => ?_, q⟩
    · show IsRangeIter _ _ (lo + ((0 : Nat) : Int) * 1) ((((hi - lo).toNat : Nat) : Int) - ((0 : Nat) : Int)) 1
      rw [e1, e2]
      exact Heap.get?_push_size _ rfl
    · obtain rfl := List.mem_singleton.mp hb
      exact I2.fpOk (Nat.le_refl _) (I2.hok.fresh (Nat.le_refl _))
  | false =>
    refine wpAny_pyIter_longrange (IsRange.new ..) sm ?_
    refine ⟨_, [_], _, _, H1, rfl, I2.kept (t' := tk) fun b o e => Heap.get?_push_of_some _ e, turn_long _ lo (hi - lo).toNat, ?_, fun b hb => ?_, q⟩
    · show IsLongIter _ _ (lo + ((0 : Nat) : Int) * 1) ((((hi - lo).toNat : Nat) : Int) - ((0 : Nat) : Int)) 1
      rw [e1, e2]
      exact Heap.get?_push_size _ rfl
    · obtain rfl := List.mem_singleton.mp hb
      exact I2.fpOk (Nat.le_refl _) (I2.hok.fresh (Nat.le_refl _))
theorem pi_rangeW {a b : Expr} {ta : TA} {p pos : Pos} (hg : Gl X "range") (hm : X.mg "range" = none) (ha : PA X [a, b] ta) (h1 : starEach [a, b] X.env = [(false, eval a X.env), (false, eval b X.env)] := by rfl) (h2 : starEach [b] X.env = [(false, eval b X.env)] := by rfl) :
    PI X tg (.Call (.Name "range" p) [a, b] [] pos) (iRngW ta) := by
  refine ⟨fun pins s σ H R I hw => ?_⟩
  refine Call_ (ld_blt I hg hm boot_range (PyProof.Rows.callWith_type1 (thn (ha.run pos pins s σ H _ I hw) fun us s1 z => ?_) (by rw [h1, h2]) (by rw [h2]; rfl)))
  obtain ⟨vs, H1, I1, rv, lo, hi, rfl, q⟩ := z
  cases rv with
  | cons ra rr =>
    cases rr with
    | cons rb rr =>
      cases rr
      obtain ⟨ta', rfl⟩ := ra
      obtain ⟨tb', rfl⟩ := rb
      exact call_range_2 (wide_it I1 q)
end
end Own
/-! Arithmetic of fractions strictly inside a piece whose ends are neighbours. -/
namespace PieM
/-- p/q stands strictly between a/b and c/d -/
def Ins (a b c d p q : Int) : Prop := a * q < p * b ∧ p * d < c * q
structure Nb (a b c d : Int) : Prop where
  a0 : 0 ≤ a
  ab : a < b
  c0 : 0 < c
  cd : c ≤ d
  nb : b * c - a * d = 1
variable {a b c d : Int}
theorem spot (h : Nb a b c d) (p q : Int) : (c * q - p * d) * b + (p * b - a * q) * d = q := by
  have := h.nb
  have e : (c * q - p * d) * b + (p * b - a * q) * d = q * (b * c - a * d) := by grind
  rw [e, this, Int.mul_one]
theorem reach (h : Nb a b c d) {p q : Int} (i : Ins a b c d p q) : b + d ≤ q := by
  have e := spot h p q
  have hb : 0 < b := by have := h.a0; have := h.ab; omega
  have hd : 0 < d := by have := h.c0; have := h.cd; omega
  have u : 1 ≤ c * q - p * d := by have := i.2; omega
  have v : 1 ≤ p * b - a * q := by have := i.1; omega
  have x : 1 * b ≤ (c * q - p * d) * b := Int.mul_le_mul_of_nonneg_right u (by omega)
  have y : 1 * d ≤ (p * b - a * q) * d := Int.mul_le_mul_of_nonneg_right v (by omega)
  omega
/-- the least top with this bottom that comes behind the left end -/
def top (a b q : Int) : Int := a * q / b + 1
theorem top_gt (h : Nb a b c d) (q : Int) : a * q < top a b q * b := by
  have hb : 0 < b := by have := h.a0; have := h.ab; omega
  unfold top
  exact Int.lt_ediv_add_one_mul_self _ hb
theorem top_le (h : Nb a b c d) {p q : Int} (i : a * q < p * b) : top a b q ≤ p := by
  have hb : 0 < b := by have := h.a0; have := h.ab; omega
  unfold top
  have := Int.ediv_lt_of_lt_mul hb i
  omega
theorem ins_top (h : Nb a b c d) {p q : Int} (i : Ins a b c d p q) : Ins a b c d (top a b q) q := by
  have hd : 0 < d := by have := h.c0; have := h.cd; omega
  refine ⟨top_gt h q, ?_⟩
  have x : top a b q * d ≤ p * d := Int.mul_le_mul_of_nonneg_right (top_le h i.1) (by omega)
  have := i.2
  omega
theorem ins_pos (h : Nb a b c d) {p q : Int} (i : Ins a b c d p q) : 0 < p ∧ p < q := by
  have hb : 0 < b := by have := h.a0; have := h.ab; omega
  have hd : 0 < d := by have := h.c0; have := h.cd; omega
  have hq := reach h i
  have aq : 0 ≤ a * q := Int.mul_nonneg h.a0 (by omega)
  have p0 : 0 < p * b := by have := i.1; omega
  have pp : 0 < p := Int.pos_of_mul_pos_left p0 hb
  have cq : c * q ≤ d * q := Int.mul_le_mul_of_nonneg_right h.cd (by omega)
  have pd : p * d < q * d := by have := i.2; rw [Int.mul_comm q d]; omega
  exact ⟨pp, Int.lt_of_mul_lt_mul_right pd (by omega)⟩
theorem ins_div (h : Nb a b c d) {g p q : Int} (hg : 0 < g) (i : Ins a b c d (g * p) (g * q)) : Ins a b c d p q := by
  refine ⟨?_, ?_⟩
  · have := i.1
    rw [show a * (g * q) = g * (a * q) by grind, show g * p * b = g * (p * b) by grind] at this
    exact Int.lt_of_mul_lt_mul_left this (by omega)
  · have := i.2
    rw [show c * (g * q) = g * (c * q) by grind, show g * p * d = g * (p * d) by grind] at this
    exact Int.lt_of_mul_lt_mul_left this (by omega)
/-- no divisor of n from q0 on, below q, has a fraction inside -/
def Free (a b c d n q : Int) : Prop := ∀ r, b + d ≤ r → r < q → n % r = 0 → ¬ (top a b r * d < c * r)
theorem Free.none (h : Nb a b c d) {n q : Int} (f : Free a b c d n q) {r p : Int} (hr : r < q) (hn : n % r = 0) : ¬ Ins a b c d p r := fun i =>
  f r (reach h i) hr hn (ins_top h i).2
/-- the first fraction found has no common divisor -/
theorem first_cop (h : Nb a b c d) {n q : Int} (f : Free a b c d n q) (hn : n % q = 0) (t : top a b q * d < c * q) : Int.gcd (top a b q) q = 1 := by
  have i : Ins a b c d (top a b q) q := ⟨top_gt h q, t⟩
  have hq := reach h i
  have hb : 0 < b := by have := h.a0; have := h.ab; omega
  have hd : 0 < d := by have := h.c0; have := h.cd; omega
  generalize top a b q = p at i
  have gp : (Int.gcd p q : Int) ∣ p := Int.gcd_dvd_left ..
  have gq : (Int.gcd p q : Int) ∣ q := Int.gcd_dvd_right ..
  obtain ⟨p', hp'⟩ := gp
  obtain ⟨q', hq'⟩ := gq
  have g0 : 0 < (Int.gcd p q : Int) := by
    have : Int.gcd p q ≠ 0 := fun e => by
      have := (Int.gcd_eq_zero_iff.mp e).2
      omega
    omega
  generalize Int.gcd p q = g at hp' hq' g0 ⊢
  rw [hp', hq'] at i
  have i' := ins_div h g0 i
  have q0 := reach h i'
  by_cases e : g = 1
  · exact e
  · exfalso
    have g2 : 2 ≤ (g : Int) := by omega
    have lt : q' < q := by
      rw [hq']
      have : 2 * q' ≤ (g : Int) * q' := Int.mul_le_mul_of_nonneg_right g2 (by omega)
      omega
    have dv : n % q' = 0 := by
      have : q ∣ n := Int.dvd_of_emod_eq_zero hn
      have : q' ∣ n := Int.dvd_trans ⟨(g : Int), by rw [hq']; grind⟩ this
      exact Int.emod_eq_zero_of_dvd this
    exact (f.none h lt dv) i'
/-- where n meets 0 at no fraction inside, the octaves are the same all over -/
theorem floor_same (h : Nb a b c d) {n : Int} (n0 : n ≠ 0) (f : Free a b c d n ((n.natAbs : Int) + 1)) {p q : Int} (i : Ins a b c d p q) : n * p / q = n * (a + c) / (b + d) := by
  have hb : 0 < b := by have := h.a0; have := h.ab; omega
  have hd : 0 < d := by have := h.c0; have := h.cd; omega
  have hq := reach h i
  have im : Ins a b c d (a + c) (b + d) := by
    have := h.nb
    refine ⟨?_, ?_⟩
    · have : a * (b + d) = a * b + a * d := Int.mul_add ..
      have : (a + c) * b = a * b + b * c := by grind
      omega
    · have : (a + c) * d = a * d + c * d := Int.add_mul ..
      have : c * (b + d) = b * c + c * d := by grind
      omega
  have key : ∀ k x y u v : Int, 0 < y → 0 < v → Ins a b c d x y → Ins a b c d u v → n * x < k * y → k * v ≤ n * u → False := fun k x y u v y0 v0 i1 i2 l1 l2 => by
    have dv : n % (n.natAbs : Int) = 0 := Int.emod_eq_zero_of_dvd (Int.natAbs_dvd.mpr (Int.dvd_refl n))
    rcases Int.lt_or_gt_of_ne n0 with hn | hn
    · refine f.none h (r := -n) (p := -k) (by omega) (by rw [show (n.natAbs : Int) = -n by omega] at dv; exact dv) ⟨?_, ?_⟩
      · have e1 : a * v * (-n) < u * b * (-n) := Int.mul_lt_mul_of_pos_right i2.1 (by omega)
        have e2 : k * v * b ≤ n * u * b := Int.mul_le_mul_of_nonneg_right l2 (by omega)
        have e3 : a * (-n) * v < (-k) * b * v := by
          rw [show a * (-n) * v = a * v * (-n) by grind, show (-k) * b * v = -(k * v * b) by grind]
          have : u * b * (-n) = -(n * u * b) := by grind
          omega
        exact Int.lt_of_mul_lt_mul_right e3 (by omega)
      · have e1 : x * d * (-n) < c * y * (-n) := Int.mul_lt_mul_of_pos_right i1.2 (by omega)
        have e2 : n * x * d < k * y * d := Int.mul_lt_mul_of_pos_right l1 hd
        have e3 : (-k) * d * y < c * (-n) * y := by
          rw [show (-k) * d * y = -(k * y * d) by grind, show c * (-n) * y = c * y * (-n) by grind]
          have : x * d * (-n) = -(n * x * d) := by grind
          omega
        exact Int.lt_of_mul_lt_mul_right e3 (by omega)
    · refine f.none h (r := n) (p := k) (by omega) (Int.emod_self ..) ⟨?_, ?_⟩
      · have e1 : a * y * n < x * b * n := Int.mul_lt_mul_of_pos_right i1.1 hn
        have e2 : n * x * b < k * y * b := Int.mul_lt_mul_of_pos_right l1 hb
        have e3 : a * n * y < k * b * y := by
          rw [show a * n * y = a * y * n by grind, show k * b * y = k * y * b by grind]
          have : x * b * n = n * x * b := by grind
          omega
        exact Int.lt_of_mul_lt_mul_right e3 (by omega)
      · have e1 : u * d * n < c * v * n := Int.mul_lt_mul_of_pos_right i2.2 hn
        have e2 : k * v * d ≤ n * u * d := Int.mul_le_mul_of_nonneg_right l2 (by omega)
        have e3 : k * d * v < c * n * v := by
          rw [show k * d * v = k * v * d by grind, show c * n * v = c * v * n by grind]
          have : u * d * n = n * u * d := by grind
          omega
        exact Int.lt_of_mul_lt_mul_right e3 (by omega)
  have q0 : 0 < q := by omega
  have r0 : 0 < b + d := by omega
  generalize hk : n * (a + c) / (b + d) = k
  have k1 : k * (b + d) ≤ n * (a + c) := by rw [← hk]; exact Int.ediv_mul_le _ (by omega)
  have k2 : n * (a + c) < (k + 1) * (b + d) := by rw [← hk]; exact Int.lt_ediv_add_one_mul_self _ r0
  have lo : k ≤ n * p / q := Int.le_ediv_of_mul_le q0 (Int.not_lt.mp fun l => key k p q (a + c) (b + d) q0 r0 i im l k1)
  have hi : n * p / q < k + 1 := Int.ediv_lt_of_lt_mul q0 (Int.not_le.mp fun l => key (k + 1) (a + c) (b + d) p q r0 q0 im i k2 l)
  omega
end PieM
set_option maxRecDepth 100000
set_option maxHeartbeats 4000000
set_option exponentiation.threshold 9000
namespace Toy
open PySem L2
open Rat (divInt)
section
variable {P : Program} {w : World} {K : PySem.W.Frag} {mg : Str → Option Value} {base : Heap} {C CP CT CBN CBP CM pR fR fM : Addr}
def spReach (CP C : Addr) : Sp := fun vs H Q _ => ∃ x a b c d, vs = [.ref x] ∧ PieAt CP C H x a b c d ∧ Q (.int (b + d)) H
abbrev sReach : Stmt := inClass (top 28) 5
theorem scReach : FnScope ["self"] ["self"] (defScope sReach) := ⟨rfl, rfl, rfl, by decide +kernel, rfl, by decide +kernel, by decide +kernel⟩
theorem ok_reach {f : Addr} {fd : FuncData} (F : Fun K "reach" "Piece.reach" sReach f fd) (T_Ratio : RatT K mg C) (T_Piece : PieT K mg CP) : FnOk P w K mg base CX0 1 f fd ["self"] (spReach CP C) := by
  refine F.ok scReach (fun vs H Q E h => ?_) (fun cdv A outer s H vs Q E hr h => ?_)
  · obtain ⟨x, a, b, c, d, rfl, _⟩ := h
    rfl
  · obtain ⟨x, a, b, c, d, rfl, ⟨dx, l, r, hx, ⟨dl, hl⟩, ⟨dr, hr2⟩⟩, k⟩ := h
    have nd := scReach.nd
    refine ⟨_, pss_one (ps_ret (pe_op op_add (pe_fld (pe_fld (pv 0) rfl) rfl) (pe_fld (pe_fld (pv 0) rfl) rfl))), ?_⟩
    exact ⟨_, rfl, _, CP, dx, _, _, rfl, hx, T_Piece.cl, T_Piece.nL, pieF_left _ _, _, C, dl, _, _, rfl, hl, T_Ratio.cl, T_Ratio.nB, ratF_bot _ _, _, rfl, _, CP, dx, _, _, rfl, hx, T_Piece.cl, T_Piece.nR, pieF_right _ _, _, C, dr, _, _, rfl, hr2, T_Ratio.cl, T_Ratio.nB, ratF_bot _ _, _, _, rfl, rfl, k⟩
/-- a number and a piece: the first fraction at which the number's note meets another, if there is one -/
def spMet (CP C : Addr) : Sp := fun vs H Q _ => ∃ n p a b c d, vs = [.int n, .ref p] ∧ PieAt CP C H p a b c d ∧ Nbr a b c d ∧ (-96 ≤ n ∧ n ≤ 96) ∧
  (∀ H', Same H H' → PieM.Free a b c d n ((n.natAbs : Int) + 1) → Q .non H') ∧ (∀ q x H', Same H H' → b + d ≤ q → q ≤ (n.natAbs : Int) → n % q = 0 → PieM.Free a b c d n q → PieM.top a b q * d < c * q → RatQ C H' x (divInt (PieM.top a b q) q) → Q (.ref x) H')
abbrev sMet : Stmt := top 30
theorem scMet : FnScope ["number", "piece", "bottom", "top"] ["number", "piece"] (defScope sMet) := ⟨rfl, rfl, rfl, by decide +kernel, rfl, by decide +kernel, by decide +kernel⟩
theorem ok_met {f f1 f2 : Addr} {fd fd1 fd2 fdR : FuncData} (F : Fun K "met" "met" sMet f fd) (T : Bl mg) (T_Ratio : RatT K mg C) (T_Piece : PieT K mg CP) (C_is_int : Cal P w K mg base 1 "is_int" f1 fd1 ["value"] (spIsInt K)) (PM : PropOf K CP "reach" pR fR) (FR : FnOk P w K mg base CX0 1 fR fdR ["self"] (spReach CP C)) (bR : Binds K fdR ["self"] [])
    (M_Ratio : Mak P w K mg base 2 "Ratio" C f2 fd2 ["self", "top", "bottom"] (spRInit C)) : FnOk P w K mg base CX0 4 f fd ["number", "piece"] (spMet CP C) := by
  refine F.ok scMet (fun vs H Q E h => ?_) (fun cdv A outer s H vs Q E hr h => ?_)
  · obtain ⟨n, p, a, b, c, d, rfl, _⟩ := h
    rfl
  · obtain ⟨n, p, a, b, c, d, rfl, hp, nb, ⟨n1, n2⟩, q0, q1⟩ := h
    have nd := scMet.nd
    refine ⟨_, pss_cons (ps_if (PW.pt (pw_or (pt_not (pt_val (pe_call C_is_int.F (hr.mono (by decide)) (by rfl) C_is_int.mgf C_is_int.kp C_is_int.b .nil pass0 (pa_cons (pv 0) pa_nil)))) (pw_or1 (pt_not (pt_chain op_le op_le (pe_un un_neg pe_int) (pv 0) pe_int))))) pss_never pss_nil)
      (pss_cons (ps_if (pt_not (pt_val (pe_callB call_isi (by rfl) T.isinstance (by decide +kernel) (pa_cons (pv 1) (pa_cons (Own.pe_gref (by rfl) T_Piece.mgC) pa_nil))))) pss_never pss_nil)
      (pss_cons (ps_for PassesOwn.never rfl (Own.pi_rangeW (by rfl) T.range (pa_cons (pe_prop (pv 1) T_Piece.cl PM FR (hr.mono (by decide)) bR .nil pass0 rfl) (pa_cons (pe_op op_add (pe_callB call_abs (by rfl) T.abs (by decide +kernel) (pa_cons (pv 0) pa_nil)) pe_int) pa_nil))) (pg_name (i := 2) nd rfl (Or.inl rfl)) (pss_one (ps_if (pt_cmpR op_eq (pe_op op_mod (pv 0) (pv 2)) pe_int (nomark _)) (pss_cons (ps_set (i := 3) nd rfl (Or.inl rfl) (pe_op op_add (pe_op op_fdivW (pe_op op_mulW (pe_fld (pe_fld (pv 1) rfl) rfl) (pv 2)) (pe_fld (pe_fld (pv 1) rfl) rfl)) pe_int))
      (pss_one (ps_if (pt_cmpR op_lt (pe_op op_mulW (pv 3) (pe_fld (pe_fld (pv 1) rfl) rfl)) (pe_op op_mulW (pe_fld (pe_fld (pv 1) rfl) rfl) (pv 2)) (nomark _)) (pss_one (ps_ret (pe_make M_Ratio.M M_Ratio.F (hr.mono (by decide)) (by rfl) M_Ratio.mgC M_Ratio.b .nil pass0 (pa_cons (pv 3) (pa_cons (pv 2) pa_nil))))) pss_nil))) pss_nil)))
      (pss_one (ps_ret pe_non)))), ?_⟩
    obtain ⟨dx, l, r, hx, ⟨dl, hl⟩, ⟨dr, hr2⟩⟩ := id hp
    refine ⟨_, rfl, .int n, _, true, rfl, .base (.int _), isIntK_int, _, rfl, iteF ?_⟩
    refine ⟨_, rfl, _, rfl, _, _, rfl, rfl, _, rfl, iteTb (decide_eq_true n1) ?_⟩
    refine ⟨_, _, rfl, rfl, _, rfl, iteFb (by rw [decide_eq_true n2]; rfl) ?_⟩
    refine ⟨_, rfl, _, _, _, _, true, rfl, .own _, T_Piece.ty hx, T_Piece.kS, _, rfl, iteF ?_⟩
    refine ⟨_, rfl, p, dx, _, rfl, hx, p, a, b, c, d, rfl, hp, ?_⟩
    refine ⟨_, rfl, _, rfl, _, _, rfl, rfl, _, _, rfl, ?_⟩
    have ab : (if n < 0 then -n else n) = (n.natAbs : Int) := by split <;> omega
    rw [ab]
    have b0 : 0 < b := by have := nb.a0; have := nb.ab; omega
    have d0 : 0 < d := by have := nb.c0; have := nb.cd; omega
    refine for_range (lo := b + d) (n := ((n.natAbs : Int) + 1 - (b + d)).toNat) (fun i σ H' => ∃ y2 y3, σ = [some (.int n), some (.ref p), y2, y3] ∧ H' = H ∧ PieM.Free a b c d n (b + d + i)) ⟨_, _, rfl, rfl, fun r r1 r2 _ => absurd r2 (by omega)⟩ ?_ ?_
    · rintro i σ H' hi ⟨y2, y3, rfl, rfl, fr⟩
      have q0' : 0 < b + d + (i : Int) := by omega
      have qn : b + d + (i : Int) ≤ (n.natAbs : Int) := by omega
      have q96 : b + d + (i : Int) ≤ 96 := by omega
      have zq : Sz (b + d + (i : Int)) := Sz.of (Nat.lt_of_le_of_lt (show (b + d + (i : Int)).natAbs ≤ 96 by omega) (by decide +kernel))
      refine ⟨_, rfl, _, rfl, _, _, rfl, rfl, q0', rfl, _, rfl, ?_⟩
      by_cases hm : n % (b + d + (i : Int)) = 0
      · refine iteTb (by rw [vdec, decide_eq_true hm]) ?_
        refine ⟨_, rfl, _, CP, dx, _, _, rfl, hx, T_Piece.cl, T_Piece.nL, pieF_left _ _, _, C, dl, _, _, rfl, hl, T_Ratio.cl, T_Ratio.nT, ratF_top _ _, _, rfl, _, _, rfl, rfl, nb.za.mul zq, _, rfl, _, CP, dx, _, _, rfl, hx, T_Piece.cl, T_Piece.nL, pieF_left _ _, _, C, dl, _, _, rfl, hl, T_Ratio.cl, T_Ratio.nB, ratF_bot _ _, _, _, rfl, rfl, Sz.divW b0 nb.zb, _, _, rfl, rfl, ?_⟩
        have tb : PieM.top a b (b + d + (i : Int)) ≤ b + d + (i : Int) := by
          have h1 : a * (b + d + (i : Int)) / b < b + d + (i : Int) := Int.ediv_lt_of_lt_mul b0 (by rw [Int.mul_comm (b + d + (i : Int)) b]; exact Int.mul_lt_mul_of_pos_right nb.ab q0')
          unfold PieM.top
          omega
        have t0 : 0 < PieM.top a b (b + d + (i : Int)) := by
          have h1 : 0 ≤ a * (b + d + (i : Int)) / b := Int.ediv_nonneg (Int.mul_nonneg nb.a0 (by omega)) (by omega)
          unfold PieM.top
          omega
        have zt : Sz (PieM.top a b (b + d + (i : Int))) := Sz.of (Nat.lt_of_le_of_lt (show (PieM.top a b (b + d + (i : Int))).natAbs ≤ 96 by omega) (by decide +kernel))
        refine ⟨_, rfl, _, rfl, _, CP, dx, _, _, rfl, hx, T_Piece.cl, T_Piece.nR, pieF_right _ _, _, C, dr, _, _, rfl, hr2, T_Ratio.cl, T_Ratio.nB, ratF_bot _ _, _, _, rfl, rfl, zt.mul nb.zd, _, rfl, _, CP, dx, _, _, rfl, hx, T_Piece.cl, T_Piece.nR, pieF_right _ _, _, C, dr, _, _, rfl, hr2, T_Ratio.cl, T_Ratio.nT, ratF_top _ _, _, rfl, _, _, rfl, rfl, nb.zc.mul zq, _, _, rfl, rfl, _, rfl, ?_⟩
        by_cases hi2 : PieM.top a b (b + d + (i : Int)) * d < c * (b + d + (i : Int))
        · refine iteTb (decide_eq_true hi2) ?_
          exact ⟨_, rfl, _, rfl, mkQ (by omega) zq rfl fun x H' s hx' => q1 _ x H' s (by omega) qn hm fr hi2 hx'⟩
        · refine iteFb (decide_eq_false hi2) ?_
          refine ⟨_, _, rfl, rfl, fun r r1 r2 r3 => ?_⟩
          rcases Int.lt_or_le r (b + d + (i : Int)) with h | h
          · exact fr r r1 h r3
          · have e : r = b + d + (i : Int) := by omega
            rw [e]
            exact hi2
      · refine iteFb (by rw [vdec, decide_eq_false hm]) ?_
        refine ⟨_, _, rfl, rfl, fun r r1 r2 r3 => ?_⟩
        rcases Int.lt_or_le r (b + d + (i : Int)) with h | h
        · exact fr r r1 h r3
        · have e : r = b + d + (i : Int) := by omega
          rw [e] at r3
          exact absurd r3 hm
    · rintro σ H' ⟨y2, y3, rfl, rfl, fr⟩
      refine q0 H' (Same.refl _) fun r r1 r2 => fr r r1 (by omega)
end
end Toy
set_option maxRecDepth 100000
set_option maxHeartbeats 4000000
set_option exponentiation.threshold 9000
namespace Toy
open PySem PySem.Spec PyProof.Rows L2
open Rat (divInt)
structure ErT (K : PySem.W.Frag) (mg : Str → Option Value) (x fld : Str) (C fI : Addr) : Prop where
  o : OexC K C
  mgC : mg x = some (.ref C)
  ini : PySem.W.findIn K (.ref C) "__init__" = some (some (.ref fI))
  tyI : PySem.W.typeIn K (.ref fI) = some (.type "function")
  no : PySem.W.findIn K (.ref C) fld = some none
  xf : XfC K C
def spErI (C : Addr) (fld : Str) : Sp := fun vs H Q _ => ∃ a v, vs = [.ref a, v] ∧ H a = some (exo a C none) ∧ ∀ d, H d = none → d ≠ a → Q .non (upd (upd H d (exd d [(fld, v)])) a (exo a C (some d)))
theorem erI_go {H1 : Hp} {a C : Addr} {fld : Str} {v : V} {Q : XK} {E : XK} (ha : H1 a = none) (k : ∀ d H2, H1 d = none → Same H1 H2 → H2 d = some (.xd [(fld, v)]) → Q (.ref C) (some d) H2) :
    spErI C fld [.ref a, v] (upd H1 a (exo a C none)) (fun v H2 => v = .non ∧ ∃ (d : Addr) (fs : List (Str × V)), H2 a = some (exo a C (some d)) ∧ H2 d = some (exd d fs) ∧ H1 d = none ∧ Q (.ref C) (some d) (upd (del H2 a) d (.xd fs))) E := by
  refine ⟨a, v, rfl, upd_same, fun d hd hne => ?_⟩
  rw [upd_ne hne] at hd
  refine ⟨rfl, d, [(fld, v)], upd_same, by rw [upd_ne hne, upd_same], hd, k d _ hd (fun b o h => ?_) upd_same⟩
  have nd := ne_of_none h hd
  have na := ne_of_none h ha
  rw [upd_ne nd, del_ne na, upd_ne na, upd_ne nd, upd_ne na]
  exact h
/-- three fields -/
def spErM (C : Addr) : Sp := fun vs H Q _ => ∃ a u v w', vs = [.ref a, u, v, w'] ∧ H a = some (exo a C none) ∧ ∀ d H', H d = none → d ≠ a → H' a = some (exo a C (some d)) → H' d = some (exd d [("at", w'), ("other", v), ("one", u)]) → (∀ b o, H b = some o → b ≠ a → H' b = some o) → Q .non H'
theorem erM_go {H1 : Hp} {a C : Addr} {u v w' : V} {Q : XK} {E : XK} (ha : H1 a = none) (k : ∀ d H2, H1 d = none → Same H1 H2 → H2 d = some (.xd [("at", w'), ("other", v), ("one", u)]) → Q (.ref C) (some d) H2) :
    spErM C [.ref a, u, v, w'] (upd H1 a (exo a C none)) (fun v H2 => v = .non ∧ ∃ (d : Addr) (fs : List (Str × V)), H2 a = some (exo a C (some d)) ∧ H2 d = some (exd d fs) ∧ H1 d = none ∧ Q (.ref C) (some d) (upd (del H2 a) d (.xd fs))) E := by
  refine ⟨a, u, v, w', rfl, upd_same, fun d H' hd hne h1 h2 h3 => ?_⟩
  rw [upd_ne hne] at hd
  refine ⟨rfl, d, _, h1, h2, hd, k d _ hd (fun b o h => ?_) upd_same⟩
  have nd := ne_of_none h hd
  have na := ne_of_none h ha
  rw [upd_ne nd, del_ne na]
  exact h3 b o (by rw [upd_ne na]; exact h) na
section
variable {P : Program} {w : World} {K : PySem.W.Frag} {mg : Str → Option Value} {base : Heap} {C CP CT CBN CBP CM pR fR fM : Addr}
abbrev sBNI : Stmt := inClass (top 8) 0
theorem scBNI : FnScope ["self", "value"] ["self", "value"] (defScope sBNI) := ⟨rfl, rfl, rfl, by decide +kernel, rfl, by decide +kernel, by decide +kernel⟩
theorem ok_BNI {f : Addr} {fd : FuncData} (F : Fun K "__init__" "BadNumber.__init__" sBNI f fd) (TB : ErT K mg "BadNumber" "value" CBN f) : FnOk P w K mg base CX0 1 f fd ["self", "value"] (spErI CBN "value") := by
  refine F.ok scBNI (fun vs H Q E h => ?_) (fun cdv A outer s H vs Q E hr h => ?_)
  · obtain ⟨a, v, rfl, _⟩ := h
    rfl
  · obtain ⟨a, v, rfl, ha, k⟩ := h
    refine ⟨_, (pss_one (ps_ost (pv 0) (pv 1))), ?_⟩
    exact ⟨_, rfl, _, rfl, a, CBN, rfl, TB.o, TB.no, .inl ⟨ha, fun dx h n => k dx h n⟩⟩
abbrev sBPI : Stmt := inClass (top 9) 0
theorem scBPI : FnScope ["self", "part"] ["self", "part"] (defScope sBPI) := ⟨rfl, rfl, rfl, by decide +kernel, rfl, by decide +kernel, by decide +kernel⟩
theorem ok_BPI {f : Addr} {fd : FuncData} (F : Fun K "__init__" "BadPiece.__init__" sBPI f fd) (TB : ErT K mg "BadPiece" "part" CBN f) : FnOk P w K mg base CX0 1 f fd ["self", "part"] (spErI CBN "part") := by
  refine F.ok scBPI (fun vs H Q E h => ?_) (fun cdv A outer s H vs Q E hr h => ?_)
  · obtain ⟨a, v, rfl, _⟩ := h
    rfl
  · obtain ⟨a, v, rfl, ha, k⟩ := h
    refine ⟨_, (pss_one (ps_ost (pv 0) (pv 1))), ?_⟩
    exact ⟨_, rfl, _, rfl, a, CBN, rfl, TB.o, TB.no, .inl ⟨ha, fun dx h n => k dx h n⟩⟩
abbrev sMeI : Stmt := inClass (top 15) 0
theorem scMeI : FnScope ["self", "one", "other", "at"] ["self", "one", "other", "at"] (defScope sMeI) := ⟨rfl, rfl, rfl, by decide +kernel, rfl, by decide +kernel, by decide +kernel⟩
theorem ok_MeI {f : Addr} {fd : FuncData} (F : Fun K "__init__" "Meets.__init__" sMeI f fd) (TM : ErT K mg "Meets" "one" CM f) (n2 : PySem.W.findIn K (.ref CM) "other" = some none) (n3 : PySem.W.findIn K (.ref CM) "at" = some none) : FnOk P w K mg base CX0 1 f fd ["self", "one", "other", "at"] (spErM CM) := by
  refine F.ok scMeI (fun vs H Q E h => ?_) (fun cdv A outer s H vs Q E hr h => ?_)
  · obtain ⟨a, u, v, w', rfl, _⟩ := h
    rfl
  · obtain ⟨a, u, v, w', rfl, ha, k⟩ := h
    refine ⟨_, (pss_cons (ps_ost (pv 0) (pv 1)) (pss_cons (ps_ost (pv 0) (pv 2)) (pss_one (ps_ost (pv 0) (pv 3))))), ?_⟩
    refine ⟨_, rfl, _, rfl, a, CM, rfl, TM.o, TM.no, .inl ⟨ha, fun d hd hn => ?_⟩⟩
    refine ⟨_, rfl, _, rfl, a, CM, rfl, TM.o, n2, .inr ⟨d, [("one", u)], upd_same, by rw [upd_ne hn]; exact upd_same, (by decide : 1 ≤ 900), ?_⟩⟩
    refine ⟨_, rfl, _, rfl, a, CM, rfl, TM.o, n3, .inr ⟨d, [("other", v), ("one", u)], by rw [upd_ne hn.symm]; exact upd_same, upd_same, (by decide : 2 ≤ 900), ?_⟩⟩
    refine k d _ hd hn (by rw [upd_ne hn.symm, upd_ne hn.symm]; exact upd_same) upd_same fun b o hb hne => ?_
    have nd := ne_of_none hb hd
    repeat first | rw [upd_ne nd] | rw [upd_ne hne]
    exact hb
/-- a number's tone where no note meets -/
def spRise (CP C CT : Addr) : Sp := fun vs H Q _ => ∃ n p a b c d, vs = [.int n, .ref p] ∧ PieAt CP C H p a b c d ∧ Nbr a b c d ∧ (Sz (a + c) ∧ Sz (b + d)) ∧ (-96 ≤ n ∧ n ≤ 96) ∧ n ≠ 0 ∧ ∀ x H', Same H H' → TonAt CT H' x (-(n * (a + c) / (b + d))) n → Q (.ref x) H'
abbrev sRise : Stmt := top 77
theorem scRise : FnScope ["number", "piece", "top"] ["number", "piece"] (defScope sRise) := ⟨rfl, rfl, rfl, by decide +kernel, rfl, by decide +kernel, by decide +kernel⟩
theorem ok_rise {f f1 : Addr} {ds1 : List Value} {fd fd1 fdR : FuncData} (F : Fun K "rise" "rise" sRise f fd) (T_Ratio : RatT K mg C) (T_Piece : PieT K mg CP) (PM : PropOf K CP "reach" pR fR) (FR : FnOk P w K mg base CX0 1 fR fdR ["self"] (spReach CP C)) (bR : Binds K fdR ["self"] [])
    (M_Tone : Mak P w K mg base 2 "Tone" CT f1 fd1 ["self", "octaves", "fifths"] (spTonI CT)) : FnOk P w K mg base CX0 4 f fd ["number", "piece"] (spRise CP C CT) := by
  refine F.ok scRise (fun vs H Q E h => ?_) (fun cdv A outer s H vs Q E hr h => ?_)
  · obtain ⟨n, p, a, b, c, d, rfl, _⟩ := h
    rfl
  · obtain ⟨n, p, a, b, c, d, rfl, hp, nb, ⟨zt, zb⟩, ⟨n1, n2⟩, n0, q⟩ := h
    have nd := scRise.nd
    refine ⟨_, pss_cons (ps_if (pt_cmpR op_eq (pv 0) pe_int (nomark _)) (pss_one ps_never) pss_nil)
      (pss_cons (ps_set (i := 2) nd rfl (Or.inl rfl) (pe_op op_add (pe_fld (pe_fld (pv 1) rfl) rfl) (pe_fld (pe_fld (pv 1) rfl) rfl)))
      (pss_one (ps_ret (pe_make M_Tone.M M_Tone.F (hr.mono (by decide)) (by rfl) M_Tone.mgC M_Tone.b .nil pass0 (pa_cons (pe_un un_neg (pe_op op_fdivW (pe_op op_mulW (pv 0) (pv 2)) (pe_prop (pv 1) T_Piece.cl PM FR (hr.mono (by decide)) bR .nil pass0 rfl))) (pa_cons (pv 0) pa_nil)))))), ?_⟩
    obtain ⟨dx, l, r, hx, ⟨dl, hl⟩, ⟨dr, hr2⟩⟩ := id hp
    have b0 : 0 < b := by have := nb.a0; have := nb.ab; omega
    have d0 : 0 < d := by have := nb.c0; have := nb.cd; omega
    refine ⟨_, rfl, rfl, _, rfl, iteFb (by rw [vdec, decide_eq_false n0]) ?_⟩
    have zn : Sz n := Sz.of (Nat.lt_of_le_of_lt (show n.natAbs ≤ 96 by omega) (by decide +kernel))
    refine ⟨_, rfl, _, CP, dx, _, _, rfl, hx, T_Piece.cl, T_Piece.nL, pieF_left _ _, _, C, dl, _, _, rfl, hl, T_Ratio.cl, T_Ratio.nT, ratF_top _ _, _, rfl, _, CP, dx, _, _, rfl, hx, T_Piece.cl, T_Piece.nR, pieF_right _ _, _, C, dr, _, _, rfl, hr2, T_Ratio.cl, T_Ratio.nT, ratF_top _ _, _, _, rfl, rfl, ?_⟩
    refine ⟨_, rfl, _, rfl, _, _, rfl, rfl, zn.mul zt, _, rfl, p, dx, _, rfl, hx, p, a, b, c, d, rfl, hp, _, _, rfl, rfl, Sz.divW (by omega) zb, _, rfl, _, rfl, ?_⟩
    intro x dx' hx1 hdx hne
    exact ⟨x, dx', _, _, rfl, upd_same, fun H' hT hk => ⟨rfl, q x H' (mk_same hx1 hdx hk) hT⟩⟩
def oct (n a b c d : Int) : Int := if n = 0 then 0 else -(n * (a + c) / (b + d))
/-- where no note meets, a tone; else Meets -/
def spPos (CP C CT CM : Addr) : Sp := fun vs H Q E => ∃ n p a b c d, vs = [.int n, .ref p] ∧ PieAt CP C H p a b c d ∧ Nbr a b c d ∧ (Sz (a + c) ∧ Sz (b + d)) ∧ (-96 ≤ n ∧ n ≤ 96) ∧
  (∀ x H', Same H H' → PieM.Free a b c d n ((n.natAbs : Int) + 1) → TonAt CT H' x (oct n a b c d) n → Q (.ref x) H') ∧
  (∀ q x dd H', Same H H' → b + d ≤ q → q ≤ (n.natAbs : Int) → n % q = 0 → PieM.Free a b c d n q → PieM.top a b q * d < c * q → RatQ C H' x (divInt (PieM.top a b q) q) → H' dd = some (.xd [("at", .ref x), ("other", .int (max 0 n)), ("one", .int (min 0 n))]) → E (.ref CM) (some dd) H')
abbrev sPos : Stmt := top 76
theorem scPos : FnScope ["number", "piece", "at", "one", "other"] ["number", "piece"] (defScope sPos) := ⟨rfl, rfl, rfl, by decide +kernel, rfl, by decide +kernel, by decide +kernel⟩
theorem ok_pos {f f1 f2 f3 f4 : Addr} {ds1 : List Value} {fd fd1 fd2 fd3 fd4 : FuncData} (F : Fun K "position" "position" sPos f fd) (T_Ratio : RatT K mg C) (C_met : Cal P w K mg base 4 "met" f1 fd1 ["number", "piece"] (spMet CP C)) (C_rise : Cal P w K mg base 4 "rise" f2 fd2 ["number", "piece"] (spRise CP C CT)) (M_Tone : Mak P w K mg base 2 "Tone" CT f3 fd3 ["self", "octaves", "fifths"] (spTonI CT)) (bT1 : Binds K fd3 ["self", "octaves", "fifths"] ds1) (vT1 : Vals [V.int 0] ds1)
    (TM : ErT K mg "Meets" "one" CM f4) (FM : FnOk P w K mg base CX0 1 f4 fd4 ["self", "one", "other", "at"] (spErM CM)) (bM : Binds K fd4 ["self", "one", "other", "at"] []) : FnOk P w K mg base (L2.CX P w) 5 f fd ["number", "piece"] (spPos CP C CT CM) := by
  refine F.okX scPos (fun vs H Q E h => ?_) (fun cdv A outer s H vs Q E hr h => ?_)
  · obtain ⟨n, p, a, b, c, d, rfl, _⟩ := h
    rfl
  · obtain ⟨n, p, a, b, c, d, rfl, hp, nb, ⟨zt, zb⟩, ⟨n1, n2⟩, q0, q1⟩ := h
    have nd := scPos.nd
    refine ⟨_, pss_cons (ps_set (i := 2) nd rfl (Or.inl rfl) (pe_call C_met.F (hr.mono (by decide)) (by rfl) C_met.mgf C_met.kp C_met.b .nil pass0 (pa_cons (pv 0) (pa_cons (pv 1) pa_nil))))
      (pss_cons (ps_if (pt_cmpR op_notN (pv 2) pe_non (nomark _)) (pss_cons (ps_asg (pe_ifExp (pt_cmpR op_lt (pv 0) pe_int (nomark _)) (pe_tup (pa_cons (pv 0) (pa_cons pe_int pa_nil))) (pe_tup (pa_cons pe_int (pa_cons (pv 0) pa_nil)))) (pg_tup (by rfl) (pgs_cons (pg_name (i := 3) nd rfl (Or.inl rfl)) (pgs_cons (pg_name (i := 4) nd rfl (Or.inl rfl)) pgs_nil))))
      (pss_one (ps_raise (by rfl) (takes_of rfl rfl rfl rfl) (pmk_oex TM.o TM.ini TM.tyI FM (hr.mono (by decide)) bM .nil pass0 (by rfl) TM.mgC (pa_cons (pv 3) (pa_cons (pv 4) (pa_cons (pv 2) pa_nil))))))) pss_nil)
      (pss_one (ps_ret (pe_ifExp (pt_cmpR op_eq (pv 0) pe_int (nomark _)) (pe_make M_Tone.M M_Tone.F (hr.mono (by decide)) (by rfl) M_Tone.mgC bT1 vT1 pass0 (pa_cons pe_int pa_nil)) (pe_call C_rise.F (hr.mono (by decide)) (by rfl) C_rise.mgf C_rise.kp C_rise.b .nil pass0 (pa_cons (pv 0) (pa_cons (pv 1) pa_nil))))))), ?_⟩
    refine ⟨_, rfl, _, rfl, n, p, a, b, c, d, rfl, hp, nb, ⟨n1, n2⟩, fun H' s' fr => ?_, fun q x H' s' qb qn qm fr qt hx => ?_⟩
    · refine ⟨_, rfl, rfl, _, rfl, iteFb rfl ?_⟩
      refine ⟨_, rfl, rfl, _, rfl, ?_⟩
      by_cases h0 : n = 0
      · refine ite2 (fun _ => ?_) (fun h => absurd (by rw [vdec, decide_eq_true h0]) h)
        intro x dx' hx1 hdx hne
        refine ⟨x, dx', 0, 0, rfl, upd_same, fun H2 hT hk => ⟨rfl, q0 x H2 (s'.trans (mk_same hx1 hdx hk)) fr ?_⟩⟩
        unfold oct
        rw [if_pos h0, h0]
        exact hT
      · refine ite2 (fun h => by rw [vdec, decide_eq_false h0] at h; cases h) (fun _ => ?_)
        refine ⟨_, rfl, _, rfl, n, p, a, b, c, d, rfl, hp.same s', nb, ⟨zt, zb⟩, ⟨n1, n2⟩, h0, fun x H2 s2 hT => q0 x H2 (s'.trans s2) fr ?_⟩
        unfold oct
        rw [if_neg h0]
        exact hT
    · refine ⟨_, rfl, rfl, _, rfl, iteTb rfl ?_⟩
      refine ⟨_, rfl, _, _, rfl, rfl, _, rfl, ?_⟩
      by_cases h0 : n < 0
      · refine ite2 (fun _ => ?_) (fun h => absurd (decide_eq_true h0) h)
        refine ⟨_, rfl, (by decide : 2 ≤ sizeLine), fun e he => ⟨_, _, rfl, SqT.of upd_same, rfl, _, _, rfl, _, _, rfl, rfl, ?_⟩⟩
        have s2 := same_new (o := .tup [.int n, .int 0]) he
        refine ⟨_, rfl, _, rfl, _, rfl, (show 3 ≤ 1000 by decide), fun a' ha' => erM_go ha' fun dd H2 _ s3 hd => ?_⟩
        refine q1 q x dd H2 ((s'.trans s2).trans s3) qb qn qm fr qt ((hx.same s2).same s3) ?_
        rw [show max 0 n = 0 by omega, show min 0 n = n by omega]
        exact hd
      · refine ite2 (fun h => absurd (of_decide_eq_true h) h0) (fun _ => ?_)
        refine ⟨_, rfl, (by decide : 2 ≤ sizeLine), fun e he => ⟨_, _, rfl, SqT.of upd_same, rfl, _, _, rfl, _, _, rfl, rfl, ?_⟩⟩
        have s2 := same_new (o := .tup [.int 0, .int n]) he
        refine ⟨_, rfl, _, rfl, _, rfl, (show 3 ≤ 1000 by decide), fun a' ha' => erM_go ha' fun dd H2 _ s3 hd => ?_⟩
        refine q1 q x dd H2 ((s'.trans s2).trans s3) qb qn qm fr qt ((hx.same s2).same s3) ?_
        rw [show max 0 n = n by omega, show min 0 n = 0 by omega]
        exact hd
end
end Toy
set_option maxRecDepth 100000
set_option maxHeartbeats 4000000
set_option exponentiation.threshold 9000
namespace Toy
open PySem PySem.Spec PyProof.Rows L2
open Rat (divInt)
section
variable {P : Program} {w : World} {K : PySem.W.Frag} {mg : Str → Option Value} {base : Heap} {C CP CT CBN CBP CM pR fR fM : Addr}
/-- a promise to raise -/
structure Cal0 (P : Program) (w : World) (K : PySem.W.Frag) (mg : Str → Option Value) (base : Heap) (k : Nat) (x : Str) (f : Addr) (fd : FuncData) (ps : List Str) (sp : Sp) : Prop where
  F : FnOk P w K mg base (L2.CX P w) k f fd ps sp
  mgf : mg x = some (.ref f)
  kp : PySem.W.keepIn K (.ref f) = true
  b : Binds K fd ps []
/-- what is refused -/
def spMetB (K : PySem.W.Frag) (CP CBN CBP : Addr) : Sp := fun vs H _ E => (∃ u w' t, vs = [u, w'] ∧ TyX K H u t ∧ (isIntK K t false ∨ ∃ n, u = .int n ∧ t = .type "int" ∧ (n < -96 ∨ 96 < n)) ∧ ∀ dd H', Same H H' → H' dd = some (.xd [("value", u)]) → E (.ref CBN) (some dd) H') ∨
  (∃ n w' t, vs = [.int n, w'] ∧ (-96 ≤ n ∧ n ≤ 96) ∧ TyX K H w' t ∧ PySem.W.kitOne K t (.ref CP) = some false ∧ ∀ dd H', Same H H' → H' dd = some (.xd [("part", .str "piece")]) → E (.ref CBP) (some dd) H')
theorem spMetB_len {CP CBN CBP : Addr} {vs : List V} {H : Hp} {Q : VK} {E : XK} (h : spMetB K CP CBN CBP vs H Q E) : ∃ u w', vs = [u, w'] := by
  rcases h with ⟨u, w', t, e, _⟩ | ⟨n, w', t, e, _⟩
  · exact ⟨_, _, e⟩
  · exact ⟨_, _, e⟩
theorem ok_metB {f f1 f8 f9 : Addr} {fd fd1 fd8 fd9 : FuncData} (F : Fun K "met" "met" sMet f fd) (T : Bl mg) (T_Piece : PieT K mg CP) (C_is_int : Cal P w K mg base 1 "is_int" f1 fd1 ["value"] (spIsInt K)) (TN : ErT K mg "BadNumber" "value" CBN f8) (FN : FnOk P w K mg base CX0 1 f8 fd8 ["self", "value"] (spErI CBN "value")) (bN : Binds K fd8 ["self", "value"] []) (TP : ErT K mg "BadPiece" "part" CBP f9) (FP : FnOk P w K mg base CX0 1 f9 fd9 ["self", "part"] (spErI CBP "part")) (bP : Binds K fd9 ["self", "part"] []) : FnOk P w K mg base (L2.CX P w) 4 f fd ["number", "piece"] (spMetB K CP CBN CBP) := by
  refine F.okX scMet (fun vs H Q E h => ?_) (fun cdv A outer s H vs Q E hr h => ?_)
  · obtain ⟨u, w', rfl⟩ := spMetB_len h
    rfl
  · have nd := scMet.nd
    rcases h with ⟨u, w', t, rfl, ty, hn, k⟩ | ⟨n, w', t, rfl, ⟨n1, n2⟩, ty, no, k⟩
    · refine ⟨_, pss_cons (ps_if (PW.pt (pw_or (pt_not (pt_val (pe_call C_is_int.F (hr.mono (by decide)) (by rfl) C_is_int.mgf C_is_int.kp C_is_int.b .nil pass0 (pa_cons (pv 0) pa_nil)))) (pw_or1 (pt_not (pt_chain op_le op_le (pe_un un_neg pe_int) (pv 0) pe_int))))) (pss_one (ps_raise (by rfl) (takes_of rfl rfl rfl rfl) (pmk_oex TN.o TN.ini TN.tyI FN (hr.mono (by decide)) bN .nil pass0 (by rfl) TN.mgC (pa_cons (pv 0) pa_nil)))) pss_nil) pss_never, ?_⟩
      rcases hn with hi | ⟨n, rfl, rfl, hr'⟩
      · refine ⟨_, rfl, u, t, false, rfl, ty, hi, _, rfl, iteT ?_⟩
        exact ⟨_, rfl, (show 1 ≤ 1000 by decide), fun a ha => erI_go ha fun d H2 _ s hd => k d H2 s hd⟩
      · refine ⟨_, rfl, .int n, _, true, rfl, .base (.int _), isIntK_int, _, rfl, iteF ?_⟩
        refine ⟨_, rfl, _, rfl, _, _, rfl, rfl, _, rfl, ?_⟩
        by_cases h1 : -96 ≤ n
        · refine iteTb (decide_eq_true h1) ?_
          refine ⟨_, _, rfl, rfl, _, rfl, iteTb (by rw [decide_eq_false (show ¬ n ≤ 96 by omega)]; rfl) ?_⟩
          exact ⟨_, rfl, (show 1 ≤ 1000 by decide), fun a ha => erI_go ha fun d H2 _ s hd => k d H2 s hd⟩
        · refine iteFb (decide_eq_false h1) ?_
          refine ⟨_, rfl, iteTb rfl ?_⟩
          exact ⟨_, rfl, (show 1 ≤ 1000 by decide), fun a ha => erI_go ha fun d H2 _ s hd => k d H2 s hd⟩
    · refine ⟨_, pss_cons (ps_if (PW.pt (pw_or (pt_not (pt_val (pe_call C_is_int.F (hr.mono (by decide)) (by rfl) C_is_int.mgf C_is_int.kp C_is_int.b .nil pass0 (pa_cons (pv 0) pa_nil)))) (pw_or1 (pt_not (pt_chain op_le op_le (pe_un un_neg pe_int) (pv 0) pe_int))))) (pss_one (ps_raise (by rfl) (takes_of rfl rfl rfl rfl) (pmk_oex TN.o TN.ini TN.tyI FN (hr.mono (by decide)) bN .nil pass0 (by rfl) TN.mgC (pa_cons (pv 0) pa_nil)))) pss_nil)
      (pss_cons (ps_if (pt_not (pt_val (pe_callB call_isi (by rfl) T.isinstance (by decide +kernel) (pa_cons (pv 1) (pa_cons (Own.pe_gref (by rfl) T_Piece.mgC) pa_nil))))) (pss_one (ps_raise (by rfl) (takes_of rfl rfl rfl rfl) (pmk_oex TP.o TP.ini TP.tyI FP (hr.mono (by decide)) bP .nil pass0 (by rfl) TP.mgC (pa_cons pe_str pa_nil)))) pss_nil) pss_never), ?_⟩
      refine ⟨_, rfl, .int n, _, true, rfl, .base (.int _), isIntK_int, _, rfl, iteF ?_⟩
      refine ⟨_, rfl, _, rfl, _, _, rfl, rfl, _, rfl, iteTb (decide_eq_true n1) ?_⟩
      refine ⟨_, _, rfl, rfl, _, rfl, iteFb (by rw [decide_eq_true n2]; rfl) ?_⟩
      refine ⟨_, rfl, _, _, t, _, false, rfl, .own _, ty, no, _, rfl, iteT ?_⟩
      exact ⟨by decide, fun a ha => erI_go ha fun d H2 _ s hd => k d H2 s hd⟩
theorem ok_posB {f f1 : Addr} {fd fd1 : FuncData} (F : Fun K "position" "position" sPos f fd) (CX_met : Cal0 P w K mg base 4 "met" f1 fd1 ["number", "piece"] (spMetB K CP CBN CBP)) : FnOk P w K mg base (L2.CX P w) 5 f fd ["number", "piece"] (spMetB K CP CBN CBP) := by
  refine F.okX scPos (fun vs H Q E h => ?_) (fun cdv A outer s H vs Q E hr h => ?_)
  · obtain ⟨u, w', rfl⟩ := spMetB_len h
    rfl
  · have nd := scPos.nd
    obtain ⟨u, w', rfl⟩ := spMetB_len h
    refine ⟨_, pss_cons (ps_set (i := 2) nd rfl (Or.inl rfl) (pe_call CX_met.F (hr.mono (by decide)) (by rfl) CX_met.mgf CX_met.kp CX_met.b .nil (passes_call (takes_of rfl rfl rfl rfl) fun _ _ _ _ h => h) (pa_cons (pv 0) (pa_cons (pv 1) pa_nil)))) pss_never, ?_⟩
    refine ⟨_, rfl, _, rfl, ?_⟩
    rcases h with ⟨u2, w2, t, e, ty, hn, k⟩ | ⟨n, w2, t, e, hn, ty, no, k⟩
    · exact .inl ⟨u2, w2, t, e, ty, hn, k⟩
    · exact .inr ⟨n, w2, t, e, hn, ty, no, k⟩
end
end Toy
set_option maxRecDepth 100000
set_option maxHeartbeats 4000000
set_option exponentiation.threshold 9000
namespace Toy
open PySem L2
open Rat (divInt)
/-- how great the ends may be behind so many steps -/
def mx : Nat → Int
  | 0 => 1
  | 1 => 2
  | 2 => 3
  | 3 => 5
  | 4 => 8
  | _ => 13
def sm : Nat → Int
  | 0 => 2
  | 1 => 3
  | 2 => 5
  | 3 => 8
  | 4 => 13
  | _ => 21
theorem mx_step {i : Nat} (h : i < 5) : sm i ≤ mx (i + 1) ∧ sm i + mx i ≤ sm (i + 1) ∧ mx i ≤ mx (i + 1) := by
  have : i = 0 ∨ i = 1 ∨ i = 2 ∨ i = 3 ∨ i = 4 := by omega
  rcases this with rfl | rfl | rfl | rfl | rfl <;> decide
theorem mx_13 (i : Nat) : mx i ≤ 13 := by
  match i with
  | 0 | 1 | 2 | 3 | 4 => decide
  | n + 5 => exact Int.le_refl 13
structure Small (a b c d : Int) (i : Nat) : Prop where
  a0 : 0 ≤ a
  ab : a < b
  c0 : 0 < c
  cd : c ≤ d
  nb : b * c - a * d = 1
  bm : b ≤ mx i
  dm : d ≤ mx i
  s : b + d ≤ sm i
theorem Small.left {a b c d : Int} {i : Nat} (h : Small a b c d i) (hi : i < 5) : Small a b (a + c) (b + d) (i + 1) := by
  obtain ⟨x1, x2, x3⟩ := mx_step hi
  obtain ⟨a0, ab, c0, cd, nb, bm, dm, s⟩ := h
  exact ⟨a0, ab, by omega, by omega, by rw [Int.mul_add, Int.mul_add, Int.mul_comm b a]; omega, by omega, by omega, by omega⟩
theorem Small.right {a b c d : Int} {i : Nat} (h : Small a b c d i) (hi : i < 5) : Small (a + c) (b + d) c d (i + 1) := by
  obtain ⟨x1, x2, x3⟩ := mx_step hi
  obtain ⟨a0, ab, c0, cd, nb, bm, dm, s⟩ := h
  exact ⟨by omega, by omega, c0, cd, by rw [Int.add_mul, Int.add_mul, Int.mul_comm d c]; omega, by omega, by omega, by omega⟩
/-- ends far out -/
structure Far (a b c d : Int) : Prop where
  a0 : 0 ≤ a
  ab : a < b
  c0 : 0 < c
  cd : c ≤ d
  nb : b * c - a * d = 1
  bm : b < 10 ^ 30
  dm : d < 10 ^ 30
theorem Small.far {a b c d : Int} {i : Nat} (h : Small a b c d i) : Far a b c d := by
  have := mx_13 i
  obtain ⟨a0, ab, c0, cd, nb, bm, dm, s⟩ := h
  exact ⟨a0, ab, c0, cd, nb, by omega, by omega⟩
theorem sz20 {z : Int} (h : z.natAbs < 10 ^ 40) : Sz z := Sz.of (Nat.lt_trans h (by decide +kernel))
section
variable {P : Program} {w : World} {K : PySem.W.Frag} {mg : Str → Option Value} {base : Heap} {C CP CT CBN CBP CM pR fR fM : Addr}
def spCommon : Sp := fun vs H Q _ => ∃ x y, vs = [.int x, .int y] ∧ 0 ≤ x ∧ 0 ≤ y ∧ Q (.int (gcdI x y)) H
abbrev sCommon : Stmt := top 83
theorem scCo : FnScope ["_law_one", "_law_other"] ["_law_one", "_law_other"] (defScope sCommon) := ⟨rfl, rfl, rfl, by decide +kernel, rfl, by decide +kernel, by decide +kernel⟩
theorem ok_common {f : Addr} {fd : FuncData} (F : Fun K "_law_divisor" "_law_divisor" sCommon f fd) (T : Bl mg) : FnOk P w K mg base CX0 1 f fd ["_law_one", "_law_other"] spCommon := by
  refine F.ok scCo (fun vs H Q E h => ?_) (fun cdv A outer s H vs Q E hr h => ?_)
  · obtain ⟨x, y, rfl, _⟩ := h
    rfl
  · obtain ⟨x, y, rfl, x0, y0, q⟩ := h
    have nd := scCo.nd
    refine ⟨_, pss_cons (ps_while PassesOwn.never (pt_cmpR op_ne (pv 1) pe_int (nomark _)) (pss_one (ps_par (i := 0) (j := 1) (by rfl) nd rfl rfl (by decide) rfl rfl (pa_cons (pv 1) (pa_cons (pe_op op_mod (pe_callTy call_int1 (by rfl) T.int (by decide +kernel) (pa_cons (pv 0) pa_nil)) (pv 1)) pa_nil)) (by rfl))))
      (pss_one (ps_ret (pv 0))), ?_⟩
    refine while_by (fun σ H' => ∃ u v : Int, σ = [some (.int u), some (.int v)] ∧ 0 ≤ u ∧ 0 ≤ v ∧ gcdI u v = gcdI x y ∧ H' = H) (fun σ _ => match σ with | [_, some (.int v)] => v.toNat | _ => 0) ⟨_, _, rfl, x0, y0, rfl, rfl⟩ ?_ ?_
    · rintro σ H' ⟨u, v, rfl, u0, v0, g, rfl⟩
      refine ⟨_, rfl, rfl, _, rfl, ?_⟩
      by_cases hv : v = 0
      · refine iteFb (by rw [vdec, decide_eq_true hv]; rfl) ⟨_, rfl, ?_⟩
        subst hv
        rw [gcd_zero u0] at g
        rw [g]
        exact q
      · refine iteTb (by rw [vdec, decide_eq_false hv]; rfl) ⟨_, rfl, _, rfl, .inl ⟨_, rfl, _, rfl, _, _, rfl, rfl, (by omega : 0 < v), _, _, rfl, ⟨_, _, rfl, v0, (modB u (by omega)).1, (gcd_step u0 (by omega)).trans g, rfl⟩, ?_⟩⟩
        have h1 := modB u (show 0 < v by omega)
        show (u % v).toNat < v.toNat
        omega
    · rintro σ H' R R' hR ⟨v, e, sc, k, e2, r⟩
      exact ⟨v, e, sc, k, e2, hR _ _ r⟩
def spEnds : Sp := fun vs H Q _ => ∃ p cc k, vs = [.ref p] ∧ Pen H p cc k ∧ k ≤ 900000 ∧ ∀ e a b c d i H', Pen H' p cc (k + 6) → But p H H' → H' e = some (.tup [.int a, .int b, .int c, .int d]) → Small a b c d i → Q (.ref e) H'
abbrev sEnds : Stmt := top 84
theorem scEnds : FnScope ["_law_pen_here", "_law_a", "_law_b", "_law_c", "_law_d", "_law_turn"] ["_law_pen_here"] (defScope sEnds) := ⟨rfl, rfl, rfl, by decide +kernel, rfl, by decide +kernel, by decide +kernel⟩
theorem ok_ends {f f1 : Addr} {fd fd1 : FuncData} (F : Fun K "_law_ends" "_law_ends" sEnds f fd) (T : Bl mg) (C__law_draw : Cal P w K mg base 1 "_law_draw" f1 fd1 ["_law_pen_here", "_law_many"] spDraw) : FnOk P w K mg base CX0 2 f fd ["_law_pen_here"] spEnds := by
  refine F.ok scEnds (fun vs H Q E h => ?_) (fun cdv A outer s H vs Q E hr h => ?_)
  · obtain ⟨p, cc, k, rfl, _⟩ := h
    rfl
  · obtain ⟨p, cc, k, rfl, hP, hk, q⟩ := h
    have nd := scEnds.nd
    refine ⟨_, pss_cons (ps_asg (pe_tup (pa_cons pe_int (pa_cons pe_int (pa_cons pe_int (pa_cons pe_int pa_nil))))) (pg_tup (by rfl) (pgs_cons (pg_name (i := 1) nd rfl (Or.inl rfl)) (pgs_cons (pg_name (i := 2) nd rfl (Or.inl rfl)) (pgs_cons (pg_name (i := 3) nd rfl (Or.inl rfl)) (pgs_cons (pg_name (i := 4) nd rfl (Or.inl rfl)) pgs_nil))))))
      (pss_cons (ps_for PassesOwn.never rfl (pi_range1 (by rfl) T.range (pa_cons (pe_call C__law_draw.F (hr.mono (by decide)) (by rfl) C__law_draw.mgf C__law_draw.kp C__law_draw.b .nil pass0 (pa_cons (pv 0) (pa_cons pe_int pa_nil))) pa_nil)) (pg_name (i := 5) nd rfl (Or.inl rfl)) (pss_one (ps_if (pt_cmpR op_eq (pe_call C__law_draw.F (hr.mono (by decide)) (by rfl) C__law_draw.mgf C__law_draw.kp C__law_draw.b .nil pass0 (pa_cons (pv 0) (pa_cons pe_int pa_nil))) pe_int (nomark _)) (pss_one (ps_par (i := 3) (j := 4) (by rfl) nd rfl rfl (by decide) rfl rfl (pa_cons (pe_op op_add (pv 1) (pv 3)) (pa_cons (pe_op op_add (pv 2) (pv 4)) pa_nil)) (by rfl))) (pss_one (ps_par (i := 1) (j := 2) (by rfl) nd rfl rfl (by decide) rfl rfl (pa_cons (pe_op op_add (pv 1) (pv 3)) (pa_cons (pe_op op_add (pv 2) (pv 4)) pa_nil)) (by rfl))))))
      (pss_one (ps_ret (pe_tup (pa_cons (pv 1) (pa_cons (pv 2) (pa_cons (pv 3) (pa_cons (pv 4) pa_nil)))))))), ?_⟩
    refine ⟨(by decide : 4 ≤ sizeLine), fun e0 he0 => ⟨_, _, rfl, SqT.of upd_same, rfl, _, _, rfl, _, _, rfl, _, _, rfl, _, _, rfl, rfl, ?_⟩⟩
    have s0 := same_new (o := .tup [.int 0, .int 1, .int 1, .int 1]) he0
    refine ⟨_, rfl, p, cc, 6, k, rfl, hP.same s0, by omega, by decide, by decide, fun r H1 r0 r6 P1 B1 => ?_⟩
    have B1' : But p H H1 := fun b o hb hn => B1 b o (s0 _ _ hb) hn
    refine ⟨r, rfl, by omega, by omega, ?_⟩
    refine for_range (lo := 0) (n := r.toNat) (fun i σ H' => ∃ a b c d y5, σ = [some (.ref p), some (.int a), some (.int b), some (.int c), some (.int d), y5] ∧ Pen H' p cc (k + 1 + i) ∧ But p H H' ∧ Small a b c d i) ⟨0, 1, 1, 1, _, rfl, P1, B1', ⟨by decide, by decide, by decide, by decide, by decide, by decide, by decide, by decide⟩⟩ ?_ ?_
    · rintro i σ H2 hi ⟨a, b, c, d, y5, rfl, P2, B2, S⟩
      have i5 : i < 5 := by omega
      refine ⟨_, rfl, p, cc, 2, k + 1 + i, rfl, P2, by omega, by decide, by decide, fun z H3 z0 z2 P3 B3 => ?_⟩
      refine ⟨rfl, _, rfl, ?_⟩
      by_cases hz : z = 0
      · refine iteTb (by rw [vdec, decide_eq_true hz]) ?_
        refine ⟨_, rfl, _, rfl, _, _, rfl, rfl, _, rfl, _, rfl, _, _, rfl, rfl, _, _, rfl, ?_⟩
        exact ⟨a, b, a + c, b + d, _, rfl, P3, B2.trans B3, S.left i5⟩
      · refine iteFb (by rw [vdec, decide_eq_false hz]) ?_
        refine ⟨_, rfl, _, rfl, _, _, rfl, rfl, _, rfl, _, rfl, _, _, rfl, rfl, _, _, rfl, ?_⟩
        exact ⟨a + c, b + d, c, d, _, rfl, P3, B2.trans B3, S.right i5⟩
    · rintro σ H2 ⟨a, b, c, d, y5, rfl, P2, B2, S⟩
      refine ⟨_, rfl, _, rfl, _, rfl, _, rfl, (by decide : 4 ≤ sizeLine), fun e he => ?_⟩
      have s3 := same_new (o := .tup [.int a, .int b, .int c, .int d]) he
      exact q e a b c d _ _ ((P2.same s3).mono (by omega)) (B2.trans (But.same s3)) upd_same S
/-- ends, and a number, far out -/
def spFar (K : PySem.W.Frag) : Sp := fun vs H Q _ => ∃ p cc k e a b c d i, vs = [.ref p, .ref e] ∧ Pen H p cc k ∧ k ≤ 900000 ∧ SqT K H e [.int a, .int b, .int c, .int d] ∧ e ≠ p ∧ Small a b c d i ∧
  ∀ t e' n a' b' c' d' H', Pen H' p cc (k + 3) → But p H H' → H' t = some (.tup [.ref e', .int n]) → H' e' = some (.tup [.int a', .int b', .int c', .int d']) → Far a' b' c' d' → (-39 ≤ n ∧ n ≤ 39) → Q (.ref t) H'
abbrev sFar : Stmt := top 85
theorem scFar : FnScope ["_law_pen_here", "_law_ends_here", "_law_a", "_law_b", "_law_c", "_law_d", "_law_far_here", "_law_times"] ["_law_pen_here", "_law_ends_here"] (defScope sFar) := ⟨rfl, rfl, rfl, by decide +kernel, rfl, by decide +kernel, by decide +kernel⟩
theorem ok_far {f f1 f2 : Addr} {fd fd1 fd2 : FuncData} (F : Fun K "_law_far" "_law_far" sFar f fd) (C__law_draw : Cal P w K mg base 1 "_law_draw" f1 fd1 ["_law_pen_here", "_law_many"] spDraw) (C__law_pick : Cal P w K mg base 2 "_law_pick" f2 fd2 ["_law_pen_here", "_law_some"] spPick) : FnOk P w K mg base CX0 3 f fd ["_law_pen_here", "_law_ends_here"] (spFar K) := by
  refine F.ok scFar (fun vs H Q E h => ?_) (fun cdv A outer s H vs Q E hr h => ?_)
  · obtain ⟨p, cc, k, e, a, b, c, d, i, rfl, _⟩ := h
    rfl
  · obtain ⟨p, cc, k, e, a, b, c, d, i, rfl, hP, hk, he, nep, S, q⟩ := h
    have nd := scFar.nd
    refine ⟨_, pss_cons (ps_asg (pv 1) (pg_tup (by rfl) (pgs_cons (pg_name (i := 2) nd rfl (Or.inl rfl)) (pgs_cons (pg_name (i := 3) nd rfl (Or.inl rfl)) (pgs_cons (pg_name (i := 4) nd rfl (Or.inl rfl)) (pgs_cons (pg_name (i := 5) nd rfl (Or.inl rfl)) pgs_nil))))))
      (pss_cons (ps_par (i := 6) (j := 7) (by rfl) nd rfl rfl (by decide) rfl rfl (pa_cons (pe_call C__law_pick.F (hr.mono (by decide)) (by rfl) C__law_pick.mgf C__law_pick.kp C__law_pick.b .nil pass0 (pa_cons (pv 0) (pa_cons (pe_lst (pa_cons (pe_op op_add (pe_op op_pow pe_int pe_int) pe_int) (pa_cons (pe_op op_pow pe_int pe_int) pa_nil))) pa_nil))) (pa_cons (pe_op op_sub (pe_call C__law_draw.F (hr.mono (by decide)) (by rfl) C__law_draw.mgf C__law_draw.kp C__law_draw.b .nil pass0 (pa_cons (pv 0) (pa_cons pe_int pa_nil))) pe_int) pa_nil)) (by rfl))
      (pss_cons (ps_if (pt_cmpR op_eq (pe_call C__law_draw.F (hr.mono (by decide)) (by rfl) C__law_draw.mgf C__law_draw.kp C__law_draw.b .nil pass0 (pa_cons (pv 0) (pa_cons pe_int pa_nil))) pe_int (nomark _)) (pss_one (ps_ret (pe_tup (pa_cons (pe_tup (pa_cons (pv 2) (pa_cons (pv 3) (pa_cons (pe_op op_add (pe_op op_mulW (pv 6) (pv 2)) (pv 4)) (pa_cons (pe_op op_add (pe_op op_mulW (pv 6) (pv 3)) (pv 5)) pa_nil))))) (pa_cons (pe_op op_mulW (pv 7) (pv 3)) pa_nil))))) pss_nil)
      (pss_one (ps_ret (pe_tup (pa_cons (pe_tup (pa_cons (pe_op op_add (pv 2) (pe_op op_mulW (pv 6) (pv 4))) (pa_cons (pe_op op_add (pv 3) (pe_op op_mulW (pv 6) (pv 5))) (pa_cons (pv 4) (pa_cons (pv 5) pa_nil))))) (pa_cons (pe_op op_mulW (pv 7) (pv 5)) pa_nil))))))), ?_⟩
    refine ⟨_, rfl, _, _, rfl, he, rfl, _, _, rfl, _, _, rfl, _, _, rfl, _, _, rfl, rfl, ?_⟩
    refine ⟨_, rfl, _, _, rfl, rfl, ⟨by decide, by decide, by decide⟩, _, _, rfl, rfl, _, _, rfl, rfl, ⟨by decide, by decide, by decide⟩, (by decide : 2 ≤ sizeLine), fun l hl => ?_⟩
    have s1 := same_new (o := .lst [.int ((10 : Int) ^ (9 : Int).toNat + 7), .int ((10 : Int) ^ (20 : Int).toNat)]) hl
    refine ⟨p, cc, l, _, k, rfl, hP.same s1, by omega, upd_same, hP.ne_none hl, by decide, by decide, fun v H2 hv P2 B2 => ?_⟩
    obtain ⟨f, rfl, f0, f1⟩ : ∃ f : Int, v = .int f ∧ 0 ≤ f ∧ f ≤ 10 ^ 20 := by
      simp only [List.mem_cons, List.not_mem_nil, or_false] at hv
      rcases hv with rfl | rfl
      · exact ⟨_, rfl, by decide, by decide⟩
      · exact ⟨_, rfl, by decide, by decide⟩
    refine ⟨_, rfl, p, cc, 7, k + 1, rfl, P2, by omega, by decide, by decide, fun r H3 r0 r7 P3 B3 => ⟨_, _, rfl, rfl, _, _, rfl, ?_⟩⟩
    have B13 : But p H H3 := fun b o hb hn => B3 b o (B2 b o (s1 _ _ hb) hn) hn
    refine ⟨_, rfl, p, cc, 2, k + 1 + 1, rfl, P3, by omega, by decide, by decide, fun z H4 z0 z2 P4 B4 => ?_⟩
    have B14 := B13.trans B4
    have m13 := mx_13 i
    have bm := S.bm
    have dm := S.dm
    have tm : ∀ y : Int, 0 < y → y ≤ 13 → -39 ≤ (r - 3) * y ∧ (r - 3) * y ≤ 39 := fun y y0 y1 => by
      have : r = 0 ∨ r = 1 ∨ r = 2 ∨ r = 3 ∨ r = 4 ∨ r = 5 ∨ r = 6 := by omega
      rcases this with rfl | rfl | rfl | rfl | rfl | rfl | rfl <;> omega
    have fm : ∀ y : Int, 0 ≤ y → y ≤ 13 → 0 ≤ f * y ∧ f * y ≤ 10 ^ 20 * 13 := fun y y0 y1 => ⟨Int.mul_nonneg f0 y0, Int.mul_le_mul f1 y1 y0 (by decide)⟩
    have a0 := S.a0
    have ab := S.ab
    have c0 := S.c0
    have cd := S.cd
    have zf : Sz f := sz20 (Nat.lt_of_le_of_lt (show f.natAbs ≤ 10 ^ 20 by omega) (by decide +kernel))
    have z13 : ∀ y : Int, 0 ≤ y → y ≤ 13 → Sz y := fun y y0 y1 => sz20 (Nat.lt_of_le_of_lt (show y.natAbs ≤ 13 by omega) (by decide +kernel))
    have zr : Sz (r - 3) := sz20 (Nat.lt_of_le_of_lt (show (r - 3).natAbs ≤ 13 by omega) (by decide +kernel))
    refine ⟨rfl, _, rfl, ?_⟩
    by_cases hz : z = 0
    · refine iteTb (by rw [vdec, decide_eq_true hz]) ?_
      refine ⟨_, rfl, _, rfl, _, rfl, _, rfl, _, _, rfl, rfl, zf.mul (z13 a (by omega) (by omega)), _, rfl, _, _, rfl, rfl, _, rfl, _, rfl, _, _, rfl, rfl, zf.mul (z13 b (by omega) (by omega)), _, rfl, _, _, rfl, rfl, (by decide : 4 ≤ sizeLine), fun e' he' => ?_⟩
      have s5 := same_new (o := .tup [.int a, .int b, .int (f * a + c), .int (f * b + d)]) he'
      refine ⟨_, rfl, _, rfl, _, _, rfl, rfl, zr.mul (z13 b (by omega) (by omega)), (by decide : 2 ≤ sizeLine), fun t ht => ?_⟩
      have s6 := same_new (o := .tup [.ref e', .int ((r - 3) * b)]) ht
      have fa := fm a a0 (by omega)
      have fb := fm b (by omega) (by omega)
      have ff : f * a ≤ f * b := Int.mul_le_mul_of_nonneg_left (by omega) f0
      refine q t e' ((r - 3) * b) a b (f * a + c) (f * b + d) _ ((P4.same s5).same s6) (B14.trans ((But.same s5).trans (But.same s6))) upd_same (s6 _ _ upd_same) ⟨a0, ab, by omega, by omega, ?_, by omega, by omega⟩ (tm b (by omega) (by omega))
      have nb := S.nb
      have e1 : b * (f * a + c) - a * (f * b + d) = b * c - a * d := by grind
      rw [e1]
      exact nb
    · refine iteFb (by rw [vdec, decide_eq_false hz]) ?_
      refine ⟨_, rfl, _, rfl, _, rfl, _, _, rfl, rfl, zf.mul (z13 c (by omega) (by omega)), _, _, rfl, rfl, _, rfl, _, rfl, _, rfl, _, _, rfl, rfl, zf.mul (z13 d (by omega) (by omega)), _, _, rfl, rfl, _, rfl, _, rfl, (by decide : 4 ≤ sizeLine), fun e' he' => ?_⟩
      have s5 := same_new (o := .tup [.int (a + f * c), .int (b + f * d), .int c, .int d]) he'
      refine ⟨_, rfl, _, rfl, _, _, rfl, rfl, zr.mul (z13 d (by omega) (by omega)), (by decide : 2 ≤ sizeLine), fun t ht => ?_⟩
      have s6 := same_new (o := .tup [.ref e', .int ((r - 3) * d)]) ht
      have fc := fm c (by omega) (by omega)
      have fd' := fm d (by omega) (by omega)
      have ff : f * c ≤ f * d := Int.mul_le_mul_of_nonneg_left (by omega) f0
      refine q t e' ((r - 3) * d) (a + f * c) (b + f * d) c d _ ((P4.same s5).same s6) (B14.trans ((But.same s5).trans (But.same s6))) upd_same (s6 _ _ upd_same) ⟨by omega, by omega, c0, cd, ?_, by omega, by omega⟩ (tm d (by omega) (by omega))
      have nb := S.nb
      have e1 : (b + f * d) * c - (a + f * c) * d = b * c - a * d := by grind
      rw [e1]
      exact nb
end
end Toy
set_option maxRecDepth 100000
set_option maxHeartbeats 4000000
set_option exponentiation.threshold 9000
namespace Toy
open PySem L2
open Rat (divInt)
theorem Far.nbp {a b c d : Int} (h : Far a b c d) : PieM.Nb a b c d := ⟨h.a0, h.ab, h.c0, h.cd, h.nb⟩
/-- the first bottom at which a note meets -/
structure Hit (a b c d n q : Int) : Prop where
  lo : b + d ≤ q
  hi : q ≤ (n.natAbs : Int)
  dv : n % q = 0
  fr : PieM.Free a b c d n q
  ins : PieM.top a b q * d < c * q
/-- there is one, or there is none -/
theorem hit_or {a b c d n : Int} (hb : 0 < b + d) : PieM.Free a b c d n ((n.natAbs : Int) + 1) ∨ ∃ q, Hit a b c d n q := by
  have go : ∀ k : Nat, PieM.Free a b c d n (b + d + k) ∨ ∃ q, b + d ≤ q ∧ q < b + d + k ∧ n % q = 0 ∧ PieM.Free a b c d n q ∧ PieM.top a b q * d < c * q := fun k => by
    induction k with
    | zero => exact .inl fun r h1 h2 _ => absurd h2 (by omega)
    | succ k ih =>
      rcases ih with f | ⟨q, h1, h2, h3⟩
      · by_cases hq : n % (b + d + k) = 0 ∧ PieM.top a b (b + d + k) * d < c * (b + d + k)
        · exact .inr ⟨b + d + k, by omega, by omega, hq.1, f, hq.2⟩
        · refine .inl fun r r1 r2 r3 => ?_
          rcases Int.lt_or_le r (b + d + k) with h | h
          · exact f r r1 h r3
          · have e : r = b + d + k := by omega
            rw [e] at r3 ⊢
            exact fun z => hq ⟨r3, z⟩
      · exact .inr ⟨q, h1, by omega, h3⟩
  rcases go ((n.natAbs : Int) + 1 - (b + d)).toNat with f | ⟨q, h1, h2, h3, h4, h5⟩
  · exact .inl fun r r1 r2 r3 => f r r1 (by omega) r3
  · exact .inr ⟨q, h1, by omega, h3, h4, h5⟩
theorem Hit.not {a b c d n q : Int} (h : Hit a b c d n q) : ¬ PieM.Free a b c d n ((n.natAbs : Int) + 1) := fun f => f q h.lo (by have := h.hi; omega) h.dv h.ins
theorem Hit.one {a b c d n q r : Int} (h : Hit a b c d n q) (g : Hit a b c d n r) : q = r := by
  rcases Int.lt_trichotomy q r with l | e | l
  · exact absurd h.ins (g.fr q h.lo l h.dv)
  · exact e
  · exact absurd g.ins (h.fr r g.lo l g.dv)
section
variable {P : Program} {w : World} {K : PySem.W.Frag} {mg : Str → Option Value} {base : Heap} {C CP CT CBN CBP CM pR fR fM : Addr}
theorem l2_jj {i j : Nat} {n : Int} (hj : j < (2 + (i : Int) - 1).toNat) (qi : 2 + (i : Int) ≤ (n.natAbs : Int)) (n1 : -96 ≤ n) (n2 : n ≤ 96) : 0 ≤ 1 + (j : Int) ∧ 1 + (j : Int) < 10 ^ 30 ∧ 0 ≤ 2 + (i : Int) := by omega
theorem l2_le {j : Nat} {t : Int} (l : 1 + (j : Int) < t) : 1 + ((j + 1 : Nat) : Int) ≤ t := by omega
theorem l2_no {i : Nat} {n t : Int} (_ : True) (_ : 2 + (i : Int) ≤ (n.natAbs : Int)) (h1 : t < 2 + (i : Int)) (h2 : 1 + (((2 + (i : Int) - 1).toNat : Nat) : Int) ≤ t) : False := by omega
def spLMet (K : PySem.W.Frag) : Sp := fun vs H Q _ => ∃ n e a b c d, vs = [.int n, .ref e] ∧ SqT K H e [.int a, .int b, .int c, .int d] ∧ Far a b c d ∧ (-96 ≤ n ∧ n ≤ 96) ∧
  ((PieM.Free a b c d n ((n.natAbs : Int) + 1) ∧ Q .non H) ∨ ∃ q, Hit a b c d n q ∧ ∀ p, H p = none → Q (.ref p) (upd H p (.tup [.int (PieM.top a b q), .int q])))
abbrev sLMet : Stmt := top 86
theorem scLMet : FnScope ["_law_number", "_law_ends_here", "_law_a", "_law_b", "_law_c", "_law_d", "_law_q", "_law_p"] ["_law_number", "_law_ends_here"] (defScope sLMet) := ⟨rfl, rfl, rfl, by decide +kernel, rfl, by decide +kernel, by decide +kernel⟩
theorem ok_lmet {f f1 : Addr} {fd fd1 : FuncData} (F : Fun K "_law_met" "_law_met" sLMet f fd) (T : Bl mg) (C__law_divisor : Cal P w K mg base 1 "_law_divisor" f1 fd1 ["_law_one", "_law_other"] spCommon) : FnOk P w K mg base CX0 2 f fd ["_law_number", "_law_ends_here"] (spLMet K) := by
  refine F.ok scLMet (fun vs H Q E h => ?_) (fun cdv A outer s H vs Q E hr h => ?_)
  · obtain ⟨n, e, a, b, c, d, rfl, _⟩ := h
    rfl
  · obtain ⟨n, e, a, b, c, d, rfl, he, fa, ⟨n1, n2⟩, hc⟩ := h
    have nd := scLMet.nd
    refine ⟨_, pss_cons (ps_asg (pv 1) (pg_tup (by rfl) (pgs_cons (pg_name (i := 2) nd rfl (Or.inl rfl)) (pgs_cons (pg_name (i := 3) nd rfl (Or.inl rfl)) (pgs_cons (pg_name (i := 4) nd rfl (Or.inl rfl)) (pgs_cons (pg_name (i := 5) nd rfl (Or.inl rfl)) pgs_nil))))))
      (pss_cons (ps_for PassesOwn.never rfl (pi_range2 (by rfl) T.range (pa_cons pe_int (pa_cons (pe_op op_add (pe_callB call_abs (by rfl) T.abs (by decide +kernel) (pa_cons (pv 0) pa_nil)) pe_int) pa_nil))) (pg_name (i := 6) nd rfl (Or.inl rfl)) (pss_one (ps_if (pt_cmpR op_eq (pe_op op_mod (pe_callTy call_int1 (by rfl) T.int (by decide +kernel) (pa_cons (pv 0) pa_nil)) (pv 6)) pe_int (nomark _)) (pss_one (ps_for PassesOwn.never rfl (pi_range2 (by rfl) T.range (pa_cons pe_int (pa_cons (pv 6) pa_nil))) (pg_name (i := 7) nd rfl (Or.inl rfl)) (pss_one (ps_if (PW.pt (pw_and (pt_cmpR op_eq (pe_call C__law_divisor.F (hr.mono (by decide)) (by rfl) C__law_divisor.mgf C__law_divisor.kp C__law_divisor.b .nil pass0 (pa_cons (pv 7) (pa_cons (pv 6) pa_nil))) pe_int (nomark _)) (pw_and (pt_cmpR op_lt (pe_op op_mulW (pv 2) (pv 6)) (pe_op op_mulW (pv 7) (pv 3)) (nomark _)) (pw_and1 (pt_cmpR op_lt (pe_op op_mulW (pv 7) (pv 5)) (pe_op op_mulW (pv 4) (pv 6)) (nomark _)))))) (pss_one (ps_ret (pe_tup (pa_cons (pv 7) (pa_cons (pv 6) pa_nil))))) pss_nil)))) pss_nil)))
      (pss_one (ps_ret pe_non))), ?_⟩
    refine ⟨_, rfl, _, _, rfl, he, rfl, _, _, rfl, _, _, rfl, _, _, rfl, _, _, rfl, rfl, ?_⟩
    refine ⟨_, rfl, _, rfl, _, _, rfl, rfl, 2, _, rfl, ⟨by decide, by decide, by split <;> omega, by split <;> omega⟩, ?_⟩
    have ab : (if n < 0 then -n else n) = (n.natAbs : Int) := by split <;> omega
    rw [ab]
    have nb := fa.nbp
    have a0 := fa.a0
    have ab' := fa.ab
    have c0 := fa.c0
    have cd := fa.cd
    have bm := fa.bm
    have dm := fa.dm
    have zz : ∀ y : Int, 0 ≤ y → y < 10 ^ 30 → Sz y := fun y y0 y1 => sz20 (Nat.lt_of_le_of_lt (show y.natAbs ≤ 10 ^ 30 by omega) (by decide +kernel))
    have za := zz a a0 (by omega)
    have zb := zz b (by omega) bm
    have zc := zz c (by omega) (by omega)
    have zd := zz d (by omega) dm
    refine for_range (lo := 2) (n := ((n.natAbs : Int) + 1 - 2).toNat) (fun i σ H' => ∃ y6 y7, σ = [some (.int n), some (.ref e), some (.int a), some (.int b), some (.int c), some (.int d), y6, y7] ∧ H' = H ∧ (∀ q, Hit a b c d n q → 2 + (i : Int) ≤ q)) ⟨_, _, rfl, rfl, fun q hq => by have := hq.lo; omega⟩ ?_ ?_
    · rintro i σ H' hi ⟨y6, y7, rfl, rfl, hlo⟩
      have qi : 2 + (i : Int) ≤ (n.natAbs : Int) := by omega
      have zq := zz (2 + (i : Int)) (by omega) (by omega)
      have skip : ¬ (∃ q, Hit a b c d n q ∧ q = 2 + (i : Int)) → ∀ q, Hit a b c d n q → 2 + ((i + 1 : Nat) : Int) ≤ q := fun h q hq => by
        have h1 := hlo q hq
        rcases Int.lt_or_le (2 + (i : Int)) q with l | l
        · omega
        · exact absurd ⟨q, hq, by omega⟩ h
      refine ⟨_, rfl, .inl ⟨_, rfl, _, rfl, _, _, rfl, rfl, (show 0 < 2 + (i : Int) by omega), rfl, _, rfl, ?_⟩⟩
      by_cases hm : n % (2 + (i : Int)) = 0
      · refine iteTb (by rw [vdec, decide_eq_true hm]) ?_
        refine ⟨_, rfl, 1, _, rfl, ⟨by decide, by decide, by omega, by omega⟩, ?_⟩
        -- nothing is found at a bottom that is not the first one
        have none' : ¬ (∃ q, Hit a b c d n q ∧ q = 2 + (i : Int)) → ∀ p : Int, ¬ (a * (2 + (i : Int)) < p * b ∧ p * d < c * (2 + (i : Int))) := fun h p z => by
          rcases hit_or (a := a) (b := b) (c := c) (d := d) (n := n) (by omega) with f | ⟨q, hq⟩
          · exact f.none nb (by omega) hm z
          · have h1 := hlo q hq
            rcases Int.lt_or_le (2 + (i : Int)) q with l | l
            · exact hq.fr.none nb l hm z
            · exact h ⟨q, hq, by omega⟩
        refine for_range (lo := 1) (n := (2 + (i : Int) - 1).toNat) (fun j σ K' => ∃ y7, σ = [some (.int n), some (.ref e), some (.int a), some (.int b), some (.int c), some (.int d), some (.int (2 + (i : Int))), y7] ∧ K' = H' ∧ ((∃ q, Hit a b c d n q ∧ q = 2 + (i : Int)) → 1 + (j : Int) ≤ PieM.top a b (2 + (i : Int)))) ⟨_, rfl, rfl, fun ⟨q, hq, e1⟩ => ?_⟩ ?_ ?_
        · have i1 : PieM.Ins a b c d (PieM.top a b (2 + (i : Int))) (2 + (i : Int)) := ⟨PieM.top_gt nb _, by rw [← e1]; exact hq.ins⟩
          have := (PieM.ins_pos nb i1).1
          omega
        · rintro j σ K' hj ⟨y7, rfl, rfl, hjt⟩
          have jj := l2_jj hj qi n1 n2
          have zp := zz (1 + (j : Int)) jj.1 jj.2.1
          refine ⟨_, rfl, _, rfl, _, _, rfl, jj.1, jj.2.2, rfl, _, rfl, ?_⟩
          have stay : ¬ (gcdI (1 + (j : Int)) (2 + (i : Int)) = 1 ∧ a * (2 + (i : Int)) < (1 + (j : Int)) * b ∧ (1 + (j : Int)) * d < c * (2 + (i : Int))) → (∃ q, Hit a b c d n q ∧ q = 2 + (i : Int)) → 1 + ((j + 1 : Nat) : Int) ≤ PieM.top a b (2 + (i : Int)) := fun h ⟨q, hq, e1⟩ => by
            have h1 := hjt ⟨q, hq, e1⟩
            rcases Int.lt_or_le (1 + (j : Int)) (PieM.top a b (2 + (i : Int))) with l | l
            · exact l2_le l
            · have e2 : 1 + (j : Int) = PieM.top a b (2 + (i : Int)) := Int.le_antisymm h1 l
              rw [e2] at h
              refine absurd ⟨?_, PieM.top_gt nb _, by rw [← e1]; exact hq.ins⟩ h
              have g := PieM.first_cop nb hq.fr hq.dv hq.ins
              rw [e1] at g
              show ((Int.gcd (PieM.top a b (2 + (i : Int))) (2 + (i : Int)) : Nat) : Int) = 1
              rw [g]
              rfl
          by_cases g : gcdI (1 + (j : Int)) (2 + (i : Int)) = 1
          · refine iteTb (by rw [vdec, decide_eq_true g]) ?_
            refine ⟨_, rfl, _, rfl, _, _, rfl, rfl, za.mul zq, _, rfl, _, rfl, _, _, rfl, rfl, zp.mul zb, _, _, rfl, rfl, _, rfl, ?_⟩
            by_cases h1 : a * (2 + (i : Int)) < (1 + (j : Int)) * b
            · refine iteTb (decide_eq_true h1) ?_
              refine ⟨_, rfl, _, rfl, _, _, rfl, rfl, zp.mul zd, _, rfl, _, rfl, _, _, rfl, rfl, zc.mul zq, _, _, rfl, rfl, _, rfl, ?_⟩
              by_cases h2 : (1 + (j : Int)) * d < c * (2 + (i : Int))
              · refine iteTb (decide_eq_true h2) ?_
                have hx : ∃ q, Hit a b c d n q ∧ q = 2 + (i : Int) := by
                  by_cases z : ∃ q, Hit a b c d n q ∧ q = 2 + (i : Int)
                  · exact z
                  · exact absurd ⟨h1, h2⟩ (none' z _)
                have h3 := hjt hx
                have h4 := PieM.top_le nb h1
                have e2 : 1 + (j : Int) = PieM.top a b (2 + (i : Int)) := Int.le_antisymm h3 h4
                obtain ⟨q, hq, e1⟩ := hx
                rcases hc with ⟨f, _⟩ | ⟨q2, hq2, k⟩
                · exact absurd f hq.not
                · have e3 := hq2.one hq
                  subst e3
                  refine ⟨_, rfl, _, rfl, (by decide : 2 ≤ sizeLine), fun t ht => ?_⟩
                  have k2 := k t ht
                  rw [e1] at k2
                  rw [e2]
                  exact k2
              · exact iteFb (decide_eq_false h2) ⟨_, rfl, rfl, stay fun z => h2 z.2.2⟩
            · exact iteFb (decide_eq_false h1) ⟨_, rfl, rfl, stay fun z => h1 z.2.1⟩
          · exact iteFb (by rw [vdec, decide_eq_false g]) ⟨_, rfl, rfl, stay fun z => g z.1⟩
        · rintro σ K' ⟨y7, rfl, rfl, hjt⟩
          have hj0 : True := trivial
          refine ⟨_, _, rfl, rfl, skip fun ⟨q, hq, e1⟩ => ?_⟩
          have i1 : PieM.Ins a b c d (PieM.top a b (2 + (i : Int))) (2 + (i : Int)) := ⟨PieM.top_gt nb _, by rw [← e1]; exact hq.ins⟩
          have h1 := (PieM.ins_pos nb i1).2
          have h2 := hjt ⟨q, hq, e1⟩
          exact l2_no hj0 qi h1 h2
      · refine iteFb (by rw [vdec, decide_eq_false hm]) ?_
        exact ⟨_, _, rfl, rfl, skip fun ⟨q, hq, e1⟩ => hm (by rw [← e1]; exact hq.dv)⟩
    · rintro σ H' ⟨y6, y7, rfl, rfl, hlo⟩
      rcases hc with ⟨_, hq⟩ | ⟨q, hq, _⟩
      · exact hq
      · have h1 := hlo q hq
        have h2 := hq.hi
        omega
end
end Toy
set_option maxRecDepth 100000
set_option maxHeartbeats 4000000
set_option exponentiation.threshold 9000
namespace Toy
open PySem PySem.Spec PyProof.Rows L2
open Rat (divInt)
theorem frac_cop {t q : Int} (q0 : 0 < q) (g : Int.gcd t q = 1) : (divInt t q).num = t ∧ ((divInt t q).den : Int) = q := by
  have g2 : Nat.Coprime t.natAbs q.natAbs := g
  have e := Rat.mk_eq_divInt (num := t) (den := q.natAbs) (nz := by omega) (c := g2)
  rw [show ((q.natAbs : Nat) : Int) = q by omega] at e
  rw [← e]
  exact ⟨rfl, by show ((q.natAbs : Nat) : Int) = q; omega⟩
theorem TyX.same {K : PySem.W.Frag} {H H' : Hp} {v : V} {t : Value} (h : TyX K H v t) (s : Same H H') : TyX K H' v t := by
  have k : ∀ {a : Addr} {o : HO}, H a = some o → H' a = some o := fun e => s _ _ e
  cases h with
  | base b =>
    refine .base ?_
    cases b with
    | non => exact .non
    | bl x => exact .bl x
    | int i => exact .int i
    | str x => exact .str x
    | flt x => exact .flt x
    | lst e => exact .lst (k e)
    | frz e => exact .frz (k e)
    | tup e => exact .tup (k e)
    | dK e => exact .dK (k e)
    | dT e => exact .dT (k e)
    | ins e cl ha hn htk hm => exact .ins (k e) cl ha hn htk hm
  | byt b => exact .byt b
  | set e => exact .set (k e)
  | kList e c => exact .kList e c
  | kTuple e c => exact .kTuple e c
  | kDict e c => exact .kDict e c
  | fTuple e => exact .fTuple (k e)
  | fDict e => exact .fDict (k e)
structure CalG (P : Program) (w : World) (K : PySem.W.Frag) (mg : Str → Option Value) (base : Heap) (k : Nat) (x : Str) (f : Addr) (fd : FuncData) (ps : List Str) (sp : Sp) : Prop where
  F : Own.FnG P w K mg base CX0 k f fd ps sp
  mgf : mg x = some (.ref f)
  kp : PySem.W.keepIn K (.ref f) = true
  b : Binds K fd ps []
section
variable {P : Program} {w : World} {K : PySem.W.Frag} {mg : Str → Option Value} {base : Heap} {C CP CT CBN CBP CM pR fR fM : Addr}
/-- the position told, or what is met, or what is refused -/
def spTold (K : PySem.W.Frag) (CP C : Addr) : Sp := fun vs H Q _ =>
  (∃ n p a b c d, vs = [.int n, .ref p] ∧ PieAt CP C H p a b c d ∧ Nbr a b c d ∧ (Sz (a + c) ∧ Sz (b + d)) ∧ (-96 ≤ n ∧ n ≤ 96) ∧
    (PieM.Free a b c d n ((n.natAbs : Int) + 1) → ∀ l t H', Same H H' → H' t = some (.tup [.int (oct n a b c d), .int n]) → H' l = some (.lst [.ref t]) → Q (.ref l) H') ∧
    (∀ q t H', Same H H' → b + d ≤ q → q ≤ (n.natAbs : Int) → n % q = 0 → PieM.Free a b c d n q → PieM.top a b q * d < c * q → H' t = some (.tup [.int (min 0 n), .int (max 0 n), .int (PieM.top a b q), .int q]) → Q (.ref t) H')) ∨
  (∃ u w' t r, vs = [u, w'] ∧ TyX K H u t ∧ (isIntK K t false ∨ ∃ n, u = .int n ∧ t = .type "int" ∧ (n < -96 ∨ 96 < n)) ∧ (∀ H', Same H H' → Own.ReprOf K H' u r) ∧ ∀ p H', Same H H' → H' p = some (.tup [.str "number", .str r]) → Q (.ref p) H') ∨
  (∃ n w' t, vs = [.int n, w'] ∧ (-96 ≤ n ∧ n ≤ 96) ∧ TyX K H w' t ∧ PySem.W.kitOne K t (.ref CP) = some false ∧ ∀ p H', Same H H' → H' p = some (.tup [.str "piece", .str "piece"]) → Q (.ref p) H')
theorem spTold_len {CP C : Addr} {vs : List V} {H : Hp} {Q : VK} {E : XK} (h : spTold K CP C vs H Q E) : ∃ u w', vs = [u, w'] := by
  rcases h with ⟨n, p, a, b, c, d, e, _⟩ | ⟨u, w', t, r, e, _⟩ | ⟨n, w', t, e, _⟩ <;> exact ⟨_, _, e⟩
abbrev sTold : Stmt := top 87
theorem scTold : FnScope ["_law_number", "_law_piece", "_law_caught", "_law_found", "error"] ["_law_number", "_law_piece"] (defScope sTold) := ⟨rfl, rfl, rfl, by decide +kernel, rfl, by decide +kernel, by decide +kernel⟩
theorem ok_told {f f1 f7 f8 f9 CF : Addr} {fd fd1 : FuncData} (F : Fun K "_law_told" "_law_told" sTold f fd) (T : Bl mg) (zr : mg "repr" = none) (T_Ratio : RatT K mg C) (T_Tone : TonT K mg CT) (hF : mg "FifthError" = some (.ref CF))
    (CX_pos : Cal0 P w K mg base 5 "position" f1 fd1 ["number", "piece"] (spPos CP C CT CM)) (CX_posB : Cal0 P w K mg base 5 "position" f1 fd1 ["number", "piece"] (spMetB K CP CBN CBP))
    (TM : ErT K mg "Meets" "one" CM f7) (n2 : PySem.W.findIn K (.ref CM) "other" = some none) (n3 : PySem.W.findIn K (.ref CM) "at" = some none) (TN : ErT K mg "BadNumber" "value" CBN f8) (TP : ErT K mg "BadPiece" "part" CBP f9) (XM : Own.KxC K CM) (XN : Own.KxC K CBN) (XP : Own.KxC K CBP)
    (eM : PySem.W.exmOne K (.ref CM) (.ref CF) = some true) (eN : PySem.W.exmOne K (.ref CBN) (.ref CF) = some true) (eP : PySem.W.exmOne K (.ref CBP) (.ref CF) = some true)
    (kMM : PySem.W.kitOne K (.ref CM) (.ref CM) = some true) (kNM : PySem.W.kitOne K (.ref CBN) (.ref CM) = some false) (kNN : PySem.W.kitOne K (.ref CBN) (.ref CBN) = some true) (kPM : PySem.W.kitOne K (.ref CBP) (.ref CM) = some false) (kPN : PySem.W.kitOne K (.ref CBP) (.ref CBN) = some false) (kPP : PySem.W.kitOne K (.ref CBP) (.ref CBP) = some true) :
    Own.FnG P w K mg base CX0 6 f fd ["_law_number", "_law_piece"] (spTold K CP C) := by
  refine Own.okG F scTold (fun vs H Q E h => ?_) (fun cdv A outer s H vs Q E hg hr h => ?_)
  · obtain ⟨u, w', rfl⟩ := spTold_len h
    rfl
  · have nd := scTold.nd
    rcases h with ⟨n, p, a, b, c, d, rfl, hp, nb, zs, ⟨n1, n2'⟩, q0, q1⟩ | ⟨u, w', t, r, rfl, ty, hn, rp, k⟩ | ⟨n, w', t, rfl, hn, ty, no, k⟩
    · refine ⟨_, pss_cons (ps_asg (pe_tup (pa_cons pe_non (pa_cons pe_non pa_nil))) (pg_tup (by rfl) (pgs_cons (pg_name (i := 2) nd rfl (Or.inl rfl)) (pgs_cons (pg_name (i := 3) nd rfl (Or.inl rfl)) pgs_nil))))
      (pss_cons (Own.ps_try_cl (tb := fun W D σ H => ∃ (Ech : XK) (x0 x1 : V), (∀ cls d σ' H', Ech cls d H' → W cls d σ' H') ∧ σ[0]? = some (some x0) ∧ σ[1]? = some (some x1) ∧ (spPos CP C CT CM) [x0, x1] H (fun v H' => D.nx (σ.set 3 (some v)) H') Ech) rfl rfl (fun W pn xe tk _ => ⟨fun pins s' σ H' D I h' => let ⟨_, _, _, hW, h0, h1, h2⟩ := h'; (pss_one (ps_set (i := 3) nd rfl (.inl rfl) (pe_call (sp := spPos CP C CT CM) CX_pos.F (hr.mono (by decide)) (by rfl) CX_pos.mgf CX_pos.kp CX_pos.b .nil (passes_call tk hW) (pa_cons (pv 0) (pa_cons (pv 1) pa_nil))))).run pins s' σ H' D I ⟨_, h0, _, h1, h2⟩⟩) (Own.cl_keep (i := 4) rfl rfl rfl nd rfl rfl ⟨rfl, by decide, .inl hF⟩ (fun a oe cls d pn hz hf => pss_one (ps_set (i := 2) nd rfl (.inl rfl) (pv 4))) (Own.cl_nil rfl rfl takes0)))
      (pss_cons (ps_if (pt_cmpR op_isN (pv 2) pe_non (nomark _)) (pss_one (ps_ret (pe_ifExp (pt_val (pe_callB call_isi (by rfl) T.isinstance (by decide +kernel) (pa_cons (pv 3) (pa_cons (Own.pe_gref (by rfl) T_Tone.mgC) pa_nil)))) (pe_lst (pa_cons (pe_tup (pa_cons (pe_fld (pv 3) rfl) (pa_cons (pe_fld (pv 3) rfl) pa_nil))) pa_nil)) (pe_lst pa_nil)))) pss_nil)
      (pss_cons (ps_if (pt_val (pe_callB Own.call_isK (by rfl) T.isinstance (by decide +kernel) (pa_cons (pv 2) (pa_cons (Own.pe_gref (by rfl) TM.mgC) pa_nil)))) (pss_one (ps_ret (pe_tup (pa_cons (Own.pe_kf (pv 2)) (pa_cons (Own.pe_kf (pv 2)) (pa_cons (pe_fld (Own.pe_kf (pv 2)) rfl) (pa_cons (pe_fld (Own.pe_kf (pv 2)) rfl) pa_nil))))))) pss_nil)
      (pss_cons (ps_if (pt_val (pe_callB Own.call_isK (by rfl) T.isinstance (by decide +kernel) (pa_cons (pv 2) (pa_cons (Own.pe_gref (by rfl) TN.mgC) pa_nil)))) (pss_one (ps_ret (pe_tup (pa_cons pe_str (pa_cons (pe_callB (Own.call_reprA hg hr.units) (by rfl) zr (by decide +kernel) (pa_cons (Own.pe_kf (pv 2)) pa_nil)) pa_nil))))) pss_nil)
      (pss_one (ps_ret (pe_ifExp (pt_val (pe_callB Own.call_isK (by rfl) T.isinstance (by decide +kernel) (pa_cons (pv 2) (pa_cons (Own.pe_gref (by rfl) TP.mgC) pa_nil)))) (pe_tup (pa_cons pe_str (pa_cons (Own.pe_kf (pv 2)) pa_nil))) pe_str))))))), ?_⟩
      refine ⟨(by decide : 2 ≤ sizeLine), fun e0 he0 => ⟨_, _, rfl, SqT.of upd_same, rfl, _, _, rfl, _, _, rfl, rfl, ?_⟩⟩
      have s0 := same_new (o := .tup [.non, .non]) he0
      generalize upd H e0 (.tup [.non, .non]) = H0 at s0 ⊢
      refine ⟨fun cls dd H' => cls = .ref CM ∧ ∃ q x d', dd = some d' ∧ Same H0 H' ∧ b + d ≤ q ∧ q ≤ (n.natAbs : Int) ∧ n % q = 0 ∧ PieM.Free a b c d n q ∧ PieM.top a b q * d < c * q ∧ RatQ C H' x (divInt (PieM.top a b q) q) ∧ H' d' = some (.xd [("at", .ref x), ("other", .int (max 0 n)), ("one", .int (min 0 n))]), _, _, fun cls dd σ' H' z => ?_, rfl, rfl, n, p, a, b, c, d, rfl, hp.same s0, nb, zs, ⟨n1, n2'⟩, fun x H' s' fr hx => ?_, fun q x d' H' s' qb qn qm fr qt hx hd => ⟨rfl, q, x, d', rfl, s', qb, qn, qm, fr, qt, hx, hd⟩⟩
      · obtain ⟨rfl, q, x, d', rfl, s', qb, qn, qm, fr, qt, hx, hd⟩ := z
        refine ⟨true, eM, fun _ hl a' na => ?_, (fun z => nomatch z)⟩
        match σ', hl with
        | [v0, v1, v2, v3, v4], _ =>
          have s2 := same_new (o := Own.KeO (.ref CM) (some d') a') na
          refine ⟨_, rfl, ?_⟩
          refine ⟨_, rfl, rfl, _, rfl, iteFb rfl ?_⟩
          have hk : (upd H' a' (Own.KeO (.ref CM) (some d') a')) a' = some (Own.KeO (.ref CM) (some d') a') := upd_same
          have hd2 := s2 _ _ hd
          have nbp : PieM.Nb a b c d := ⟨nb.a0, nb.ab, nb.c0, nb.cd, nb.nb⟩
          obtain ⟨dr, hr2⟩ := hx.same s2
          have b0 : 0 < b := by have := nb.a0; have := nb.ab; omega
          have d0 : 0 < d := by have := nb.c0; have := nb.cd; omega
          obtain ⟨e1, e2⟩ := frac_cop (by omega) (PieM.first_cop nbp fr qm qt)
          rw [e1, e2] at hr2
          refine ⟨_, rfl, a', CM, some d', _, _, true, rfl, hk, .inr ⟨d', _, rfl, hd2⟩, XM, (fun _ r => r), kMM, _, rfl, iteT ?_⟩
          refine ⟨_, rfl, a', CM, d', _, _, rfl, hk, XM.toXfC, TM.no, hd2, rfl, ?_⟩
          refine ⟨_, rfl, a', CM, d', _, _, rfl, hk, XM.toXfC, n2, hd2, rfl, ?_⟩
          refine ⟨_, rfl, a', CM, d', _, _, rfl, hk, XM.toXfC, n3, hd2, rfl, _, C, dr, _, _, rfl, hr2, T_Ratio.cl, T_Ratio.nT, ratF_top _ _, ?_⟩
          refine ⟨_, rfl, a', CM, d', _, _, rfl, hk, XM.toXfC, n3, hd2, rfl, _, C, dr, _, _, rfl, hr2, T_Ratio.cl, T_Ratio.nB, ratF_bot _ _, ?_⟩
          exact ⟨(by decide : 4 ≤ sizeLine), fun t ht => q1 q t _ (((s0.trans s').trans s2).trans (same_new ht)) qb qn qm fr qt upd_same⟩
      · obtain ⟨dx, hx⟩ := hx
        refine ⟨_, rfl, rfl, _, rfl, iteTb rfl ?_⟩
        refine ⟨_, rfl, _, _, _, _, true, rfl, .own _, T_Tone.ty hx, T_Tone.kS, _, rfl, iteT ?_⟩
        refine ⟨_, rfl, _, CT, dx, _, _, rfl, hx, T_Tone.cl, T_Tone.nO, tonF_oct _ _, _, rfl, _, CT, dx, _, _, rfl, hx, T_Tone.cl, T_Tone.nF, tonF_fif _ _, ?_⟩
        refine ⟨(by decide : 2 ≤ sizeLine), fun t ht => ⟨(by decide : 1 ≤ sizeLine), fun l hl => ?_⟩⟩
        have s2 := same_new (o := .tup [.int (oct n a b c d), .int n]) ht
        have s3 := same_new (o := .lst [.ref t]) hl
        exact q0 fr l t _ (((s0.trans s').trans s2).trans s3) (s3 _ _ upd_same) upd_same
    · refine ⟨_, pss_cons (ps_asg (pe_tup (pa_cons pe_non (pa_cons pe_non pa_nil))) (pg_tup (by rfl) (pgs_cons (pg_name (i := 2) nd rfl (Or.inl rfl)) (pgs_cons (pg_name (i := 3) nd rfl (Or.inl rfl)) pgs_nil))))
      (pss_cons (Own.ps_try_cl (tb := fun W D σ H => ∃ (Ech : XK) (x0 x1 : V), (∀ cls d σ' H', Ech cls d H' → W cls d σ' H') ∧ σ[0]? = some (some x0) ∧ σ[1]? = some (some x1) ∧ (spMetB K CP CBN CBP) [x0, x1] H (fun v H' => D.nx (σ.set 3 (some v)) H') Ech) rfl rfl (fun W pn xe tk _ => ⟨fun pins s' σ H' D I h' => let ⟨_, _, _, hW, h0, h1, h2⟩ := h'; (pss_one (ps_set (i := 3) nd rfl (.inl rfl) (pe_call (sp := spMetB K CP CBN CBP) CX_posB.F (hr.mono (by decide)) (by rfl) CX_posB.mgf CX_posB.kp CX_posB.b .nil (passes_call tk hW) (pa_cons (pv 0) (pa_cons (pv 1) pa_nil))))).run pins s' σ H' D I ⟨_, h0, _, h1, h2⟩⟩) (Own.cl_keep (i := 4) rfl rfl rfl nd rfl rfl ⟨rfl, by decide, .inl hF⟩ (fun a oe cls d pn hz hf => pss_one (ps_set (i := 2) nd rfl (.inl rfl) (pv 4))) (Own.cl_nil rfl rfl takes0)))
      (pss_cons (ps_if (pt_cmpR op_isN (pv 2) pe_non (nomark _)) (pss_one (ps_ret (pe_ifExp (pt_val (pe_callB call_isi (by rfl) T.isinstance (by decide +kernel) (pa_cons (pv 3) (pa_cons (Own.pe_gref (by rfl) T_Tone.mgC) pa_nil)))) (pe_lst (pa_cons (pe_tup (pa_cons (pe_fld (pv 3) rfl) (pa_cons (pe_fld (pv 3) rfl) pa_nil))) pa_nil)) (pe_lst pa_nil)))) pss_nil)
      (pss_cons (ps_if (pt_val (pe_callB Own.call_isK (by rfl) T.isinstance (by decide +kernel) (pa_cons (pv 2) (pa_cons (Own.pe_gref (by rfl) TM.mgC) pa_nil)))) (pss_one (ps_ret (pe_tup (pa_cons (Own.pe_kf (pv 2)) (pa_cons (Own.pe_kf (pv 2)) (pa_cons (pe_fld (Own.pe_kf (pv 2)) rfl) (pa_cons (pe_fld (Own.pe_kf (pv 2)) rfl) pa_nil))))))) pss_nil)
      (pss_cons (ps_if (pt_val (pe_callB Own.call_isK (by rfl) T.isinstance (by decide +kernel) (pa_cons (pv 2) (pa_cons (Own.pe_gref (by rfl) TN.mgC) pa_nil)))) (pss_one (ps_ret (pe_tup (pa_cons pe_str (pa_cons (pe_callB (Own.call_reprA hg hr.units) (by rfl) zr (by decide +kernel) (pa_cons (Own.pe_kf (pv 2)) pa_nil)) pa_nil))))) pss_nil)
      (pss_one (ps_ret (pe_ifExp (pt_val (pe_callB Own.call_isK (by rfl) T.isinstance (by decide +kernel) (pa_cons (pv 2) (pa_cons (Own.pe_gref (by rfl) TP.mgC) pa_nil)))) (pe_tup (pa_cons pe_str (pa_cons (Own.pe_kf (pv 2)) pa_nil))) pe_str))))))), ?_⟩
      refine ⟨(by decide : 2 ≤ sizeLine), fun e0 he0 => ⟨_, _, rfl, SqT.of upd_same, rfl, _, _, rfl, _, _, rfl, rfl, ?_⟩⟩
      have s0 := same_new (o := .tup [.non, .non]) he0
      generalize upd H e0 (.tup [.non, .non]) = H0 at s0 ⊢
      refine ⟨fun cls dd H' => cls = .ref CBN ∧ ∃ d', dd = some d' ∧ Same H0 H' ∧ H' d' = some (.xd [("value", u)]), _, _, fun cls dd σ' H' z => ?_, rfl, rfl, .inl ⟨u, w', t, rfl, TyX.same ty s0, hn, fun d' H' s' hd => ⟨rfl, d', rfl, s', hd⟩⟩⟩
      obtain ⟨rfl, d', rfl, s', hd⟩ := z
      refine ⟨true, eN, fun _ hl a' na => ?_, (fun z => nomatch z)⟩
      match σ', hl with
      | [v0, v1, v2, v3, v4], _ =>
        have s2 := same_new (o := Own.KeO (.ref CBN) (some d') a') na
        refine ⟨_, rfl, ?_⟩
        refine ⟨_, rfl, rfl, _, rfl, iteFb rfl ?_⟩
        have hk : (upd H' a' (Own.KeO (.ref CBN) (some d') a')) a' = some (Own.KeO (.ref CBN) (some d') a') := upd_same
        have hd2 := s2 _ _ hd
        refine ⟨_, rfl, a', CBN, some d', _, _, false, rfl, hk, .inr ⟨d', _, rfl, hd2⟩, XN, (fun _ r => r), kNM, _, rfl, iteF ?_⟩
        refine ⟨_, rfl, a', CBN, some d', _, _, true, rfl, hk, .inr ⟨d', _, rfl, hd2⟩, XN, (fun _ r => r), kNN, _, rfl, iteT ?_⟩
        refine ⟨_, rfl, a', CBN, d', _, _, rfl, hk, XN.toXfC, TN.no, hd2, rfl, _, _, rfl, rp _ ((s0.trans s').trans s2), ?_⟩
        exact ⟨(by decide : 2 ≤ sizeLine), fun t ht => k t _ (((s0.trans s').trans s2).trans (same_new ht)) upd_same⟩
    · refine ⟨_, pss_cons (ps_asg (pe_tup (pa_cons pe_non (pa_cons pe_non pa_nil))) (pg_tup (by rfl) (pgs_cons (pg_name (i := 2) nd rfl (Or.inl rfl)) (pgs_cons (pg_name (i := 3) nd rfl (Or.inl rfl)) pgs_nil))))
      (pss_cons (Own.ps_try_cl (tb := fun W D σ H => ∃ (Ech : XK) (x0 x1 : V), (∀ cls d σ' H', Ech cls d H' → W cls d σ' H') ∧ σ[0]? = some (some x0) ∧ σ[1]? = some (some x1) ∧ (spMetB K CP CBN CBP) [x0, x1] H (fun v H' => D.nx (σ.set 3 (some v)) H') Ech) rfl rfl (fun W pn xe tk _ => ⟨fun pins s' σ H' D I h' => let ⟨_, _, _, hW, h0, h1, h2⟩ := h'; (pss_one (ps_set (i := 3) nd rfl (.inl rfl) (pe_call (sp := spMetB K CP CBN CBP) CX_posB.F (hr.mono (by decide)) (by rfl) CX_posB.mgf CX_posB.kp CX_posB.b .nil (passes_call tk hW) (pa_cons (pv 0) (pa_cons (pv 1) pa_nil))))).run pins s' σ H' D I ⟨_, h0, _, h1, h2⟩⟩) (Own.cl_keep (i := 4) rfl rfl rfl nd rfl rfl ⟨rfl, by decide, .inl hF⟩ (fun a oe cls d pn hz hf => pss_one (ps_set (i := 2) nd rfl (.inl rfl) (pv 4))) (Own.cl_nil rfl rfl takes0)))
      (pss_cons (ps_if (pt_cmpR op_isN (pv 2) pe_non (nomark _)) (pss_one (ps_ret (pe_ifExp (pt_val (pe_callB call_isi (by rfl) T.isinstance (by decide +kernel) (pa_cons (pv 3) (pa_cons (Own.pe_gref (by rfl) T_Tone.mgC) pa_nil)))) (pe_lst (pa_cons (pe_tup (pa_cons (pe_fld (pv 3) rfl) (pa_cons (pe_fld (pv 3) rfl) pa_nil))) pa_nil)) (pe_lst pa_nil)))) pss_nil)
      (pss_cons (ps_if (pt_val (pe_callB Own.call_isK (by rfl) T.isinstance (by decide +kernel) (pa_cons (pv 2) (pa_cons (Own.pe_gref (by rfl) TM.mgC) pa_nil)))) (pss_one (ps_ret (pe_tup (pa_cons (Own.pe_kf (pv 2)) (pa_cons (Own.pe_kf (pv 2)) (pa_cons (pe_fld (Own.pe_kf (pv 2)) rfl) (pa_cons (pe_fld (Own.pe_kf (pv 2)) rfl) pa_nil))))))) pss_nil)
      (pss_cons (ps_if (pt_val (pe_callB Own.call_isK (by rfl) T.isinstance (by decide +kernel) (pa_cons (pv 2) (pa_cons (Own.pe_gref (by rfl) TN.mgC) pa_nil)))) (pss_one (ps_ret (pe_tup (pa_cons pe_str (pa_cons (pe_callB (Own.call_reprA hg hr.units) (by rfl) zr (by decide +kernel) (pa_cons (Own.pe_kf (pv 2)) pa_nil)) pa_nil))))) pss_nil)
      (pss_one (ps_ret (pe_ifExp (pt_val (pe_callB Own.call_isK (by rfl) T.isinstance (by decide +kernel) (pa_cons (pv 2) (pa_cons (Own.pe_gref (by rfl) TP.mgC) pa_nil)))) (pe_tup (pa_cons pe_str (pa_cons (Own.pe_kf (pv 2)) pa_nil))) pe_str))))))), ?_⟩
      refine ⟨(by decide : 2 ≤ sizeLine), fun e0 he0 => ⟨_, _, rfl, SqT.of upd_same, rfl, _, _, rfl, _, _, rfl, rfl, ?_⟩⟩
      have s0 := same_new (o := .tup [.non, .non]) he0
      generalize upd H e0 (.tup [.non, .non]) = H0 at s0 ⊢
      refine ⟨fun cls dd H' => cls = .ref CBP ∧ ∃ d', dd = some d' ∧ Same H0 H' ∧ H' d' = some (.xd [("part", .str "piece")]), _, _, fun cls dd σ' H' z => ?_, rfl, rfl, .inr ⟨n, w', t, rfl, hn, TyX.same ty s0, no, fun d' H' s' hd => ⟨rfl, d', rfl, s', hd⟩⟩⟩
      obtain ⟨rfl, d', rfl, s', hd⟩ := z
      refine ⟨true, eP, fun _ hl a' na => ?_, (fun z => nomatch z)⟩
      match σ', hl with
      | [v0, v1, v2, v3, v4], _ =>
        have s2 := same_new (o := Own.KeO (.ref CBP) (some d') a') na
        refine ⟨_, rfl, ?_⟩
        refine ⟨_, rfl, rfl, _, rfl, iteFb rfl ?_⟩
        have hk : (upd H' a' (Own.KeO (.ref CBP) (some d') a')) a' = some (Own.KeO (.ref CBP) (some d') a') := upd_same
        have hd2 := s2 _ _ hd
        refine ⟨_, rfl, a', CBP, some d', _, _, false, rfl, hk, .inr ⟨d', _, rfl, hd2⟩, XP, (fun _ r => r), kPM, _, rfl, iteF ?_⟩
        refine ⟨_, rfl, a', CBP, some d', _, _, false, rfl, hk, .inr ⟨d', _, rfl, hd2⟩, XP, (fun _ r => r), kPN, _, rfl, iteF ?_⟩
        refine ⟨_, rfl, a', CBP, some d', _, _, true, rfl, hk, .inr ⟨d', _, rfl, hd2⟩, XP, (fun _ r => r), kPP, _, rfl, iteT ?_⟩
        refine ⟨_, rfl, a', CBP, d', _, _, rfl, hk, XP.toXfC, TP.no, hd2, rfl, ?_⟩
        exact ⟨(by decide : 2 ≤ sizeLine), fun t ht => k t _ (((s0.trans s').trans s2).trans (same_new ht)) upd_same⟩
end
end Toy
set_option maxRecDepth 100000
set_option maxHeartbeats 4000000
set_option exponentiation.threshold 9000
namespace Toy
open PySem PySem.Spec PyProof.Rows L2
open Rat (divInt)
theorem gcd_nb {a b c d : Int} (h : b * c - a * d = 1) : Int.gcd a b = 1 ∧ Int.gcd c d = 1 := by
  have hx : ∀ g : Int, g ∣ 1 → 0 ≤ g → g = 1 := fun g hg h0 => by
    have := Int.le_of_dvd (by decide) hg
    obtain ⟨k, hk⟩ := hg
    by_cases z : g = 0
    · rw [z, Int.zero_mul] at hk
      omega
    · omega
  constructor
  · have h1 : ((Int.gcd a b : Nat) : Int) ∣ 1 := by
      rw [← h]
      exact Int.dvd_sub (Int.dvd_mul_of_dvd_left (Int.gcd_dvd_right ..)) (Int.dvd_mul_of_dvd_left (Int.gcd_dvd_left ..))
    have := hx _ h1 (by omega)
    omega
  · have h1 : ((Int.gcd c d : Nat) : Int) ∣ 1 := by
      rw [← h]
      exact Int.dvd_sub (Int.dvd_mul_of_dvd_right (Int.gcd_dvd_left ..)) (Int.dvd_mul_of_dvd_right (Int.gcd_dvd_right ..))
    have := hx _ h1 (by omega)
    omega
theorem asAt {C : Addr} {H : Hp} {x : Addr} {t b : Int} (b0 : 0 < b) (g : Int.gcd t b = 1) (h : RatAt C H x (lowT t b) (lowB t b)) : RatAt C H x t b := by
  rw [low_num (by omega), low_den (by omega)] at h
  obtain ⟨e1, e2⟩ := frac_cop b0 g
  rw [e1, e2] at h
  exact h
theorem ins_spot {a b c d : Int} (h : PieM.Nb a b c d) {u v : Int} (hu : 1 ≤ u) (hv : 1 ≤ v) : PieM.Ins a b c d (u * a + v * c) (u * b + v * d) := by
  have nb := h.nb
  have e1 : (u * a + v * c) * b - a * (u * b + v * d) = v * (b * c - a * d) := by grind
  have e2 : c * (u * b + v * d) - (u * a + v * c) * d = u * (b * c - a * d) := by grind
  rw [nb] at e1 e2
  exact ⟨by omega, by omega⟩
theorem oct_pitch {a b c d n p q : Int} (h : PieM.Nb a b c d) (f : PieM.Free a b c d n ((n.natAbs : Int) + 1)) (i : PieM.Ins a b c d p q) : oct n a b c d * q + n * p = n * p % q := by
  unfold oct
  by_cases h0 : n = 0
  · rw [if_pos h0, h0, Int.zero_mul, Int.zero_mul, Int.zero_emod]
    rfl
  · rw [if_neg h0]
    have e := PieM.floor_same h h0 f i
    have m := Int.mul_ediv_add_emod (n * p) q
    rw [e] at m
    rw [Int.neg_mul, Int.mul_comm (n * (a + c) / (b + d)) q]
    omega
theorem oct_le {a b c d n : Int} (h : PieM.Nb a b c d) (n1 : -96 ≤ n) (n2 : n ≤ 96) : -96 ≤ oct n a b c d ∧ oct n a b c d ≤ 96 := by
  unfold oct
  by_cases h0 : n = 0
  · rw [if_pos h0]
    exact ⟨by decide, by decide⟩
  · rw [if_neg h0]
    have a0 := h.a0
    have ab := h.ab
    have c0 := h.c0
    have cd := h.cd
    have s0 : 0 < b + d := by omega
    have x1 : -96 * (a + c) ≤ n * (a + c) := Int.mul_le_mul_of_nonneg_right n1 (by omega)
    have x2 : n * (a + c) ≤ 96 * (a + c) := Int.mul_le_mul_of_nonneg_right n2 (by omega)
    have y1 : -96 ≤ n * (a + c) / (b + d) := Int.le_ediv_of_mul_le s0 (by omega)
    have y2 : n * (a + c) / (b + d) ≤ 96 := Int.ediv_le_of_le_mul s0 (by omega)
    exact ⟨by omega, by omega⟩
theorem SqT_same {K : PySem.W.Frag} {H H' : Hp} {a : Addr} {ys : List V} (h : SqT K H a ys) (s : Same H H') : SqT K H' a ys := by
  rcases h with (h | ⟨o, h⟩) | h
  · exact .inl (.inl (s _ _ h))
  · exact .inl (.inr ⟨o, s _ _ h⟩)
  · exact .inr h
theorem Pen.lst {H : Hp} {p c : Addr} {k : Nat} (h : Pen H p c k) : ∃ xs, H p = some (.lst xs) := by
  obtain ⟨_, _, _, W, _⟩ := h
  exact ⟨_, W.hp⟩
theorem PieAt.but {CP C : Addr} {H H' : Hp} {p x : Addr} {a b c d : Int} {xs : List V} (h : PieAt CP C H x a b c d) (hp : H p = some (.lst xs)) (B : But p H H') : PieAt CP C H' x a b c d := by
  obtain ⟨dx, l, r, hx, ⟨dl, hl⟩, ⟨dr, hr⟩⟩ := h
  exact ⟨dx, l, r, B _ _ hx (fun z => by rw [z, hp] at hx; cases hx), ⟨dl, B _ _ hl (fun z => by rw [z, hp] at hl; cases hl)⟩, ⟨dr, B _ _ hr (fun z => by rw [z, hp] at hr; cases hr)⟩⟩
theorem tup_but {H H' : Hp} {p x : Addr} {xs ys : List V} (h : H x = some (.tup ys)) (hp : H p = some (.lst xs)) (B : But p H H') : H' x = some (.tup ys) := B _ _ h fun z => by rw [z, hp] at h; cases h
def t4 (a b c d : Int) : PyData := .tuple [.int a, .int b, .int c, .int d]
theorem t4_sh (a b c d : Int) : SeqAt.shaped (t4 a b c d) = true := by simp [t4, SeqAt.shaped, PyData.canLay0, PyData.canLayAll0, PyData.depth, PyData.depthAll]
theorem t4_eq (a b c d : Int) : PyData.eqv (t4 a b c d) (t4 a b c d) = true := by simp [t4, PyData.eqv, PyData.eqvAll]
section
variable {P : Program} {w : World} {K : PySem.W.Frag} {mg : Str → Option Value} {base : Heap} {C CP CT CBN CBP CM pR fR fM : Addr}
def spRight (K : PySem.W.Frag) : Sp := fun vs H Q _ => ∃ p cc k n e a b c d, vs = [.ref p, .int n, .ref e] ∧ Pen H p cc k ∧ k ≤ 900000 ∧ (-96 ≤ n ∧ n ≤ 96) ∧ SqT K H e [.int a, .int b, .int c, .int d] ∧ Far a b c d ∧ ∀ H', Pen H' p cc (k + 2) → But p H H' → Q (.bl true) H'
abbrev sRight : Stmt := top 88
theorem scRight : FnScope ["_law_pen_here", "_law_number", "_law_ends_here", "_law_a", "_law_b", "_law_c", "_law_d", "_law_piece", "_law_there", "_law_told_here", "_law_octaves", "_law_fifths", "_law_u", "_law_v", "_law_p", "_law_q"] ["_law_pen_here", "_law_number", "_law_ends_here"] (defScope sRight) := ⟨rfl, rfl, rfl, by decide +kernel, rfl, by decide +kernel, by decide +kernel⟩
theorem ok_right {f f1 f2 f3 f4 f5 f6 f7 f8 : Addr} {fd fd1 fd2 fd3 fd4 fd5 fd6 fd7 fd8 : FuncData} (F : Fun K "_law_right" "_law_right" sRight f fd) (T : Bl mg) (zm : mg "min" = none) (zx : mg "max" = none) (T_Tone : TonT K mg CT) (nIT : PySem.W.notFirst K CT (.type "int") = true)
    (C__law_draw : Cal P w K mg base 1 "_law_draw" f1 fd1 ["_law_pen_here", "_law_many"] spDraw) (C__law_met : Cal P w K mg base 2 "_law_met" f2 fd2 ["_law_number", "_law_ends_here"] (spLMet K)) (G__law_told : CalG P w K mg base 6 "_law_told" f3 fd3 ["_law_number", "_law_piece"] (spTold K CP C)) (CX_pos : Cal0 P w K mg base 5 "position" f4 fd4 ["number", "piece"] (spPos CP C CT CM))
    (M_Ratio : Mak P w K mg base 2 "Ratio" C f5 fd5 ["self", "top", "bottom"] (spRInit C)) (M_Piece : Mak P w K mg base 5 "Piece" CP f6 fd6 ["self", "left", "right"] (spPInit CP C)) (M_Tone : Mak P w K mg base 2 "Tone" CT f7 fd7 ["self", "octaves", "fifths"] (spTonI CT)) (O_eq : Opr P w K mg base 1 CT "__eq__" f8 fd8 ["self", "other"] (spTonEq CT)) :
    Own.FnG P w K mg base CX0 7 f fd ["_law_pen_here", "_law_number", "_law_ends_here"] (spRight K) := by
  refine Own.okG F scRight (fun vs H Q E h => ?_) (fun cdv A outer s H vs Q E hg hr h => ?_)
  · obtain ⟨p, cc, k, n, e, a, b, c, d, rfl, _⟩ := h
    rfl
  · obtain ⟨p, cc, k, n, e, a, b, c, d, rfl, hP, hk, ⟨n1, n2⟩, he, fa, q⟩ := h
    have nd := scRight.nd
    refine ⟨_, pss_cons (ps_asg (pv 2) (pg_tup (by rfl) (pgs_cons (pg_name (i := 3) nd rfl (Or.inl rfl)) (pgs_cons (pg_name (i := 4) nd rfl (Or.inl rfl)) (pgs_cons (pg_name (i := 5) nd rfl (Or.inl rfl)) (pgs_cons (pg_name (i := 6) nd rfl (Or.inl rfl)) pgs_nil))))))
      (pss_cons (ps_par (i := 7) (j := 8) (by rfl) nd rfl rfl (by decide) rfl rfl (pa_cons (pe_make M_Piece.M M_Piece.F (hr.mono (by decide)) (by rfl) M_Piece.mgC M_Piece.b .nil pass0 (pa_cons (pe_make M_Ratio.M M_Ratio.F (hr.mono (by decide)) (by rfl) M_Ratio.mgC M_Ratio.b .nil pass0 (pa_cons (pv 3) (pa_cons (pv 4) pa_nil))) (pa_cons (pe_make M_Ratio.M M_Ratio.F (hr.mono (by decide)) (by rfl) M_Ratio.mgC M_Ratio.b .nil pass0 (pa_cons (pv 5) (pa_cons (pv 6) pa_nil))) pa_nil))) (pa_cons (pe_call C__law_met.F (hr.mono (by decide)) (by rfl) C__law_met.mgf C__law_met.kp C__law_met.b .nil pass0 (pa_cons (pv 1) (pa_cons (pv 2) pa_nil))) pa_nil)) (by rfl))
      (pss_cons (ps_set (i := 9) nd rfl (Or.inl rfl) (Own.pe_callG G__law_told.F hg (hr.mono (by decide)) (by rfl) G__law_told.mgf G__law_told.kp G__law_told.b pass0 (pa_cons (pv 1) (pa_cons (pv 7) pa_nil))))
      (pss_cons (ps_if (pt_cmpR op_notN (pv 8) pe_non (nomark _)) (pss_one (ps_ret (pe_cmpR (op_eqD hr.units) (pv 9) (pe_tup (pa_cons (pe_callB (call_min2 rfl) (by rfl) zm (by decide +kernel) (pa_cons pe_int (pa_cons (pe_callTy call_int1 (by rfl) T.int (by decide +kernel) (pa_cons (pv 1) pa_nil)) pa_nil))) (pa_cons (pe_callB (call_max2 rfl) (by rfl) zx (by decide +kernel) (pa_cons pe_int (pa_cons (pe_callTy call_int1 (by rfl) T.int (by decide +kernel) (pa_cons (pv 1) pa_nil)) pa_nil))) (pa_cons (pe_ix ix_tup (pv 8) pe_int (fun _ _ => rfl)) (pa_cons (pe_ix ix_tup (pv 8) pe_int (fun _ _ => rfl)) pa_nil))))) (nomark _)))) pss_nil)
      (pss_cons (ps_if (pt_not (pt_val (pe_callB call_isi (by rfl) T.isinstance (by decide +kernel) (pa_cons (pv 9) (pa_cons (pe_bltn (v := .ty "list") (u := .type "list") (by rfl) T.list (by decide +kernel) rfl) pa_nil))))) (pss_one (ps_ret pe_bl)) pss_nil)
      (pss_cons (ps_asg (pe_ix ix_list (pv 9) pe_int (fun _ _ => rfl)) (pg_tup (by rfl) (pgs_cons (pg_name (i := 10) nd rfl (Or.inl rfl)) (pgs_cons (pg_name (i := 11) nd rfl (Or.inl rfl)) pgs_nil))))
      (pss_cons (ps_for PassesOwn.never rfl (pi_list (pe_lst (pa_cons (pe_tup (pa_cons pe_int (pa_cons pe_int pa_nil))) (pa_cons (pe_tup (pa_cons (pe_op op_add pe_int (pe_call C__law_draw.F (hr.mono (by decide)) (by rfl) C__law_draw.mgf C__law_draw.kp C__law_draw.b .nil pass0 (pa_cons (pv 0) (pa_cons pe_int pa_nil)))) (pa_cons pe_int pa_nil))) (pa_cons (pe_tup (pa_cons (pe_op op_add pe_int (pe_op op_mulW pe_int (pe_call C__law_draw.F (hr.mono (by decide)) (by rfl) C__law_draw.mgf C__law_draw.kp C__law_draw.b .nil pass0 (pa_cons (pv 0) (pa_cons pe_int pa_nil))))) (pa_cons pe_int pa_nil))) pa_nil))))) (pg_tup (by rfl) (pgs_cons (pg_name (i := 12) nd rfl (Or.inl rfl)) (pgs_cons (pg_name (i := 13) nd rfl (Or.inl rfl)) pgs_nil))) (pss_cons (ps_par (i := 14) (j := 15) (by rfl) nd rfl rfl (by decide) rfl rfl (pa_cons (pe_op op_add (pe_op op_mulW (pv 12) (pv 3)) (pe_op op_mulW (pv 13) (pv 5))) (pa_cons (pe_op op_add (pe_op op_mulW (pv 12) (pv 4)) (pe_op op_mulW (pv 13) (pv 6))) pa_nil)) (by rfl))
      (pss_one (ps_if (pt_cmpR op_ne (pe_op op_add (pe_op op_mulW (pv 10) (pv 15)) (pe_op op_mulW (pv 11) (pv 14))) (pe_op op_mod (pe_callTy call_int1 (by rfl) T.int (by decide +kernel) (pa_cons (pe_op op_mulW (pv 1) (pv 14)) pa_nil)) (pv 15)) (nomark _)) (pss_one (ps_ret pe_bl)) pss_nil))))
      (pss_one (ps_ret (pe_and (pe_cmpR op_eq (pv 11) (pv 1) (nomark _)) (pe_one (pe_cmpR (Own.op_eqL O_eq.F (hr.mono (by decide)) O_eq.at_ O_eq.fn nIT O_eq.b pass0) (pe_call CX_pos.F (hr.mono (by decide)) (by rfl) CX_pos.mgf CX_pos.kp CX_pos.b .nil passL (pa_cons (pv 1) (pa_cons (pv 7) pa_nil))) (pe_make M_Tone.M M_Tone.F (hr.mono (by decide)) (by rfl) M_Tone.mgC M_Tone.b .nil pass0 (pa_cons (pv 10) (pa_cons (pv 11) pa_nil))) (nomark _)))))))))))), ?_⟩
    have nbp := fa.nbp
    have a0 := fa.a0
    have ab := fa.ab
    have c0 := fa.c0
    have cd := fa.cd
    have bm := fa.bm
    have dm := fa.dm
    have zz : ∀ y : Int, -(10 ^ 36) ≤ y → y ≤ 10 ^ 36 → Sz y := fun y y0 y1 => sz20 (Nat.lt_of_le_of_lt (show y.natAbs ≤ 10 ^ 36 by omega) (by decide +kernel))
    have za := zz a (by omega) (by omega)
    have zb := zz b (by omega) (by omega)
    have zc := zz c (by omega) (by omega)
    have zd := zz d (by omega) (by omega)
    have hn : Nbr a b c d := ⟨a0, ab, c0, cd, fa.nb, za, zb, zc, zd⟩
    obtain ⟨g1, g2⟩ := gcd_nb fa.nb
    have b0 : 0 < b := by omega
    have d0 : 0 < d := by omega
    refine ⟨_, rfl, _, _, rfl, he, rfl, _, _, rfl, _, _, rfl, _, _, rfl, _, _, rfl, rfl, ?_⟩
    refine ⟨_, rfl, _, rfl, ?_⟩
    intro x1 dx1 hx1 hdx1 hne1
    refine ⟨x1, dx1, a, b, rfl, upd_same, by omega, zb, fun H1 h1 hk1 => ⟨rfl, ?_⟩⟩
    have s1 := mk_same hx1 hdx1 hk1
    refine ⟨_, rfl, _, rfl, ?_⟩
    intro x2 dx2 hx2 hdx2 hne2
    refine ⟨x2, dx2, c, d, rfl, upd_same, by omega, zd, fun H2 h2 hk2 => ⟨rfl, ?_⟩⟩
    have s2 := mk_same hx2 hdx2 hk2
    intro x dx hx0 hdx0 hne0
    have w0 := same_two (o := .own x) (u := .ins CP dx []) hdx0 hx0 hne0
    refine ⟨x, dx, _, _, a, b, c, d, rfl, upd_same, .rat (((asAt b0 g1 h1).same s2).same w0), .rat ((asAt d0 g2 h2).same w0), hn, fun H3 hp hk3 => ⟨rfl, ?_⟩⟩
    have s3 : Same H2 H3 := fun y o z => hk3 y o (w0 _ _ z) (ne_of_none z hx0)
    have s03 := (s1.trans s2).trans s3
    refine ⟨_, rfl, _, rfl, n, e, a, b, c, d, rfl, SqT_same he s03, fa, ⟨n1, n2⟩, ?_⟩
    rcases hit_or (a := a) (b := b) (c := c) (d := d) (n := n) (by omega) with fr | ⟨q', hq⟩
    · refine .inl ⟨fr, _, _, rfl, ?_⟩
      refine ⟨_, rfl, _, rfl, .inl ⟨n, x, a, b, c, d, rfl, hp, hn, ⟨zz _ (by omega) (by omega), zz _ (by omega) (by omega)⟩, ⟨n1, n2⟩, fun _ l t H4 s4 ht hl => ?_, fun q2 t H4 s4 w1 w2 w3 w4 w5 ht => absurd w5 (fr q2 w1 (by omega) w3)⟩⟩
      refine ⟨_, rfl, rfl, _, rfl, iteFb rfl ?_⟩
      refine ⟨_, rfl, _, _, _, _, true, rfl, .ty _, .base (.lst hl), kit_ty (by decide +kernel), _, rfl, iteFb rfl ?_⟩
      refine ⟨_, rfl, _, _, _, _, rfl, rfl, SqL.of hl, rfl, _, _, rfl, SqT.of ht, rfl, _, _, rfl, _, _, rfl, rfl, ?_⟩
      have s04 := s03.trans s4
      have P4 := hP.same s04
      have hp4 := hp.same s4
      refine ⟨(by decide : 2 ≤ sizeLine), fun r1 hr1 => ?_⟩
      have w1 := same_new (o := .tup [.int 1, .int 1]) hr1
      refine ⟨_, rfl, p, cc, 9, k, rfl, P4.same w1, by omega, by decide, by decide, fun u1 H5 u10 u19 P5 B5 => ?_⟩
      obtain ⟨xp4, hl4⟩ := (P4.same w1).lst
      refine ⟨_, _, rfl, rfl, (by decide : 2 ≤ sizeLine), fun r2 hr2 => ?_⟩
      have w2 := same_new (o := .tup [.int (1 + u1), .int 1]) hr2
      refine ⟨_, rfl, p, cc, 9, k + 1, rfl, P5.same w2, by omega, by decide, by decide, fun u2 H6 u20 u29 P6 B6 => ?_⟩
      obtain ⟨xp5, hl5⟩ := (P5.same w2).lst
      refine ⟨_, _, rfl, rfl, (zz 2 (by decide) (by decide)).mul (zz u2 (by omega) (by omega)), _, _, rfl, rfl, (by decide : 2 ≤ sizeLine), fun r3 hr3 => ?_⟩
      have w3 := same_new (o := .tup [.int (3 + 2 * u2), .int 2]) hr3
      refine ⟨(by decide : 3 ≤ sizeLine), fun lr hlr => ?_⟩
      have w4 := same_new (o := .lst [.ref r1, .ref r2, .ref r3]) hlr
      have y1 : H5 r1 = some (.tup [.int 1, .int 1]) := tup_but (p := p) upd_same hl4 B5
      have y1' := tup_but (p := p) (w2 _ _ y1) hl5 B6
      have y2' : H6 r2 = some (.tup [.int (1 + u1), .int 1]) := tup_but (p := p) upd_same hl5 B6
      have hp6 := (((hp4.same w1).but hl4 B5).same w2).but hl5 B6
      have B06 : But p H H6 := ((But.same (s04.trans w1)).trans B5).trans ((But.same w2).trans B6)
      have P7 := (P6.same w3).same w4
      have hp7 := (hp6.same w3).same w4
      have B07 := B06.trans (But.same (w3.trans w4))
      have z1 := w4 _ _ (w3 _ _ y1')
      have z2 := w4 _ _ (w3 _ _ y2')
      have z3 := w4 _ _ (upd_same (H := H6) (a := r3) (o := .tup [.int (3 + 2 * u2), .int 2]))
      have zl := upd_same (H := upd H6 r3 (.tup [.int (3 + 2 * u2), .int 2])) (a := lr) (o := .lst [.ref r1, .ref r2, .ref r3])
      generalize upd (upd H6 r3 (.tup [.int (3 + 2 * u2), .int 2])) lr (.lst [.ref r1, .ref r2, .ref r3]) = H7 at P7 hp7 B07 z1 z2 z3 zl ⊢
      obtain ⟨o1, o2⟩ := oct_le nbp n1 n2
      have rows : ∀ v ∈ [V.ref r1, V.ref r2, V.ref r3], ∃ (r : Addr) (u w' : Int), v = .ref r ∧ H7 r = some (.tup [.int u, .int w']) ∧ (1 ≤ u ∧ u ≤ 30) ∧ (1 ≤ w' ∧ w' ≤ 2) := fun v hv => by
        rcases List.mem_cons.mp hv with rfl | hv
        · exact ⟨r1, _, _, rfl, z1, by omega, by omega⟩
        · rcases List.mem_cons.mp hv with rfl | hv
          · exact ⟨r2, _, _, rfl, z2, by omega, by omega⟩
          · rcases List.mem_cons.mp hv with rfl | hv
            · exact ⟨r3, _, _, rfl, z3, by omega, by omega⟩
            · cases hv
      refine ⟨lr, rfl, ⟨_, SqL.of zl⟩, ?_⟩
      refine for_list (xs := [.ref r1, .ref r2, .ref r3]) (K := K) (a := lr) (fun j σ H' => ∃ y3 y4 y5 y6, σ = [some (.ref p), some (.int n), some (.ref e), some (.int a), some (.int b), some (.int c), some (.int d), some (.ref x), some .non, some (.ref l), some (.int (oct n a b c d)), some (.int n), y3, y4, y5, y6] ∧ H' = H7) ⟨_, _, _, _, rfl, rfl⟩ ?_ ?_ ?_
      · rintro j σ H' _ ⟨_, _, _, _, rfl, rfl⟩
        exact SqL.of zl
      · rintro j v σ H' hv ⟨_, _, _, _, rfl, rfl⟩
        obtain ⟨r, u, w', rfl, hr', ⟨u0, u9⟩, ⟨w0, w9⟩⟩ := rows v (List.mem_of_getElem? hv)
        have um : ∀ y : Int, 0 ≤ y → y ≤ 10 ^ 30 → 0 ≤ u * y ∧ u * y ≤ 30 * 10 ^ 30 := fun y h0 h1 => ⟨Int.mul_nonneg (by omega) h0, Int.mul_le_mul u9 h1 h0 (by omega)⟩
        have wm : ∀ y : Int, 0 ≤ y → y ≤ 10 ^ 30 → 0 ≤ w' * y ∧ w' * y ≤ 2 * 10 ^ 30 := fun y h0 h1 => ⟨Int.mul_nonneg (by omega) h0, Int.mul_le_mul w9 h1 h0 (by omega)⟩
        have zu := zz u (by omega) (by omega)
        have zw := zz w' (by omega) (by omega)
        have i := ins_spot nbp u0 w0
        have q0 : 0 < u * b + w' * d := by
          have := PieM.reach nbp i
          omega
        have ua := um a a0 (by omega)
        have ub := um b (by omega) (by omega)
        have wc := wm c (by omega) (by omega)
        have wd := wm d (by omega) (by omega)
        have zp := zz (u * a + w' * c) (by omega) (by omega)
        have zq := zz (u * b + w' * d) (by omega) (by omega)
        have zn := zz n (by omega) (by omega)
        have zo := zz (oct n a b c d) (by omega) (by omega)
        refine ⟨_, _, rfl, SqT.of hr', rfl, _, _, rfl, _, _, rfl, rfl, ?_⟩
        refine ⟨_, rfl, _, rfl, _, _, rfl, rfl, zu.mul za, _, rfl, _, rfl, _, _, rfl, rfl, zw.mul zc, _, _, rfl, rfl, _, rfl, _, rfl, _, _, rfl, rfl, zu.mul zb, _, rfl, _, rfl, _, _, rfl, rfl, zw.mul zd, _, _, rfl, rfl, _, _, rfl, ?_⟩
        refine ⟨_, rfl, _, rfl, _, _, rfl, rfl, zo.mul zq, _, rfl, _, rfl, _, _, rfl, rfl, zn.mul zp, _, _, rfl, rfl, _, rfl, _, rfl, _, _, rfl, rfl, zn.mul zp, .inl ⟨_, rfl, _, rfl, _, _, rfl, rfl, q0, rfl, _, rfl, ?_⟩⟩
        have eo := oct_pitch nbp fr i
        exact iteFb (by
          show (!decide (V.int (oct n a b c d * (u * b + w' * d) + n * (u * a + w' * c)) = V.int (n * (u * a + w' * c) % (u * b + w' * d)))) = false
          rw [eo, decide_eq_true rfl]
          rfl) ⟨_, _, _, _, rfl, rfl⟩
      · rintro σ H' ⟨_, _, _, _, rfl, rfl⟩
        refine ⟨_, rfl, _, rfl, rfl, _, rfl, ite2 (fun _ => ?_) (fun z => absurd (by rw [vdec]; exact decide_eq_true rfl) z)⟩
        refine ⟨_, rfl, _, rfl, n, x, a, b, c, d, rfl, hp7, hn, ⟨zz _ (by omega) (by omega), zz _ (by omega) (by omega)⟩, ⟨n1, n2⟩, fun y H8 s8 _ hy => ?_, fun q2 y dd H8 s8 w1 w2 w3 w4 w5 _ _ => absurd w5 (fr q2 w1 (by omega) w3)⟩
        refine ⟨_, rfl, _, rfl, ?_⟩
        intro y2 dx' hx1 hdx hne
        refine ⟨y2, dx', _, _, rfl, upd_same, fun H9 hT hk9 => ⟨rfl, ?_⟩⟩
        have s9 := mk_same hx1 hdx hk9
        obtain ⟨dy, hy9⟩ := hy.same s9
        obtain ⟨dz, hz9⟩ := id hT
        refine ⟨y, dy, _, rfl, hy9, .inr ⟨y2, dz, _, rfl, hz9⟩, y, y2, _, _, _, _, rfl, ⟨dy, hy9⟩, hT, ⟨_, rfl, ?_⟩⟩
        rw [decide_eq_true rfl, decide_eq_true rfl]
        exact q H9 (((P7.same s8).same s9).mono (by omega)) (B07.trans (But.same (s8.trans s9)))
    · refine .inr ⟨q', hq, fun t ht => ⟨_, _, rfl, ?_⟩⟩
      have s4 := same_new (o := .tup [.int (PieM.top a b q'), .int q']) ht
      refine ⟨_, rfl, _, rfl, .inl ⟨n, x, a, b, c, d, rfl, hp.same s4, hn, ⟨zz _ (by omega) (by omega), zz _ (by omega) (by omega)⟩, ⟨n1, n2⟩, fun f => absurd f hq.not, fun q2 t2 H5 s5 w1 w2 w3 w4 w5 ht2 => ?_⟩⟩
      have eq2 : q2 = q' := Hit.one ⟨w1, w2, w3, w4, w5⟩ hq
      subst eq2
      refine ⟨_, rfl, rfl, _, rfl, iteTb rfl ?_⟩
      refine ⟨_, rfl, _, rfl, .inl ⟨_, rfl, _, _, rfl, _, rfl, .inl ⟨_, rfl, _, _, rfl, _, rfl, _, _, _, _, rfl, rfl, SqT.of (s5 _ _ upd_same), rfl, _, rfl, _, _, _, _, rfl, rfl, SqT.of (s5 _ _ upd_same), rfl, (by decide : 4 ≤ sizeLine), fun t3 ht3 => ?_⟩⟩⟩
      have e1 : (if n < 0 then n else 0) = min 0 n := by split <;> omega
      have e2 : (if n > 0 then n else 0) = max 0 n := by split <;> omega
      rw [e1, e2]
      have s6 := same_new (o := .tup [.int (min 0 n), .int (max 0 n), .int (PieM.top a b q2), .int q2]) ht3
      refine ⟨t4 _ _ _ _, t4 _ _ _ _, .tup (SqT.of (s6 _ _ ht2)) (.cons (.int _) (.cons (.int _) (.cons (.int _) (.cons (.int _) .nil)))), .tup (SqT.of upd_same) (.cons (.int _) (.cons (.int _) (.cons (.int _) (.cons (.int _) .nil)))), t4_sh _ _ _ _, t4_sh _ _ _ _, ?_⟩
      rw [t4_eq]
      have sA := ((s03.trans s4).trans s5).trans s6
      exact q _ ((hP.same sA).mono (by omega)) (But.same sA)
end
end Toy
set_option maxRecDepth 100000
set_option maxHeartbeats 4000000
set_option exponentiation.threshold 9000
namespace Toy
open PySem PySem.Spec PyProof.Rows L2
open Rat (divInt)
structure KitNo5 (K : PySem.W.Frag) (C : Addr) : Prop where
  non : PySem.W.kitOne K (.type "NoneType") (.ref C) = some false
  bl : PySem.W.kitOne K (.type "bool") (.ref C) = some false
  str : PySem.W.kitOne K (.type "str") (.ref C) = some false
  lst : PySem.W.kitOne K (.type "list") (.ref C) = some false
  tup : PySem.W.kitOne K (.type "tuple") (.ref C) = some false
theorem okS (s : String) : PyData.strOk (Str.ofString s) = true := by
  unfold PyData.strOk
  rw [Str.ofString_eq_toList]
  simp only [List.all_toArray, List.all_map, List.all_eq_true, Function.comp_apply, decide_eq_true_eq]
  intro c _
  have h := c.valid
  have e : c.toNat = c.val.toNat := rfl
  rcases h with h | ⟨_, h⟩
  · rw [e]; omega
  · rw [e]; omega
def tp2 (a b : Str) : PyData := .tuple [.str a, .str b]
theorem tp2_sh {a b : Str} (h1 : PyData.strOk a = true) (h2 : PyData.strOk b = true) : SeqAt.shaped (tp2 a b) = true := by simp [tp2, SeqAt.shaped, PyData.canLay0, PyData.canLayAll0, PyData.depth, PyData.depthAll, h1, h2]
theorem tp2_eq (a b : Str) : PyData.eqv (tp2 a b) (tp2 a b) = true := by simp [tp2, PyData.eqv, PyData.eqvAll]
def lt2 (a b : Int) : PyData := .list [.tuple [.int a, .int b]]
theorem lt2_sh (a b : Int) : SeqAt.shaped (lt2 a b) = true := by simp [lt2, SeqAt.shaped, PyData.canLay0, PyData.canLayAll0, PyData.depth, PyData.depthAll]
theorem lt2_eq (a b : Int) : PyData.eqv (lt2 a b) (lt2 a b) = true := by simp [lt2, PyData.eqv, PyData.eqvAll]
section
variable {P : Program} {w : World} {K : PySem.W.Frag} {mg : Str → Option Value} {base : Heap} {C CP CT CBN CBP CM pR fR fM : Addr}
theorem odd_num {H : Hp} {t1 l0 : Addr} (h1 : H t1 = some (.tup [.int 1])) (h0 : H l0 = some (.lst [])) {x : Int} (hx : x = 10 ^ 30) {v : V} (hv : v ∈ [V.int 97, .int (-97), .non, .bl true, .str "3", .ref t1, .ref l0, .int x]) :
    ∃ t r, TyX K H v t ∧ (isIntK K t false ∨ ∃ n, v = .int n ∧ t = .type "int" ∧ (n < -96 ∨ 96 < n)) ∧ (∀ H', Same H H' → Own.ReprOf K H' v r) ∧ PyData.strOk r = true := by
  simp only [List.mem_cons, List.not_mem_nil, or_false] at hv
  rcases hv with rfl | rfl | rfl | rfl | rfl | rfl | rfl | rfl
  · exact ⟨_, _, .base (.int _), .inr ⟨_, rfl, rfl, .inr (by decide)⟩, fun _ _ => .int _ (by decide +kernel), by decide +kernel⟩
  · exact ⟨_, _, .base (.int _), .inr ⟨_, rfl, rfl, .inl (by decide)⟩, fun _ _ => .int _ (by decide +kernel), by decide +kernel⟩
  · exact ⟨_, _, .base .non, .inl ⟨false, false, kit_ty (by decide +kernel), kit_ty (by decide +kernel), rfl⟩, fun _ _ => .non, by decide +kernel⟩
  · exact ⟨_, _, .base (.bl _), .inl ⟨true, true, kit_ty (by decide +kernel), kit_ty (by decide +kernel), rfl⟩, fun _ _ => .bl _, by decide +kernel⟩
  · exact ⟨_, _, .base (.str _), .inl ⟨false, false, kit_ty (by decide +kernel), kit_ty (by decide +kernel), rfl⟩, fun _ _ => .str _ (by decide +kernel), by decide +kernel⟩
  · exact ⟨_, _, .base (.tup h1), .inl ⟨false, false, kit_ty (by decide +kernel), kit_ty (by decide +kernel), rfl⟩, fun _ s => .dat (d := .tuple [.int 1]) (.tup (SqT.of (s _ _ h1)) (.cons (.int _) .nil)) (by decide +kernel) (by decide +kernel) (by decide +kernel) (by decide +kernel), by decide +kernel⟩
  · exact ⟨_, _, .base (.lst h0), .inl ⟨false, false, kit_ty (by decide +kernel), kit_ty (by decide +kernel), rfl⟩, fun _ s => .dat (d := .list []) (.lst (SqL.of (s _ _ h0)) .nil) (by decide +kernel) (by decide +kernel) (by decide +kernel) (by decide +kernel), by decide +kernel⟩
  · subst hx
    exact ⟨_, _, .base (.int _), .inr ⟨_, rfl, rfl, .inr (by decide)⟩, fun _ _ => .int _ (by decide +kernel), by decide +kernel⟩
theorem odd_pie (T_Ratio : RatT K mg C) (T_Piece : PieT K mg CP) (kn : KitNo5 K CP) (kR : PySem.W.kitOne K (.ref C) (.ref CP) = some false) {H : Hp} {t1 l0 x : Addr} {dx : Addr} {fs : List (Str × V)} {ys : List V} (h1 : H t1 = some (.tup ys)) (h0 : H l0 = some (.lst [])) (hx : H x = some (.ins C dx fs)) {s : Str} {v : V} (hv : v ∈ [V.non, .int 0, .bl true, .str s, .ref t1, .ref l0, .ref x]) :
    ∃ t, TyX K H v t ∧ PySem.W.kitOne K t (.ref CP) = some false := by
  simp only [List.mem_cons, List.not_mem_nil, or_false] at hv
  rcases hv with rfl | rfl | rfl | rfl | rfl | rfl | rfl
  · exact ⟨_, .base .non, kn.non⟩
  · exact ⟨_, .base (.int _), T_Piece.iK⟩
  · exact ⟨_, .base (.bl _), kn.bl⟩
  · exact ⟨_, .base (.str _), kn.str⟩
  · exact ⟨_, .base (.tup h1), kn.tup⟩
  · exact ⟨_, .base (.lst h0), kn.lst⟩
  · exact ⟨_, T_Ratio.ty hx, kR⟩
def spLaw (K : PySem.W.Frag) : Sp := fun vs H Q _ => ∃ (a : Addr) (ns : List Int), vs = [.ref a] ∧ SqL K H a (ns.map V.int) ∧ ns.length ≤ 63 ∧ ∀ H', Q (.bl true) H'
abbrev sLaw : Stmt := top 89
theorem scLaw : FnScope ["_law_script", "_law_pen_here", "_law_turn", "_law_ends_here", "_law_again", "_law_far_here", "_law_number", "_law_odd"] ["_law_script"] (defScope sLaw) := ⟨rfl, rfl, rfl, by decide +kernel, rfl, by decide +kernel, by decide +kernel⟩
theorem ok_law {f f1 f2 f3 f4 f5 f6 f7 f8 f9 : Addr} {fd fd1 fd2 fd3 fd4 fd5 fd6 fd7 fd8 fd9 : FuncData} (F : Fun K "law" "law" sLaw f fd) (T : Bl mg) (zr : mg "repr" = none) (T_Ratio : RatT K mg C) (T_Piece : PieT K mg CP) (kn : KitNo5 K CP) (kR : PySem.W.kitOne K (.ref C) (.ref CP) = some false)
    (C__law_pen : Cal P w K mg base 1 "_law_pen" f1 fd1 ["_law_script"] (spPen K)) (C__law_ends : Cal P w K mg base 2 "_law_ends" f2 fd2 ["_law_pen_here"] spEnds) (G__law_right : CalG P w K mg base 7 "_law_right" f3 fd3 ["_law_pen_here", "_law_number", "_law_ends_here"] (spRight K)) (C__law_draw : Cal P w K mg base 1 "_law_draw" f4 fd4 ["_law_pen_here", "_law_many"] spDraw)
    (C__law_far : Cal P w K mg base 3 "_law_far" f5 fd5 ["_law_pen_here", "_law_ends_here"] (spFar K)) (C__law_pick : Cal P w K mg base 2 "_law_pick" f6 fd6 ["_law_pen_here", "_law_some"] spPick) (G__law_told : CalG P w K mg base 6 "_law_told" f7 fd7 ["_law_number", "_law_piece"] (spTold K CP C)) (M_Ratio : Mak P w K mg base 2 "Ratio" C f8 fd8 ["self", "top", "bottom"] (spRInit C)) (M_Piece : Mak P w K mg base 5 "Piece" CP f9 fd9 ["self", "left", "right"] (spPInit CP C)) :
    Own.FnG P w K mg base CX0 8 f fd ["_law_script"] (spLaw K) := by
  refine Own.okG F scLaw (fun vs H Q E h => ?_) (fun cdv A outer s H vs Q E hg hr h => ?_)
  · obtain ⟨a, ns, rfl, _⟩ := h
    rfl
  · obtain ⟨a, ns, rfl, hS, hl, kq⟩ := h
    have nd := scLaw.nd
    refine ⟨_, pss_cons (ps_set (i := 1) nd rfl (Or.inl rfl) (pe_call C__law_pen.F (hr.mono (by decide)) (by rfl) C__law_pen.mgf C__law_pen.kp C__law_pen.b .nil pass0 (pa_cons (pv 0) pa_nil)))
      (pss_cons (ps_for PassesOwn.never rfl (pi_range1 (by rfl) T.range (pa_cons pe_int pa_nil)) (pg_name (i := 2) nd rfl (Or.inl rfl)) (pss_cons (ps_set (i := 3) nd rfl (Or.inl rfl) (pe_call C__law_ends.F (hr.mono (by decide)) (by rfl) C__law_ends.mgf C__law_ends.kp C__law_ends.b .nil pass0 (pa_cons (pv 1) pa_nil)))
      (pss_cons (ps_for PassesOwn.never rfl (pi_range1 (by rfl) T.range (pa_cons pe_int pa_nil)) (pg_name (i := 4) nd rfl (Or.inl rfl)) (pss_one (ps_if (pt_not (pt_val (Own.pe_callG G__law_right.F hg (hr.mono (by decide)) (by rfl) G__law_right.mgf G__law_right.kp G__law_right.b pass0 (pa_cons (pv 1) (pa_cons (pe_op op_sub (pe_call C__law_draw.F (hr.mono (by decide)) (by rfl) C__law_draw.mgf C__law_draw.kp C__law_draw.b .nil pass0 (pa_cons (pv 1) (pa_cons pe_int pa_nil))) pe_int) (pa_cons (pv 3) pa_nil)))))) (pss_one (ps_ret pe_bl)) pss_nil)))
      (pss_cons (ps_if (pt_not (pt_val (Own.pe_callG G__law_right.F hg (hr.mono (by decide)) (by rfl) G__law_right.mgf G__law_right.kp G__law_right.b pass0 (pa_cons (pv 1) (pa_cons (pe_op op_sub (pe_call C__law_draw.F (hr.mono (by decide)) (by rfl) C__law_draw.mgf C__law_draw.kp C__law_draw.b .nil pass0 (pa_cons (pv 1) (pa_cons pe_int pa_nil))) pe_int) (pa_cons (pv 3) pa_nil)))))) (pss_one (ps_ret pe_bl)) pss_nil)
      (pss_cons (ps_asg (pe_call C__law_far.F (hr.mono (by decide)) (by rfl) C__law_far.mgf C__law_far.kp C__law_far.b .nil pass0 (pa_cons (pv 1) (pa_cons (pv 3) pa_nil))) (pg_tup (by rfl) (pgs_cons (pg_name (i := 5) nd rfl (Or.inl rfl)) (pgs_cons (pg_name (i := 6) nd rfl (Or.inl rfl)) pgs_nil))))
      (pss_cons (ps_if (PW.pt (pw_or (pt_not (pt_val (Own.pe_callG G__law_right.F hg (hr.mono (by decide)) (by rfl) G__law_right.mgf G__law_right.kp G__law_right.b pass0 (pa_cons (pv 1) (pa_cons (pv 6) (pa_cons (pv 5) pa_nil)))))) (pw_or1 (pt_not (pt_val (Own.pe_callG G__law_right.F hg (hr.mono (by decide)) (by rfl) G__law_right.mgf G__law_right.kp G__law_right.b pass0 (pa_cons (pv 1) (pa_cons (pe_op op_sub (pe_call C__law_draw.F (hr.mono (by decide)) (by rfl) C__law_draw.mgf C__law_draw.kp C__law_draw.b .nil pass0 (pa_cons (pv 1) (pa_cons pe_int pa_nil))) pe_int) (pa_cons (pv 5) pa_nil))))))))) (pss_one (ps_ret pe_bl)) pss_nil)
      (pss_cons (ps_set (i := 7) nd rfl (Or.inl rfl) (pe_call C__law_pick.F (hr.mono (by decide)) (by rfl) C__law_pick.mgf C__law_pick.kp C__law_pick.b .nil pass0 (pa_cons (pv 1) (pa_cons (pe_lst (pa_cons pe_int (pa_cons (pe_un un_neg pe_int) (pa_cons pe_non (pa_cons pe_bl (pa_cons pe_str (pa_cons (pe_tup (pa_cons pe_int pa_nil)) (pa_cons (pe_lst pa_nil) (pa_cons (pe_op op_pow pe_int pe_int) pa_nil))))))))) pa_nil))))
      (pss_cons (ps_if (pt_cmpR (op_neD hr.units) (Own.pe_callG G__law_told.F hg (hr.mono (by decide)) (by rfl) G__law_told.mgf G__law_told.kp G__law_told.b pass0 (pa_cons (pv 7) (pa_cons pe_non pa_nil))) (pe_tup (pa_cons pe_str (pa_cons (pe_callB (Own.call_reprA hg hr.units) (by rfl) zr (by decide +kernel) (pa_cons (pv 7) pa_nil)) pa_nil))) (nomark _)) (pss_one (ps_ret pe_bl)) pss_nil)
      (pss_cons (ps_set (i := 7) nd rfl (Or.inl rfl) (pe_call C__law_pick.F (hr.mono (by decide)) (by rfl) C__law_pick.mgf C__law_pick.kp C__law_pick.b .nil pass0 (pa_cons (pv 1) (pa_cons (pe_lst (pa_cons pe_non (pa_cons pe_int (pa_cons pe_bl (pa_cons pe_str (pa_cons (pe_tup (pa_cons (pe_make M_Ratio.M M_Ratio.F (hr.mono (by decide)) (by rfl) M_Ratio.mgC M_Ratio.b .nil pass0 (pa_cons pe_int (pa_cons pe_int pa_nil))) (pa_cons pe_int pa_nil))) (pa_cons (pe_lst pa_nil) (pa_cons (pe_make M_Ratio.M M_Ratio.F (hr.mono (by decide)) (by rfl) M_Ratio.mgC M_Ratio.b .nil pass0 (pa_cons pe_int (pa_cons pe_int pa_nil))) pa_nil)))))))) pa_nil))))
      (pss_one (ps_if (pt_cmpR (op_neD hr.units) (Own.pe_callG G__law_told.F hg (hr.mono (by decide)) (by rfl) G__law_told.mgf G__law_told.kp G__law_told.b pass0 (pa_cons (pe_call C__law_pick.F (hr.mono (by decide)) (by rfl) C__law_pick.mgf C__law_pick.kp C__law_pick.b .nil pass0 (pa_cons (pv 1) (pa_cons (pe_lst (pa_cons pe_int (pa_cons pe_int (pa_cons pe_int (pa_cons (pe_un un_neg pe_int) pa_nil))))) pa_nil))) (pa_cons (pv 7) pa_nil))) (pe_tup (pa_cons pe_str (pa_cons pe_str pa_nil))) (nomark _)) (pss_one (ps_ret pe_bl)) pss_nil)))))))))))
      (pss_cons (ps_if (PW.pt (pw_or (pt_not (pt_val (Own.pe_callG G__law_right.F hg (hr.mono (by decide)) (by rfl) G__law_right.mgf G__law_right.kp G__law_right.b pass0 (pa_cons (pv 1) (pa_cons pe_int (pa_cons (pe_tup (pa_cons pe_int (pa_cons pe_int (pa_cons pe_int (pa_cons pe_int pa_nil))))) pa_nil)))))) (pw_or1 (pt_not (pt_val (Own.pe_callG G__law_right.F hg (hr.mono (by decide)) (by rfl) G__law_right.mgf G__law_right.kp G__law_right.b pass0 (pa_cons (pv 1) (pa_cons (pe_un un_neg pe_int) (pa_cons (pe_tup (pa_cons pe_int (pa_cons pe_int (pa_cons pe_int (pa_cons pe_int pa_nil))))) pa_nil))))))))) (pss_one (ps_ret pe_bl)) pss_nil)
      (pss_cons (ps_if (PW.pt (pw_or (pt_not (pt_val (Own.pe_callG G__law_right.F hg (hr.mono (by decide)) (by rfl) G__law_right.mgf G__law_right.kp G__law_right.b pass0 (pa_cons (pv 1) (pa_cons pe_int (pa_cons (pe_tup (pa_cons pe_int (pa_cons pe_int (pa_cons pe_int (pa_cons pe_int pa_nil))))) pa_nil)))))) (pw_or1 (pt_not (pt_val (Own.pe_callG G__law_right.F hg (hr.mono (by decide)) (by rfl) G__law_right.mgf G__law_right.kp G__law_right.b pass0 (pa_cons (pv 1) (pa_cons (pe_un un_neg pe_int) (pa_cons (pe_tup (pa_cons pe_int (pa_cons pe_int (pa_cons pe_int (pa_cons pe_int pa_nil))))) pa_nil))))))))) (pss_one (ps_ret pe_bl)) pss_nil)
      (pss_one (ps_ret (pe_cmpR (op_eqD hr.units) (Own.pe_callG G__law_told.F hg (hr.mono (by decide)) (by rfl) G__law_told.mgf G__law_told.kp G__law_told.b pass0 (pa_cons pe_int (pa_cons (pe_make M_Piece.M M_Piece.F (hr.mono (by decide)) (by rfl) M_Piece.mgC M_Piece.b .nil pass0 (pa_cons (pe_make M_Ratio.M M_Ratio.F (hr.mono (by decide)) (by rfl) M_Ratio.mgC M_Ratio.b .nil pass0 (pa_cons pe_int (pa_cons pe_int pa_nil))) (pa_cons pe_int pa_nil))) pa_nil))) (pe_lst (pa_cons (pe_tup (pa_cons (pe_un un_neg pe_int) (pa_cons pe_int pa_nil))) pa_nil)) (nomark _))))))), ?_⟩
    refine ⟨_, rfl, a, ns, rfl, hS, hl, fun p cc H0 s0 hp0 hP0 => ?_⟩
    refine ⟨6, rfl, by decide, by decide, ?_⟩
    refine for_range (lo := 0) (n := 6) (fun i σ H' => ∃ v2 v3 v4 v5 v6 v7, σ = [some (.ref a), some (.ref p), v2, v3, v4, v5, v6, v7] ∧ Pen H' p cc (40 * i)) ⟨_, _, _, _, _, _, rfl, hP0⟩ ?_ ?_
    · rintro i σ H1 hi ⟨v2, v3, v4, v5, v6, v7, rfl, P1⟩
      refine ⟨_, rfl, p, cc, 40 * i, rfl, P1, by omega, fun e a' b c d m H2 P2 B2 he S => ?_⟩
      obtain ⟨xp2, hp2⟩ := P2.lst
      have fa := S.far
      have ne2 : e ≠ p := fun z => by rw [z, hp2] at he; cases he
      have e2 : ∀ {H' : Hp}, But p H2 H' → H' e = some (.tup [.int a', .int b, .int c, .int d]) := fun B => B _ _ he ne2
      refine ⟨4, rfl, by decide, by decide, ?_⟩
      refine for_range (lo := 0) (n := 4) (fun j σ H' => ∃ y4, σ = [some (.ref a), some (.ref p), some (.int (0 + (i : Int))), some (.ref e), y4, v5, v6, v7] ∧ Pen H' p cc (40 * i + 6 + 3 * j) ∧ But p H2 H') ⟨_, rfl, P2, But.refl⟩ ?_ ?_
      · rintro j σ H3 hj ⟨y4, rfl, P3, B3⟩
        refine ⟨_, rfl, _, rfl, p, cc, 49, _, rfl, P3, by omega, by decide, by decide, fun r H4 r0 r9 P4 B4 => ⟨_, _, rfl, rfl, _, rfl, ?_⟩⟩
        refine ⟨p, cc, _, r - 24, e, a', b, c, d, rfl, P4, by omega, by omega, SqT.of (e2 (B3.trans B4)), fa, fun H5 P5 B5 => ⟨_, rfl, iteFb rfl ?_⟩⟩
        exact ⟨_, rfl, P5.mono (by omega), (B3.trans B4).trans B5⟩
      · rintro σ H3 ⟨y4, rfl, P3, B3⟩
        refine ⟨_, rfl, _, rfl, p, cc, 193, _, rfl, P3, by omega, by decide, by decide, fun r H4 r0 r9 P4 B4 => ⟨_, _, rfl, rfl, _, rfl, ?_⟩⟩
        refine ⟨p, cc, _, r - 96, e, a', b, c, d, rfl, P4, by omega, by omega, SqT.of (e2 (B3.trans B4)), fa, fun H5 P5 B5 => ⟨_, rfl, iteFb rfl ?_⟩⟩
        have B25 := (B3.trans B4).trans B5
        refine ⟨_, rfl, _, rfl, p, cc, _, e, a', b, c, d, m, rfl, P5, by omega, SqT.of (e2 B25), ne2, S, fun t e' n a2 b2 c2 d2 H6 P6 B6 ht he' fa' hn => ⟨_, _, rfl, SqT.of ht, rfl, _, _, rfl, _, _, rfl, rfl, ?_⟩⟩
        obtain ⟨xp6, hp6⟩ := P6.lst
        have ne6 : e' ≠ p := fun z => by rw [z, hp6] at he'; cases he'
        refine ⟨_, rfl, _, rfl, _, rfl, p, cc, _, n, e', a2, b2, c2, d2, rfl, P6, by omega, by omega, SqT.of he', fa', fun H7 P7 B7 => ⟨_, rfl, iteFb rfl ?_⟩⟩
        refine ⟨_, rfl, _, rfl, p, cc, 97, _, rfl, P7, by omega, by decide, by decide, fun r2 H8 r20 r29 P8 B8 => ⟨_, _, rfl, rfl, _, rfl, ?_⟩⟩
        refine ⟨p, cc, _, r2 - 48, e', a2, b2, c2, d2, rfl, P8, by omega, by omega, SqT.of ((B7.trans B8) _ _ he' ne6), fa', fun H9 P9 B9 => ⟨_, rfl, iteFb rfl ?_⟩⟩
        -- values that are no numbers
        refine ⟨_, rfl, _, rfl, (by decide : 1 ≤ sizeLine), fun t1 ht1 => ⟨(by decide : 0 ≤ sizeLine), fun l0 hl0 => ⟨_, _, rfl, rfl, ⟨by decide, by decide, by decide⟩, (by decide : 8 ≤ sizeLine), fun l hl => ?_⟩⟩⟩
        have w1 := same_new (o := .tup [.int 1]) ht1
        have w2 := same_new (o := .lst []) hl0
        have w3 := same_new (o := .lst [.int 97, .int (-97), .non, .bl true, .str "3", .ref t1, .ref l0, .int ((10 : Int) ^ (30 : Int).toNat)]) hl
        refine ⟨p, cc, l, _, _, rfl, ((P9.same w1).same w2).same w3, by omega, upd_same, (((P9.same w1).same w2)).ne_none hl, (show 0 < 8 by decide), (show 8 ≤ 1000 by decide), fun v H10 hv P10 B10 => ?_⟩
        obtain ⟨xq, hq9⟩ := (((P9.same w1).same w2).same w3).lst
        have g1 : H10 t1 = some (.tup [.int 1]) := tup_but (p := p) (w3 _ _ (w2 _ _ upd_same)) hq9 B10
        have g0 : H10 l0 = some (.lst []) := B10 _ _ (w3 _ _ upd_same) ((P9.same w1).ne_none hl0)
        obtain ⟨tv, rv, tyv, hnv, rpv, okv⟩ := odd_num (K := K) g1 g0 (by decide) hv
        refine ⟨_, rfl, .inr (.inl ⟨v, .non, tv, rv, rfl, tyv, hnv, rpv, fun p1 H11 s11 h11 => ?_⟩)⟩
        refine ⟨_, rfl, _, _, rfl, rpv _ s11, (by decide : 2 ≤ sizeLine), fun p2 hp2' => ?_⟩
        have w4 := same_new (o := .tup [.str "number", .str rv]) hp2'
        refine ⟨tp2 _ _, tp2 _ _, .tup (SqT.of (w4 _ _ h11)) (.cons (.str _) (.cons (.str _) .nil)), .tup (SqT.of upd_same) (.cons (.str _) (.cons (.str _) .nil)), tp2_sh (okS _) okv, tp2_sh (okS _) okv, ?_⟩
        rw [tp2_eq]
        refine ⟨_, rfl, iteFb rfl ?_⟩
        have P11 := (P10.same s11).same w4
        generalize upd H11 p2 (.tup [.str "number", .str rv]) = H12 at P11 ⊢
        -- values that are no pieces
        refine ⟨_, rfl, ?_⟩
        intro x1 dx1 hx1 hdx1 hne1
        refine ⟨x1, dx1, 1, 2, rfl, upd_same, by decide, Sz.of (by decide +kernel), fun H13 hr1 hk1 => ⟨rfl, ?_⟩⟩
        have s1 := mk_same hx1 hdx1 hk1
        refine ⟨(by decide : 2 ≤ sizeLine), fun t2 ht2 => ⟨(by decide : 0 ≤ sizeLine), fun l2 hl2 => ?_⟩⟩
        have w5 := same_new (o := .tup [.ref x1, .int 1]) ht2
        have w6 := same_new (o := .lst []) hl2
        intro x2 dx2 hx2 hdx2 hne2
        refine ⟨x2, dx2, 1, 2, rfl, upd_same, by decide, Sz.of (by decide +kernel), fun H14 hr2 hk2 => ⟨rfl, ?_⟩⟩
        have s2 := mk_same hx2 hdx2 hk2
        refine ⟨(by decide : 7 ≤ sizeLine), fun l3 hl3 => ?_⟩
        have w7 := same_new (o := .lst [.non, .int 0, .bl true, .str "0/1 1/1", .ref t2, .ref l2, .ref x2]) hl3
        have P14 := (((P11.same s1).same w5).same w6).same s2
        refine ⟨p, cc, l3, _, _, rfl, P14.same w7, by omega, upd_same, P14.ne_none hl3, (show 0 < 7 by decide), (show 7 ≤ 1000 by decide), fun v' H15 hv' P15 B15 => ?_⟩
        obtain ⟨xr, hq14⟩ := (P14.same w7).lst
        have f1 : H15 t2 = some (.tup [.ref x1, .int 1]) := tup_but (p := p) (w7 _ _ (s2 _ _ (w6 _ _ upd_same))) hq14 B15
        have f0 : H15 l2 = some (.lst []) := B15 _ _ (w7 _ _ (s2 _ _ upd_same)) (((P11.same s1).same w5).ne_none hl2)
        obtain ⟨dy, hy⟩ := hr2.same w7
        have fx := B15 _ _ hy (fun z => by have h := hy.symm.trans ((congrArg _ z).trans hq14); cases h)
        refine ⟨_, rfl, _, rfl, (by decide : 4 ≤ sizeLine), fun l4 hl4 => ?_⟩
        have w8 := same_new (o := .lst [.int 0, .int 1, .int 96, .int (-96)]) hl4
        refine ⟨p, cc, l4, _, _, rfl, P15.same w8, by omega, upd_same, P15.ne_none hl4, (show 0 < 4 by decide), (show 4 ≤ 1000 by decide), fun u H16 hu P16 B16 => ?_⟩
        obtain ⟨xs5, hq15⟩ := (P15.same w8).lst
        obtain ⟨un, rfl, un1, un2⟩ : ∃ y : Int, u = .int y ∧ -96 ≤ y ∧ y ≤ 96 := by
          simp only [List.mem_cons, List.not_mem_nil, or_false] at hu
          rcases hu with rfl | rfl | rfl | rfl
          · exact ⟨_, rfl, by decide, by decide⟩
          · exact ⟨_, rfl, by decide, by decide⟩
          · exact ⟨_, rfl, by decide, by decide⟩
          · exact ⟨_, rfl, by decide, by decide⟩
        have k1 : H16 t2 = some (.tup [.ref x1, .int 1]) := tup_but (p := p) (w8 _ _ f1) hq15 B16
        have k0 : H16 l2 = some (.lst []) := B16 _ _ (w8 _ _ f0) (fun z => (((P11.same s1).same w5).ne_none hl2) z)
        have kx := B16 _ _ (w8 _ _ fx) (fun z => by have := w8 _ _ fx; rw [z, hq15] at this; cases this)
        obtain ⟨tw, tyw, now⟩ := odd_pie T_Ratio T_Piece kn kR k1 k0 kx hv'
        refine ⟨_, rfl, .inr (.inr ⟨un, v', tw, rfl, ⟨un1, un2⟩, tyw, now, fun p3 H17 s17 h17 => ?_⟩)⟩
        refine ⟨(by decide : 2 ≤ sizeLine), fun p4 hp4 => ?_⟩
        have w9 := same_new (o := .tup [.str "piece", .str "piece"]) hp4
        refine ⟨tp2 _ _, tp2 _ _, .tup (SqT.of (w9 _ _ h17)) (.cons (.str _) (.cons (.str _) .nil)), .tup (SqT.of upd_same) (.cons (.str _) (.cons (.str _) .nil)), tp2_sh (okS _) (okS _), tp2_sh (okS _) (okS _), ?_⟩
        rw [tp2_eq]
        refine ⟨_, rfl, iteFb rfl ?_⟩
        exact ⟨_, _, _, _, _, _, rfl, ((P16.same s17).same w9).mono (by omega)⟩
    · rintro σ H1 ⟨v2, v3, v4, v5, v6, v7, rfl, P1⟩
      refine ⟨_, rfl, (by decide : 4 ≤ sizeLine), fun q1 hq1 => ?_⟩
      have w1 := same_new (o := .tup [.int 0, .int 1, .int 1, .int 1]) hq1
      refine ⟨p, cc, _, 96, q1, 0, 1, 1, 1, rfl, P1.same w1, by omega, by decide, SqT.of upd_same, ⟨by decide, by decide, by decide, by decide, by decide, by decide, by decide⟩, fun H2 P2 _ => ⟨_, rfl, iteFb rfl ?_⟩⟩
      refine ⟨_, rfl, _, rfl, (by decide : 4 ≤ sizeLine), fun q2 hq2 => ?_⟩
      have w2 := same_new (o := .tup [.int 1, .int 2, .int 4, .int 7]) hq2
      refine ⟨p, cc, _, -91, q2, 1, 2, 4, 7, rfl, P2.same w2, by omega, by decide, SqT.of upd_same, ⟨by decide, by decide, by decide, by decide, by decide, by decide, by decide⟩, fun H3 P3 _ => ⟨_, rfl, iteFb rfl ?_⟩⟩
      refine ⟨_, rfl, (by decide : 4 ≤ sizeLine), fun q3 hq3 => ?_⟩
      have w3 := same_new (o := .tup [.int 23, .int 24, .int 1, .int 1]) hq3
      refine ⟨p, cc, _, 96, q3, 23, 24, 1, 1, rfl, P3.same w3, by omega, by decide, SqT.of upd_same, ⟨by decide, by decide, by decide, by decide, by decide, by decide, by decide⟩, fun H4 P4 _ => ⟨_, rfl, iteFb rfl ?_⟩⟩
      refine ⟨_, rfl, _, rfl, (by decide : 4 ≤ sizeLine), fun q4 hq4 => ?_⟩
      have w4 := same_new (o := .tup [.int 0, .int 1, .int 1, .int 24]) hq4
      refine ⟨p, cc, _, -96, q4, 0, 1, 1, 24, rfl, P4.same w4, by omega, by decide, SqT.of upd_same, ⟨by decide, by decide, by decide, by decide, by decide, by decide, by decide⟩, fun H5 P5 _ => ⟨_, rfl, iteFb rfl ?_⟩⟩
      intro x1 dx1 hx1 hdx1 hne1
      refine ⟨x1, dx1, 95, 96, rfl, upd_same, by decide, Sz.of (by decide +kernel), fun H6 hr1 hk1 => ⟨rfl, ?_⟩⟩
      have s1 := mk_same hx1 hdx1 hk1
      intro x dx hx0 hdx0 hne0
      have w0 := same_two (o := .own x) (u := .ins CP dx []) hdx0 hx0 hne0
      have hn : Nbr 95 96 1 1 := ⟨by decide, by decide, by decide, by decide, by decide, Sz.of (by decide +kernel), Sz.of (by decide +kernel), Sz.of (by decide +kernel), Sz.of (by decide +kernel)⟩
      refine ⟨x, dx, _, _, 95, 96, 1, 1, rfl, upd_same, .rat ((asAt (by decide) (by decide) hr1).same w0), .int 1, hn, fun H7 hp hk3 => ⟨rfl, ?_⟩⟩
      refine .inl ⟨96, x, 95, 96, 1, 1, rfl, hp, hn, ⟨Sz.of (by decide +kernel), Sz.of (by decide +kernel)⟩, by decide, fun _ l t H8 s8 ht hl => ?_, fun q2' t H8 s8 y1 y2 _ _ _ _ => absurd y1 (by have : ((96 : Int).natAbs : Int) = 96 := rfl; omega)⟩
      refine ⟨_, rfl, (by decide : 2 ≤ sizeLine), fun t2 ht2 => ⟨(by decide : 1 ≤ sizeLine), fun l2 hl2 => ?_⟩⟩
      have z1 := same_new (o := .tup [.int (-95), .int 96]) ht2
      have z2 := same_new (o := .lst [.ref t2]) hl2
      refine ⟨lt2 _ _, lt2 _ _, .lst (SqL.of (z2 _ _ (z1 _ _ hl))) (.cons (.tup (SqT.of (z2 _ _ (z1 _ _ ht))) (.cons (.int _) (.cons (.int _) .nil))) .nil), .lst (SqL.of upd_same) (.cons (.tup (SqT.of (z2 _ _ upd_same)) (.cons (.int _) (.cons (.int _) .nil))) .nil), lt2_sh _ _, lt2_sh _ _, ?_⟩
      have eo : oct 96 95 96 1 1 = -95 := by decide
      rw [eo, lt2_eq]
      exact kq _
end
end Toy
set_option maxRecDepth 100000
set_option maxHeartbeats 4000000
namespace Own
open PySem PySem.Spec PyProof.Rows L2
open LamX (TabB)
section
variable {P : Program} {w : World} {K : PySem.W.Frag} {a : Addr} {cs : List (Addr × Addr)} {h : Heap} {vs : List Value} {ns : List Int} {H : Hp}
theorem Ent.none (T : Ent P w K a cs h ns H) (ha : h.get? a = some { cls := .type "list", data := .seq vs.toArray }) {b : Addr} {o : Obj} (e : h.get? b = some o) (h1 : ∀ vs n, o.data ≠ .seq vs n) (h2 : o.data ≠ .fields #[]) : H b = none := by
  cases q : H b with
  | none => rfl
  | some u =>
    rcases T.only b u q with ⟨rfl, _⟩ | ⟨_, _, _, rfl⟩
    · have z : h.get? b = some { cls := .none, data := .fields #[] } := T.ok b _ q
      rw [e] at z
      cases z
      exact absurd rfl h2
    · rw [ha] at e
      cases e
      exact absurd rfl (h1 _ _)
theorem Ent.dict (T : Ent P w K a cs h ns H) (ha : h.get? a = some { cls := .type "list", data := .seq vs.toArray }) {b : Addr} {o : Obj} {es : Array DictEntry} {n : Nat} (e : h.get? b = some o) (d : o.data = .dict es n) : H b = .none := T.none ha e (fun vs n z => nomatch d.symm.trans z) fun z => nomatch d.symm.trans z
theorem Ent.nsp (T : Ent P w K a cs h ns H) (ha : h.get? a = some { cls := .type "list", data := .seq vs.toArray }) {b : Addr} {m : Str → Option Value} (x : h.Ns b m) : (hidT h H).Ns b m := by
  obtain ⟨o, es, n, e, d, r⟩ := x
  exact ⟨o, es, n, hidT_get e (T.dict ha e d), d, r⟩
theorem Ent.kin (T : Ent P w K a cs h ns H) (KX : K.In h) : K.In (hidT h H) := fun b o e => hidT_get (KX b o e) (by
  cases q : H b with
  | none => rfl
  | some u => rw [T.out b u q] at e; cases e)
theorem Ent.tabB (T : Ent P w K a cs h ns H) (ha : h.get? a = some { cls := .type "list", data := .seq vs.toArray }) {mg : Str → Option Value} (hg : h.Ns mainGlobals mg) {c p : Addr} (hP : h.get? p = some { cls := .none, data := .fields #[] }) (C : PySem.W.CodeHd h c p)
    (hbm : ∃ (bm : Addr) (ob : Obj), mg "__builtins__" = some (.ref bm) ∧ bm ≠ builtinsNs ∧ h.get? bm = some ob ∧ ob.cls = .type "module" ∧ ob.dict = some builtinsNs ∧ ob.data = .plain) : TabB (hidT h H) mg c p := by
  obtain ⟨og, es, n, eg, dg, _⟩ := hg
  refine ⟨?_, ?_, fun z => ?_⟩
  · obtain ⟨o, us, file, tf, flags, tg, inF, text, tt, e, r1, r2, r3, r⟩ := C
    refine ⟨o, us, file, tf, flags, tg, inF, text, tt, hidT_get e (T.none ha e (fun _ _ z => nomatch r2.symm.trans z) fun z => ?_), r1, r2, r3, r⟩
    have z2 := r2.symm.trans z
    cases z2
    simp at r3
  · obtain ⟨bm, ob, b1, b2, b3, b4, b5, b6⟩ := hbm
    refine ⟨bm, ob, b1, b2, fun z => ?_, fun z => ?_, hidT_get b3 (T.none ha b3 (fun _ _ z => nomatch b6.symm.trans z) fun z => nomatch b6.symm.trans z), b4, b5, b6⟩
    · rw [z, eg] at b3
      cases b3
      exact nomatch dg.symm.trans b6
    · rw [z, hP] at b3
      cases b3
      exact nomatch b6
  · rw [z, hP] at eg
    cases eg
    exact nomatch dg
/-- from the law's promise, at the heap behind the top -/
theorem law_callG {mg mb : Str → Option Value} {k : Nat} {fa : Addr} {fd : FuncData} {x : Str} {sp : Sp} {s : Shared} (KX : K.In s.heap) (hg : s.heap.Ns mainGlobals mg) (hb : s.heap.Ns builtinsNs mb) (hbb : ∀ x : Str, x ≠ "__name__" → mb x = bootBuiltins x) (hlim : s.heap.NoLimit)
    (hgn : s.gens = #[]) (hT : ∀ p ∈ cs, s.heap.get? p.2 = some { cls := .none, data := .fields #[] }) (nT : ∀ p ∈ cs, K.lookup p.2 = none) (C : ∀ p ∈ cs, PySem.W.CodeHd s.heap p.1 p.2)
    (hbm : ∃ (bm : Addr) (ob : Obj), mg "__builtins__" = some (.ref bm) ∧ bm ≠ builtinsNs ∧ s.heap.get? bm = some ob ∧ ob.cls = .type "module" ∧ ob.dict = some builtinsNs ∧ ob.data = .plain)
    (ha : s.heap.get? a = some { cls := .type "list", data := .seq vs.toArray }) (hi : IntsAre vs ns) (hl : ns.length ≤ sizeLine) (hr : Room k callerA)
    (F : ∀ base : Heap, K.In base → base.Ns mainGlobals mg → (∀ p ∈ cs, TabB base mg p.1 p.2) → FnG P w K mg base CX0 k fa fd [x] sp) (hbind : ∀ (s : Shared) (u : Value), BindsTo s fd ⟨[u], []⟩ [(x, u)])
    (hsp : ∀ H : Hp, (∀ p ∈ cs, H p.2 = some (.tbl #[])) → SqL K H a (ns.map V.int) → sp [.ref a] H (fun v _ => v = .bl true) fun _ _ _ => False) :
    codeAny (model P w) callerA (.call (.ref fa) ⟨[.ref a], []⟩) (fun r s' => r = .ok (.ret (.bool true)) ∧ OldK s.heap s'.heap ∧ s'.os = s.os ∧ AllBare s'.gens) s := by
  obtain ⟨H, T⟩ := ent (P := P) (w := w) KX hT nT ha hi hl
  have KB := T.kin KX
  have GB := T.nsp ha hg
  have TB : ∀ p ∈ cs, TabB (hidT s.heap H) mg p.1 p.2 := fun p hp => T.tabB ha hg (hT p hp) (C p hp) hbm
  have M : L2.Mod K mg (hidT s.heap H) := ⟨KB, GB, ⟨mb, T.nsp ha hb, hbb⟩, by obtain ⟨mc, q1, q2⟩ := hlim; exact ⟨mc, T.nsp ha q1, q2⟩⟩
  have e0 : Env0 P w K mg (hidT s.heap H) callerA [] s H := { frames := rfl, mod := M, bs := fun b o e => of_hidT e, bsz := Nat.le_of_eq (hidT_size _ _), funs := trivial, frf := fun b m => absurd (show b ∈ ([] : List Addr) from m) List.not_mem_nil, hok := T.ok, bare := .of_eq hgn }
  refine codeAny_mono ((F _ KB GB TB).run callerA [] s H ⟨[.ref a], []⟩ [.ref a] [.ref a] _ _ rfl hr e0 (hbind s (.ref a)) (.cons rfl .nil) (hsp H T.tab T.scr)) fun r s' q => ?_
  match r, q with
  | .error e, q => exact False.elim q
  | .ok .next, q => exact False.elim q
  | .ok .brk, q => exact False.elim q
  | .ok .cont, q => exact False.elim q
  | .ok (.ret u), q =>
    obtain ⟨v, H', os, bare, un, ok', rv, qv⟩ := q
    obtain rfl : v = .bl true := qv
    obtain rfl : u = Value.bool true := rv
    have old : ∀ b o, s.heap.get? b = some o → (s'.heap.get? b = some o ∧ b ∉ cs.map (·.2)) ∨ (∃ p ∈ cs, p.2 = b ∧ o = { cls := .none, data := .fields #[] } ∧ ∃ more : Array Value, s'.heap.get? b = some { cls := .none, data := .fields more }) := fun b o e => by
      by_cases m : b ∈ cs.map (·.2)
      · obtain ⟨p, hp, rfl⟩ := List.mem_map.mp m
        obtain ⟨more, z⟩ := un.tbls p.2 #[] (T.tab p hp)
        rw [hT p hp] at e
        cases e
        exact .inr ⟨p, hp, rfl, rfl, _, ok' p.2 _ z⟩
      · refine .inl ⟨?_, m⟩
        cases q : H b with
        | none => exact un.keep b o e q (fun z => nomatch (show b ∈ ([] : List Addr) from z)) (fun z => nomatch (show b ∈ ([] : List Addr) from z))
        | some u =>
          rcases T.only b u q with ⟨_, m2⟩ | ⟨xs, ob, rfl, rfl⟩
          · exact absurd m2 m
          · have z1 := (T.ok _ _ q).1
            have z2 := (ok' _ _ (un.frzs _ ob _ q)).1
            rw [e] at z1
            cases z1
            exact z2
    refine ⟨rfl, ⟨fun b o e => ?_, fun b o e => ?_⟩, os, bare⟩
    · rcases old b o e with ⟨z, _⟩ | ⟨p, hp, rfl, rfl, more, z⟩
      · exact .inl z
      · exact .inr (.inl ⟨((C p hp).tab (hT p hp)).isCodeTable, rfl, #[], more, rfl, by rw [Array.empty_append]; exact z⟩)
    · rcases old b o e with ⟨z, _⟩ | ⟨p, hp, rfl, rfl, more, z⟩
      · exact ⟨_, z⟩
      · exact ⟨_, z⟩
end
/-- what is known of the law at the head's heap h; tabs: code objects and tables of the defs that make lambdas -/
structure LawG (l : PySem.W.OpenLaw) (w : World) (K : PySem.W.Frag) (k n : Nat) (x : Str) (mg : Str → Option Value) (fa : Addr) (h : Heap) (tabs : List (Addr × Addr)) : Prop where
  at_ : ∀ p ∈ tabs, PySem.W.CodeHd h p.1 p.2 ∧ h.get? p.2 = some (PySem.W.tabObj #[])
  out : ∀ p ∈ tabs, K.lookup p.2 = none
  pr : ∃ (fd : FuncData) (sp : Sp), (∀ (s : Shared) (u : Value), BindsTo s fd ⟨[u], []⟩ [(x, u)]) ∧
    (∀ (H : Hp) (a : Addr) (ns : List Int), ns.length ≤ n → (∀ p ∈ tabs, H p.2 = some (.tbl #[])) → SqL K H a (ns.map V.int) → sp [.ref a] H (fun v _ => v = .bl true) fun _ _ _ => False) ∧
    ∀ base : Heap, K.In base → base.Ns mainGlobals mg → (∀ p ∈ tabs, TabB base mg p.1 p.2) → FnG l.prog w K mg base CX0 k fa fd [x] sp
theorem walk_ofG {l : PySem.W.OpenLaw} {n k : Nat} {q : Program} {loose : List Str} {XP : (Str → Option Value) → Heap → Prop} {YP : World → Heap → Prop} {d : DefRec} {K : Params → PySem.W.Frag} {x : Str}
    (hn : l.most = some n) (hn2 : n ≤ sizeLine) (hdf : d.params.defaults = []) (hr : Room k callerA) (hY : ∀ (w : World) (h : Heap), YP w h → (K w.params).In h)
    (F : ∀ (w : World) (mg : Str → Option Value) (fa : Addr) (h : Heap), YP w h → (K w.params).In h → h.Ns mainGlobals mg → mg d.name = some (.ref fa) → ∃ tabs, LawG l w (K w.params) k n x mg fa h tabs) :
    PySem.W.WalkO q loose XP YP l.row.toRowW d [] (fun f vs => PySem.call f vs) := by
  refine Att.attach_call hn hdf fun w s₀ s₁ mg mb fa o pm cd doc a vs ns G Y ho hd hcd hmg hobj hints hlen hg => ?_
  have KX := hY w _ Y
  obtain ⟨tabs, L⟩ := F w mg fa _ Y KX G.T.g hmg
  obtain ⟨fd, sp, hb, hsp, hF⟩ := L.pr
  exact law_callG KX G.T.g G.T.b G.T.builtins G.T.nolimit hg (fun p hp => (L.at_ p hp).2) L.out (fun p hp => (L.at_ p hp).1) G.T.bmain hobj hints (Nat.le_trans hlen hn2) hr hF hb fun H h1 h2 => hsp H a ns hlen h1 h2
end Own
set_option maxRecDepth 100000
set_option maxHeartbeats 4000000
namespace Hz
open PySem PySem.W PySem.Calls PyProof.Rows He L2
/-! ### the end -/
theorem walk {l : OpenLaw} {n k : Nat} {q : Program} {loose : List Str} {XP : (Str → Option Value) → Heap → Prop} {YP : World → Heap → Prop} {d : DefRec} {x : Str}
    (hn : l.most = some n) (hn2 : n ≤ sizeLine) (hdf : d.params.defaults = []) (hr : Room k callerA)
    (F : ∀ (w : World) (mg : Str → Option Value) (fa : Addr) (h : Heap), YP w h → h.Ns mainGlobals mg → mg d.name = some (.ref fa) → ∃ K : Frag, K.In h ∧ ∃ tabs, Own.LawG l w K k n x mg fa h tabs) :
    WalkO q loose XP YP l.row.toRowW d [] (fun f vs => PySem.call f vs) := by
  refine Att.attach_call hn hdf fun w s₀ s₁ mg mb fa o pm cd doc a vs ns G Y ho hd hcd hmg hobj hints hlen hg => ?_
  obtain ⟨K, KX, tabs, L⟩ := F w mg fa _ Y G.T.g hmg
  obtain ⟨fd, sp, hb, hsp, hF⟩ := L.pr
  exact Own.law_callG KX G.T.g G.T.b G.T.builtins G.T.nolimit hg (fun p hp => (L.at_ p hp).2) L.out (fun p hp => (L.at_ p hp).1) G.T.bmain hobj hints (Nat.le_trans hlen hn2) hr hF hb fun H h1 h2 => hsp H a ns hlen h1 h2
end Hz
set_option maxRecDepth 100000
set_option maxHeartbeats 4000000
namespace Toy
open PySem L2
/-! ### the end -/
theorem all_mk {l : PySem.W.OpenLaw} {w : World} {K : PySem.W.Frag} {h : Heap} {mg : Str → Option Value} {fa : Addr} (X : K.In h) (G : h.Ns mainGlobals mg) (hfa : mg "law" = some (.ref fa)) (c : Hz.Says zfs zds ztf h K) :
    ∃ tabs, Own.LawG l w K 8 63 "_law_script" mg fa h tabs := by
  have aCR : PySem.W.nsIn K mainGlobals "Ratio" = some (some (.ref (zCR K))) := Hz.bO_ok (c.fact 0)
  have pgCR : PySem.W.plainGet K (zCR K) Str.empty = true := c.fact 1
  have hdCR : PySem.W.hasDictIn K (zCR K) = true := c.fact 2
  have poCR : PySem.W.plainOver K (zCR K) = true := c.fact 3
  have saCR : PySem.W.findIn K (.ref (zCR K)) "__setattr__" = some (some (.builtin "object.__setattr__")) := Hz.bO_ok (c.fact 4)
  have rdCR : PySem.W.readsIn K (zCR K) (.type "type") = true := c.fact 5
  have gaCR : PySem.W.specialIn K (.ref (zCR K)) "__getattribute__" = some (some (.builtin "type.__getattribute__")) := Hz.bO_ok (c.fact 6)
  have caCR : PySem.W.findIn K (.ref (zCR K)) "__class__" = some (some (.builtin "object.__class__")) := Hz.bO_ok (c.fact 7)
  have cmCR : PySem.W.mroIn K (zCR K) (.type "object") = some true := Hz.bB_ok (c.fact 8)
  have sICR : PySem.W.subIn K (.ref (zCR K)) (.type "int") = some false := Hz.bB_ok (c.fact 9)
  have nICR : PySem.W.notFirst K (zCR K) (.type "int") = true := c.fact 10
  have nCCR : PySem.W.notFirst K (zCR K) (.ref (zCR K)) = true := c.fact 11
  have kICR : PySem.W.kitOne K (.ref (zCR K)) (.type "int") = some false := Hz.bB_ok (c.fact 12)
  have kBCR : PySem.W.kitOne K (.ref (zCR K)) (.type "bool") = some false := Hz.bB_ok (c.fact 13)
  have iKCR : PySem.W.kitOne K (.type "int") (.ref (zCR K)) = some false := Hz.bB_ok (c.fact 14)
  have kSCR : PySem.W.kitOne K (.ref (zCR K)) (.ref (zCR K)) = some true := Hz.bB_ok (c.fact 15)
  have n_topCR : PySem.W.findIn K (.ref (zCR K)) "top" = some none := Hz.bO_ok (c.fact 16)
  have n_bottomCR : PySem.W.findIn K (.ref (zCR K)) "bottom" = some none := Hz.bO_ok (c.fact 17)
  have mkCR : PySem.W.makesIn K (zCR K) = true := c.fact 18
  have kcCR : PySem.W.keepIn K (.ref (zCR K)) = true := c.fact 19
  have aCP : PySem.W.nsIn K mainGlobals "Piece" = some (some (.ref (zCP K))) := Hz.bO_ok (c.fact 20)
  have pgCP : PySem.W.plainGet K (zCP K) Str.empty = true := c.fact 21
  have hdCP : PySem.W.hasDictIn K (zCP K) = true := c.fact 22
  have poCP : PySem.W.plainOver K (zCP K) = true := c.fact 23
  have saCP : PySem.W.findIn K (.ref (zCP K)) "__setattr__" = some (some (.builtin "object.__setattr__")) := Hz.bO_ok (c.fact 24)
  have rdCP : PySem.W.readsIn K (zCP K) (.type "type") = true := c.fact 25
  have gaCP : PySem.W.specialIn K (.ref (zCP K)) "__getattribute__" = some (some (.builtin "type.__getattribute__")) := Hz.bO_ok (c.fact 26)
  have caCP : PySem.W.findIn K (.ref (zCP K)) "__class__" = some (some (.builtin "object.__class__")) := Hz.bO_ok (c.fact 27)
  have cmCP : PySem.W.mroIn K (zCP K) (.type "object") = some true := Hz.bB_ok (c.fact 28)
  have sICP : PySem.W.subIn K (.ref (zCP K)) (.type "int") = some false := Hz.bB_ok (c.fact 29)
  have nICP : PySem.W.notFirst K (zCP K) (.type "int") = true := c.fact 30
  have nCCP : PySem.W.notFirst K (zCP K) (.ref (zCP K)) = true := c.fact 31
  have kICP : PySem.W.kitOne K (.ref (zCP K)) (.type "int") = some false := Hz.bB_ok (c.fact 32)
  have kBCP : PySem.W.kitOne K (.ref (zCP K)) (.type "bool") = some false := Hz.bB_ok (c.fact 33)
  have iKCP : PySem.W.kitOne K (.type "int") (.ref (zCP K)) = some false := Hz.bB_ok (c.fact 34)
  have kSCP : PySem.W.kitOne K (.ref (zCP K)) (.ref (zCP K)) = some true := Hz.bB_ok (c.fact 35)
  have n_leftCP : PySem.W.findIn K (.ref (zCP K)) "left" = some none := Hz.bO_ok (c.fact 36)
  have n_rightCP : PySem.W.findIn K (.ref (zCP K)) "right" = some none := Hz.bO_ok (c.fact 37)
  have mkCP : PySem.W.makesIn K (zCP K) = true := c.fact 38
  have kcCP : PySem.W.keepIn K (.ref (zCP K)) = true := c.fact 39
  have aCT : PySem.W.nsIn K mainGlobals "Tone" = some (some (.ref (zCT K))) := Hz.bO_ok (c.fact 40)
  have pgCT : PySem.W.plainGet K (zCT K) Str.empty = true := c.fact 41
  have hdCT : PySem.W.hasDictIn K (zCT K) = true := c.fact 42
  have poCT : PySem.W.plainOver K (zCT K) = true := c.fact 43
  have saCT : PySem.W.findIn K (.ref (zCT K)) "__setattr__" = some (some (.builtin "object.__setattr__")) := Hz.bO_ok (c.fact 44)
  have rdCT : PySem.W.readsIn K (zCT K) (.type "type") = true := c.fact 45
  have gaCT : PySem.W.specialIn K (.ref (zCT K)) "__getattribute__" = some (some (.builtin "type.__getattribute__")) := Hz.bO_ok (c.fact 46)
  have caCT : PySem.W.findIn K (.ref (zCT K)) "__class__" = some (some (.builtin "object.__class__")) := Hz.bO_ok (c.fact 47)
  have cmCT : PySem.W.mroIn K (zCT K) (.type "object") = some true := Hz.bB_ok (c.fact 48)
  have sICT : PySem.W.subIn K (.ref (zCT K)) (.type "int") = some false := Hz.bB_ok (c.fact 49)
  have nICT : PySem.W.notFirst K (zCT K) (.type "int") = true := c.fact 50
  have nCCT : PySem.W.notFirst K (zCT K) (.ref (zCT K)) = true := c.fact 51
  have kICT : PySem.W.kitOne K (.ref (zCT K)) (.type "int") = some false := Hz.bB_ok (c.fact 52)
  have kBCT : PySem.W.kitOne K (.ref (zCT K)) (.type "bool") = some false := Hz.bB_ok (c.fact 53)
  have iKCT : PySem.W.kitOne K (.type "int") (.ref (zCT K)) = some false := Hz.bB_ok (c.fact 54)
  have kSCT : PySem.W.kitOne K (.ref (zCT K)) (.ref (zCT K)) = some true := Hz.bB_ok (c.fact 55)
  have n_octavesCT : PySem.W.findIn K (.ref (zCT K)) "octaves" = some none := Hz.bO_ok (c.fact 56)
  have n_fifthsCT : PySem.W.findIn K (.ref (zCT K)) "fifths" = some none := Hz.bO_ok (c.fact 57)
  have mkCT : PySem.W.makesIn K (zCT K) = true := c.fact 58
  have kcCT : PySem.W.keepIn K (.ref (zCT K)) = true := c.fact 59
  have cn : PySem.W.specialIn K (.builtin "object.__class__") "__get__" = some (some (.builtin "getset_descriptor.__get__")) := Hz.bO_ok (c.fact 60)
  have ct : PySem.W.takesIn K (.builtin "object.__class__") = some true := Hz.bB_ok (c.fact 61)
  have z_int : PySem.W.nsIn K mainGlobals "int" = some none := Hz.bO_ok (c.fact 62)
  have z_len : PySem.W.nsIn K mainGlobals "len" = some none := Hz.bO_ok (c.fact 63)
  have z_abs : PySem.W.nsIn K mainGlobals "abs" = some none := Hz.bO_ok (c.fact 64)
  have z_list : PySem.W.nsIn K mainGlobals "list" = some none := Hz.bO_ok (c.fact 65)
  have z_range : PySem.W.nsIn K mainGlobals "range" = some none := Hz.bO_ok (c.fact 66)
  have z_isinstance : PySem.W.nsIn K mainGlobals "isinstance" = some none := Hz.bO_ok (c.fact 67)
  have z_bool : PySem.W.nsIn K mainGlobals "bool" = some none := Hz.bO_ok (c.fact 68)
  have z_repr : PySem.W.nsIn K mainGlobals "repr" = some none := Hz.bO_ok (c.fact 69)
  have z_min : PySem.W.nsIn K mainGlobals "min" = some none := Hz.bO_ok (c.fact 70)
  have z_max : PySem.W.nsIn K mainGlobals "max" = some none := Hz.bO_ok (c.fact 71)
  have z_gcd : PySem.W.nsIn K mainGlobals "gcd" = some (some (.builtin "math.gcd")) := Hz.bO_ok (c.fact 72)
  have aCF : PySem.W.nsIn K mainGlobals "FifthError" = some (some (.ref (zCF K))) := Hz.bO_ok (c.fact 73)
  have aCBN : PySem.W.nsIn K mainGlobals "BadNumber" = some (some (.ref (zCBN K))) := Hz.bO_ok (c.fact 74)
  have lkCBN := Hz.bE_ok (c.fact 75)
  have saCBN : PySem.W.findIn K (.ref (zCBN K)) "__setattr__" = some (some (.builtin "object.__setattr__")) := Hz.bO_ok (c.fact 76)
  have exCBN : PySem.W.subIn K (.ref (zCBN K)) (.type "BaseException") = some true := Hz.bB_ok (c.fact 77)
  have tyCBN : PySem.W.typeIn K (.ref (zCBN K)) = some (.type "type") := Hz.bV_ok (c.fact 78)
  have kpCBN : PySem.W.keepIn K (.ref (zCBN K)) = true := c.fact 79
  have inCBN : PySem.W.findIn K (.ref (zCBN K)) "__init__" = some (some (.ref (zf17 K))) := Hz.bO_ok (c.fact 80)
  have tiCBN : PySem.W.typeIn K (.ref (zf17 K)) = some (.type "function") := Hz.bV_ok (c.fact 81)
  have noCBN : PySem.W.findIn K (.ref (zCBN K)) "value" = some none := Hz.bO_ok (c.fact 82)
  have xfCBN : PySem.W.findIn K (.ref (zCBN K)) "__getattribute__" = some (some (.builtin "BaseException.__getattribute__")) := Hz.bO_ok (c.fact 83)
  have xgCBN : PySem.W.findIn K (.ref (zCBN K)) "__getattr__" = some none := Hz.bO_ok (c.fact 84)
  have xhCBN : PySem.W.hasDictIn K (zCBN K) = true := c.fact 85
  have aCBP : PySem.W.nsIn K mainGlobals "BadPiece" = some (some (.ref (zCBP K))) := Hz.bO_ok (c.fact 86)
  have lkCBP := Hz.bE_ok (c.fact 87)
  have saCBP : PySem.W.findIn K (.ref (zCBP K)) "__setattr__" = some (some (.builtin "object.__setattr__")) := Hz.bO_ok (c.fact 88)
  have exCBP : PySem.W.subIn K (.ref (zCBP K)) (.type "BaseException") = some true := Hz.bB_ok (c.fact 89)
  have tyCBP : PySem.W.typeIn K (.ref (zCBP K)) = some (.type "type") := Hz.bV_ok (c.fact 90)
  have kpCBP : PySem.W.keepIn K (.ref (zCBP K)) = true := c.fact 91
  have inCBP : PySem.W.findIn K (.ref (zCBP K)) "__init__" = some (some (.ref (zf18 K))) := Hz.bO_ok (c.fact 92)
  have tiCBP : PySem.W.typeIn K (.ref (zf18 K)) = some (.type "function") := Hz.bV_ok (c.fact 93)
  have noCBP : PySem.W.findIn K (.ref (zCBP K)) "part" = some none := Hz.bO_ok (c.fact 94)
  have xfCBP : PySem.W.findIn K (.ref (zCBP K)) "__getattribute__" = some (some (.builtin "BaseException.__getattribute__")) := Hz.bO_ok (c.fact 95)
  have xgCBP : PySem.W.findIn K (.ref (zCBP K)) "__getattr__" = some none := Hz.bO_ok (c.fact 96)
  have xhCBP : PySem.W.hasDictIn K (zCBP K) = true := c.fact 97
  have aCM : PySem.W.nsIn K mainGlobals "Meets" = some (some (.ref (zCM K))) := Hz.bO_ok (c.fact 98)
  have lkCM := Hz.bE_ok (c.fact 99)
  have saCM : PySem.W.findIn K (.ref (zCM K)) "__setattr__" = some (some (.builtin "object.__setattr__")) := Hz.bO_ok (c.fact 100)
  have exCM : PySem.W.subIn K (.ref (zCM K)) (.type "BaseException") = some true := Hz.bB_ok (c.fact 101)
  have tyCM : PySem.W.typeIn K (.ref (zCM K)) = some (.type "type") := Hz.bV_ok (c.fact 102)
  have kpCM : PySem.W.keepIn K (.ref (zCM K)) = true := c.fact 103
  have inCM : PySem.W.findIn K (.ref (zCM K)) "__init__" = some (some (.ref (zf19 K))) := Hz.bO_ok (c.fact 104)
  have tiCM : PySem.W.typeIn K (.ref (zf19 K)) = some (.type "function") := Hz.bV_ok (c.fact 105)
  have noCM : PySem.W.findIn K (.ref (zCM K)) "one" = some none := Hz.bO_ok (c.fact 106)
  have xfCM : PySem.W.findIn K (.ref (zCM K)) "__getattribute__" = some (some (.builtin "BaseException.__getattribute__")) := Hz.bO_ok (c.fact 107)
  have xgCM : PySem.W.findIn K (.ref (zCM K)) "__getattr__" = some none := Hz.bO_ok (c.fact 108)
  have xhCM : PySem.W.hasDictIn K (zCM K) = true := c.fact 109
  have e_CM_CF : PySem.W.exmOne K (.ref (zCM K)) (.ref (zCF K)) = some true := Hz.bB_ok (c.fact 110)
  have e_CBN_CF : PySem.W.exmOne K (.ref (zCBN K)) (.ref (zCF K)) = some true := Hz.bB_ok (c.fact 111)
  have e_CBP_CF : PySem.W.exmOne K (.ref (zCBP K)) (.ref (zCF K)) = some true := Hz.bB_ok (c.fact 112)
  have n2M : PySem.W.findIn K (.ref (zCM K)) "other" = some none := Hz.bO_ok (c.fact 113)
  have n3M : PySem.W.findIn K (.ref (zCM K)) "at" = some none := Hz.bO_ok (c.fact 114)
  have kRP : PySem.W.kitOne K (.ref (zCR K)) (.ref (zCP K)) = some false := Hz.bB_ok (c.fact 115)
  have xcaCM : PySem.W.findIn K (.ref (zCM K)) "__class__" = some (some (.builtin "object.__class__")) := Hz.bO_ok (c.fact 116)
  have xcmCM : PySem.W.mroIn K (zCM K) (.type "object") = some true := Hz.bB_ok (c.fact 117)
  have xcaCBN : PySem.W.findIn K (.ref (zCBN K)) "__class__" = some (some (.builtin "object.__class__")) := Hz.bO_ok (c.fact 118)
  have xcmCBN : PySem.W.mroIn K (zCBN K) (.type "object") = some true := Hz.bB_ok (c.fact 119)
  have xcaCBP : PySem.W.findIn K (.ref (zCBP K)) "__class__" = some (some (.builtin "object.__class__")) := Hz.bO_ok (c.fact 120)
  have xcmCBP : PySem.W.mroIn K (zCBP K) (.type "object") = some true := Hz.bB_ok (c.fact 121)
  have kn0 : PySem.W.kitOne K (.type "NoneType") (.ref (zCP K)) = some false := Hz.bB_ok (c.fact 122)
  have kn1 : PySem.W.kitOne K (.type "bool") (.ref (zCP K)) = some false := Hz.bB_ok (c.fact 123)
  have kn2 : PySem.W.kitOne K (.type "str") (.ref (zCP K)) = some false := Hz.bB_ok (c.fact 124)
  have kn3 : PySem.W.kitOne K (.type "list") (.ref (zCP K)) = some false := Hz.bB_ok (c.fact 125)
  have kn4 : PySem.W.kitOne K (.type "tuple") (.ref (zCP K)) = some false := Hz.bB_ok (c.fact 126)
  have kMM : PySem.W.kitOne K (.ref (zCM K)) (.ref (zCM K)) = some true := Hz.bB_ok (c.fact 127)
  have kNM : PySem.W.kitOne K (.ref (zCBN K)) (.ref (zCM K)) = some false := Hz.bB_ok (c.fact 128)
  have kNN : PySem.W.kitOne K (.ref (zCBN K)) (.ref (zCBN K)) = some true := Hz.bB_ok (c.fact 129)
  have kPM : PySem.W.kitOne K (.ref (zCBP K)) (.ref (zCM K)) = some false := Hz.bB_ok (c.fact 130)
  have kPN : PySem.W.kitOne K (.ref (zCBP K)) (.ref (zCBN K)) = some false := Hz.bB_ok (c.fact 131)
  have kPP : PySem.W.kitOne K (.ref (zCBP K)) (.ref (zCBP K)) = some true := Hz.bB_ok (c.fact 132)
  have a0 : PySem.W.nsIn K mainGlobals "is_int" = some (some (.ref (zf0 K))) := Hz.bO_ok (c.fact 133)
  obtain ⟨a1, rest1, r1⟩ := He5.wrapB_ok (c.fact 134)
  have a2 : PySem.W.nsIn K mainGlobals "parts_of" = some (some (.ref (zf2 K))) := Hz.bO_ok (c.fact 135)
  have a3 : PySem.W.nsIn K mainGlobals "_lead" = some (some (.ref (zf3 K))) := Hz.bO_ok (c.fact 136)
  have a4 : PySem.W.findIn K (.ref (zCR K)) "__init__" = some (some (.ref (zf4 K))) := Hz.bO_ok (c.fact 137)
  have i4 : PySem.W.isFn K (.ref (zf4 K)) = true := c.fact 138
  have a5 : PySem.W.findIn K (.ref (zCR K)) "__lt__" = some (some (.ref (zf5 K))) := Hz.bO_ok (c.fact 139)
  have i5 : PySem.W.isFn K (.ref (zf5 K)) = true := c.fact 140
  have a6 : PySem.W.findIn K (.ref (zCR K)) "__le__" = some (some (.ref (zf6 K))) := Hz.bO_ok (c.fact 141)
  have i6 : PySem.W.isFn K (.ref (zf6 K)) = true := c.fact 142
  have a7 : PySem.W.findIn K (.ref (zCR K)) "__gt__" = some (some (.ref (zf7 K))) := Hz.bO_ok (c.fact 143)
  have i7 : PySem.W.isFn K (.ref (zf7 K)) = true := c.fact 144
  have a8 : PySem.W.findIn K (.ref (zCR K)) "__ge__" = some (some (.ref (zf8 K))) := Hz.bO_ok (c.fact 145)
  have i8 : PySem.W.isFn K (.ref (zf8 K)) = true := c.fact 146
  obtain ⟨a9, rest9, r9⟩ := He5.wrapB_ok (c.fact 147)
  have a10 : PySem.W.nsIn K mainGlobals "_is_left_end" = some (some (.ref (zf10 K))) := Hz.bO_ok (c.fact 148)
  have a11 : PySem.W.nsIn K mainGlobals "_is_right_end" = some (some (.ref (zf11 K))) := Hz.bO_ok (c.fact 149)
  have a12 : PySem.W.nsIn K mainGlobals "_are_neighbours" = some (some (.ref (zf12 K))) := Hz.bO_ok (c.fact 150)
  have a13 : PySem.W.findIn K (.ref (zCP K)) "__init__" = some (some (.ref (zf13 K))) := Hz.bO_ok (c.fact 151)
  have i13 : PySem.W.isFn K (.ref (zf13 K)) = true := c.fact 152
  have a14 : PySem.W.findIn K (.ref (zCP K)) "reach" = some (some (.ref (zp14 K))) := Hz.bO_ok (c.fact 153)
  have g14 : PySem.W.specialIn K (.ref (zp14 K)) "__get__" = some (some (.builtin "property.__get__")) := Hz.bO_ok (c.fact 154)
  have t14 : PySem.W.takesIn K (.ref (zp14 K)) = some true := Hz.bB_ok (c.fact 155)
  obtain ⟨rest14, r14⟩ := Hz.bR_ok (c.fact 156)
  have a15 : PySem.W.findIn K (.ref (zCT K)) "__init__" = some (some (.ref (zf15 K))) := Hz.bO_ok (c.fact 157)
  have i15 : PySem.W.isFn K (.ref (zf15 K)) = true := c.fact 158
  have a16 : PySem.W.findIn K (.ref (zCT K)) "__eq__" = some (some (.ref (zf16 K))) := Hz.bO_ok (c.fact 159)
  have i16 : PySem.W.isFn K (.ref (zf16 K)) = true := c.fact 160
  have a20 : PySem.W.nsIn K mainGlobals "met" = some (some (.ref (zf20 K))) := Hz.bO_ok (c.fact 161)
  have a21 : PySem.W.nsIn K mainGlobals "rise" = some (some (.ref (zf21 K))) := Hz.bO_ok (c.fact 162)
  have a22 : PySem.W.nsIn K mainGlobals "position" = some (some (.ref (zf22 K))) := Hz.bO_ok (c.fact 163)
  have a23 : PySem.W.nsIn K mainGlobals "_law_pen" = some (some (.ref (zf23 K))) := Hz.bO_ok (c.fact 164)
  have a24 : PySem.W.nsIn K mainGlobals "_law_draw" = some (some (.ref (zf24 K))) := Hz.bO_ok (c.fact 165)
  have a25 : PySem.W.nsIn K mainGlobals "_law_pick" = some (some (.ref (zf25 K))) := Hz.bO_ok (c.fact 166)
  have a26 : PySem.W.nsIn K mainGlobals "_law_divisor" = some (some (.ref (zf26 K))) := Hz.bO_ok (c.fact 167)
  have a27 : PySem.W.nsIn K mainGlobals "_law_ends" = some (some (.ref (zf27 K))) := Hz.bO_ok (c.fact 168)
  have a28 : PySem.W.nsIn K mainGlobals "_law_far" = some (some (.ref (zf28 K))) := Hz.bO_ok (c.fact 169)
  have a29 : PySem.W.nsIn K mainGlobals "_law_met" = some (some (.ref (zf29 K))) := Hz.bO_ok (c.fact 170)
  have a30 : PySem.W.nsIn K mainGlobals "_law_told" = some (some (.ref (zf30 K))) := Hz.bO_ok (c.fact 171)
  have a31 : PySem.W.nsIn K mainGlobals "_law_right" = some (some (.ref (zf31 K))) := Hz.bO_ok (c.fact 172)
  have a32 : PySem.W.nsIn K mainGlobals "law" = some (some (.ref (zf32 K))) := Hz.bO_ok (c.fact 173)
  have e := hfa.symm.trans (PySem.W.mg_of X G a32)
  cases e
  have T : Bl mg := ⟨PySem.W.mg_none_of X G z_int, PySem.W.mg_none_of X G z_len, PySem.W.mg_none_of X G z_abs, PySem.W.mg_none_of X G z_list, PySem.W.mg_none_of X G z_range, PySem.W.mg_none_of X G z_isinstance, PySem.W.mg_none_of X G z_bool, PySem.W.mg_of X G z_gcd⟩
  have T_Ratio : RatT K mg (zCR K) := ⟨⟨⟨pgCR, hdCR, poCR, saCR⟩, PySem.W.mg_of X G aCR, ⟨rdCR, gaCR⟩, caCR, cn, ct, cmCR, kICR, kBCR, kSCR, iKCR, sICR, nICR, nCCR⟩, n_topCR, n_bottomCR⟩
  have T_Piece : PieT K mg (zCP K) := ⟨⟨⟨pgCP, hdCP, poCP, saCP⟩, PySem.W.mg_of X G aCP, ⟨rdCP, gaCP⟩, caCP, cn, ct, cmCP, kICP, kBCP, kSCP, iKCP, sICP, nICP, nCCP⟩, n_leftCP, n_rightCP⟩
  have T_Tone : TonT K mg (zCT K) := ⟨⟨⟨pgCT, hdCT, poCT, saCT⟩, PySem.W.mg_of X G aCT, ⟨rdCT, gaCT⟩, caCT, cn, ct, cmCT, kICT, kBCT, kSCT, iKCT, sICT, nICT, nCCT⟩, n_octavesCT, n_fifthsCT⟩
  have E_BadNumber : ErT K mg "BadNumber" "value" (zCBN K) (zf17 K) := ⟨⟨lkCBN, saCBN, exCBN, tyCBN, kpCBN⟩, PySem.W.mg_of X G aCBN, inCBN, tiCBN, noCBN, ⟨xfCBN, xgCBN, exCBN, xhCBN⟩⟩
  have E_BadPiece : ErT K mg "BadPiece" "part" (zCBP K) (zf18 K) := ⟨⟨lkCBP, saCBP, exCBP, tyCBP, kpCBP⟩, PySem.W.mg_of X G aCBP, inCBP, tiCBP, noCBP, ⟨xfCBP, xgCBP, exCBP, xhCBP⟩⟩
  have E_Meets : ErT K mg "Meets" "one" (zCM K) (zf19 K) := ⟨⟨lkCM, saCM, exCM, tyCM, kpCM⟩, PySem.W.mg_of X G aCM, inCM, tiCM, noCM, ⟨xfCM, xgCM, exCM, xhCM⟩⟩
  obtain ⟨fdz0, Fz0⟩ := c.def_ 0 (d := zd0) rfl
  have k0 := Fz0.kp
  have F0 : Fun K "is_int" "is_int" sIsInt (zf0 K) fdz0 := He5.fun_of Fz0
  have b0 := F0.binds (ps := ["value"]) fun _ _ _ _ _ _ us hl => match us, hl with | [_], _ => rfl
  obtain ⟨fdz1, Fz1⟩ := c.def_ 1 (d := zd1) rfl
  have k1 := Fz1.kp
  have F1 : Fun K "is_number" "Ratio.is_number" sIsNum (zf1 K) fdz1 := He5.fun_of Fz1
  have b1 := F1.binds (ps := ["value"]) fun _ _ _ _ _ _ us hl => match us, hl with | [_], _ => rfl
  obtain ⟨fdz2, Fz2⟩ := c.def_ 2 (d := zd2) rfl
  have k2 := Fz2.kp
  have F2 : Fun K "parts_of" "parts_of" sParts (zf2 K) fdz2 := He5.fun_of Fz2
  have b2 := F2.binds (ps := ["number"]) fun _ _ _ _ _ _ us hl => match us, hl with | [_], _ => rfl
  obtain ⟨fdz3, Fz3⟩ := c.def_ 3 (d := zd3) rfl
  have k3 := Fz3.kp
  have F3 : Fun K "_lead" "_lead" sLead (zf3 K) fdz3 := He5.fun_of Fz3
  have b3 := F3.binds (ps := ["one", "other"]) fun _ _ _ _ _ _ us hl => match us, hl with | [_, _], _ => rfl
  obtain ⟨fdz4, Fz4⟩ := c.def_ 4 (d := zd4) rfl
  have k4 := Fz4.kp
  have F4 : FunD K "__init__" "Ratio.__init__" (defArgs sRInit) (defBody sRInit) (defScope sRInit) [.int 1] [] (zf4 K) fdz4 := Fz4
  obtain ⟨ds4, hds4, b4⟩ := F4.binds1 (ps := ["self", "top", "bottom"]) 3 1 (fun z => nomatch z) rfl fun _ _ _ _ _ _ _ us its hu hi => match us, hu, its, hi with | [_, _, _], _, [_], _ => ⟨_, rfl, rfl⟩
  cases hds4
  obtain ⟨dv4, hdv4, bd4⟩ := F4.binds1 (ps := ["self", "top", "bottom"]) 2 0 (fun z => nomatch z) rfl fun _ _ _ _ _ _ _ us its hu hi => match us, hu, its, hi with | [_, _], _, [_], _ => ⟨_, rfl, rfl⟩
  obtain ⟨fdz5, Fz5⟩ := c.def_ 5 (d := zd5) rfl
  have k5 := Fz5.kp
  have F5 : Fun K "__lt__" "Ratio.__lt__" sLt (zf5 K) fdz5 := He5.fun_of Fz5
  have b5 := F5.binds (ps := ["self", "other"]) fun _ _ _ _ _ _ us hl => match us, hl with | [_, _], _ => rfl
  obtain ⟨fdz6, Fz6⟩ := c.def_ 6 (d := zd6) rfl
  have k6 := Fz6.kp
  have F6 : Fun K "__le__" "Ratio.__le__" sLeq (zf6 K) fdz6 := He5.fun_of Fz6
  have b6 := F6.binds (ps := ["self", "other"]) fun _ _ _ _ _ _ us hl => match us, hl with | [_, _], _ => rfl
  obtain ⟨fdz7, Fz7⟩ := c.def_ 7 (d := zd7) rfl
  have k7 := Fz7.kp
  have F7 : Fun K "__gt__" "Ratio.__gt__" sGt (zf7 K) fdz7 := He5.fun_of Fz7
  have b7 := F7.binds (ps := ["self", "other"]) fun _ _ _ _ _ _ us hl => match us, hl with | [_, _], _ => rfl
  obtain ⟨fdz8, Fz8⟩ := c.def_ 8 (d := zd8) rfl
  have k8 := Fz8.kp
  have F8 : Fun K "__ge__" "Ratio.__ge__" sGe (zf8 K) fdz8 := He5.fun_of Fz8
  have b8 := F8.binds (ps := ["self", "other"]) fun _ _ _ _ _ _ us hl => match us, hl with | [_, _], _ => rfl
  obtain ⟨fdz9, Fz9⟩ := c.def_ 9 (d := zd9) rfl
  have k9 := Fz9.kp
  have F9 : Fun K "of" "Ratio.of" sOf (zf9 K) fdz9 := He5.fun_of Fz9
  have b9 := F9.binds (ps := ["number"]) fun _ _ _ _ _ _ us hl => match us, hl with | [_], _ => rfl
  obtain ⟨fdz10, Fz10⟩ := c.def_ 10 (d := zd10) rfl
  have k10 := Fz10.kp
  have F10 : Fun K "_is_left_end" "_is_left_end" sLE (zf10 K) fdz10 := He5.fun_of Fz10
  have b10 := F10.binds (ps := ["value"]) fun _ _ _ _ _ _ us hl => match us, hl with | [_], _ => rfl
  obtain ⟨fdz11, Fz11⟩ := c.def_ 11 (d := zd11) rfl
  have k11 := Fz11.kp
  have F11 : Fun K "_is_right_end" "_is_right_end" sRE (zf11 K) fdz11 := He5.fun_of Fz11
  have b11 := F11.binds (ps := ["value"]) fun _ _ _ _ _ _ us hl => match us, hl with | [_], _ => rfl
  obtain ⟨fdz12, Fz12⟩ := c.def_ 12 (d := zd12) rfl
  have k12 := Fz12.kp
  have F12 : Fun K "_are_neighbours" "_are_neighbours" sNeigh (zf12 K) fdz12 := He5.fun_of Fz12
  have b12 := F12.binds (ps := ["left", "right"]) fun _ _ _ _ _ _ us hl => match us, hl with | [_, _], _ => rfl
  obtain ⟨fdz13, Fz13⟩ := c.def_ 13 (d := zd13) rfl
  have k13 := Fz13.kp
  have F13 : Fun K "__init__" "Piece.__init__" sPInit (zf13 K) fdz13 := He5.fun_of Fz13
  have b13 := F13.binds (ps := ["self", "left", "right"]) fun _ _ _ _ _ _ us hl => match us, hl with | [_, _, _], _ => rfl
  obtain ⟨fdz14, Fz14⟩ := c.def_ 14 (d := zd14) rfl
  have k14 := Fz14.kp
  have F14 : Fun K "reach" "Piece.reach" sReach (zf14 K) fdz14 := He5.fun_of Fz14
  have b14 := F14.binds (ps := ["self"]) fun _ _ _ _ _ _ us hl => match us, hl with | [_], _ => rfl
  obtain ⟨fdz15, Fz15⟩ := c.def_ 15 (d := zd15) rfl
  have k15 := Fz15.kp
  have F15 : FunD K "__init__" "Tone.__init__" (defArgs sTonI) (defBody sTonI) (defScope sTonI) [.int 0] [] (zf15 K) fdz15 := Fz15
  obtain ⟨ds15, hds15, b15⟩ := F15.binds1 (ps := ["self", "octaves", "fifths"]) 3 1 (fun z => nomatch z) rfl fun _ _ _ _ _ _ _ us its hu hi => match us, hu, its, hi with | [_, _, _], _, [_], _ => ⟨_, rfl, rfl⟩
  cases hds15
  obtain ⟨dv15, hdv15, bd15⟩ := F15.binds1 (ps := ["self", "octaves", "fifths"]) 2 0 (fun z => nomatch z) rfl fun _ _ _ _ _ _ _ us its hu hi => match us, hu, its, hi with | [_, _], _, [_], _ => ⟨_, rfl, rfl⟩
  obtain ⟨fdz16, Fz16⟩ := c.def_ 16 (d := zd16) rfl
  have k16 := Fz16.kp
  have F16 : Fun K "__eq__" "Tone.__eq__" sTonE (zf16 K) fdz16 := He5.fun_of Fz16
  have b16 := F16.binds (ps := ["self", "other"]) fun _ _ _ _ _ _ us hl => match us, hl with | [_, _], _ => rfl
  obtain ⟨fdz17, Fz17⟩ := c.def_ 17 (d := zd17) rfl
  have k17 := Fz17.kp
  have F17 : Fun K "__init__" "BadNumber.__init__" sBNI (zf17 K) fdz17 := He5.fun_of Fz17
  have b17 := F17.binds (ps := ["self", "value"]) fun _ _ _ _ _ _ us hl => match us, hl with | [_, _], _ => rfl
  obtain ⟨fdz18, Fz18⟩ := c.def_ 18 (d := zd18) rfl
  have k18 := Fz18.kp
  have F18 : Fun K "__init__" "BadPiece.__init__" sBPI (zf18 K) fdz18 := He5.fun_of Fz18
  have b18 := F18.binds (ps := ["self", "part"]) fun _ _ _ _ _ _ us hl => match us, hl with | [_, _], _ => rfl
  obtain ⟨fdz19, Fz19⟩ := c.def_ 19 (d := zd19) rfl
  have k19 := Fz19.kp
  have F19 : Fun K "__init__" "Meets.__init__" sMeI (zf19 K) fdz19 := He5.fun_of Fz19
  have b19 := F19.binds (ps := ["self", "one", "other", "at"]) fun _ _ _ _ _ _ us hl => match us, hl with | [_, _, _, _], _ => rfl
  obtain ⟨fdz20, Fz20⟩ := c.def_ 20 (d := zd20) rfl
  have k20 := Fz20.kp
  have F20 : Fun K "met" "met" sMet (zf20 K) fdz20 := He5.fun_of Fz20
  have b20 := F20.binds (ps := ["number", "piece"]) fun _ _ _ _ _ _ us hl => match us, hl with | [_, _], _ => rfl
  obtain ⟨fdz21, Fz21⟩ := c.def_ 21 (d := zd21) rfl
  have k21 := Fz21.kp
  have F21 : Fun K "rise" "rise" sRise (zf21 K) fdz21 := He5.fun_of Fz21
  have b21 := F21.binds (ps := ["number", "piece"]) fun _ _ _ _ _ _ us hl => match us, hl with | [_, _], _ => rfl
  obtain ⟨fdz22, Fz22⟩ := c.def_ 22 (d := zd22) rfl
  have k22 := Fz22.kp
  have F22 : Fun K "position" "position" sPos (zf22 K) fdz22 := He5.fun_of Fz22
  have b22 := F22.binds (ps := ["number", "piece"]) fun _ _ _ _ _ _ us hl => match us, hl with | [_, _], _ => rfl
  obtain ⟨fdz23, Fz23⟩ := c.def_ 23 (d := zd23) rfl
  have k23 := Fz23.kp
  have F23 : Fun K "_law_pen" "_law_pen" sPen (zf23 K) fdz23 := He5.fun_of Fz23
  have b23 := F23.binds (ps := ["_law_script"]) fun _ _ _ _ _ _ us hl => match us, hl with | [_], _ => rfl
  obtain ⟨fdz24, Fz24⟩ := c.def_ 24 (d := zd24) rfl
  have k24 := Fz24.kp
  have F24 : Fun K "_law_draw" "_law_draw" sDraw (zf24 K) fdz24 := He5.fun_of Fz24
  have b24 := F24.binds (ps := ["_law_pen_here", "_law_many"]) fun _ _ _ _ _ _ us hl => match us, hl with | [_, _], _ => rfl
  obtain ⟨fdz25, Fz25⟩ := c.def_ 25 (d := zd25) rfl
  have k25 := Fz25.kp
  have F25 : Fun K "_law_pick" "_law_pick" sPick (zf25 K) fdz25 := He5.fun_of Fz25
  have b25 := F25.binds (ps := ["_law_pen_here", "_law_some"]) fun _ _ _ _ _ _ us hl => match us, hl with | [_, _], _ => rfl
  obtain ⟨fdz26, Fz26⟩ := c.def_ 26 (d := zd26) rfl
  have k26 := Fz26.kp
  have F26 : Fun K "_law_divisor" "_law_divisor" sCommon (zf26 K) fdz26 := He5.fun_of Fz26
  have b26 := F26.binds (ps := ["_law_one", "_law_other"]) fun _ _ _ _ _ _ us hl => match us, hl with | [_, _], _ => rfl
  obtain ⟨fdz27, Fz27⟩ := c.def_ 27 (d := zd27) rfl
  have k27 := Fz27.kp
  have F27 : Fun K "_law_ends" "_law_ends" sEnds (zf27 K) fdz27 := He5.fun_of Fz27
  have b27 := F27.binds (ps := ["_law_pen_here"]) fun _ _ _ _ _ _ us hl => match us, hl with | [_], _ => rfl
  obtain ⟨fdz28, Fz28⟩ := c.def_ 28 (d := zd28) rfl
  have k28 := Fz28.kp
  have F28 : Fun K "_law_far" "_law_far" sFar (zf28 K) fdz28 := He5.fun_of Fz28
  have b28 := F28.binds (ps := ["_law_pen_here", "_law_ends_here"]) fun _ _ _ _ _ _ us hl => match us, hl with | [_, _], _ => rfl
  obtain ⟨fdz29, Fz29⟩ := c.def_ 29 (d := zd29) rfl
  have k29 := Fz29.kp
  have F29 : Fun K "_law_met" "_law_met" sLMet (zf29 K) fdz29 := He5.fun_of Fz29
  have b29 := F29.binds (ps := ["_law_number", "_law_ends_here"]) fun _ _ _ _ _ _ us hl => match us, hl with | [_, _], _ => rfl
  obtain ⟨fdz30, Fz30⟩ := c.def_ 30 (d := zd30) rfl
  have k30 := Fz30.kp
  have F30 : Fun K "_law_told" "_law_told" sTold (zf30 K) fdz30 := He5.fun_of Fz30
  have b30 := F30.binds (ps := ["_law_number", "_law_piece"]) fun _ _ _ _ _ _ us hl => match us, hl with | [_, _], _ => rfl
  obtain ⟨fdz31, Fz31⟩ := c.def_ 31 (d := zd31) rfl
  have k31 := Fz31.kp
  have F31 : Fun K "_law_right" "_law_right" sRight (zf31 K) fdz31 := He5.fun_of Fz31
  have b31 := F31.binds (ps := ["_law_pen_here", "_law_number", "_law_ends_here"]) fun _ _ _ _ _ _ us hl => match us, hl with | [_, _, _], _ => rfl
  obtain ⟨fdz32, Fz32⟩ := c.def_ 32 (d := zd32) rfl
  have k32 := Fz32.kp
  have F32 : Fun K "law" "law" sLaw (zf32 K) fdz32 := He5.fun_of Fz32
  have b32 := F32.binds (ps := ["_law_script"]) fun _ _ _ _ _ _ us hl => match us, hl with | [_], _ => rfl
  have bLaw := FunD.bindsA (ps := ["_law_script"]) Fz32 fun _ _ _ _ _ _ us hl => match us, hl with | [_], _ => rfl
  refine ⟨[], fun z hz => ?_, fun z hz => ?_, fdz32, (spLaw K), fun s v => bLaw s [v] rfl, fun H a ns hl hT hS => ⟨a, ns, rfl, hS, hl, fun _ => rfl⟩, fun base _ _ TBs => ?_⟩
  · exact absurd hz (List.not_mem_nil)
  · exact absurd hz (List.not_mem_nil)
  have C_is_int : Cal l.prog w K mg base 1 "is_int" (zf0 K) _ ["value"] (spIsInt K) := ⟨(ok_isint F0 T), PySem.W.mg_of X G a0, k0, b0⟩
  have S_Ratio_is_number : Sta l.prog w K mg base 2 (zCR K) "is_number" (zp1 K) (zf1 K) _ ["value"] (spIsNum K (zCR K)) := ⟨⟨a1, ⟨_, r1⟩, k1⟩, (ok_isnum F1 T T_Ratio C_is_int), b1⟩
  have C_parts_of : Cal l.prog w K mg base 1 "parts_of" (zf2 K) _ ["number"] (spParts (zCR K)) := ⟨(ok_parts F2 T T_Ratio), PySem.W.mg_of X G a2, k2, b2⟩
  have C__lead : Cal l.prog w K mg base 2 "_lead" (zf3 K) _ ["one", "other"] (spLead (zCR K)) := ⟨(ok_lead F3 C_parts_of), PySem.W.mg_of X G a3, k3, b3⟩
  have M_Ratio : Mak l.prog w K mg base 2 "Ratio" (zCR K) (zf4 K) _ ["self", "top", "bottom"] (spRInit (zCR K)) := ⟨⟨mkCR, a4, i4, kcCR⟩, (ok_rinit F4 T T_Ratio C_is_int), PySem.W.mg_of X G aCR, b4⟩
  have O_lt : Opr l.prog w K mg base 3 (zCR K) "__lt__" (zf5 K) _ ["self", "other"] (spCmp (zCR K) fun z => decide (z < 0)) := ⟨a5, i5, (ok_lt F5 T_Ratio S_Ratio_is_number C__lead), b5⟩
  have O_le : Opr l.prog w K mg base 3 (zCR K) "__le__" (zf6 K) _ ["self", "other"] (spCmp (zCR K) fun z => decide (z ≤ 0)) := ⟨a6, i6, (ok_le F6 T_Ratio S_Ratio_is_number C__lead), b6⟩
  have O_gt : Opr l.prog w K mg base 3 (zCR K) "__gt__" (zf7 K) _ ["self", "other"] (spCmp (zCR K) fun z => decide (0 < z)) := ⟨a7, i7, (ok_gt F7 T_Ratio S_Ratio_is_number C__lead), b7⟩
  have O_ge : Opr l.prog w K mg base 3 (zCR K) "__ge__" (zf8 K) _ ["self", "other"] (spCmp (zCR K) fun z => decide (0 ≤ z)) := ⟨a8, i8, (ok_ge F8 T_Ratio S_Ratio_is_number C__lead), b8⟩
  have S_Ratio_of : Sta l.prog w K mg base 4 (zCR K) "of" (zp9 K) (zf9 K) _ ["number"] (spOf (zCR K)) := ⟨⟨a9, ⟨_, r9⟩, k9⟩, (ok_ofN F9 T T_Ratio C_is_int M_Ratio hdv4 bd4), b9⟩
  have C__is_left_end : Cal l.prog w K mg base 4 "_is_left_end" (zf10 K) _ ["value"] (spEnd (zCR K) fun n d => decide (0 ≤ n) && decide (n < d)) := ⟨(ok_lend F10 T_Ratio S_Ratio_is_number O_ge O_lt), PySem.W.mg_of X G a10, k10, b10⟩
  have C__is_right_end : Cal l.prog w K mg base 4 "_is_right_end" (zf11 K) _ ["value"] (spEnd (zCR K) fun n d => decide (0 < n) && decide (n ≤ d)) := ⟨(ok_rend F11 T_Ratio S_Ratio_is_number O_gt O_le), PySem.W.mg_of X G a11, k11, b11⟩
  have C__are_neighbours : Cal l.prog w K mg base 2 "_are_neighbours" (zf12 K) _ ["left", "right"] (spNeigh (zCR K)) := ⟨(ok_neigh F12 C_parts_of), PySem.W.mg_of X G a12, k12, b12⟩
  have M_Piece : Mak l.prog w K mg base 5 "Piece" (zCP K) (zf13 K) _ ["self", "left", "right"] (spPInit (zCP K) (zCR K)) := ⟨⟨mkCP, a13, i13, kcCP⟩, (ok_pinit F13 T_Ratio T_Piece S_Ratio_of C__is_left_end C__is_right_end C__are_neighbours), PySem.W.mg_of X G aCP, b13⟩
  have PM14 : PropOf K (zCP K) "reach" (zp14 K) (zf14 K) := ⟨a14, g14, t14, ⟨_, r14⟩⟩
  have FM14 : FnOk l.prog w K mg base CX0 1 (zf14 K) _ ["self"] (spReach (zCP K) (zCR K)) := (ok_reach F14 T_Ratio T_Piece)
  have M_Tone : Mak l.prog w K mg base 2 "Tone" (zCT K) (zf15 K) _ ["self", "octaves", "fifths"] (spTonI (zCT K)) := ⟨⟨mkCT, a15, i15, kcCT⟩, (ok_toni F15 T_Tone C_is_int), PySem.W.mg_of X G aCT, b15⟩
  have O_toneq : Opr l.prog w K mg base 1 (zCT K) "__eq__" (zf16 K) _ ["self", "other"] (spTonEq (zCT K)) := ⟨a16, i16, (ok_toneq F16 T T_Tone), b16⟩
  have FE17 : FnOk l.prog w K mg base CX0 1 (zf17 K) _ ["self", "value"] (spErI (zCBN K) "value") := (ok_BNI F17 E_BadNumber)
  have FE18 : FnOk l.prog w K mg base CX0 1 (zf18 K) _ ["self", "part"] (spErI (zCBP K) "part") := (ok_BPI F18 E_BadPiece)
  have FE19 : FnOk l.prog w K mg base CX0 1 (zf19 K) _ ["self", "one", "other", "at"] (spErM (zCM K)) := (ok_MeI F19 E_Meets n2M n3M)
  have C_met : Cal l.prog w K mg base 4 "met" (zf20 K) _ ["number", "piece"] (spMet (zCP K) (zCR K)) := ⟨(ok_met F20 T T_Ratio T_Piece C_is_int PM14 FM14 b14 M_Ratio), PySem.W.mg_of X G a20, k20, b20⟩
  have C_rise : Cal l.prog w K mg base 4 "rise" (zf21 K) _ ["number", "piece"] (spRise (zCP K) (zCR K) (zCT K)) := ⟨(ok_rise (ds1 := []) F21 T_Ratio T_Piece PM14 FM14 b14 M_Tone), PySem.W.mg_of X G a21, k21, b21⟩
  have C__law_pen : Cal l.prog w K mg base 1 "_law_pen" (zf23 K) _ ["_law_script"] (spPen K) := ⟨(ok_pen F23 T), PySem.W.mg_of X G a23, k23, b23⟩
  have C__law_draw : Cal l.prog w K mg base 1 "_law_draw" (zf24 K) _ ["_law_pen_here", "_law_many"] spDraw := ⟨(ok_draw F24 T), PySem.W.mg_of X G a24, k24, b24⟩
  have C__law_pick : Cal l.prog w K mg base 2 "_law_pick" (zf25 K) _ ["_law_pen_here", "_law_some"] spPick := ⟨(ok_pick F25 T C__law_draw), PySem.W.mg_of X G a25, k25, b25⟩
  have C__law_divisor : Cal l.prog w K mg base 1 "_law_divisor" (zf26 K) _ ["_law_one", "_law_other"] spCommon := ⟨(ok_common F26 T), PySem.W.mg_of X G a26, k26, b26⟩
  have C__law_ends : Cal l.prog w K mg base 2 "_law_ends" (zf27 K) _ ["_law_pen_here"] spEnds := ⟨(ok_ends F27 T C__law_draw), PySem.W.mg_of X G a27, k27, b27⟩
  have C__law_far : Cal l.prog w K mg base 3 "_law_far" (zf28 K) _ ["_law_pen_here", "_law_ends_here"] (spFar K) := ⟨(ok_far F28 C__law_draw C__law_pick), PySem.W.mg_of X G a28, k28, b28⟩
  have C__law_met : Cal l.prog w K mg base 2 "_law_met" (zf29 K) _ ["_law_number", "_law_ends_here"] (spLMet K) := ⟨(ok_lmet F29 T C__law_divisor), PySem.W.mg_of X G a29, k29, b29⟩
  have CX_met : Cal0 l.prog w K mg base 4 "met" (zf20 K) _ ["number", "piece"] (spMetB K (zCP K) (zCBN K) (zCBP K)) := ⟨ok_metB F20 T T_Piece C_is_int E_BadNumber FE17 b17 E_BadPiece FE18 b18, PySem.W.mg_of X G a20, k20, b20⟩
  have CX_pos : Cal0 l.prog w K mg base 5 "position" (zf22 K) _ ["number", "piece"] (spPos (zCP K) (zCR K) (zCT K) (zCM K)) := ⟨ok_pos F22 T_Ratio C_met C_rise M_Tone bd15 hdv15 E_Meets FE19 b19, PySem.W.mg_of X G a22, k22, b22⟩
  have CX_posB : Cal0 l.prog w K mg base 5 "position" (zf22 K) _ ["number", "piece"] (spMetB K (zCP K) (zCBN K) (zCBP K)) := ⟨ok_posB F22 CX_met, PySem.W.mg_of X G a22, k22, b22⟩
  have XM : Own.KxC K (zCM K) := ⟨E_Meets.xf, xcaCM, cn, ct, xcmCM⟩
  have XN : Own.KxC K (zCBN K) := ⟨E_BadNumber.xf, xcaCBN, cn, ct, xcmCBN⟩
  have XP : Own.KxC K (zCBP K) := ⟨E_BadPiece.xf, xcaCBP, cn, ct, xcmCBP⟩
  have C__law_told : CalG l.prog w K mg base 6 "_law_told" (zf30 K) _ ["_law_number", "_law_piece"] (spTold K (zCP K) (zCR K)) := ⟨(ok_told F30 T (PySem.W.mg_none_of X G z_repr) T_Ratio T_Tone (PySem.W.mg_of X G aCF) CX_pos CX_posB E_Meets n2M n3M E_BadNumber E_BadPiece XM XN XP e_CM_CF e_CBN_CF e_CBP_CF kMM kNM kNN kPM kPN kPP), PySem.W.mg_of X G a30, k30, b30⟩
  have C__law_right : CalG l.prog w K mg base 7 "_law_right" (zf31 K) _ ["_law_pen_here", "_law_number", "_law_ends_here"] (spRight K) := ⟨(ok_right F31 T (PySem.W.mg_none_of X G z_min) (PySem.W.mg_none_of X G z_max) T_Tone T_Tone.nI C__law_draw C__law_met C__law_told CX_pos M_Ratio M_Piece M_Tone O_toneq), PySem.W.mg_of X G a31, k31, b31⟩
  have kn : KitNo5 K (zCP K) := ⟨kn0, kn1, kn2, kn3, kn4⟩
  exact ok_law F32 T (PySem.W.mg_none_of X G z_repr) T_Ratio T_Piece kn kRP C__law_pen C__law_ends C__law_right C__law_draw C__law_far C__law_pick C__law_told M_Ratio M_Piece
end Toy
set_option linter.all false
open PySem PySem.W PyProof.Rows
set_option maxRecDepth 100000 in
set_option maxHeartbeats 0 in
theorem PySem.Challenge.cw_anyfifth_k25_positions_on_pieces_holds : PySem.Challenge.rw_anyfifth_k25_positions_on_pieces.Holds := by
  w_on; o_law
  refine Hz.head_all (r := OpenLaw.row PySem.Challenge.rw_anyfifth_k25_positions_on_pieces) (q := view (OpenLaw.row PySem.Challenge.rw_anyfifth_k25_positions_on_pieces).prog [89]) (H := Toy.zhk) (ob := Toy.zob) (M0 := 2000) (M1 := 20000) (loose := Toy.znames) (d := HandSHeadRun.topDef (OpenLaw.row PySem.Challenge.rw_anyfifth_k25_positions_on_pieces).prog 89) (kwd := []) Toy.zob_eq
    (by kernel_rfl) Toy.zrun (by kernel_rfl) (by kernel_rfl) (by kernel_rfl) (by rfl) (by first | assumption | decide +kernel) (by decide +kernel) ⟨rfl, rfl, rfl, rfl, rfl, by decide +kernel⟩ ?hw ?hc
  case hw => w_witness2
  case hc =>
    refine Hz.walk (l := PySem.Challenge.rw_anyfifth_k25_positions_on_pieces) (n := 63) (k := 8) (x := "_law_script") rfl (by decide) (by kernel_rfl) ⟨rfl, by decide, by decide⟩ ?F
    intro w mg fa h Y G hmg0
    obtain ⟨K, KX, c⟩ := Y
    have hmg : mg ("law" : PySem.Str) = some (.ref fa) := by
      have e : (HandSHeadRun.topDef (OpenLaw.row PySem.Challenge.rw_anyfifth_k25_positions_on_pieces).prog 89).name = ("law" : PySem.Str) := by kernel_rfl
      rw [← e]
      exact hmg0
    exact ⟨K, KX, Toy.all_mk KX G hmg c⟩
