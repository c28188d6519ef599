import PyProof.Rows.All
import Wide.All
import OpenK.AllK
import Wide.FinOn
import PyProof.ExcClass
import HandS.Defaults
import HandS.Head0
import HandS.Head1
import HandS.Head2
import HandS.HeadHook4
import HandS.HeadNt
import HandS.ClsMeth
import KE.KSuper
import HandS.Words
import HandS.More
import HandS.ForMost
import HandS.Wide
import HandS.Gcd
import HandS.Codes
import HandS.IsInst
import HandS.Property
import HandS.OwnEq
import KE.KEqSeq
import KE.KOpsOwn
import PyProof.InstEq
import HandS.Exc
import HandS.TryMany
import HandS.ExcField
import HandS.ExcValue
import KE.KExcIs
import HandS.Star
import HandS.EndTab
import HandS.List
import PyProof.ReprRoads
import HandS.FStr
import HandS.Strs
import KE.KFmtOwn
import PyProof.LongRange
import HandS.ExcInit
import HandS.WordsExc
import HandS.Small
import KE.GoesEnum
import HandS.Zip0
import HandS.Walk
import HandS.TupAny
import HandS.DictComp
import HandS.SortInts
import HandS.Conv
import HandS.Iter
import HandS.Zip
import HandS.Text
import HandS.StrMore
import HandS.IterVal
import PyProof.StrBlock2
import HandS.Lambda
import KE.RegKIsAll
import KE.KNestM
import PySem.Challenge.RW_anyfifth_k35_scales_written_and_read
set_option Elab.async false
set_option maxRecDepth 100000
set_option maxHeartbeats 4000000
/-! A head by looks: what the end leans on is looked at behind one run of the top, in the kernel; facts of any kind as Bools, defs at any address, tables of code objects. -/
namespace Hz
open PySem PySem.W PySem.Calls PyProof.Rows He L2
/-- hands a number on once it is one -/
def withN {α : Type} (n : Nat) (k : Nat → α) : α := HandSHeadRun.frNat n k
/-- a set of addresses -/
inductive Tr where
  | nil
  | node (b : Bool) (l r : Tr)
def Tr.has : Tr → Nat → Bool
  | .nil, _ => false
  | .node b l r, i => match Nat.beq i 0 with
    | true => b
    | false => match Nat.beq (i % 2) 1 with
      | true => withN (i / 2) fun i => l.has i
      | false => withN (i / 2 - 1) fun i => r.has i
def Tr.arms : Tr → Bool × Tr × Tr
  | .nil => (false, .nil, .nil)
  | .node b l r => (b, l, r)
def Tr.put : Nat → Tr → Nat → Tr
  | 0, t, _ => t
  | n + 1, t, i => match t.arms with
    | (b, l, r) => match Nat.beq i 0 with
      | true => .node true l r
      | false => match Nat.beq (i % 2) 1 with
        | true => withN (i / 2) fun i => .node b (l.put n i) r
        | false => withN (i / 2 - 1) fun i => .node b l (r.put n i)
/-- the addresses that are not yet in the set -/
def sift : List Addr → Tr → List Addr → List Addr × Tr
  | [], t, r => (r, t)
  | a :: as, t, r => withN a fun a => match t.has a with
    | true => sift as t r
    | false => sift as (t.put 40 a) (a :: r)
/-- n rounds from the addresses that came last -/
def rounds (g : Addr → Option Obj) : Nat → List Addr → Tr → List Addr → List Addr
  | 0, _, _, all => all
  | n + 1, new, t, all => match sift (new.flatMap fun a => match g a with
      | some o => refsD o
      | none => []) t [] with
    | (nx, t2) => rounds g n nx t2 (nx ++ all)
/-- from what these names stand for -/
def reach (g : Addr → Option Obj) (xs : List Str) (n : Nat) : List Addr := match sift [mainGlobals, cStatics] .nil [] with
  | (first, t) => match sift (xs.map fun x => ga (frG g [mainGlobals]) x) t [] with
    | (nx, t) => rounds g n nx t (nx ++ first)
/-- the objects there -/
def objs (g : Addr → Option Obj) (xs : List Str) (n : Nat) : Frag := frT g (reach g xs n)
/-- hands a list of objects on once its cells stand -/
def laid {α : Type} : Frag → (Frag → α) → α
  | [], k => k []
  | (a, o) :: r, k => withN a fun a => laid r fun r => k ((a, o) :: r)
theorem withN_eq {α : Type} (n : Nat) (k : Nat → α) : withN n k = k n := HandSHeadRun.frNat_eq n k
theorem laid_eq {α : Type} : ∀ (K : Frag) (k : Frag → α), laid K k = k K
  | [], _ => rfl
  | (a, o) :: r, k => by
    show (withN a fun a => laid r fun r => k ((a, o) :: r)) = _
    rw [withN_eq, laid_eq r]
/-! ### what is looked at -/
def sees (fs : List (Frag → Bool)) (ds : List He5.DefA) (tf : List Defn) (g : Addr → Option Obj) (K : Frag) : AlD :=
  ((fs.all fun f => f K) && ((ds.all fun d => d.ok K) && tabsB g tf K), ds.map fun d => He5.fnA K (d.at_ K))
def due (ds : List He5.DefA) : AlD := (true, ds.map He5.DefA.val)
structure Says (fs : List (Frag → Bool)) (ds : List He5.DefA) (tf : List Defn) (h : Heap) (K : Frag) : Prop where
  f : ∀ f ∈ fs, f K = true
  d : ∀ d ∈ ds, d.ok K = true
  e : (ds.map fun d => He5.fnA K (d.at_ K)) = ds.map He5.DefA.val
  hd : ∀ p ∈ tf, codeHdIn K (cT K p).1 (cT K p).2 = true
  out : ∀ p ∈ tf, K.lookup (cT K p).2 = none
  em : ∀ p ∈ tf, h.get? (cT K p).2 = some (tabObj #[])
theorem says_of {xs : List Str} {n : Nat} {fs : List (Frag → Bool)} {ds : List He5.DefA} {tf : List Defn} {h : Heap} (e : laid (objs h.get? xs n) (sees fs ds tf h.get?) = due ds) : Says fs ds tf h (objs h.get? xs n) := by
  rw [laid_eq] at e
  have e1 := congrArg (fun z : AlD => z.1) e
  have e2 := congrArg (fun z : AlD => z.2) e
  obtain ⟨h1, h2⟩ := ba (show ((fs.all fun f => f (objs h.get? xs n)) && ((ds.all fun d => d.ok (objs h.get? xs n)) && tabsB h.get? tf (objs h.get? xs n))) = true from e1)
  obtain ⟨h2, h3⟩ := ba h2
  have key : ∀ p ∈ tf, codeHdIn (objs h.get? xs n) (cT (objs h.get? xs n) p).1 (cT (objs h.get? xs n) p).2 = true ∧ ∃ o, h.get? (cT (objs h.get? xs n) p).2 = some o ∧ emptyTab o = true := fun p hp => by
    obtain ⟨h4, h5⟩ := ba (List.all_eq_true.mp h3 p hp)
    refine ⟨h4, ?_⟩
    cases q : h.get? (cT (objs h.get? xs n) p).2 with
    | none => rw [q] at h5; cases h5
    | some o => rw [q] at h5; exact ⟨o, rfl, h5⟩
  refine ⟨fun f hf => List.all_eq_true.mp h1 f hf, fun d hd => List.all_eq_true.mp h2 d hd, e2, fun p hp => (key p hp).1, fun p hp => ?_, fun p hp => ?_⟩
  · obtain ⟨_, o, q, z⟩ := key p hp
    exact frT_none q z
  · obtain ⟨_, o, q, z⟩ := key p hp
    rw [q, emptyTab_eq z]
def hook (xs : List Str) (n : Nat) (fs : List (Frag → Bool)) (ds : List He5.DefA) (tf : List Defn) : PySem.W.Hook where
  α := AlD
  obs := fun s => laid (objs s.heap.get? xs n) (sees fs ds tf s.heap.get?)
  val := fun _ => due ds
  says := fun _ h => ∃ K : Frag, K.In h ∧ Says fs ds tf h K
  of := fun _ _ e => ⟨_, frT_in, says_of e⟩
  keeps := fun _ _ _ ⟨K, hK, c⟩ k => ⟨K, Frag.In.keeps hK k, ⟨c.f, c.d, c.e, c.hd, c.out, fun p hp => k _ _ (c.em p hp)⟩⟩
/-- the same off the tree -/
def ob (xs : List Str) (n : Nat) (fs : List (Frag → Bool)) (ds : List He5.DefA) (tf : List Defn) (s : SharedT) : AlD := laid (objs (HandSHeadRun.getT s) xs n) (sees fs ds tf (HandSHeadRun.getT s))
theorem ob_eq (xs : List Str) (n : Nat) (fs : List (Frag → Bool)) (ds : List He5.DefA) (tf : List Defn) (s : SharedT) : ob xs n fs ds tf s = (hook xs n fs ds tf).obs s.abs := by
  have e : HandSHeadRun.getT s = s.abs.heap.get? := funext (HandSHeadRun.getT_eq s)
  unfold ob
  rw [e]
  rfl
section
variable {fs : List (Frag → Bool)} {ds : List He5.DefA} {tf : List Defn} {h : Heap} {K : Frag}
theorem Says.fact (c : Says fs ds tf h K) (i : Nat) {f : Frag → Bool} (e : fs[i]? = some f := by rfl) : f K = true := c.f f (List.mem_of_getElem? e)
theorem Says.def_ (c : Says fs ds tf h K) (i : Nat) {d : He5.DefA} (e : ds[i]? = some d := by rfl) : ∃ fd, FunD K d.name d.qual d.params d.body d.scope (d.dvs K) (d.kws K) (d.at_ K) fd := by
  have e2 : (ds.map fun d => He5.fnA K (d.at_ K))[i]? = (ds.map He5.DefA.val)[i]? := by rw [c.e]
  rw [List.getElem?_map, List.getElem?_map, e] at e2
  exact He5.DefA.funD (Option.some.inj e2) (c.d d (List.mem_of_getElem? e))
end
/-- a def's code object, by its name -/
theorem code_at {K : Frag} {x qual : Str} {params : Arguments} {body : List Stmt} {scope : Scope} {dvs : List V} {kws : List (Str × V)} {f : Addr} {fd : FuncData} {p : Str × Option Str} (F : FunD K x qual params body scope dvs kws f fd) (e : fAd K p = f := by rfl) : fd.code = .ref (cT K p).1 := by
  obtain ⟨oc, od, dV, kV, doc, pm, an, cdv, ct, osl, rfl, lk, hcd, _, _⟩ := F.ex
  obtain ⟨c, rfl⟩ := codeIn_ref hcd
  rw [← e] at lk
  show Value.ref c = .ref (codeOf K p)
  rw [codeOf_eq lk rfl]
/-! ### kinds of facts -/
def bO (a : Option (Option Value)) (b : Option (Option Value)) : Bool := eqO a b
theorem bO_ok {a b : Option (Option Value)} (h : bO a b = true) : a = b := eqO_ok h
def bV (a b : Option Value) : Bool := decide (a = b)
theorem bV_ok {a b : Option Value} (h : bV a b = true) : a = b := of_decide_eq_true h
def bB (a b : Option Bool) : Bool := decide (a = b)
theorem bB_ok {a b : Option Bool} (h : bB a b = true) : a = b := of_decide_eq_true h
/-- there is an answer -/
def bS (a : Option (Option Value)) : Bool := a.isSome
theorem bS_ok {a : Option (Option Value)} (h : bS a = true) : ∃ o, a = some o := by
  cases a with
  | none => cases h
  | some o => exact ⟨o, rfl⟩
/-- a record's first item -/
def bR (a : Option (List Value)) (f : Addr) : Bool := match a with
  | some (.ref x :: _) => decide (x = f)
  | _ => false
theorem bR_ok {a : Option (List Value)} {f : Addr} (h : bR a f = true) : ∃ rest, a = some (.ref f :: rest) := by
  unfold bR at h
  split at h
  · rename_i x r
    exact ⟨r, by rw [of_decide_eq_true h]⟩
  · cases h
/-- an error class with an __init__ of its own, below ValueError -/
def bE (K : Frag) (C : Addr) : Bool := match K.lookup C with
  | some ⟨.type t, _, .cls cd, sl⟩ => decide (t = "type") && ((cd.hasDict && !cd.hasDel) && ((match cd.mro with
      | .ref c :: bm => decide (c = C) && HandSPX.refsVE bm
      | _ => false) && (match sl.toList with
      | [_, _, _, _, some (.builtin b), _] => decide (b = "ValueError.__new__")
      | _ => false)))
  | _ => false
theorem bE_ok {K : Frag} {C : Addr} (h : bE K C = true) : ∃ nm q N bs bm sn sub ab col dd k0 k1 k2 k3 k5, K.lookup C = some (excClassObj nm q C N bs bm true sn sub ab col dd k0 k1 k2 k3 k5 "ValueError.__new__") ∧ HandSPX.refsVE bm = true := by
  unfold bE at h
  cases q : K.lookup C with
  | none => rw [q] at h; cases h
  | some o =>
    obtain ⟨oc, od, dt, sl⟩ := o
    rw [q] at h
    cases oc with
    | type t =>
      cases dt with
      | cls cd =>
        obtain ⟨nm, bs, mro, ns, qn, hdct, sn, sub, ab, col, hdel⟩ := cd
        obtain ⟨h1, h⟩ := ba h
        obtain ⟨h2, h⟩ := ba h
        obtain ⟨h3, h4⟩ := ba h
        obtain ⟨h5, h6⟩ := ba h2
        have e1 : t = "type" := of_decide_eq_true h1
        have e2 : hdct = true := h5
        have e3 : hdel = false := by
          cases hdel with
          | false => rfl
          | true => cases h6
        clear h2 h
        subst e1 e2 e3
        cases mro with
        | nil => cases h3
        | cons m bm =>
          cases m with
          | ref c =>
            obtain ⟨h7, h8⟩ := ba (show (decide (c = C) && HandSPX.refsVE bm) = true from h3)
            have e4 : c = C := of_decide_eq_true h7
            subst e4
            clear h3 h7 h1
            split at h4
            · rename_i k0 k1 k2 k3 b k5 es
              have e5 : b = "ValueError.__new__" := of_decide_eq_true h4
              have e6 : sl = #[k0, k1, k2, k3, some (.builtin b), k5] := by
                rw [← Array.toArray_toList (xs := sl), es]
              subst e5 e6
              exact ⟨nm, qn, ns, bs, bm, sn, sub, ab, col, od, k0, k1, k2, k3, k5, rfl, h8⟩
            · cases h4
          | _ => cases h3
      | _ => cases h
    | _ => cases dt <;> cases h
/-! ### looks one behind another -/
theorem sees_app {fs fs' : List (Frag → Bool)} {ds ds' : List He5.DefA} {tf tf' : List Defn} {g : Addr → Option Obj} {K : Frag} (h : sees fs ds tf g K = due ds) (h' : sees fs' ds' tf' g K = due ds') : sees (fs ++ fs') (ds ++ ds') (tf ++ tf') g K = due (ds ++ ds') := by
  have a1 := congrArg (fun z : AlD => z.1) h
  have a2 := congrArg (fun z : AlD => z.2) h
  have b1 := congrArg (fun z : AlD => z.1) h'
  have b2 := congrArg (fun z : AlD => z.2) h'
  have a1 : ((fs.all fun f => f K) && ((ds.all fun d => d.ok K) && tabsB g tf K)) = true := a1
  have b1 : ((fs'.all fun f => f K) && ((ds'.all fun d => d.ok K) && tabsB g tf' K)) = true := b1
  have a2 : (ds.map fun d => He5.fnA K (d.at_ K)) = ds.map He5.DefA.val := a2
  have b2 : (ds'.map fun d => He5.fnA K (d.at_ K)) = ds'.map He5.DefA.val := b2
  obtain ⟨p1, p2⟩ := ba a1
  obtain ⟨p2, p3⟩ := ba p2
  obtain ⟨q1, q2⟩ := ba b1
  obtain ⟨q2, q3⟩ := ba q2
  have p3 : (tf.all _) = true := p3
  have q3 : (tf'.all _) = true := q3
  unfold sees due tabsB
  rw [List.all_append, List.all_append, List.all_append, List.map_append, List.map_append, p1, p2, p3, q1, q2, q3, a2, b2]
  rfl
theorem ob_app {xs : List Str} {n : Nat} {fs fs' : List (Frag → Bool)} {ds ds' : List He5.DefA} {tf tf' : List Defn} {s : SharedT} (h : ob xs n fs ds tf s = due ds) (h' : ob xs n fs' ds' tf' s = due ds') : ob xs n (fs ++ fs') (ds ++ ds') (tf ++ tf') s = due (ds ++ ds') := by
  unfold ob at *
  rw [laid_eq] at *
  exact sees_app h h'
theorem map_app {α : Type} {A : Option α} {k : α → SharedT} {xs : List Str} {n : Nat} {fs fs' : List (Frag → Bool)} {ds ds' : List He5.DefA} {tf tf' : List Defn} (h : A.map (fun z => ob xs n fs ds tf (k z)) = some (due ds)) (h' : A.map (fun z => ob xs n fs' ds' tf' (k z)) = some (due ds')) : A.map (fun z => ob xs n (fs ++ fs') (ds ++ ds') (tf ++ tf') (k z)) = some (due (ds ++ ds')) := by
  obtain ⟨z, e, h⟩ := Option.map_eq_some_iff.mp h
  rw [e] at h' ⊢
  exact congrArg some (ob_app h (Option.some.inj h'))
end Hz
set_option linter.all false
set_option maxRecDepth 100000
set_option maxHeartbeats 4000000
/-! A head whose opening imports: the opening, the fence, the top, all in one run over the heap as a tree. -/
noncomputable section
namespace Hz
open PySem PySem.W PySem.Calls PyProof.Rows HandSHeadRun
/-- the opening, to where the program is through -/
def impF (st : SharedT → Thread → Option (SharedT × Thread)) : Nat → SharedT → Thread → Option SharedT
  | 0, _, _ => none
  | m + 1, s, t => match t.atExitBegin with
    | some [] => some s
    | some (_ :: _) => none
    | none => match st s t with
      | some (s', t') => frS s' fun s' => impF st m s' t'
      | none => none
theorem impF_ok {tb : String → Option Builtin} {p : Program} {w : World} : ∀ {m : Nat} {s s' : SharedT} {t : Thread}, impF (stepT (denote tb) p w) m s t = some s' → importEnds tb p w m s.abs t = some s'.abs
  | 0, _, _, _, h => by cases h
  | m + 1, s, s', t, h => by
    unfold impF at h
    unfold importEnds
    cases ha : t.atExitBegin with
    | some l =>
      rw [ha] at h
      cases l with
      | nil =>
        cases h
        rfl
      | cons x xs => cases h
    | none =>
      rw [ha] at h
      dsimp only at h ⊢
      cases hs : stepT (denote tb) p w s t with
      | none =>
        rw [hs] at h
        cases h
      | some r =>
        obtain ⟨s2, t2⟩ := r
        rw [hs] at h
        have h3 : (frS s2 fun s' => impF (stepT (denote tb) p w) m s' t2) = some s' := h
        rw [frS_eq] at h3
        rw [stepT_spec hs]
        exact impF_ok h3
/-- the fence of one module, on the tree -/
def fenceT (m : Str) (s : SharedT) : Option SharedT := match boundIn s.abs.heap sysModules m, tameNamesOf? m with
  | some (.ref a), some row => (match getT s a with
    | some o => (match o.dict with
      | some D => (match getT s D, s.tree.get D with
        | some od, some _ => (fenceDict? m row od).map fun u => { s with tree := s.tree.set D fun _ => u }
        | _, _ => none)
      | none => none)
    | none => none)
  | _, _ => none
theorem fenceT_ok {m : Str} {s s' : SharedT} (h : fenceT m s = some s') : fenceModule? m s.abs = some s'.abs := by
  unfold fenceT at h
  unfold fenceModule?
  split at h
  · rename_i a row e1 e2
    rw [e1, e2]
    dsimp only
    rw [← getT_eq]
    split at h
    · rename_i o e3
      rw [e3]
      dsimp only
      split at h
      · rename_i D e4
        rw [e4]
        dsimp only
        rw [← getT_eq]
        split at h
        · rename_i od u e5 e6
          rw [e5]
          dsimp only
          cases e7 : fenceDict? m row od with
          | none =>
            rw [e7] at h
            cases h
          | some v =>
            rw [e7] at h
            cases h
            refine congrArg some ?_
            show (⟨(absHeap s.tree s.n s.life).update D fun _ => v, s.gens, s.drawn, s.toks, s.os⟩ : Shared) = ⟨absHeap (s.tree.set D fun _ => v) s.n s.life, s.gens, s.drawn, s.toks, s.os⟩
            rw [absHeap_set e6]
        · cases h
      · cases h
    · cases h
  · cases h
def fencesT : List Str → SharedT → Option SharedT
  | [], s => some s
  | m :: r, s => match fenceT m s with
    | some s' => fencesT r s'
    | none => none
theorem fencesT_ok : ∀ {l : List Str} {s s' : SharedT}, fencesT l s = some s' → fenceAll? l s.abs = some s'.abs
  | [], _, _, h => by
    cases h
    rfl
  | m :: r, s, s', h => by
    unfold fencesT at h
    unfold fenceAll?
    split at h
    · rename_i u e
      rw [fenceT_ok e]
      exact fencesT_ok h
    · cases h
/-- ahead of the boot -/
def zeroT (p : Program) : SharedT := ⟨.nil, 0, (start p).1.heap.life, (start p).1.gens, (start p).1.drawn, (start p).1.toks, (start p).1.os⟩
theorem zeroT_abs (p : Program) : (zeroT p).abs = (start p).1 := rfl
/-- all of it: the state behind the fence, the state behind the top -/
def allF (st0 st : SharedT → Thread → Option (SharedT × Thread)) (M0 M1 : Nat) (p : Program) : Option (SharedT × SharedT) := match impF st0 M0 (zeroT (opening p)) (start (opening p)).2 with
  | some s => (match fencesT (importedModules p.main.body) s with
    | some f => frS f fun f => (match goF st f.n (f.abs.heap.nsMap mainGlobals "__annotations__") M1 f (topStub p) with
      | some e => some (f, e)
      | none => none)
    | none => none)
  | none => none
def looksA (p : Program) (f e : Shared) : Bool := (f.heap.isNs mainGlobals && f.gens.size == 0) && (staticsOk (importedModules p.main.body) f.heap e.heap && namesBound p e.heap && gensDone e && laidKept f.heap e.heap)
theorem importEnds_le {tb : String → Option Builtin} {p : Program} {w : World} {M N : Nat} {s r : Shared} {t : Thread} (le : Nat.ble M N = true) (h : importEnds tb p w M s t = some r) : importEnds tb p w N s t = some r := by
  have := importEnds_mono (N - M) _ _ _ _ h
  rwa [show M + (N - M) = N by have := Nat.le_of_ble_eq_true le; omega] at this
theorem topRun_le {tb : String → Option Builtin} {p : Program} {w : World} {n0 M N : Nat} {ann : Option Value} {s r : Shared} {t : Thread} (le : Nat.ble M N = true) (h : topRun tb p w n0 ann M s t = some r) : topRun tb p w n0 ann N s t = some r := by
  have := topRun_mono (N - M) _ _ _ _ h
  rwa [show M + (N - M) = N by have := Nat.le_of_ble_eq_true le; omega] at this
theorem left_all {p q : Program} {loose : List Str} {Xt : Shared → Bool} {α : Type} {Yf : Shared → α} {Ya : World → α} {N M0 M1 : Nat}
    (hnp : p.main.body.any namesNumpy = false) (le0 : Nat.ble M0 N = true) (le1 : Nat.ble M1 N = true)
    (run : ∀ w : World, (allF (stepT (denote treeTable) (opening p) w) (stepT (denote treeTable) p w) M0 M1 p).map (fun z => (looksA p z.1.abs z.2.abs, openSeen q loose (importedModules p.main.body) Xt true z.2.abs, Yf z.2.abs)) = some (true, openGood q loose, Ya w)) :
    LeftO p q loose Xt Yf Ya N true := fun w => by
  obtain ⟨⟨f, e⟩, hs, hv⟩ := Option.map_eq_some_iff.mp (run w)
  obtain ⟨l1, l2, l3⟩ : _ ∧ _ ∧ _ := by simpa only [Prod.mk.injEq] using hv
  unfold allF at hs
  split at hs
  · rename_i s e1
    split at hs
    · rename_i f2 e2
      rw [frS_eq] at hs
      split at hs
      · rename_i e3 e4
        cases hs
        have i1 := importEnds_le le0 (impF_ok e1)
        rw [zeroT_abs] at i1
        have i2 : fenceModules? p s.abs = some f.abs := by
          unfold fenceModules?
          rw [fencesT_ok e2]
          show (if p.main.body.any namesNumpy then _ else _) = _
          rw [hnp]
          rfl
        have a : fencedOpening treeTable p w N = some f.abs := by
          unfold fencedOpening
          rw [i1]
          exact i2
        have r := topRun_le le1 (goF_ok e4)
        obtain ⟨k1, k2⟩ := Bool.and_eq_true_iff.mp (show ((f.abs.heap.isNs mainGlobals && f.abs.gens.size == 0) && (staticsOk (importedModules p.main.body) f.abs.heap e.abs.heap && namesBound p e.abs.heap && gensDone e.abs && laidKept f.abs.heap e.abs.heap)) = true from l1)
        have t : topFrom treeTable p w N f.abs = some e.abs := by
          unfold topFrom
          rw [k1]
          have sz : f.abs.heap.objs.size = f.n := absHeap_size _ _ _
          dsimp only
          rw [sz, r]
          show (match staticsOk (importedModules p.main.body) f.abs.heap e.abs.heap && namesBound p e.abs.heap && gensDone e.abs && laidKept f.abs.heap e.abs.heap with | true => some e.abs | false => none) = _
          rw [k2]
        unfold openEnds
        rw [a]
        show (topFrom treeTable p w N _).map _ = _
        rw [t]
        exact congrArg some (Prod.ext l2 l3)
      · cases hs
    · cases hs
  · cases hs
/-- the run's equation at a world -/
def RunAll (r : OpenRow) (q : Program) (H : Hook) (ob : SharedT → H.α) (M0 M1 : Nat) (loose : List Str) (w : World) : Prop :=
  (allF (stepQ (denQ tabQ) (opening r.prog) w) (stepQ (denQ tabQ) r.prog w) M0 M1 r.prog).map (fun z => (looksA r.prog z.1.abs z.2.abs, seenQ q loose (importedModules r.prog.main.body) (fun s => xlAt q [] s && recOk r.toRowW.records s) z.2.abs, ob z.2)) = some (true, openGood q loose, H.val w)
/-- .. from its parts -/
theorem run_of {r : OpenRow} {q : Program} {H : Hook} {ob : SharedT → H.α} {M0 M1 : Nat} {loose : List Str} {w : World}
    (hL : (allF (stepQ (denQ tabQ) (opening r.prog) w) (stepQ (denQ tabQ) r.prog w) M0 M1 r.prog).map (fun z => looksA r.prog z.1.abs z.2.abs) = some true)
    (hS : (allF (stepQ (denQ tabQ) (opening r.prog) w) (stepQ (denQ tabQ) r.prog w) M0 M1 r.prog).map (fun z => seenQ q loose (importedModules r.prog.main.body) (fun s => xlAt q [] s && recOk r.toRowW.records s) z.2.abs) = some (openGood q loose))
    (hF : (allF (stepQ (denQ tabQ) (opening r.prog) w) (stepQ (denQ tabQ) r.prog w) M0 M1 r.prog).map (fun z => ob z.2) = some (H.val w)) : RunAll r q H ob M0 M1 loose w := by
  unfold RunAll
  obtain ⟨z, e, h1⟩ := Option.map_eq_some_iff.mp hL
  rw [e] at hS hF ⊢
  have h2 := Option.some.inj hS
  have h3 := Option.some.inj hF
  exact congrArg some (Prod.ext h1 (Prod.ext h2 h3))
theorem allQ_eq (M0 M1 : Nat) (p : Program) (w : World) : allF (stepT (denote treeTable) (opening p) w) (stepT (denote treeTable) p w) M0 M1 p = allF (stepQ (denQ tabQ) (opening p) w) (stepQ (denQ tabQ) p w) M0 M1 p := by
  rw [stepQ_eq, denQ_eq, tabQ_eq]
theorem head_all {r : OpenRow} {q : Program} {H : Hook} {ob : SharedT → H.α} {M0 M1 : Nat} {loose : List Str} {d : DefRec} {kwd : List (Str × PySem.Expr)} (ho : ∀ s : SharedT, ob s = H.obs s.abs)
    (hnp : r.prog.main.body.any namesNumpy = false) (run : ∀ w, RunAll r q H ob M0 M1 loose w)
    (hdef : defOf q r.name = some (d, kwd)) (hp : r.prog.theDef r.name = some (d.params, d.body, d.scope)) (hk : kwWritten? d.params.kwonlyargs d.params.kw_defaults = some kwd)
    (hwr : (!r.writes || r.records.isEmpty) = true) (k1 : r.wellSaid = true) (ok : (chainsOk q && opensWell r.prog && (frees r.toRowW && r.within.isEmpty)) = true) (hb : r.prog.bare) (hw : r.toRowW.promised)
    (call : WalkO q loose (XL q []) H.says r.toRowW d kwd fun f vs => PySem.call f vs) : r.Holds := by
  have left : LeftO r.prog q loose (fun s => xlAt q [] s && recOk r.toRowW.records s) H.obs H.val (M0 + M1) true :=
    left_all hnp (M0 := M0) (M1 := M1) (Nat.ble_eq_true_of_le (by omega)) (Nat.ble_eq_true_of_le (by omega)) fun w => by
      have z := run w
      have eo : ob = fun s => H.obs s.abs := funext ho
      unfold RunAll at z
      rw [eo] at z
      simp only [allQ_eq, seenQ_eq]
      exact z
  exact holds_open (r := r) (q := q) (loose := loose) (XP := XL q []) (YP := H.says) (d := d) (kwd := kwd) left H.of H.keeps (fun s z => xl_of s (Bool.and_eq_true_iff.mp z).1) XL.keeps hdef hp hk (fun s z => recFacts_of (Bool.and_eq_true_iff.mp z).2) hwr k1 ok hb hw call
end Hz
set_option linter.all false
set_option maxRecDepth 100000
set_option maxHeartbeats 4000000
/-! Facts of the head: defs that bear the cell of their class (super()). -/
namespace Hz
open PySem PySem.W PySem.Calls PyProof.Rows He L2
/-- one such def: where it stands, its class -/
structure DefS where
  at_ : Frag → Addr
  D : Frag → Addr
  name : Str
  qual : Str
  params : Arguments
  body : List Stmt
  scope : Scope
def fnS (K : Frag) (a : Addr) : FnW := match K.lookup a with
  | some ⟨_, _, .func fd, _⟩ => some (fd.name, fd.qualname, fd.params, fd.body, fd.scope, fd.globals, [], fd.builtins)
  | _ => none
/-- its cell -/
def clo (K : Frag) (a : Addr) : Addr := match K.lookup a with
  | some ⟨_, _, .func fd, _⟩ => (match fd.closure with
    | [(_, c)] => c
    | _ => 0)
  | _ => 0
def cellIs (K : Frag) (c D : Addr) : Bool := match K.lookup c with
  | some ⟨_, _, .cell (some (.ref D')), _⟩ => decide (D' = D)
  | _ => false
theorem cellIs_ok {K : Frag} {c D : Addr} (h : cellIs K c D = true) : ∃ cl cld csl, K.lookup c = some ⟨cl, cld, .cell (some (.ref D)), csl⟩ := by
  unfold cellIs at h
  split at h
  · rename_i cl cld D' csl e
    have e2 : D' = D := of_decide_eq_true h
    subst e2
    exact ⟨_, _, _, e⟩
  · cases h
def fileIs (K : Frag) (cd : Value) (file : Str) : Bool := match cd with
  | .ref c => (match K.lookup c with
    | some ⟨_, _, .fields vs, _⟩ => (match (vs[2]? : Option Value) with
      | some (.str f _) => file == f
      | _ => false)
    | _ => false)
  | _ => false
theorem fileIs_ok {K : Frag} {cd : Value} {file : Str} (h : fileIs K cd file = true) : ∃ c ccl cdd vs ccs f tf, cd = .ref c ∧ K.lookup c = some ⟨ccl, cdd, .fields vs, ccs⟩ ∧ vs[2]? = some (.str f tf) ∧ (file == f) = true := by
  unfold fileIs at h
  split at h
  · rename_i c
    split at h
    · rename_i a b vs d e
      split at h
      · rename_i f tf e2
        exact ⟨c, _, _, vs, _, f, tf, rfl, e, e2, h⟩
      · cases h
    · cases h
  · cases h
def isN : Value → Bool
  | .none => true
  | _ => false
theorem isN_ok {v : Value} (h : isN v = true) : v = .none := by
  cases v <;> first | rfl | cases h
def oneC (K : Frag) (l : List (Str × Addr)) (D : Addr) : Bool := match l with
  | [(x, c)] => decide (x = "__class__") && cellIs K c D
  | _ => false
theorem oneC_ok {K : Frag} {l : List (Str × Addr)} {D : Addr} (h : oneC K l D = true) : ∃ c, l = [(("__class__" : Str), c)] ∧ cellIs K c D = true := by
  unfold oneC at h
  split at h
  · rename_i x c
    obtain ⟨h1, h2⟩ := ba h
    have e : x = "__class__" := of_decide_eq_true h1
    subst e
    exact ⟨c, rfl, h2⟩
  · cases h
def DefS.val (d : DefS) : FnW := some (d.name, d.qual, d.params, .stmts d.body, d.scope, mainGlobals, [], builtinsNs)
def DefS.ok (file : Str) (K : Frag) (d : DefS) : Bool := keepIn K (.ref (d.at_ K)) && (match K.lookup (d.at_ K) with
  | some ⟨_, _, .func fd, _⟩ => codeIn K fd.code d.qual && (fileIs K fd.code file && (isN fd.defaults && (oneC K fd.closure (d.D K) && (clsIn K (d.D K)).isSome)))
  | _ => false)
def seesS (file : Str) (es : List DefS) (K : Frag) : AlD := (es.all fun d => d.ok file K, es.map fun d => fnS K (d.at_ K))
def dueS (es : List DefS) : AlD := (true, es.map DefS.val)
def SaysS (file : Str) (es : List DefS) (K : Frag) : Prop := seesS file es K = dueS es
def hookS (xs : List Str) (n : Nat) (fs : List (Frag → Bool)) (ds : List He5.DefA) (tf : List Defn) (file : Str) (es : List DefS) : PySem.W.Hook where
  α := AlD × AlD
  obs := fun s => (laid (objs s.heap.get? xs n) (sees fs ds tf s.heap.get?), laid (objs s.heap.get? xs n) (seesS file es))
  val := fun _ => (due ds, dueS es)
  says := fun _ h => ∃ K : Frag, K.In h ∧ Says fs ds tf h K ∧ SaysS file es K
  of := fun _ _ e => ⟨_, frT_in, says_of (congrArg Prod.fst e), by
    have e2 := congrArg Prod.snd e
    dsimp only at e2
    rw [laid_eq] at e2
    exact e2⟩
  keeps := fun _ _ _ ⟨K, hK, c, z⟩ k => ⟨K, Frag.In.keeps hK k, ⟨c.f, c.d, c.e, c.hd, c.out, fun p hp => k _ _ (c.em p hp)⟩, z⟩
def obS (xs : List Str) (n : Nat) (file : Str) (es : List DefS) (s : SharedT) : AlD := laid (objs (HandSHeadRun.getT s) xs n) (seesS file es)
theorem obS_eq (xs : List Str) (n : Nat) (fs : List (Frag → Bool)) (ds : List He5.DefA) (tf : List Defn) (file : Str) (es : List DefS) (s : SharedT) : (ob xs n fs ds tf s, obS xs n file es s) = (hookS xs n fs ds tf file es).obs s.abs := by
  have e : HandSHeadRun.getT s = s.abs.heap.get? := funext (HandSHeadRun.getT_eq s)
  unfold ob obS
  rw [e]
  rfl
theorem map_pair {α β γ : Type} {A : Option α} {f : α → β} {g : α → γ} {b : β} {c : γ} (h : A.map f = some b) (h' : A.map g = some c) : A.map (fun z => (f z, g z)) = some (b, c) := by
  obtain ⟨z, e, h⟩ := Option.map_eq_some_iff.mp h
  rw [e] at h' ⊢
  exact congrArg some (Prod.ext h (Option.some.inj h'))
/-- C.m is the def at f -/
def bCF (K : Frag) (C : Addr) (m : Str) (f : Addr) : Bool := match findCls K (.ref C) (.type "type") m with
  | some (.val (.ref g)) => decide (g = f)
  | _ => false
theorem bCF_ok {K : Frag} {C f : Addr} {m : Str} (h : bCF K C m f = true) : ClX.CVal K C (.type "type") m (.ref f) (.ref f) := by
  unfold bCF at h
  split at h
  · rename_i g e
    have e2 : g = f := of_decide_eq_true h
    subst e2
    exact ⟨e, rfl⟩
  · cases h
end Hz
set_option linter.all false
set_option maxRecDepth 100000
set_option maxHeartbeats 4000000
/-! A head in pieces: the top run by the kernel from one written state to the next; the states stand as trees of objects, each body named by its place. -/
noncomputable section
namespace Hz
open PySem PySem.W PySem.Calls PyProof.Rows HandSHeadRun L2
/-! ### short words for written objects -/
abbrev t (x : String) : Str := Str.ofString x
abbrev en (P : Params) (x : String) (k : Tok) (v : Value) : DictEntry := ⟨PyData.keyHash P (Str.ofString x), .str (Str.ofString x) k, v⟩
abbrev fnD (st : Stmt) (x qual : String) (g : Addr) (cl : List (Str × Addr)) (d kd doc pm : Value) (an : Option Addr) (c ct : Value) (b : Addr) : FuncData :=
  ⟨Str.ofString x, Str.ofString qual, defArgs st, .stmts (defBody st), defScope st, g, cl, d, kd, doc, pm, an, c, ct, b⟩
abbrev n (o : Obj) (l r : BT) : BT := .node o l r
abbrev e : BT := .nil
/-! ### the run, with the step's look as a parameter -/
section
variable (st : SharedT → Thread → Option (SharedT × Thread)) (ok : Thread → Bool)
def toF : Nat → SharedT → Thread → Option (SharedT × Thread)
  | 0, s, t => some (s, t)
  | m + 1, s, t => match through t with
    | true => none
    | false => match ok t with
      | false => none
      | true => match st s t with
        | some (s', t') => frS s' fun s' => toF m s' t'
        | none => none
def segF (b : Nat) : Nat → SharedT → Thread → Option (Flow × SharedT × Code × Pos)
  | 0, _, _ => none
  | m + 1, s, t => match endAt b t with
    | some f => some (f, s, t.code, t.pos)
    | none => match ok t with
      | false => none
      | true => match st s t with
        | some (s', t') => frS s' fun s' => segF b m s' t'
        | none => none
def endF : Nat → SharedT → Thread → Option SharedT
  | 0, _, _ => none
  | m + 1, s, t => match through t with
    | true => some s
    | false => match ok t with
      | false => none
      | true => match st s t with
        | some (s', t') => frS s' fun s' => endF m s' t'
        | none => none
end
section
variable {tb : String → Option Builtin} {p : Program} {w : World} {n0 : Nat} {ann : Option Value}
theorem toF_ok : ∀ {m : Nat} {s s' : SharedT} {t t' : Thread}, toF (stepT (denote tb) p w) (stepOk n0 ann) m s t = some (s', t') → topGo tb p w n0 ann m s.abs t = some (s'.abs, t')
  | 0, s, s', t, t', h => by
    cases h
    rfl
  | m + 1, s, s', t, t', h => by
    unfold toF at h
    unfold topGo
    cases ht : through t with
    | true => rw [ht] at h; cases h
    | false =>
      rw [ht] at h
      cases hk : stepOk n0 ann t with
      | false => rw [hk] at h; cases h
      | true =>
        rw [hk] at h
        cases hs : stepT (denote tb) p w s t with
        | none => rw [hs] at h; cases h
        | some r =>
          obtain ⟨s2, t2⟩ := r
          rw [hs] at h
          have h3 : (frS s2 fun s' => toF (stepT (denote tb) p w) (stepOk n0 ann) m s' t2) = some (s', t') := h
          rw [frS_eq] at h3
          have q := toF_ok h3
          rw [stepT_spec hs]
          exact q
theorem segF_ok {b : Nat} : ∀ {m : Nat} {s : SharedT} {t : Thread} {f : Flow} {s' : SharedT} {c : Code} {q : Pos}, segF (stepT (denote tb) p w) (stepOk n0 ann) b m s t = some (f, s', c, q) → segRun tb p w n0 ann b m s.abs t = some (f, s'.abs, c, q)
  | 0, _, _, _, _, _, _, h => by cases h
  | m + 1, s, t, f, s', c, q, h => by
    unfold segF at h
    unfold segRun
    cases ht : endAt b t with
    | some g =>
      rw [ht] at h
      cases h
      rfl
    | none =>
      rw [ht] at h
      cases hk : stepOk n0 ann t with
      | false => rw [hk] at h; cases h
      | true =>
        rw [hk] at h
        cases hs : stepT (denote tb) p w s t with
        | none => rw [hs] at h; cases h
        | some r =>
          obtain ⟨s2, t2⟩ := r
          rw [hs] at h
          have h3 : (frS s2 fun s' => segF (stepT (denote tb) p w) (stepOk n0 ann) b m s' t2) = some (f, s', c, q) := h
          rw [frS_eq] at h3
          have q := segF_ok h3
          rw [stepT_spec hs]
          exact q
theorem endF_ok : ∀ {m : Nat} {s s' : SharedT} {t : Thread}, endF (stepT (denote tb) p w) (stepOk n0 ann) m s t = some s' → topRun tb p w n0 ann m s.abs t = some s'.abs
  | 0, _, _, _, h => by cases h
  | m + 1, s, s', t, h => by
    unfold endF at h
    unfold topRun
    cases ht : through t with
    | true =>
      rw [ht] at h
      cases h
      rfl
    | false =>
      rw [ht] at h
      cases hk : stepOk n0 ann t with
      | false => rw [hk] at h; cases h
      | true =>
        rw [hk] at h
        cases hs : stepT (denote tb) p w s t with
        | none => rw [hs] at h; cases h
        | some r =>
          obtain ⟨s2, t2⟩ := r
          rw [hs] at h
          have h3 : (frS s2 fun s' => endF (stepT (denote tb) p w) (stepOk n0 ann) m s' t2) = some s' := h
          rw [frS_eq] at h3
          have q := endF_ok h3
          rw [stepT_spec hs]
          exact q
end
/-! ### by the library's twins -/
def okQ : Nat → Option Value → Thread → Bool := Fast.tw6613529449190102663
theorem okQ_eq : @stepOk = okQ := Fast.te6613529449190102663
def execsQ : List Stmt → Env → Sem Flow := Fast.tw12563942051412417395
theorem execsQ_eq : @PySem.execs = execsQ := Fast.te12563942051412417395
/-- the run of statements, to where they are through -/
def piecesQ (l : List Stmt) (env : Env) (c : Code) (p : Pos) (B : List Frame) : Thread :=
  ⟨R.bindR (R.onRaiseR (execsQ l env) (fun _ => (.unsupported "a raise at the top" : Sem Unit))) (fun f => (Sem.pure (Fin.done f) : Sem PySem.Fin)), c, p, B⟩
theorem piecesQ_eq {l : List Stmt} {env : Env} {c : Code} {p : Pos} {B : List Frame} : piecesQ l env c p B = piecesOf l env c p B := by
  unfold piecesQ piecesOf
  rw [← execsQ_eq, ← R.bindR_eq, ← R.onRaiseR_eq, Sem.bind_eq_wrap, Sem.onRaise_eq_wrap, Sem.wrap_wrap]
  rfl
abbrev stQ (p : Program) (w : World) : SharedT → Thread → Option (SharedT × Thread) := stepQ (denQ tabQ) p w
theorem stQ_eq (p : Program) (w : World) : stepT (denote treeTable) p w = stQ p w := by
  rw [stepQ_eq, denQ_eq, tabQ_eq]
/-- the opening, to behind the fence -/
def openF (st : SharedT → Thread → Option (SharedT × Thread)) (m : Nat) (p : Program) : Option SharedT := match impF st m (zeroT (opening p)) (start (opening p)).2 with
  | some s => fencesT (importedModules p.main.body) s
  | none => none
section
variable {p : Program} {w : World} {n0 : Nat} {ann : Option Value} {env : Env} {c : Code} {q : Pos}
theorem to_ok {m : Nat} {s s' : SharedT} {t t' : Thread} (h : toF (stQ p w) (okQ n0 ann) m s t = some (s', t')) : topGo treeTable p w n0 ann m s.abs t = some (s'.abs, t') := by
  rw [← stQ_eq, ← okQ_eq] at h
  exact toF_ok h
theorem seg_ok {m : Nat} {s s' : SharedT} {l : List Stmt} {pos pos' : Pos} (h : segF (stQ p w) (okQ n0 ann) 1 m s (piecesQ l env c pos [topFrame q]) = some (.next, s', c, pos')) : segRun treeTable p w n0 ann 1 m s.abs (piecesOf l env c pos [topFrame q]) = some (.next, s'.abs, c, pos') := by
  rw [← stQ_eq, ← okQ_eq, piecesQ_eq] at h
  exact segF_ok h
theorem block_ok {m : Nat} {s s' : SharedT} {l : List Stmt} {pos pos' : Pos} (h : segF (stQ p w) (okQ n0 ann) 1 m s (blockOf l env c pos [topFrame q]) = some (.next, s', c, pos')) : segRun treeTable p w n0 ann 1 m s.abs (blockOf l env c pos [topFrame q]) = some (.next, s'.abs, c, pos') := by
  rw [← stQ_eq, ← okQ_eq] at h
  exact segF_ok h
theorem end_ok {m : Nat} {s s' : SharedT} {t : Thread} (h : endF (stQ p w) (okQ n0 ann) m s t = some s') : topRun treeTable p w n0 ann m s.abs t = some s'.abs := by
  rw [← stQ_eq, ← okQ_eq] at h
  exact endF_ok h
/-- from the body's begin -/
theorem top_begin {b : List Stmt} {k kb N : Nat} {s0 sa sb : SharedT} {t0 : Thread} {r : Shared} {pos pos' : Pos}
    (hP : toF (stQ p w) (okQ n0 ann) k s0 t0 = some (sa, ⟨denQ tabQ (.body b env), c, pos, [topFrame q]⟩))
    (hB : segF (stQ p w) (okQ n0 ann) 1 kb sa (blockOf b env c pos [topFrame q]) = some (.next, sb, c, pos'))
    (hR : topRun treeTable p w n0 ann N sb.abs (restOf b env c pos' [topFrame q]) = some r) : topRun treeTable p w n0 ann (k + (kb + N)) s0.abs t0 = some r := by
  have h1 := to_ok hP
  rw [show denQ tabQ (.body b env) = denote treeTable (.body b env) by rw [denQ_eq, tabQ_eq]] at h1
  exact go_top h1 (piece_block (block_ok hB) hR)
theorem top_more {l rest : List Stmt} {k N : Nat} {s s' : SharedT} {r : Shared} {pos pos' : Pos}
    (h : segF (stQ p w) (okQ n0 ann) 1 k s (piecesQ l env c pos [topFrame q]) = some (.next, s', c, pos'))
    (hR : topRun treeTable p w n0 ann N s'.abs (restOf rest env c pos' [topFrame q]) = some r) : topRun treeTable p w n0 ann (k + N) s.abs (restOf (l ++ rest) env c pos [topFrame q]) = some r :=
  piece_app (seg_ok h) hR
theorem top_end {k : Nat} {s s' : SharedT} {pos : Pos} (h : endF (stQ p w) (okQ n0 ann) k s ⟨doneF .next, c, pos, [topFrame q]⟩ = some s') : topRun treeTable p w n0 ann k s.abs (restOf [] env c pos [topFrame q]) = some s'.abs :=
  piece_nil (end_ok h)
end
theorem open_ok {p : Program} {w : World} {m : Nat} {f : SharedT} (hnp : p.main.body.any namesNumpy = false) (h : openF (stQ (opening p) w) m p = some f) : fencedOpening treeTable p w m = some f.abs := by
  rw [← stQ_eq] at h
  unfold openF at h
  split at h
  · rename_i s e1
    have i1 := impF_ok e1
    rw [zeroT_abs] at i1
    unfold fencedOpening
    rw [i1]
    show fenceModules? p s.abs = some f.abs
    unfold fenceModules?
    rw [fencesT_ok h]
    show (if p.main.body.any namesNumpy then _ else _) = _
    rw [hnp]
    rfl
  · cases h
theorem fenced_le {p : Program} {w : World} {M N : Nat} {s : Shared} (le : Nat.ble M N = true) (h : fencedOpening treeTable p w M = some s) : fencedOpening treeTable p w N = some s := by
  unfold fencedOpening at h ⊢
  cases e : importEnds treeTable (opening p) w M (start (opening p)).1 (start (opening p)).2 with
  | none => rw [e] at h; cases h
  | some z =>
    rw [importEnds_le le e]
    rw [e] at h
    exact h
theorem left_cut {p q : Program} {loose : List Str} {Xt : Shared → Bool} {α : Type} {Yf : Shared → α} {Ya : World → α} {N M0 M1 n0 : Nat} {ann : Option Value} {f0 e0 : World → SharedT}
    (hnp : p.main.body.any namesNumpy = false) (le0 : Nat.ble M0 N = true) (le1 : Nat.ble M1 N = true)
    (hO : ∀ w : World, openF (stQ (opening p) w) M0 p = some (f0 w)) (hn : ∀ w, (f0 w).n = n0) (ha : ∀ w, (f0 w).abs.heap.nsMap mainGlobals "__annotations__" = ann)
    (hT : ∀ w : World, topRun treeTable p w n0 ann M1 (f0 w).abs (topStub p) = some (e0 w).abs)
    (hL : ∀ w : World, looksA p (f0 w).abs (e0 w).abs = true) (hS : ∀ w : World, openSeen q loose (importedModules p.main.body) Xt true (e0 w).abs = openGood q loose) (hF : ∀ w : World, Yf (e0 w).abs = Ya w) :
    LeftO p q loose Xt Yf Ya N true := fun w => by
  have a := fenced_le le0 (open_ok hnp (hO w))
  have r := topRun_le le1 (hT w)
  obtain ⟨k1, k2⟩ := Bool.and_eq_true_iff.mp (show (((f0 w).abs.heap.isNs mainGlobals && (f0 w).abs.gens.size == 0) && (staticsOk (importedModules p.main.body) (f0 w).abs.heap (e0 w).abs.heap && namesBound p (e0 w).abs.heap && gensDone (e0 w).abs && laidKept (f0 w).abs.heap (e0 w).abs.heap)) = true from hL w)
  have t : topFrom treeTable p w N (f0 w).abs = some (e0 w).abs := by
    unfold topFrom
    rw [k1]
    have sz : (f0 w).abs.heap.objs.size = n0 := (absHeap_size _ _ _).trans (hn w)
    dsimp only
    rw [sz, ha w, r]
    show (match staticsOk (importedModules p.main.body) (f0 w).abs.heap (e0 w).abs.heap && namesBound p (e0 w).abs.heap && gensDone (e0 w).abs && laidKept (f0 w).abs.heap (e0 w).abs.heap with | true => some (e0 w).abs | false => none) = _
    rw [k2]
  unfold openEnds
  rw [a]
  show (topFrom treeTable p w N _).map _ = _
  rw [t]
  exact congrArg some (Prod.ext (hS w) (hF w))
theorem head_cut {r : OpenRow} {q : Program} {H : Hook} {ob : SharedT → H.α} {M0 M1 n0 : Nat} {ann : Option Value} {loose : List Str} {d : DefRec} {kwd : List (Str × PySem.Expr)} {f0 e0 : World → SharedT} (ho : ∀ s : SharedT, ob s = H.obs s.abs)
    (hnp : r.prog.main.body.any namesNumpy = false)
    (hO : ∀ w : World, openF (stQ (opening r.prog) w) M0 r.prog = some (f0 w)) (hn : ∀ w, (f0 w).n = n0) (ha : ∀ w, (f0 w).abs.heap.nsMap mainGlobals "__annotations__" = ann)
    (hT : ∀ w : World, topRun treeTable r.prog w n0 ann M1 (f0 w).abs (topStub r.prog) = some (e0 w).abs)
    (hL : ∀ w : World, looksA r.prog (f0 w).abs (e0 w).abs = true) (hS : ∀ w : World, seenQ q loose (importedModules r.prog.main.body) (fun s => xlAt q [] s && recOk r.toRowW.records s) (e0 w).abs = openGood q loose) (hF : ∀ w : World, ob (e0 w) = H.val w)
    (hdef : defOf q r.name = some (d, kwd)) (hp : r.prog.theDef r.name = some (d.params, d.body, d.scope)) (hk : kwWritten? d.params.kwonlyargs d.params.kw_defaults = some kwd)
    (hwr : (!r.writes || r.records.isEmpty) = true) (k1 : r.wellSaid = true) (ok : (chainsOk q && opensWell r.prog && (frees r.toRowW && r.within.isEmpty)) = true) (hb : r.prog.bare) (hw : r.toRowW.promised)
    (call : WalkO q loose (XL q []) H.says r.toRowW d kwd fun f vs => PySem.call f vs) : r.Holds := by
  have left : LeftO r.prog q loose (fun s => xlAt q [] s && recOk r.toRowW.records s) H.obs H.val (M0 + M1) true :=
    left_cut hnp (M0 := M0) (M1 := M1) (Nat.ble_eq_true_of_le (by omega)) (Nat.ble_eq_true_of_le (by omega)) hO hn ha hT hL (fun w => by rw [← hS w, seenQ_eq]) (fun w => by rw [← ho, hF w])
  exact holds_open (r := r) (q := q) (loose := loose) (XP := XL q []) (YP := H.says) (d := d) (kwd := kwd) left H.of H.keeps (fun s z => xl_of s (Bool.and_eq_true_iff.mp z).1) XL.keeps hdef hp hk (fun s z => recFacts_of (Bool.and_eq_true_iff.mp z).2) hwr k1 ok hb hw call
/-- a name that stands for a number -/
def bI (a : Option (Option Value)) (i : Int) : Bool := match a with
  | some (some (.int j _)) => decide (j = i)
  | _ => false
theorem bI_ok {a : Option (Option Value)} {i : Int} (h : bI a i = true) : ∃ t, a = some (some (.int i t)) := by
  unfold bI at h
  split at h
  · rename_i j t
    cases of_decide_eq_true h
    exact ⟨t, rfl⟩
  · cases h
end Hz
/-! Looks at constants of classes. -/
namespace Hz
open PySem PySem.W L2
/-- C.m is a number -/
def bCI (K : Frag) (C : Addr) (m : Str) (i : Int) : Bool := match findCls K (.ref C) (.type "type") m with
  | some (.val (.int j _)) => decide (j = i)
  | _ => false
theorem bCI_ok {K : Frag} {C : Addr} {m : Str} {i : Int} (h : bCI K C m i = true) : ∃ u, ClX.CVal K C (.type "type") m (.int i) u := by
  unfold bCI at h
  split at h
  · rename_i j t e
    cases of_decide_eq_true h
    exact ⟨_, e, ⟨t, rfl⟩⟩
  · cases h
/-- .m of an instance of C is a text that stands in the class -/
def bCo (K : Frag) (C : Addr) (m : Str) (x : Str) : Bool := match findIn K (.ref C) m with
  | some (some (.str y k)) => decide (y = x) && bO (specialIn K (.str y k) "__get__") (some none) && !copiedNames.contains m
  | _ => false
theorem bCo_ok {K : Frag} {C : Addr} {m x : Str} (h : bCo K C m x = true) : ∃ u, Con K C m (.str x) u := by
  unfold bCo at h
  split at h
  · rename_i y k e
    rw [Bool.and_eq_true, Bool.and_eq_true] at h
    obtain ⟨⟨h1, h2⟩, h3⟩ := h
    cases of_decide_eq_true h1
    exact ⟨_, e, ⟨k, rfl⟩, bO_ok h2, by simpa using h3⟩
  · cases h
end Hz
set_option linter.all false
set_option maxRecDepth 100000
set_option maxHeartbeats 4000000
namespace Toy
open PySem PySem.W PySem.Calls PyProof.Rows L2
/-! ### the head -/
def ztop (i : Nat) : Stmt := PySem.Challenge.pw_anyfifth_k35_scales_written_and_read.main.body.getD i (.Pass ⟨0, 0, 0, 0⟩)
abbrev zCSc (K : PySem.W.Frag) : Addr := He.ga K "Scale"
abbrev zCF (K : PySem.W.Frag) : Addr := He.ga K "FifthError"
abbrev zCBT (K : PySem.W.Frag) : Addr := He.ga K "BadText"
abbrev zcR0 (K : PySem.W.Frag) : Addr := (He.cT K ("law", none)).1
abbrev zPt0 (K : PySem.W.Frag) : Addr := (He.cT K ("law", none)).2
abbrev zf0 (K : PySem.W.Frag) : Addr := He.ga K "is_int"
abbrev zf1 (K : PySem.W.Frag) : Addr := He.ga K "is_from_to"
abbrev zf2 (K : PySem.W.Frag) : Addr := He.ga K "integer_in"
abbrev zf3 (K : PySem.W.Frag) : Addr := He.ga K "_is_note"
abbrev zf4 (K : PySem.W.Frag) : Addr := He.ma K (zCSc K) "__init__"
abbrev zf5 (K : PySem.W.Frag) : Addr := He.ma K (He.ga K "BadText") "__init__"
abbrev zp6 (K : PySem.W.Frag) : Addr := He.ma K (zCSc K) "read"
abbrev zf6 (K : PySem.W.Frag) : Addr := He5.wf K (zCSc K) "classmethod" "read"
abbrev zf7 (K : PySem.W.Frag) : Addr := He.ma K (zCSc K) "drop"
abbrev zf8 (K : PySem.W.Frag) : Addr := He.ma K (zCSc K) "put"
abbrev zp9 (K : PySem.W.Frag) : Addr := He.ma K (zCSc K) "numbers"
abbrev zf9 (K : PySem.W.Frag) : Addr := He5.wf K (zCSc K) "property" "numbers"
abbrev zf10 (K : PySem.W.Frag) : Addr := He.ma K (zCSc K) "__str__"
abbrev zf11 (K : PySem.W.Frag) : Addr := He.ma K (zCSc K) "__eq__"
abbrev zf12 (K : PySem.W.Frag) : Addr := He.ga K "_law_pen"
abbrev zf13 (K : PySem.W.Frag) : Addr := He.ga K "_law_draw"
abbrev zf14 (K : PySem.W.Frag) : Addr := He.ga K "_law_pick"
abbrev zf15 (K : PySem.W.Frag) : Addr := He.ga K "_law_some"
abbrev zf16 (K : PySem.W.Frag) : Addr := He.ga K "_law_scaled"
abbrev zf17 (K : PySem.W.Frag) : Addr := He.ga K "_law_text"
abbrev zf18 (K : PySem.W.Frag) : Addr := He.ga K "_law_due"
abbrev zf19 (K : PySem.W.Frag) : Addr := He.ga K "_law_heard"
abbrev zf20 (K : PySem.W.Frag) : Addr := He.ga K "_law_bent"
abbrev zf21 (K : PySem.W.Frag) : Addr := He.ga K "law"
def zd0 : He5.DefA := ⟨zf0, "is_int", "is_int", defArgs (ztop 14), defBody (ztop 14), defScope (ztop 14), [], []⟩
def zd1 : He5.DefA := ⟨zf1, "is_from_to", "is_from_to", defArgs (ztop 17), defBody (ztop 17), defScope (ztop 17), [], []⟩
def zd2 : He5.DefA := ⟨zf2, "integer_in", "integer_in", defArgs (ztop 16), defBody (ztop 16), defScope (ztop 16), [], []⟩
def zd3 : He5.DefA := ⟨zf3, "_is_note", "_is_note", defArgs (ztop 26), defBody (ztop 26), defScope (ztop 26), [], []⟩
def zd4 : He5.DefA := ⟨zf4, "__init__", "Scale.__init__", defArgs (inClass (ztop 25) 1), defBody (inClass (ztop 25) 1), defScope (inClass (ztop 25) 1), [], []⟩
def zd5 : He5.DefA := ⟨zf5, "__init__", "BadText.__init__", defArgs (inClass (ztop 10) 0), defBody (inClass (ztop 10) 0), defScope (inClass (ztop 10) 0), [], []⟩
def zd6 : He5.DefA := ⟨zf6, "read", "Scale.read", defArgs (inClass (ztop 25) 2), defBody (inClass (ztop 25) 2), defScope (inClass (ztop 25) 2), [], []⟩
def zd7 : He5.DefA := ⟨zf7, "drop", "Scale.drop", defArgs (inClass (ztop 25) 5), defBody (inClass (ztop 25) 5), defScope (inClass (ztop 25) 5), [], []⟩
def zd8 : He5.DefA := ⟨zf8, "put", "Scale.put", defArgs (inClass (ztop 25) 6), defBody (inClass (ztop 25) 6), defScope (inClass (ztop 25) 6), [], []⟩
def zd9 : He5.DefA := ⟨zf9, "numbers", "Scale.numbers", defArgs (inClass (ztop 25) 3), defBody (inClass (ztop 25) 3), defScope (inClass (ztop 25) 3), [], []⟩
def zd10 : He5.DefA := ⟨zf10, "__str__", "Scale.__str__", defArgs (inClass (ztop 25) 24), defBody (inClass (ztop 25) 24), defScope (inClass (ztop 25) 24), [], []⟩
def zd11 : He5.DefA := ⟨zf11, "__eq__", "Scale.__eq__", defArgs (inClass (ztop 25) 23), defBody (inClass (ztop 25) 23), defScope (inClass (ztop 25) 23), [], []⟩
def zd12 : He5.DefA := ⟨zf12, "_law_pen", "_law_pen", defArgs (ztop 30), defBody (ztop 30), defScope (ztop 30), [], []⟩
def zd13 : He5.DefA := ⟨zf13, "_law_draw", "_law_draw", defArgs (ztop 31), defBody (ztop 31), defScope (ztop 31), [], []⟩
def zd14 : He5.DefA := ⟨zf14, "_law_pick", "_law_pick", defArgs (ztop 32), defBody (ztop 32), defScope (ztop 32), [], []⟩
def zd15 : He5.DefA := ⟨zf15, "_law_some", "_law_some", defArgs (ztop 33), defBody (ztop 33), defScope (ztop 33), [], []⟩
def zd16 : He5.DefA := ⟨zf16, "_law_scaled", "_law_scaled", defArgs (ztop 34), defBody (ztop 34), defScope (ztop 34), [], []⟩
def zd17 : He5.DefA := ⟨zf17, "_law_text", "_law_text", defArgs (ztop 35), defBody (ztop 35), defScope (ztop 35), [], []⟩
def zd18 : He5.DefA := ⟨zf18, "_law_due", "_law_due", defArgs (ztop 36), defBody (ztop 36), defScope (ztop 36), [], []⟩
def zd19 : He5.DefA := ⟨zf19, "_law_heard", "_law_heard", defArgs (ztop 37), defBody (ztop 37), defScope (ztop 37), [], []⟩
def zd20 : He5.DefA := ⟨zf20, "_law_bent", "_law_bent", defArgs (ztop 38), defBody (ztop 38), defScope (ztop 38), [], []⟩
def zd21 : He5.DefA := ⟨zf21, "law", "law", defArgs (ztop 39), defBody (ztop 39), defScope (ztop 39), [], []⟩
def zfs0_0 : List (PySem.W.Frag → Bool) := [fun K => Hz.bO (PySem.W.nsIn K mainGlobals "Scale") (some (some (.ref (zCSc K)))),
  fun K => PySem.W.plainGet K (zCSc K) Str.empty,
  fun K => PySem.W.hasDictIn K (zCSc K),
  fun K => PySem.W.plainOver K (zCSc K),
  fun K => Hz.bO (PySem.W.findIn K (.ref (zCSc K)) "__setattr__") (some (some (.builtin "object.__setattr__"))),
  fun K => PySem.W.readsIn K (zCSc K) (.type "type"),
  fun K => Hz.bO (PySem.W.specialIn K (.ref (zCSc K)) "__getattribute__") (some (some (.builtin "type.__getattribute__"))),
  fun K => Hz.bO (PySem.W.findIn K (.ref (zCSc K)) "__class__") (some (some (.builtin "object.__class__"))),
  fun K => Hz.bB (PySem.W.mroIn K (zCSc K) (.type "object")) (some true),
  fun K => Hz.bB (PySem.W.subIn K (.ref (zCSc K)) (.type "int")) (some false),
  fun K => PySem.W.notFirst K (zCSc K) (.type "int"),
  fun K => PySem.W.notFirst K (zCSc K) (.ref (zCSc K)),
  fun K => Hz.bB (PySem.W.kitOne K (.ref (zCSc K)) (.type "int")) (some false),
  fun K => Hz.bB (PySem.W.kitOne K (.ref (zCSc K)) (.type "bool")) (some false),
  fun K => Hz.bB (PySem.W.kitOne K (.type "int") (.ref (zCSc K))) (some false),
  fun K => Hz.bB (PySem.W.kitOne K (.ref (zCSc K)) (.ref (zCSc K))) (some true),
  fun K => Hz.bO (PySem.W.findIn K (.ref (zCSc K)) "_numbers") (some none),
  fun K => PySem.W.makesIn K (zCSc K),
  fun K => PySem.W.keepIn K (.ref (zCSc K)),
  fun K => Hz.bO (PySem.W.specialIn K (.builtin "object.__class__") "__get__") (some (some (.builtin "getset_descriptor.__get__")))]
def zfs0_1 : List (PySem.W.Frag → Bool) := [fun K => Hz.bB (PySem.W.takesIn K (.builtin "object.__class__")) (some true)]
def zfs0 : List (PySem.W.Frag → Bool) := zfs0_0 ++ (zfs0_1)
def zds0_0 : List (He5.DefA) := [zd0,
  zd1,
  zd2,
  zd3,
  zd4]
def zds0 : List (He5.DefA) := zds0_0
def zfs1_0 : List (PySem.W.Frag → Bool) := [fun K => Hz.bO (PySem.W.nsIn K mainGlobals "int") (some none),
  fun K => Hz.bO (PySem.W.nsIn K mainGlobals "len") (some none),
  fun K => Hz.bO (PySem.W.nsIn K mainGlobals "abs") (some none),
  fun K => Hz.bO (PySem.W.nsIn K mainGlobals "list") (some none),
  fun K => Hz.bO (PySem.W.nsIn K mainGlobals "range") (some none),
  fun K => Hz.bO (PySem.W.nsIn K mainGlobals "isinstance") (some none),
  fun K => Hz.bO (PySem.W.nsIn K mainGlobals "bool") (some none),
  fun K => Hz.bO (PySem.W.nsIn K mainGlobals "repr") (some none),
  fun K => Hz.bO (PySem.W.nsIn K mainGlobals "tuple") (some none),
  fun K => Hz.bO (PySem.W.nsIn K mainGlobals "dict") (some none),
  fun K => Hz.bO (PySem.W.nsIn K mainGlobals "enumerate") (some none),
  fun K => Hz.bO (PySem.W.nsIn K mainGlobals "str") (some none),
  fun K => Hz.bO (PySem.W.nsIn K mainGlobals "gcd") (some (some (.builtin "math.gcd"))),
  fun K => Hz.bO (PySem.W.nsIn K mainGlobals "FifthError") (some (some (.ref (zCF K)))),
  fun K => Hz.bO (PySem.W.nsIn K mainGlobals "BadText") (some (some (.ref (zCBT K)))),
  fun K => Hz.bE K (zCBT K),
  fun K => Hz.bO (PySem.W.findIn K (.ref (zCBT K)) "__setattr__") (some (some (.builtin "object.__setattr__"))),
  fun K => Hz.bB (PySem.W.subIn K (.ref (zCBT K)) (.type "BaseException")) (some true),
  fun K => Hz.bV (PySem.W.typeIn K (.ref (zCBT K))) (some (.type "type")),
  fun K => PySem.W.keepIn K (.ref (zCBT K))]
def zfs1_1 : List (PySem.W.Frag → Bool) := [fun K => Hz.bO (PySem.W.findIn K (.ref (zCBT K)) "__init__") (some (some (.ref (zf5 K))))]
def zfs1 : List (PySem.W.Frag → Bool) := zfs1_0 ++ (zfs1_1)
def zds1_0 : List (He5.DefA) := [zd5,
  zd6,
  zd7,
  zd8,
  zd9,
  zd10]
def zds1 : List (He5.DefA) := zds1_0
def zfs2_0 : List (PySem.W.Frag → Bool) := [fun K => Hz.bV (PySem.W.typeIn K (.ref (zf5 K))) (some (.type "function")),
  fun K => Hz.bO (PySem.W.findIn K (.ref (zCBT K)) "line") (some none),
  fun K => Hz.bO (PySem.W.findIn K (.ref (zCBT K)) "__getattribute__") (some (some (.builtin "BaseException.__getattribute__"))),
  fun K => Hz.bO (PySem.W.findIn K (.ref (zCBT K)) "__getattr__") (some none),
  fun K => PySem.W.hasDictIn K (zCBT K),
  fun K => Hz.bB (PySem.W.exmOne K (.ref (zCBT K)) (.ref (zCF K))) (some true),
  fun K => Hz.bO (PySem.W.findIn K (.ref (zCBT K)) "word") (some none),
  fun K => Hz.bCI K (zCSc K) "MOST" (16),
  fun K => Hz.bB (PySem.W.kitOne K (.ref (zCBT K)) (.ref (zCBT K))) (some true),
  fun K => Hz.bO (PySem.W.findIn K (.ref (zCSc K)) "__ne__") (some (some (.builtin "object.__ne__"))),
  fun K => Hz.bB (PySem.W.subIn K (.ref (zCSc K)) (.type "object")) (some true),
  fun K => Hz.bO (PySem.W.findIn K (.ref (zCBT K)) "__class__") (some (some (.builtin "object.__class__"))),
  fun K => Hz.bB (PySem.W.mroIn K (zCBT K) (.type "object")) (some true),
  fun K => Hz.bO (PySem.W.nsIn K mainGlobals "is_int") (some (some (.ref (zf0 K)))),
  fun K => Hz.bO (PySem.W.nsIn K mainGlobals "is_from_to") (some (some (.ref (zf1 K)))),
  fun K => Hz.bO (PySem.W.nsIn K mainGlobals "integer_in") (some (some (.ref (zf2 K)))),
  fun K => Hz.bO (PySem.W.nsIn K mainGlobals "_is_note") (some (some (.ref (zf3 K)))),
  fun K => Hz.bO (PySem.W.findIn K (.ref (zCSc K)) "__init__") (some (some (.ref (zf4 K)))),
  fun K => PySem.W.isFn K (.ref (zf4 K)),
  fun K => He5.wrapB K (zCSc K) "classmethod" "classmethod.__get__" "read"]
def zfs2_1 : List (PySem.W.Frag → Bool) := [fun K => Hz.bO (PySem.W.findIn K (.ref (zCSc K)) "drop") (some (some (.ref (zf7 K))))]
def zfs2 : List (PySem.W.Frag → Bool) := zfs2_0 ++ (zfs2_1)
def zds2_0 : List (He5.DefA) := [zd11,
  zd12,
  zd13,
  zd14,
  zd15]
def zds2 : List (He5.DefA) := zds2_0
def zfs3_0 : List (PySem.W.Frag → Bool) := [fun K => PySem.W.isFn K (.ref (zf7 K)),
  fun K => Hz.bO (PySem.W.findIn K (.ref (zCSc K)) "put") (some (some (.ref (zf8 K)))),
  fun K => PySem.W.isFn K (.ref (zf8 K)),
  fun K => Hz.bO (PySem.W.findIn K (.ref (zCSc K)) "numbers") (some (some (.ref (zp9 K)))),
  fun K => Hz.bO (PySem.W.specialIn K (.ref (zp9 K)) "__get__") (some (some (.builtin "property.__get__"))),
  fun K => Hz.bB (PySem.W.takesIn K (.ref (zp9 K))) (some true),
  fun K => Hz.bR (PySem.W.recIn K (zp9 K) "property") (zf9 K),
  fun K => Hz.bO (PySem.W.findIn K (.ref (zCSc K)) "__str__") (some (some (.ref (zf10 K)))),
  fun K => PySem.W.isFn K (.ref (zf10 K)),
  fun K => Hz.bO (PySem.W.findIn K (.ref (zCSc K)) "__eq__") (some (some (.ref (zf11 K)))),
  fun K => PySem.W.isFn K (.ref (zf11 K)),
  fun K => Hz.bO (PySem.W.nsIn K mainGlobals "_law_pen") (some (some (.ref (zf12 K)))),
  fun K => Hz.bO (PySem.W.nsIn K mainGlobals "_law_draw") (some (some (.ref (zf13 K)))),
  fun K => Hz.bO (PySem.W.nsIn K mainGlobals "_law_pick") (some (some (.ref (zf14 K)))),
  fun K => Hz.bO (PySem.W.nsIn K mainGlobals "_law_some") (some (some (.ref (zf15 K)))),
  fun K => Hz.bO (PySem.W.nsIn K mainGlobals "_law_scaled") (some (some (.ref (zf16 K)))),
  fun K => Hz.bO (PySem.W.nsIn K mainGlobals "_law_text") (some (some (.ref (zf17 K)))),
  fun K => Hz.bO (PySem.W.nsIn K mainGlobals "_law_due") (some (some (.ref (zf18 K)))),
  fun K => Hz.bO (PySem.W.nsIn K mainGlobals "_law_heard") (some (some (.ref (zf19 K)))),
  fun K => Hz.bO (PySem.W.nsIn K mainGlobals "_law_bent") (some (some (.ref (zf20 K))))]
def zfs3_1 : List (PySem.W.Frag → Bool) := [fun K => Hz.bO (PySem.W.nsIn K mainGlobals "law") (some (some (.ref (zf21 K))))]
def zfs3 : List (PySem.W.Frag → Bool) := zfs3_0 ++ (zfs3_1)
def zds3_0 : List (He5.DefA) := [zd16,
  zd17,
  zd18,
  zd19,
  zd20,
  zd21]
def zds3 : List (He5.DefA) := zds3_0
def zfs : List (PySem.W.Frag → Bool) := zfs0 ++ (zfs1 ++ (zfs2 ++ (zfs3)))
def zds : List He5.DefA := zds0 ++ (zds1 ++ (zds2 ++ (zds3)))
def zxs : List Str := ([Str.ofString "Scale", Str.ofString "FifthError", Str.ofString "BadText", Str.ofString "is_int", Str.ofString "is_from_to", Str.ofString "integer_in", Str.ofString "_is_note", Str.ofString "_law_pen", Str.ofString "_law_draw", Str.ofString "_law_pick", Str.ofString "_law_some", Str.ofString "_law_scaled", Str.ofString "_law_text", Str.ofString "_law_due", Str.ofString "_law_heard", Str.ofString "_law_bent", Str.ofString "law"] : List Str)
def ztf0 : List He.Defn := [("law", none)]
def ztf : List He.Defn := ztf0 ++ ([] ++ ([] ++ ([])))
abbrev zR : OpenRow := OpenLaw.row PySem.Challenge.rw_anyfifth_k35_scales_written_and_read
abbrev zq0 : Program := PySem.W.view zR.prog [39]
abbrev zhk : PySem.W.Hook := Hz.hook zxs 4 zfs zds ztf
def zob (s : PySem.W.SharedT) : He.AlD := Hz.ob zxs 4 zfs zds ztf s
theorem zob_eq (s : PySem.W.SharedT) : zob s = zhk.obs s.abs := Hz.ob_eq _ _ _ _ _ s
def znames : List PySem.Str := ([PySem.Str.ofString "gcd", PySem.Str.ofString "_wall", PySem.Str.ofString "FifthError", PySem.Str.ofString "BadInput", PySem.Str.ofString "Refused", PySem.Str.ofString "BadRatio", PySem.Str.ofString "BadFifth", PySem.Str.ofString "BadNumber", PySem.Str.ofString "BadScale", PySem.Str.ofString "BadText", PySem.Str.ofString "NoDivisor", PySem.Str.ofString "TooMany", PySem.Str.ofString "is_int", PySem.Str.ofString "written", PySem.Str.ofString "integer_in", PySem.Str.ofString "is_from_to", PySem.Str.ofString "Ratio", PySem.Str.ofString "parts_of", PySem.Str.ofString "ratio_in", PySem.Str.ofString "_lead"] : List PySem.Str) ++ ([PySem.Str.ofString "_quotient", PySem.Str.ofString "Scale", PySem.Str.ofString "_is_note", PySem.Str.ofString "_raised", PySem.Str.ofString "_keys", PySem.Str.ofString "_law_pen", PySem.Str.ofString "_law_draw", PySem.Str.ofString "_law_pick", PySem.Str.ofString "_law_some", PySem.Str.ofString "_law_scaled", PySem.Str.ofString "_law_text", PySem.Str.ofString "_law_due", PySem.Str.ofString "_law_heard", PySem.Str.ofString "_law_bent"] : List PySem.Str)
/-! ### the states -/
def zo0 (P : Params) : Obj := ⟨(.type "dict"), none, (.dict #[(Hz.en P "__name__" 1 (.str (Hz.t "builtins") 160)), (Hz.en P "__doc__" 2 (.builtin "builtins.__doc__:str#opaque")), (Hz.en P "__package__" 3 (.builtin "builtins.__package__:str#opaque")), (Hz.en P "__loader__" 4 (.builtin "builtins.__loader__:shared#opaque")), (Hz.en P "__spec__" 5 (.builtin "builtins.__spec__#opaque")), (Hz.en P "__build_class__" 6 (.builtin "__build_class__")), (Hz.en P "__import__" 7 (.builtin "__import__")), (Hz.en P "abs" 8 (.builtin "abs")), (Hz.en P "all" 9 (.builtin "all")), (Hz.en P "any" 10 (.builtin "any")), (Hz.en P "ascii" 11 (.builtin "ascii")), (Hz.en P "bin" 12 (.builtin "bin")), (Hz.en P "breakpoint" 13 (.builtin "breakpoint")), (Hz.en P "callable" 14 (.builtin "callable")), (Hz.en P "chr" 15 (.builtin "chr")), (Hz.en P "compile" 16 (.builtin "compile")), (Hz.en P "delattr" 17 (.builtin "delattr")), (Hz.en P "dir" 18 (.builtin "dir")), (Hz.en P "divmod" 19 (.builtin "divmod")), (Hz.en P "eval" 20 (.builtin "eval")), (Hz.en P "exec" 21 (.builtin "exec")), (Hz.en P "format" 22 (.builtin "format")), (Hz.en P "getattr" 23 (.builtin "getattr")), (Hz.en P "globals" 24 (.builtin "globals")), (Hz.en P "hasattr" 25 (.builtin "hasattr")), (Hz.en P "hash" 26 (.builtin "hash")), (Hz.en P "hex" 27 (.builtin "hex")), (Hz.en P "id" 28 (.builtin "id")), (Hz.en P "input" 29 (.builtin "input")), (Hz.en P "isinstance" 30 (.builtin "isinstance")), (Hz.en P "issubclass" 31 (.builtin "issubclass")), (Hz.en P "iter" 32 (.builtin "iter")), (Hz.en P "aiter" 33 (.builtin "aiter")), (Hz.en P "len" 34 (.builtin "len")), (Hz.en P "locals" 35 (.builtin "locals")), (Hz.en P "max" 36 (.builtin "max")), (Hz.en P "min" 37 (.builtin "min")), (Hz.en P "next" 38 (.builtin "next")), (Hz.en P "anext" 39 (.builtin "anext")), (Hz.en P "oct" 40 (.builtin "oct")), (Hz.en P "ord" 41 (.builtin "ord")), (Hz.en P "pow" 42 (.builtin "pow")), (Hz.en P "print" 43 (.builtin "print")), (Hz.en P "repr" 44 (.builtin "repr")), (Hz.en P "round" 45 (.builtin "round")), (Hz.en P "setattr" 46 (.builtin "setattr")), (Hz.en P "sorted" 47 (.builtin "sorted")), (Hz.en P "sum" 48 (.builtin "sum")), (Hz.en P "vars" 49 (.builtin "vars")), (Hz.en P "None" 50 .none), (Hz.en P "Ellipsis" 51 .ellipsis), (Hz.en P "NotImplemented" 52 .notImplemented), (Hz.en P "False" 53 (.bool false)), (Hz.en P "True" 54 (.bool true)), (Hz.en P "bool" 55 (.type "bool")), (Hz.en P "memoryview" 56 (.type "memoryview")), (Hz.en P "bytearray" 57 (.type "bytearray")), (Hz.en P "bytes" 58 (.type "bytes")), (Hz.en P "classmethod" 59 (.type "classmethod")), (Hz.en P "complex" 60 (.type "complex")), (Hz.en P "dict" 61 (.type "dict")), (Hz.en P "enumerate" 62 (.type "enumerate")), (Hz.en P "filter" 63 (.type "filter")), (Hz.en P "float" 64 (.type "float")), (Hz.en P "frozenset" 65 (.type "frozenset")), (Hz.en P "property" 66 (.type "property")), (Hz.en P "int" 67 (.type "int")), (Hz.en P "list" 68 (.type "list")), (Hz.en P "map" 69 (.type "map")), (Hz.en P "object" 70 (.type "object")), (Hz.en P "range" 71 (.type "range")), (Hz.en P "reversed" 72 (.type "reversed")), (Hz.en P "set" 73 (.type "set")), (Hz.en P "slice" 74 (.type "slice")), (Hz.en P "staticmethod" 75 (.type "staticmethod")), (Hz.en P "str" 76 (.type "str")), (Hz.en P "super" 77 (.type "super")), (Hz.en P "tuple" 78 (.type "tuple")), (Hz.en P "type" 79 (.type "type")), (Hz.en P "zip" 80 (.type "zip")), (Hz.en P "__debug__" 81 (.bool true)), (Hz.en P "BaseException" 82 (.type "BaseException")), (Hz.en P "BaseExceptionGroup" 83 (.type "BaseExceptionGroup")), (Hz.en P "Exception" 84 (.type "Exception")), (Hz.en P "GeneratorExit" 85 (.type "GeneratorExit")), (Hz.en P "KeyboardInterrupt" 86 (.type "KeyboardInterrupt")), (Hz.en P "SystemExit" 87 (.type "SystemExit")), (Hz.en P "ArithmeticError" 88 (.type "ArithmeticError")), (Hz.en P "AssertionError" 89 (.type "AssertionError")), (Hz.en P "AttributeError" 90 (.type "AttributeError")), (Hz.en P "BufferError" 91 (.type "BufferError")), (Hz.en P "EOFError" 92 (.type "EOFError")), (Hz.en P "ImportError" 93 (.type "ImportError")), (Hz.en P "LookupError" 94 (.type "LookupError")), (Hz.en P "MemoryError" 95 (.type "MemoryError")), (Hz.en P "NameError" 96 (.type "NameError")), (Hz.en P "OSError" 97 (.type "OSError")), (Hz.en P "ReferenceError" 98 (.type "ReferenceError")), (Hz.en P "RuntimeError" 99 (.type "RuntimeError")), (Hz.en P "StopAsyncIteration" 100 (.type "StopAsyncIteration")), (Hz.en P "StopIteration" 101 (.type "StopIteration")), (Hz.en P "SyntaxError" 102 (.type "SyntaxError")), (Hz.en P "SystemError" 103 (.type "SystemError")), (Hz.en P "TypeError" 104 (.type "TypeError")), (Hz.en P "ValueError" 105 (.type "ValueError")), (Hz.en P "Warning" 106 (.type "Warning")), (Hz.en P "FloatingPointError" 107 (.type "FloatingPointError")), (Hz.en P "OverflowError" 108 (.type "OverflowError")), (Hz.en P "ZeroDivisionError" 109 (.type "ZeroDivisionError")), (Hz.en P "BytesWarning" 110 (.type "BytesWarning")), (Hz.en P "DeprecationWarning" 111 (.type "DeprecationWarning")), (Hz.en P "EncodingWarning" 112 (.type "EncodingWarning")), (Hz.en P "FutureWarning" 113 (.type "FutureWarning")), (Hz.en P "ImportWarning" 114 (.type "ImportWarning")), (Hz.en P "PendingDeprecationWarning" 115 (.type "PendingDeprecationWarning")), (Hz.en P "ResourceWarning" 116 (.type "ResourceWarning")), (Hz.en P "RuntimeWarning" 117 (.type "RuntimeWarning")), (Hz.en P "SyntaxWarning" 118 (.type "SyntaxWarning")), (Hz.en P "UnicodeWarning" 119 (.type "UnicodeWarning")), (Hz.en P "UserWarning" 120 (.type "UserWarning")), (Hz.en P "BlockingIOError" 121 (.type "BlockingIOError")), (Hz.en P "ChildProcessError" 122 (.type "ChildProcessError")), (Hz.en P "ConnectionError" 123 (.type "ConnectionError")), (Hz.en P "FileExistsError" 124 (.type "FileExistsError")), (Hz.en P "FileNotFoundError" 125 (.type "FileNotFoundError")), (Hz.en P "InterruptedError" 126 (.type "InterruptedError")), (Hz.en P "IsADirectoryError" 127 (.type "IsADirectoryError")), (Hz.en P "NotADirectoryError" 128 (.type "NotADirectoryError")), (Hz.en P "PermissionError" 129 (.type "PermissionError")), (Hz.en P "ProcessLookupError" 130 (.type "ProcessLookupError")), (Hz.en P "TimeoutError" 131 (.type "TimeoutError")), (Hz.en P "IndentationError" 132 (.type "IndentationError")), (Hz.en P "_IncompleteInputError" 133 (.type "_IncompleteInputError")), (Hz.en P "IndexError" 134 (.type "IndexError")), (Hz.en P "KeyError" 135 (.type "KeyError")), (Hz.en P "ModuleNotFoundError" 136 (.type "ModuleNotFoundError")), (Hz.en P "NotImplementedError" 137 (.type "NotImplementedError")), (Hz.en P "PythonFinalizationError" 138 (.type "PythonFinalizationError")), (Hz.en P "RecursionError" 139 (.type "RecursionError")), (Hz.en P "UnboundLocalError" 140 (.type "UnboundLocalError")), (Hz.en P "UnicodeError" 141 (.type "UnicodeError")), (Hz.en P "BrokenPipeError" 142 (.type "BrokenPipeError")), (Hz.en P "ConnectionAbortedError" 143 (.type "ConnectionAbortedError")), (Hz.en P "ConnectionRefusedError" 144 (.type "ConnectionRefusedError")), (Hz.en P "ConnectionResetError" 145 (.type "ConnectionResetError")), (Hz.en P "TabError" 146 (.type "TabError")), (Hz.en P "UnicodeDecodeError" 147 (.type "UnicodeDecodeError")), (Hz.en P "UnicodeEncodeError" 148 (.type "UnicodeEncodeError")), (Hz.en P "UnicodeTranslateError" 149 (.type "UnicodeTranslateError")), (Hz.en P "ExceptionGroup" 150 (.type "ExceptionGroup")), (Hz.en P "EnvironmentError" 151 (.type "OSError")), (Hz.en P "IOError" 152 (.type "OSError")), (Hz.en P "open" 153 (.builtin "open")), (Hz.en P "quit" 154 (.builtin "builtins.quit#opaque")), (Hz.en P "exit" 155 (.builtin "builtins.exit#opaque")), (Hz.en P "copyright" 156 (.builtin "builtins.copyright#opaque")), (Hz.en P "credits" 157 (.builtin "builtins.credits#opaque")), (Hz.en P "license" 158 (.builtin "builtins.license#opaque")), (Hz.en P "help" 159 (.builtin "builtins.help#opaque"))] 159), #[]⟩
def zo1 (P : Params) : Obj := ⟨(.type "dict"), none, (.dict #[(Hz.en P "builtins" 162 (.ref 4)), (Hz.en P "__main__" 163 (.ref 5)), (Hz.en P "math" 284 (.ref 13))] 3), #[]⟩
def zo2 (P : Params) : Obj := ⟨.none, none, (.dict #[(Hz.en P "\x69mport.loaded.math" 185 (.bool true)), (Hz.en P "class._frozen_importlib_external._LoaderBasics" 190 (.ref 16)), (Hz.en P "watched.\x69mport" 206 (.ref 20)), (Hz.en P "class._frozen_importlib_external.FileLoader" 207 (.ref 22)), (Hz.en P "class._frozen_importlib_external.ExtensionFileLoader" 228 (.ref 27)), (Hz.en P "class._frozen_importlib.ModuleSpec" 256 (.ref 33)), (Hz.en P "sys.modules.booked-epoch" 285 (.int 3 0)), (Hz.en P "\x69mport.later-laid.math" 361 (.bool true)), (Hz.en P "watched.library" 363 (.ref 38)), (Hz.en P "watched.library-objects" 0 (.str ⟨#[13]⟩ 0))] 10), #[]⟩
def zo3 (P : Params) : Obj := ⟨(.type "dict"), none, (.dict #[(Hz.en P "__name__" 165 (.str (Hz.t "__main__") 164)), (Hz.en P "__doc__" 166 .none), (Hz.en P "__package__" 167 .none), (Hz.en P "__loader__" 168 (.builtin "__main__.__loader__#opaque")), (Hz.en P "__spec__" 169 .none), (Hz.en P "__annotations__" 170 (.ref 6)), (Hz.en P "__builtins__" 171 (.ref 4)), (Hz.en P "__file__" 173 (.str (Hz.t "/claim/cut.py") 172)), (Hz.en P "__cached__" 174 .none), (Hz.en P "gcd" 369 (.builtin "math.gcd"))] 10), #[]⟩
def zo4 (P : Params) : Obj := ⟨(.type "module"), (some 0), .plain, #[]⟩
def zo5 (P : Params) : Obj := ⟨(.type "module"), (some 3), .plain, #[]⟩
def zo6 (P : Params) : Obj := ⟨(.type "dict"), none, (.dict #[] 0), #[]⟩
def zo7 (P : Params) : Obj := ⟨(.type "tuple"), none, (.seq #[] 0), #[]⟩
def zo8 (P : Params) : Obj := ⟨.none, none, (.fields #[]), #[]⟩
def zo9 (P : Params) : Obj := ⟨(.type "code"), none, (.fields #[(.str (Hz.t "<module>") 176), (.str (Hz.t "<module>") 177), (.str (Hz.t "/claim/cut.py") 178), (.int 1 0), (.int 0 0), (.int 0 0), (.int 0 0), (.int 0 0), (.ref 7), (.bool false), (.int 175 0), (.ref 8), .none, .none, .none, .none, (.int 179 0), (.int 1 0), (.str (Hz.t "/claim/cut.py") 180)]), #[]⟩
def zo10 (P : Params) : Obj := ⟨(.type "frame"), none, .plain, #[(some (.ref 9)), (some (.ref 3)), (some (.ref 3)), none, (some (.str (Hz.t "__main__") 164)), none, (some (.ref 0))]⟩
def zo11 (P : Params) : Obj := ⟨(.type "tuple"), none, (.seq #[(.str (Hz.t "gcd") 182)] 0), #[]⟩
def zo12 (P : Params) : Obj := ⟨(.type "dict"), none, (.dict #[(Hz.en P "__name__" 287 (.str (Hz.t "math") 286)), (Hz.en P "__doc__" 288 (.builtin "off-the-table:math.__doc__:shared#opaque")), (Hz.en P "__package__" 290 (.str (Hz.t "") 289)), (Hz.en P "__loader__" 291 (.builtin "off-the-table:math.__loader__:shared#opaque")), (Hz.en P "__spec__" 292 (.builtin "off-the-table:math.__spec__:shared#opaque")), (Hz.en P "acos" 293 (.builtin "off-the-table:math.acos:shared#opaque")), (Hz.en P "acosh" 294 (.builtin "off-the-table:math.acosh:shared#opaque")), (Hz.en P "asin" 295 (.builtin "off-the-table:math.asin:shared#opaque")), (Hz.en P "asinh" 296 (.builtin "off-the-table:math.asinh:shared#opaque")), (Hz.en P "atan" 297 (.builtin "off-the-table:math.atan:shared#opaque")), (Hz.en P "atan2" 298 (.builtin "off-the-table:math.atan2:shared#opaque")), (Hz.en P "atanh" 299 (.builtin "off-the-table:math.atanh:shared#opaque")), (Hz.en P "cbrt" 300 (.builtin "off-the-table:math.cbrt:shared#opaque")), (Hz.en P "ceil" 301 (.builtin "math.ceil")), (Hz.en P "copysign" 302 (.builtin "math.copysign")), (Hz.en P "cos" 303 (.builtin "off-the-table:math.cos:shared#opaque")), (Hz.en P "cosh" 304 (.builtin "off-the-table:math.cosh:shared#opaque")), (Hz.en P "degrees" 305 (.builtin "math.degrees")), (Hz.en P "dist" 306 (.builtin "math.dist")), (Hz.en P "erf" 307 (.builtin "off-the-table:math.erf:shared#opaque")), (Hz.en P "erfc" 308 (.builtin "off-the-table:math.erfc:shared#opaque")), (Hz.en P "exp" 309 (.builtin "off-the-table:math.exp:shared#opaque")), (Hz.en P "exp2" 310 (.builtin "off-the-table:math.exp2:shared#opaque")), (Hz.en P "expm1" 311 (.builtin "off-the-table:math.expm1:shared#opaque")), (Hz.en P "fabs" 312 (.builtin "math.fabs")), (Hz.en P "factorial" 313 (.builtin "math.factorial")), (Hz.en P "floor" 314 (.builtin "math.floor")), (Hz.en P "fma" 315 (.builtin "math.fma")), (Hz.en P "fmod" 316 (.builtin "math.fmod")), (Hz.en P "frexp" 317 (.builtin "math.frexp")), (Hz.en P "fsum" 318 (.builtin "math.fsum")), (Hz.en P "gamma" 319 (.builtin "off-the-table:math.gamma:shared#opaque")), (Hz.en P "gcd" 320 (.builtin "math.gcd")), (Hz.en P "hypot" 321 (.builtin "math.hypot")), (Hz.en P "isclose" 322 (.builtin "math.isclose")), (Hz.en P "isfinite" 323 (.builtin "math.isfinite")), (Hz.en P "isinf" 324 (.builtin "math.isinf")), (Hz.en P "isnan" 325 (.builtin "math.isnan")), (Hz.en P "isqrt" 326 (.builtin "math.isqrt")), (Hz.en P "lcm" 327 (.builtin "math.lcm")), (Hz.en P "ldexp" 328 (.builtin "math.ldexp")), (Hz.en P "lgamma" 329 (.builtin "off-the-table:math.lgamma:shared#opaque")), (Hz.en P "log" 330 (.builtin "off-the-table:math.log:shared#opaque")), (Hz.en P "log1p" 331 (.builtin "off-the-table:math.log1p:shared#opaque")), (Hz.en P "log10" 332 (.builtin "off-the-table:math.log10:shared#opaque")), (Hz.en P "log2" 333 (.builtin "off-the-table:math.log2:shared#opaque")), (Hz.en P "modf" 334 (.builtin "math.modf")), (Hz.en P "pow" 335 (.builtin "off-the-table:math.pow:shared#opaque")), (Hz.en P "radians" 336 (.builtin "math.radians")), (Hz.en P "remainder" 337 (.builtin "math.remainder")), (Hz.en P "sin" 338 (.builtin "off-the-table:math.sin:shared#opaque")), (Hz.en P "sinh" 339 (.builtin "off-the-table:math.sinh:shared#opaque")), (Hz.en P "sqrt" 340 (.builtin "math.sqrt")), (Hz.en P "tan" 341 (.builtin "off-the-table:math.tan:shared#opaque")), (Hz.en P "tanh" 342 (.builtin "off-the-table:math.tanh:shared#opaque")), (Hz.en P "sumprod" 343 (.builtin "math.sumprod")), (Hz.en P "trunc" 344 (.builtin "math.trunc")), (Hz.en P "prod" 345 (.builtin "math.prod")), (Hz.en P "perm" 346 (.builtin "math.perm")), (Hz.en P "comb" 347 (.builtin "math.comb")), (Hz.en P "nextafter" 348 (.builtin "math.nextafter")), (Hz.en P "ulp" 349 (.builtin "math.ulp")), (Hz.en P "__file__" 350 (.str ⟨#[47, 110, 105, 120, 47, 115, 116, 111, 114, 101, 47, 119, 106, 49, 102, 53, 54, 113, 107, 121, 52, 112, 109, 106, 99, 55, 108, 48, 114, 54, 98, 54, 108, 55, 119, 104, 110, 110, 119, 55, 104, 112, 54, 45, 112, 121, 116, 104, 111, 110, 51, 45, 51, 46, 49, 51, 46, 49, 53, 47, 108, 105, 98, 47, 112, 121, 116, 104, 111, 110, 51, 46, 49, 51, 47, 108, 105, 98, 45, 100, 121, 110, 108, 111, 97, 100, 47, 109, 97, 116, 104, 46, 99, 112, 121, 116, 104, 111, 110, 45, 51, 49, 51, 45, 120, 56, 54, 95, 54, 52, 45, 108, 105, 110, 117, 120, 45, 103, 110, 117, 46, 115, 111]⟩ 186)), (Hz.en P "pi" 352 (.float 4614256656552045848 351)), (Hz.en P "e" 354 (.float 4613303445314885481 353)), (Hz.en P "tau" 356 (.float 4618760256179416344 355)), (Hz.en P "inf" 358 (.float 9218868437227405312 357)), (Hz.en P "nan" 360 (.float 9221120237041090560 359))] 68), #[]⟩
def zo13 (P : Params) : Obj := ⟨(.type "module"), (some 12), .plain, #[]⟩
def zo14 (P : Params) : Obj := ⟨(.type "dict"), none, (.dict #[(Hz.en P "name" 188 (.str (Hz.t "math") 187)), (Hz.en P "path" 189 (.str ⟨#[47, 110, 105, 120, 47, 115, 116, 111, 114, 101, 47, 119, 106, 49, 102, 53, 54, 113, 107, 121, 52, 112, 109, 106, 99, 55, 108, 48, 114, 54, 98, 54, 108, 55, 119, 104, 110, 110, 119, 55, 104, 112, 54, 45, 112, 121, 116, 104, 111, 110, 51, 45, 51, 46, 49, 51, 46, 49, 53, 47, 108, 105, 98, 47, 112, 121, 116, 104, 111, 110, 51, 46, 49, 51, 47, 108, 105, 98, 45, 100, 121, 110, 108, 111, 97, 100, 47, 109, 97, 116, 104, 46, 99, 112, 121, 116, 104, 111, 110, 45, 51, 49, 51, 45, 120, 56, 54, 95, 54, 52, 45, 108, 105, 110, 117, 120, 45, 103, 110, 117, 46, 115, 111]⟩ 186))] 2), #[]⟩
def zo15 (P : Params) : Obj := ⟨(.type "dict"), none, (.dict #[(Hz.en P "__module__" 193 (.str (Hz.t "_frozen_importlib_external") 191)), (Hz.en P "__firstlineno__" 194 (.int 1001 192)), (Hz.en P "__doc__" 195 (.builtin "_frozen_importlib_external._LoaderBasics.__doc__:str#opaque")), (Hz.en P "is_package" 196 (.builtin "_frozen_importlib_external._LoaderBasics.is_package#opaque")), (Hz.en P "create_module" 197 (.builtin "_frozen_importlib_external._LoaderBasics.create_module#opaque")), (Hz.en P "exec_module" 198 (.builtin "_frozen_importlib_external._LoaderBasics.exec_module#opaque")), (Hz.en P "load_module" 199 (.builtin "_frozen_importlib_external._LoaderBasics.load_module#opaque")), (Hz.en P "__static_attributes__" 200 (.ref 17)), (Hz.en P "__dict__" 202 (.ref 18)), (Hz.en P "__weakref__" 204 (.ref 19))] 10), #[]⟩
def zo16 (P : Params) : Obj := ⟨(.type "type"), none, (.cls ⟨(Hz.t "_LoaderBasics"), [(.type "object")], [(.ref 16), (.type "object")], 15, (Hz.t "_LoaderBasics"), true, [], [(.ref 27)], false, none, false⟩), #[]⟩
def zo17 (P : Params) : Obj := ⟨(.type "tuple"), none, (.seq #[] 0), #[]⟩
def zo18 (P : Params) : Obj := ⟨(.type "getset_descriptor"), none, (.fields #[(.str (Hz.t "__dict__") 201), (.ref 16), (.builtin "function.__dict__"), (.builtin "function.__dict__#set")]), #[]⟩
def zo19 (P : Params) : Obj := ⟨(.type "getset_descriptor"), none, (.fields #[(.str (Hz.t "__weakref__") 203), (.ref 16), (.builtin "ExceptionGroup.__weakref__"), .none]), #[]⟩
def zo20 (P : Params) : Obj := ⟨.none, none, (.seq #[(.int 15 0), (.str ⟨#[6, 193, 10, 95, 95, 109, 111, 100, 117, 108, 101, 95, 95, 6, 191, 26, 95, 102, 114, 111, 122, 101, 110, 95, 105, 109, 112, 111, 114, 116, 108, 105, 98, 95, 101, 120, 116, 101, 114, 110, 97, 108, 6, 194, 15, 95, 95, 102, 105, 114, 115, 116, 108, 105, 110, 101, 110, 111, 95, 95, 4, 192, 0, 1001, 6, 195, 7, 95, 95, 100, 111, 99, 95, 95, 9, 59, 95, 102, 114, 111, 122, 101, 110, 95, 105, 109, 112, 111, 114, 116, 108, 105, 98, 95, 101, 120, 116, 101, 114, 110, 97, 108, 46, 95, 76, 111, 97, 100, 101, 114, 66, 97, 115, 105, 99, 115, 46, 95, 95, 100, 111, 99, 95, 95, 58, 115, 116, 114, 35, 111, 112, 97, 113, 117, 101, 6, 196, 10, 105, 115, 95, 112, 97, 99, 107, 97, 103, 101, 9, 58, 95, 102, 114, 111, 122, 101, 110, 95, 105, 109, 112, 111, 114, 116, 108, 105, 98, 95, 101, 120, 116, 101, 114, 110, 97, 108, 46, 95, 76, 111, 97, 100, 101, 114, 66, 97, 115, 105, 99, 115, 46, 105, 115, 95, 112, 97, 99, 107, 97, 103, 101, 35, 111, 112, 97, 113, 117, 101, 6, 197, 13, 99, 114, 101, 97, 116, 101, 95, 109, 111, 100, 117, 108, 101, 9, 61, 95, 102, 114, 111, 122, 101, 110, 95, 105, 109, 112, 111, 114, 116, 108, 105, 98, 95, 101, 120, 116, 101, 114, 110, 97, 108, 46, 95, 76, 111, 97, 100, 101, 114, 66, 97, 115, 105, 99, 115, 46, 99, 114, 101, 97, 116, 101, 95, 109, 111, 100, 117, 108, 101, 35, 111, 112, 97, 113, 117, 101, 6, 198, 11, 101, 120, 101, 99, 95, 109, 111, 100, 117, 108, 101, 9, 59, 95, 102, 114, 111, 122, 101, 110, 95, 105, 109, 112, 111, 114, 116, 108, 105, 98, 95, 101, 120, 116, 101, 114, 110, 97, 108, 46, 95, 76, 111, 97, 100, 101, 114, 66, 97, 115, 105, 99, 115, 46, 101, 120, 101, 99, 95, 109, 111, 100, 117, 108, 101, 35, 111, 112, 97, 113, 117, 101, 6, 199, 11, 108, 111, 97, 100, 95, 109, 111, 100, 117, 108, 101, 9, 59, 95, 102, 114, 111, 122, 101, 110, 95, 105, 109, 112, 111, 114, 116, 108, 105, 98, 95, 101, 120, 116, 101, 114, 110, 97, 108, 46, 95, 76, 111, 97, 100, 101, 114, 66, 97, 115, 105, 99, 115, 46, 108, 111, 97, 100, 95, 109, 111, 100, 117, 108, 101, 35, 111, 112, 97, 113, 117, 101, 6, 200, 21, 95, 95, 115, 116, 97, 116, 105, 99, 95, 97, 116, 116, 114, 105, 98, 117, 116, 101, 115, 95, 95, 4, 0, 0, 17, 6, 202, 8, 95, 95, 100, 105, 99, 116, 95, 95, 4, 0, 0, 18, 6, 204, 11, 95, 95, 119, 101, 97, 107, 114, 101, 102, 95, 95, 4, 0, 0, 19]⟩ 0), (.bool true), (.bool true), (.str (Hz.t "") 205), (.int 21 0), (.str ⟨#[6, 212, 10, 95, 95, 109, 111, 100, 117, 108, 101, 95, 95, 6, 208, 26, 95, 102, 114, 111, 122, 101, 110, 95, 105, 109, 112, 111, 114, 116, 108, 105, 98, 95, 101, 120, 116, 101, 114, 110, 97, 108, 6, 213, 15, 95, 95, 102, 105, 114, 115, 116, 108, 105, 110, 101, 110, 111, 95, 95, 4, 209, 0, 1176, 6, 214, 7, 95, 95, 100, 111, 99, 95, 95, 9, 56, 95, 102, 114, 111, 122, 101, 110, 95, 105, 109, 112, 111, 114, 116, 108, 105, 98, 95, 101, 120, 116, 101, 114, 110, 97, 108, 46, 70, 105, 108, 101, 76, 111, 97, 100, 101, 114, 46, 95, 95, 100, 111, 99, 95, 95, 58, 115, 116, 114, 35, 111, 112, 97, 113, 117, 101, 6, 215, 8, 95, 95, 105, 110, 105, 116, 95, 95, 9, 53, 95, 102, 114, 111, 122, 101, 110, 95, 105, 109, 112, 111, 114, 116, 108, 105, 98, 95, 101, 120, 116, 101, 114, 110, 97, 108, 46, 70, 105, 108, 101, 76, 111, 97, 100, 101, 114, 46, 95, 95, 105, 110, 105, 116, 95, 95, 35, 111, 112, 97, 113, 117, 101, 6, 216, 6, 95, 95, 101, 113, 95, 95, 9, 51, 95, 102, 114, 111, 122, 101, 110, 95, 105, 109, 112, 111, 114, 116, 108, 105, 98, 95, 101, 120, 116, 101, 114, 110, 97, 108, 46, 70, 105, 108, 101, 76, 111, 97, 100, 101, 114, 46, 95, 95, 101, 113, 95, 95, 35, 111, 112, 97, 113, 117, 101, 6, 217, 8, 95, 95, 104, 97, 115, 104, 95, 95, 9, 53, 95, 102, 114, 111, 122, 101, 110, 95, 105, 109, 112, 111, 114, 116, 108, 105, 98, 95, 101, 120, 116, 101, 114, 110, 97, 108, 46, 70, 105, 108, 101, 76, 111, 97, 100, 101, 114, 46, 95, 95, 104, 97, 115, 104, 95, 95, 35, 111, 112, 97, 113, 117, 101, 6, 218, 11, 108, 111, 97, 100, 95, 109, 111, 100, 117, 108, 101, 9, 56, 95, 102, 114, 111, 122, 101, 110, 95, 105, 109, 112, 111, 114, 116, 108, 105, 98, 95, 101, 120, 116, 101, 114, 110, 97, 108, 46, 70, 105, 108, 101, 76, 111, 97, 100, 101, 114, 46, 108, 111, 97, 100, 95, 109, 111, 100, 117, 108, 101, 35, 111, 112, 97, 113, 117, 101, 6, 219, 12, 103, 101, 116, 95, 102, 105, 108, 101, 110, 97, 109, 101, 9, 57, 95, 102, 114, 111, 122, 101, 110, 95, 105, 109, 112, 111, 114, 116, 108, 105, 98, 95, 101, 120, 116, 101, 114, 110, 97, 108, 46, 70, 105, 108, 101, 76, 111, 97, 100, 101, 114, 46, 103, 101, 116, 95, 102, 105, 108, 101, 110, 97, 109, 101, 35, 111, 112, 97, 113, 117, 101, 6, 220, 8, 103, 101, 116, 95, 100, 97, 116, 97, 9, 53, 95, 102, 114, 111, 122, 101, 110, 95, 105, 109, 112, 111, 114, 116, 108, 105, 98, 95, 101, 120, 116, 101, 114, 110, 97, 108, 46, 70, 105, 108, 101, 76, 111, 97, 100, 101, 114, 46, 103, 101, 116, 95, 100, 97, 116, 97, 35, 111, 112, 97, 113, 117, 101, 6, 221, 19, 103, 101, 116, 95, 114, 101, 115, 111, 117, 114, 99, 101, 95, 114, 101, 97, 100, 101, 114, 9, 64, 95, 102, 114, 111, 122, 101, 110, 95, 105, 109, 112, 111, 114, 116, 108, 105, 98, 95, 101, 120, 116, 101, 114, 110, 97, 108, 46, 70, 105, 108, 101, 76, 111, 97, 100, 101, 114, 46, 103, 101, 116, 95, 114, 101, 115, 111, 117, 114, 99, 101, 95, 114, 101, 97, 100, 101, 114, 35, 111, 112, 97, 113, 117, 101, 6, 222, 21, 95, 95, 115, 116, 97, 116, 105, 99, 95, 97, 116, 116, 114, 105, 98, 117, 116, 101, 115, 95, 95, 4, 0, 0, 23, 6, 224, 8, 95, 95, 100, 105, 99, 116, 95, 95, 4, 0, 0, 24, 6, 226, 11, 95, 95, 119, 101, 97, 107, 114, 101, 102, 95, 95, 4, 0, 0, 25]⟩ 0), (.bool true), (.bool true), (.str (Hz.t "") 227), (.int 26 0), (.str ⟨#[6, 233, 10, 95, 95, 109, 111, 100, 117, 108, 101, 95, 95, 6, 229, 26, 95, 102, 114, 111, 122, 101, 110, 95, 105, 109, 112, 111, 114, 116, 108, 105, 98, 95, 101, 120, 116, 101, 114, 110, 97, 108, 6, 234, 15, 95, 95, 102, 105, 114, 115, 116, 108, 105, 110, 101, 110, 111, 95, 95, 4, 230, 0, 1296, 6, 235, 7, 95, 95, 100, 111, 99, 95, 95, 9, 65, 95, 102, 114, 111, 122, 101, 110, 95, 105, 109, 112, 111, 114, 116, 108, 105, 98, 95, 101, 120, 116, 101, 114, 110, 97, 108, 46, 69, 120, 116, 101, 110, 115, 105, 111, 110, 70, 105, 108, 101, 76, 111, 97, 100, 101, 114, 46, 95, 95, 100, 111, 99, 95, 95, 58, 115, 116, 114, 35, 111, 112, 97, 113, 117, 101, 6, 236, 8, 95, 95, 105, 110, 105, 116, 95, 95, 9, 62, 95, 102, 114, 111, 122, 101, 110, 95, 105, 109, 112, 111, 114, 116, 108, 105, 98, 95, 101, 120, 116, 101, 114, 110, 97, 108, 46, 69, 120, 116, 101, 110, 115, 105, 111, 110, 70, 105, 108, 101, 76, 111, 97, 100, 101, 114, 46, 95, 95, 105, 110, 105, 116, 95, 95, 35, 111, 112, 97, 113, 117, 101, 6, 237, 6, 95, 95, 101, 113, 95, 95, 9, 60, 95, 102, 114, 111, 122, 101, 110, 95, 105, 109, 112, 111, 114, 116, 108, 105, 98, 95, 101, 120, 116, 101, 114, 110, 97, 108, 46, 69, 120, 116, 101, 110, 115, 105, 111, 110, 70, 105, 108, 101, 76, 111, 97, 100, 101, 114, 46, 95, 95, 101, 113, 95, 95, 35, 111, 112, 97, 113, 117, 101, 6, 238, 8, 95, 95, 104, 97, 115, 104, 95, 95, 9, 62, 95, 102, 114, 111, 122, 101, 110, 95, 105, 109, 112, 111, 114, 116, 108, 105, 98, 95, 101, 120, 116, 101, 114, 110, 97, 108, 46, 69, 120, 116, 101, 110, 115, 105, 111, 110, 70, 105, 108, 101, 76, 111, 97, 100, 101, 114, 46, 95, 95, 104, 97, 115, 104, 95, 95, 35, 111, 112, 97, 113, 117, 101, 6, 239, 13, 99, 114, 101, 97, 116, 101, 95, 109, 111, 100, 117, 108, 101, 9, 67, 95, 102, 114, 111, 122, 101, 110, 95, 105, 109, 112, 111, 114, 116, 108, 105, 98, 95, 101, 120, 116, 101, 114, 110, 97, 108, 46, 69, 120, 116, 101, 110, 115, 105, 111, 110, 70, 105, 108, 101, 76, 111, 97, 100, 101, 114, 46, 99, 114, 101, 97, 116, 101, 95, 109, 111, 100, 117, 108, 101, 35, 111, 112, 97, 113, 117, 101, 6, 240, 11, 101, 120, 101, 99, 95, 109, 111, 100, 117, 108, 101, 9, 65, 95, 102, 114, 111, 122, 101, 110, 95, 105, 109, 112, 111, 114, 116, 108, 105, 98, 95, 101, 120, 116, 101, 114, 110, 97, 108, 46, 69, 120, 116, 101, 110, 115, 105, 111, 110, 70, 105, 108, 101, 76, 111, 97, 100, 101, 114, 46, 101, 120, 101, 99, 95, 109, 111, 100, 117, 108, 101, 35, 111, 112, 97, 113, 117, 101, 6, 241, 10, 105, 115, 95, 112, 97, 99, 107, 97, 103, 101, 9, 64, 95, 102, 114, 111, 122, 101, 110, 95, 105, 109, 112, 111, 114, 116, 108, 105, 98, 95, 101, 120, 116, 101, 114, 110, 97, 108, 46, 69, 120, 116, 101, 110, 115, 105, 111, 110, 70, 105, 108, 101, 76, 111, 97, 100, 101, 114, 46, 105, 115, 95, 112, 97, 99, 107, 97, 103, 101, 35, 111, 112, 97, 113, 117, 101, 6, 242, 8, 103, 101, 116, 95, 99, 111, 100, 101, 9, 62, 95, 102, 114, 111, 122, 101, 110, 95, 105, 109, 112, 111, 114, 116, 108, 105, 98, 95, 101, 120, 116, 101, 114, 110, 97, 108, 46, 69, 120, 116, 101, 110, 115, 105, 111, 110, 70, 105, 108, 101, 76, 111, 97, 100, 101, 114, 46, 103, 101, 116, 95, 99, 111, 100, 101, 35, 111, 112, 97, 113, 117, 101, 6, 243, 10, 103, 101, 116, 95, 115, 111, 117, 114, 99, 101, 9, 64, 95, 102, 114, 111, 122, 101, 110, 95, 105, 109, 112, 111, 114, 116, 108, 105, 98, 95, 101, 120, 116, 101, 114, 110, 97, 108, 46, 69, 120, 116, 101, 110, 115, 105, 111, 110, 70, 105, 108, 101, 76, 111, 97, 100, 101, 114, 46, 103, 101, 116, 95, 115, 111, 117, 114, 99, 101, 35, 111, 112, 97, 113, 117, 101, 6, 244, 12, 103, 101, 116, 95, 102, 105, 108, 101, 110, 97, 109, 101, 9, 66, 95, 102, 114, 111, 122, 101, 110, 95, 105, 109, 112, 111, 114, 116, 108, 105, 98, 95, 101, 120, 116, 101, 114, 110, 97, 108, 46, 69, 120, 116, 101, 110, 115, 105, 111, 110, 70, 105, 108, 101, 76, 111, 97, 100, 101, 114, 46, 103, 101, 116, 95, 102, 105, 108, 101, 110, 97, 109, 101, 35, 111, 112, 97, 113, 117, 101, 6, 245, 21, 95, 95, 115, 116, 97, 116, 105, 99, 95, 97, 116, 116, 114, 105, 98, 117, 116, 101, 115, 95, 95, 4, 0, 0, 28]⟩ 0), (.bool true), (.bool true), (.str (Hz.t "") 246), (.int 32 0), (.str ⟨#[6, 267, 10, 95, 95, 109, 111, 100, 117, 108, 101, 95, 95, 6, 257, 17, 95, 102, 114, 111, 122, 101, 110, 95, 105, 109, 112, 111, 114, 116, 108, 105, 98, 6, 268, 15, 95, 95, 102, 105, 114, 115, 116, 108, 105, 110, 101, 110, 111, 95, 95, 4, 258, 0, 562, 6, 269, 7, 95, 95, 100, 111, 99, 95, 95, 9, 47, 95, 102, 114, 111, 122, 101, 110, 95, 105, 109, 112, 111, 114, 116, 108, 105, 98, 46, 77, 111, 100, 117, 108, 101, 83, 112, 101, 99, 46, 95, 95, 100, 111, 99, 95, 95, 58, 115, 116, 114, 35, 111, 112, 97, 113, 117, 101, 6, 270, 8, 95, 95, 105, 110, 105, 116, 95, 95, 9, 44, 95, 102, 114, 111, 122, 101, 110, 95, 105, 109, 112, 111, 114, 116, 108, 105, 98, 46, 77, 111, 100, 117, 108, 101, 83, 112, 101, 99, 46, 95, 95, 105, 110, 105, 116, 95, 95, 35, 111, 112, 97, 113, 117, 101, 6, 271, 8, 95, 95, 114, 101, 112, 114, 95, 95, 9, 44, 95, 102, 114, 111, 122, 101, 110, 95, 105, 109, 112, 111, 114, 116, 108, 105, 98, 46, 77, 111, 100, 117, 108, 101, 83, 112, 101, 99, 46, 95, 95, 114, 101, 112, 114, 95, 95, 35, 111, 112, 97, 113, 117, 101, 6, 272, 6, 95, 95, 101, 113, 95, 95, 9, 42, 95, 102, 114, 111, 122, 101, 110, 95, 105, 109, 112, 111, 114, 116, 108, 105, 98, 46, 77, 111, 100, 117, 108, 101, 83, 112, 101, 99, 46, 95, 95, 101, 113, 95, 95, 35, 111, 112, 97, 113, 117, 101, 6, 273, 6, 99, 97, 99, 104, 101, 100, 9, 42, 95, 102, 114, 111, 122, 101, 110, 95, 105, 109, 112, 111, 114, 116, 108, 105, 98, 46, 77, 111, 100, 117, 108, 101, 83, 112, 101, 99, 46, 99, 97, 99, 104, 101, 100, 35, 111, 112, 97, 113, 117, 101, 6, 274, 6, 112, 97, 114, 101, 110, 116, 9, 42, 95, 102, 114, 111, 122, 101, 110, 95, 105, 109, 112, 111, 114, 116, 108, 105, 98, 46, 77, 111, 100, 117, 108, 101, 83, 112, 101, 99, 46, 112, 97, 114, 101, 110, 116, 35, 111, 112, 97, 113, 117, 101, 6, 275, 12, 104, 97, 115, 95, 108, 111, 99, 97, 116, 105, 111, 110, 9, 48, 95, 102, 114, 111, 122, 101, 110, 95, 105, 109, 112, 111, 114, 116, 108, 105, 98, 46, 77, 111, 100, 117, 108, 101, 83, 112, 101, 99, 46, 104, 97, 115, 95, 108, 111, 99, 97, 116, 105, 111, 110, 35, 111, 112, 97, 113, 117, 101, 6, 276, 21, 95, 95, 115, 116, 97, 116, 105, 99, 95, 97, 116, 116, 114, 105, 98, 117, 116, 101, 115, 95, 95, 4, 0, 0, 34, 6, 278, 8, 95, 95, 100, 105, 99, 116, 95, 95, 4, 0, 0, 35, 6, 280, 11, 95, 95, 119, 101, 97, 107, 114, 101, 102, 95, 95, 4, 0, 0, 36, 6, 281, 8, 95, 95, 104, 97, 115, 104, 95, 95, 0]⟩ 0), (.bool true), (.bool true), (.str (Hz.t "") 282)] 3), #[]⟩
def zo21 (P : Params) : Obj := ⟨(.type "dict"), none, (.dict #[(Hz.en P "__module__" 212 (.str (Hz.t "_frozen_importlib_external") 208)), (Hz.en P "__firstlineno__" 213 (.int 1176 209)), (Hz.en P "__doc__" 214 (.builtin "_frozen_importlib_external.FileLoader.__doc__:str#opaque")), (Hz.en P "__init__" 215 (.builtin "_frozen_importlib_external.FileLoader.__init__#opaque")), (Hz.en P "__eq__" 216 (.builtin "_frozen_importlib_external.FileLoader.__eq__#opaque")), (Hz.en P "__hash__" 217 (.builtin "_frozen_importlib_external.FileLoader.__hash__#opaque")), (Hz.en P "load_module" 218 (.builtin "_frozen_importlib_external.FileLoader.load_module#opaque")), (Hz.en P "get_filename" 219 (.builtin "_frozen_importlib_external.FileLoader.get_filename#opaque")), (Hz.en P "get_data" 220 (.builtin "_frozen_importlib_external.FileLoader.get_data#opaque")), (Hz.en P "get_resource_reader" 221 (.builtin "_frozen_importlib_external.FileLoader.get_resource_reader#opaque")), (Hz.en P "__static_attributes__" 222 (.ref 23)), (Hz.en P "__dict__" 224 (.ref 24)), (Hz.en P "__weakref__" 226 (.ref 25))] 13), #[]⟩
def zo22 (P : Params) : Obj := ⟨(.type "type"), none, (.cls ⟨(Hz.t "FileLoader"), [(.type "object")], [(.ref 22), (.type "object")], 21, (Hz.t "FileLoader"), true, [], [(.ref 27)], false, none, false⟩), #[]⟩
def zo23 (P : Params) : Obj := ⟨(.type "tuple"), none, (.seq #[(.str (Hz.t "name") 210), (.str (Hz.t "path") 211)] 0), #[]⟩
def zo24 (P : Params) : Obj := ⟨(.type "getset_descriptor"), none, (.fields #[(.str (Hz.t "__dict__") 223), (.ref 22), (.builtin "function.__dict__"), (.builtin "function.__dict__#set")]), #[]⟩
def zo25 (P : Params) : Obj := ⟨(.type "getset_descriptor"), none, (.fields #[(.str (Hz.t "__weakref__") 225), (.ref 22), (.builtin "ExceptionGroup.__weakref__"), .none]), #[]⟩
def zo26 (P : Params) : Obj := ⟨(.type "dict"), none, (.dict #[(Hz.en P "__module__" 233 (.str (Hz.t "_frozen_importlib_external") 229)), (Hz.en P "__firstlineno__" 234 (.int 1296 230)), (Hz.en P "__doc__" 235 (.builtin "_frozen_importlib_external.ExtensionFileLoader.__doc__:str#opaque")), (Hz.en P "__init__" 236 (.builtin "_frozen_importlib_external.ExtensionFileLoader.__init__#opaque")), (Hz.en P "__eq__" 237 (.builtin "_frozen_importlib_external.ExtensionFileLoader.__eq__#opaque")), (Hz.en P "__hash__" 238 (.builtin "_frozen_importlib_external.ExtensionFileLoader.__hash__#opaque")), (Hz.en P "create_module" 239 (.builtin "_frozen_importlib_external.ExtensionFileLoader.create_module#opaque")), (Hz.en P "exec_module" 240 (.builtin "_frozen_importlib_external.ExtensionFileLoader.exec_module#opaque")), (Hz.en P "is_package" 241 (.builtin "_frozen_importlib_external.ExtensionFileLoader.is_package#opaque")), (Hz.en P "get_code" 242 (.builtin "_frozen_importlib_external.ExtensionFileLoader.get_code#opaque")), (Hz.en P "get_source" 243 (.builtin "_frozen_importlib_external.ExtensionFileLoader.get_source#opaque")), (Hz.en P "get_filename" 244 (.builtin "_frozen_importlib_external.ExtensionFileLoader.get_filename#opaque")), (Hz.en P "__static_attributes__" 245 (.ref 28))] 13), #[]⟩
def zo27 (P : Params) : Obj := ⟨(.type "type"), none, (.cls ⟨(Hz.t "ExtensionFileLoader"), [(.ref 22), (.ref 16)], [(.ref 27), (.ref 22), (.ref 16), (.type "object")], 26, (Hz.t "ExtensionFileLoader"), true, [], [], false, none, false⟩), #[]⟩
def zo28 (P : Params) : Obj := ⟨(.type "tuple"), none, (.seq #[(.str (Hz.t "name") 231), (.str (Hz.t "path") 232)] 0), #[]⟩
def zo29 (P : Params) : Obj := ⟨(.ref 27), (some 14), .plain, #[]⟩
def zo30 (P : Params) : Obj := ⟨(.type "list"), none, (.seq #[] 0), #[]⟩
def zo31 (P : Params) : Obj := ⟨(.type "dict"), none, (.dict #[(Hz.en P "name" 248 (.str (Hz.t "math") 247)), (Hz.en P "loader" 249 (.ref 29)), (Hz.en P "origin" 250 (.str ⟨#[47, 110, 105, 120, 47, 115, 116, 111, 114, 101, 47, 119, 106, 49, 102, 53, 54, 113, 107, 121, 52, 112, 109, 106, 99, 55, 108, 48, 114, 54, 98, 54, 108, 55, 119, 104, 110, 110, 119, 55, 104, 112, 54, 45, 112, 121, 116, 104, 111, 110, 51, 45, 51, 46, 49, 51, 46, 49, 53, 47, 108, 105, 98, 47, 112, 121, 116, 104, 111, 110, 51, 46, 49, 51, 47, 108, 105, 98, 45, 100, 121, 110, 108, 111, 97, 100, 47, 109, 97, 116, 104, 46, 99, 112, 121, 116, 104, 111, 110, 45, 51, 49, 51, 45, 120, 56, 54, 95, 54, 52, 45, 108, 105, 110, 117, 120, 45, 103, 110, 117, 46, 115, 111]⟩ 186)), (Hz.en P "loader_state" 251 .none), (Hz.en P "submodule_search_locations" 252 .none), (Hz.en P "_uninitialized_submodules" 253 (.ref 30)), (Hz.en P "_set_fileattr" 254 (.bool true)), (Hz.en P "_cached" 255 .none), (Hz.en P "_initializing" 283 (.bool false))] 9), #[]⟩
def zo32 (P : Params) : Obj := ⟨(.type "dict"), none, (.dict #[(Hz.en P "__module__" 267 (.str (Hz.t "_frozen_importlib") 257)), (Hz.en P "__firstlineno__" 268 (.int 562 258)), (Hz.en P "__doc__" 269 (.builtin "_frozen_importlib.ModuleSpec.__doc__:str#opaque")), (Hz.en P "__init__" 270 (.builtin "_frozen_importlib.ModuleSpec.__init__#opaque")), (Hz.en P "__repr__" 271 (.builtin "_frozen_importlib.ModuleSpec.__repr__#opaque")), (Hz.en P "__eq__" 272 (.builtin "_frozen_importlib.ModuleSpec.__eq__#opaque")), (Hz.en P "cached" 273 (.builtin "_frozen_importlib.ModuleSpec.cached#opaque")), (Hz.en P "parent" 274 (.builtin "_frozen_importlib.ModuleSpec.parent#opaque")), (Hz.en P "has_location" 275 (.builtin "_frozen_importlib.ModuleSpec.has_location#opaque")), (Hz.en P "__static_attributes__" 276 (.ref 34)), (Hz.en P "__dict__" 278 (.ref 35)), (Hz.en P "__weakref__" 280 (.ref 36)), (Hz.en P "__hash__" 281 .none)] 13), #[]⟩
def zo33 (P : Params) : Obj := ⟨(.type "type"), none, (.cls ⟨(Hz.t "ModuleSpec"), [(.type "object")], [(.ref 33), (.type "object")], 32, (Hz.t "ModuleSpec"), true, [], [], false, none, false⟩), #[]⟩
def zo34 (P : Params) : Obj := ⟨(.type "tuple"), none, (.seq #[(.str (Hz.t "_cached") 259), (.str (Hz.t "_set_fileattr") 260), (.str (Hz.t "_uninitialized_submodules") 261), (.str (Hz.t "loader") 262), (.str (Hz.t "loader_state") 263), (.str (Hz.t "name") 264), (.str (Hz.t "origin") 265), (.str (Hz.t "submodule_search_locations") 266)] 0), #[]⟩
def zo35 (P : Params) : Obj := ⟨(.type "getset_descriptor"), none, (.fields #[(.str (Hz.t "__dict__") 277), (.ref 33), (.builtin "function.__dict__"), (.builtin "function.__dict__#set")]), #[]⟩
def zo36 (P : Params) : Obj := ⟨(.type "getset_descriptor"), none, (.fields #[(.str (Hz.t "__weakref__") 279), (.ref 33), (.builtin "ExceptionGroup.__weakref__"), .none]), #[]⟩
def zo37 (P : Params) : Obj := ⟨(.ref 33), (some 31), .plain, #[]⟩
def zo38 (P : Params) : Obj := ⟨.none, none, (.seq #[(.int 12 0), (.str ⟨#[6, 287, 8, 95, 95, 110, 97, 109, 101, 95, 95, 6, 286, 4, 109, 97, 116, 104, 6, 288, 7, 95, 95, 100, 111, 99, 95, 95, 9, 23, 109, 97, 116, 104, 46, 95, 95, 100, 111, 99, 95, 95, 58, 115, 116, 114, 35, 111, 112, 97, 113, 117, 101, 6, 290, 11, 95, 95, 112, 97, 99, 107, 97, 103, 101, 95, 95, 6, 289, 0, 6, 291, 10, 95, 95, 108, 111, 97, 100, 101, 114, 95, 95, 4, 0, 0, 29, 6, 292, 8, 95, 95, 115, 112, 101, 99, 95, 95, 4, 0, 0, 37, 6, 293, 4, 97, 99, 111, 115, 9, 9, 109, 97, 116, 104, 46, 97, 99, 111, 115, 6, 294, 5, 97, 99, 111, 115, 104, 9, 10, 109, 97, 116, 104, 46, 97, 99, 111, 115, 104, 6, 295, 4, 97, 115, 105, 110, 9, 9, 109, 97, 116, 104, 46, 97, 115, 105, 110, 6, 296, 5, 97, 115, 105, 110, 104, 9, 10, 109, 97, 116, 104, 46, 97, 115, 105, 110, 104, 6, 297, 4, 97, 116, 97, 110, 9, 9, 109, 97, 116, 104, 46, 97, 116, 97, 110, 6, 298, 5, 97, 116, 97, 110, 50, 9, 10, 109, 97, 116, 104, 46, 97, 116, 97, 110, 50, 6, 299, 5, 97, 116, 97, 110, 104, 9, 10, 109, 97, 116, 104, 46, 97, 116, 97, 110, 104, 6, 300, 4, 99, 98, 114, 116, 9, 9, 109, 97, 116, 104, 46, 99, 98, 114, 116, 6, 301, 4, 99, 101, 105, 108, 9, 9, 109, 97, 116, 104, 46, 99, 101, 105, 108, 6, 302, 8, 99, 111, 112, 121, 115, 105, 103, 110, 9, 13, 109, 97, 116, 104, 46, 99, 111, 112, 121, 115, 105, 103, 110, 6, 303, 3, 99, 111, 115, 9, 8, 109, 97, 116, 104, 46, 99, 111, 115, 6, 304, 4, 99, 111, 115, 104, 9, 9, 109, 97, 116, 104, 46, 99, 111, 115, 104, 6, 305, 7, 100, 101, 103, 114, 101, 101, 115, 9, 12, 109, 97, 116, 104, 46, 100, 101, 103, 114, 101, 101, 115, 6, 306, 4, 100, 105, 115, 116, 9, 9, 109, 97, 116, 104, 46, 100, 105, 115, 116, 6, 307, 3, 101, 114, 102, 9, 8, 109, 97, 116, 104, 46, 101, 114, 102, 6, 308, 4, 101, 114, 102, 99, 9, 9, 109, 97, 116, 104, 46, 101, 114, 102, 99, 6, 309, 3, 101, 120, 112, 9, 8, 109, 97, 116, 104, 46, 101, 120, 112, 6, 310, 4, 101, 120, 112, 50, 9, 9, 109, 97, 116, 104, 46, 101, 120, 112, 50, 6, 311, 5, 101, 120, 112, 109, 49, 9, 10, 109, 97, 116, 104, 46, 101, 120, 112, 109, 49, 6, 312, 4, 102, 97, 98, 115, 9, 9, 109, 97, 116, 104, 46, 102, 97, 98, 115, 6, 313, 9, 102, 97, 99, 116, 111, 114, 105, 97, 108, 9, 14, 109, 97, 116, 104, 46, 102, 97, 99, 116, 111, 114, 105, 97, 108, 6, 314, 5, 102, 108, 111, 111, 114, 9, 10, 109, 97, 116, 104, 46, 102, 108, 111, 111, 114, 6, 315, 3, 102, 109, 97, 9, 8, 109, 97, 116, 104, 46, 102, 109, 97, 6, 316, 4, 102, 109, 111, 100, 9, 9, 109, 97, 116, 104, 46, 102, 109, 111, 100, 6, 317, 5, 102, 114, 101, 120, 112, 9, 10, 109, 97, 116, 104, 46, 102, 114, 101, 120, 112, 6, 318, 4, 102, 115, 117, 109, 9, 9, 109, 97, 116, 104, 46, 102, 115, 117, 109, 6, 319, 5, 103, 97, 109, 109, 97, 9, 10, 109, 97, 116, 104, 46, 103, 97, 109, 109, 97, 6, 320, 3, 103, 99, 100, 9, 8, 109, 97, 116, 104, 46, 103, 99, 100, 6, 321, 5, 104, 121, 112, 111, 116, 9, 10, 109, 97, 116, 104, 46, 104, 121, 112, 111, 116, 6, 322, 7, 105, 115, 99, 108, 111, 115, 101, 9, 12, 109, 97, 116, 104, 46, 105, 115, 99, 108, 111, 115, 101, 6, 323, 8, 105, 115, 102, 105, 110, 105, 116, 101, 9, 13, 109, 97, 116, 104, 46, 105, 115, 102, 105, 110, 105, 116, 101, 6, 324, 5, 105, 115, 105, 110, 102, 9, 10, 109, 97, 116, 104, 46, 105, 115, 105, 110, 102, 6, 325, 5, 105, 115, 110, 97, 110, 9, 10, 109, 97, 116, 104, 46, 105, 115, 110, 97, 110, 6, 326, 5, 105, 115, 113, 114, 116, 9, 10, 109, 97, 116, 104, 46, 105, 115, 113, 114, 116, 6, 327, 3, 108, 99, 109, 9, 8, 109, 97, 116, 104, 46, 108, 99, 109, 6, 328, 5, 108, 100, 101, 120, 112, 9, 10, 109, 97, 116, 104, 46, 108, 100, 101, 120, 112, 6, 329, 6, 108, 103, 97, 109, 109, 97, 9, 11, 109, 97, 116, 104, 46, 108, 103, 97, 109, 109, 97, 6, 330, 3, 108, 111, 103, 9, 8, 109, 97, 116, 104, 46, 108, 111, 103, 6, 331, 5, 108, 111, 103, 49, 112, 9, 10, 109, 97, 116, 104, 46, 108, 111, 103, 49, 112, 6, 332, 5, 108, 111, 103, 49, 48, 9, 10, 109, 97, 116, 104, 46, 108, 111, 103, 49, 48, 6, 333, 4, 108, 111, 103, 50, 9, 9, 109, 97, 116, 104, 46, 108, 111, 103, 50, 6, 334, 4, 109, 111, 100, 102, 9, 9, 109, 97, 116, 104, 46, 109, 111, 100, 102, 6, 335, 3, 112, 111, 119, 9, 8, 109, 97, 116, 104, 46, 112, 111, 119, 6, 336, 7, 114, 97, 100, 105, 97, 110, 115, 9, 12, 109, 97, 116, 104, 46, 114, 97, 100, 105, 97, 110, 115, 6, 337, 9, 114, 101, 109, 97, 105, 110, 100, 101, 114, 9, 14, 109, 97, 116, 104, 46, 114, 101, 109, 97, 105, 110, 100, 101, 114, 6, 338, 3, 115, 105, 110, 9, 8, 109, 97, 116, 104, 46, 115, 105, 110, 6, 339, 4, 115, 105, 110, 104, 9, 9, 109, 97, 116, 104, 46, 115, 105, 110, 104, 6, 340, 4, 115, 113, 114, 116, 9, 9, 109, 97, 116, 104, 46, 115, 113, 114, 116, 6, 341, 3, 116, 97, 110, 9, 8, 109, 97, 116, 104, 46, 116, 97, 110, 6, 342, 4, 116, 97, 110, 104, 9, 9, 109, 97, 116, 104, 46, 116, 97, 110, 104, 6, 343, 7, 115, 117, 109, 112, 114, 111, 100, 9, 12, 109, 97, 116, 104, 46, 115, 117, 109, 112, 114, 111, 100, 6, 344, 5, 116, 114, 117, 110, 99, 9, 10, 109, 97, 116, 104, 46, 116, 114, 117, 110, 99, 6, 345, 4, 112, 114, 111, 100, 9, 9, 109, 97, 116, 104, 46, 112, 114, 111, 100, 6, 346, 4, 112, 101, 114, 109, 9, 9, 109, 97, 116, 104, 46, 112, 101, 114, 109, 6, 347, 4, 99, 111, 109, 98, 9, 9, 109, 97, 116, 104, 46, 99, 111, 109, 98, 6, 348, 9, 110, 101, 120, 116, 97, 102, 116, 101, 114, 9, 14, 109, 97, 116, 104, 46, 110, 101, 120, 116, 97, 102, 116, 101, 114, 6, 349, 3, 117, 108, 112, 9, 8, 109, 97, 116, 104, 46, 117, 108, 112, 6, 350, 8, 95, 95, 102, 105, 108, 101, 95, 95, 6, 186, 123, 47, 110, 105, 120, 47, 115, 116, 111, 114, 101, 47, 119, 106, 49, 102, 53, 54, 113, 107, 121, 52, 112, 109, 106, 99, 55, 108, 48, 114, 54, 98, 54, 108, 55, 119, 104, 110, 110, 119, 55, 104, 112, 54, 45, 112, 121, 116, 104, 111, 110, 51, 45, 51, 46, 49, 51, 46, 49, 53, 47, 108, 105, 98, 47, 112, 121, 116, 104, 111, 110, 51, 46, 49, 51, 47, 108, 105, 98, 45, 100, 121, 110, 108, 111, 97, 100, 47, 109, 97, 116, 104, 46, 99, 112, 121, 116, 104, 111, 110, 45, 51, 49, 51, 45, 120, 56, 54, 95, 54, 52, 45, 108, 105, 110, 117, 120, 45, 103, 110, 117, 46, 115, 111, 6, 352, 2, 112, 105, 5, 351, 4614256656552045848, 6, 354, 1, 101, 5, 353, 4613303445314885481, 6, 356, 3, 116, 97, 117, 5, 355, 4618760256179416344, 6, 358, 3, 105, 110, 102, 5, 357, 9218868437227405312, 6, 360, 3, 110, 97, 110, 5, 359, 9221120237041090560]⟩ 0), (.bool true), (.bool false), (.str (Hz.t "math") 362)] 0), #[]⟩
def zt0_31 (P : Params) : BT := Hz.n (zo31 P) Hz.e Hz.e
def zt0_35 (P : Params) : BT := Hz.n (zo35 P) Hz.e Hz.e
def zt0_33 (P : Params) : BT := Hz.n (zo33 P) Hz.e Hz.e
def zt0_37 (P : Params) : BT := Hz.n (zo37 P) Hz.e Hz.e
def zt0_32 (P : Params) : BT := Hz.n (zo32 P) Hz.e Hz.e
def zt0_36 (P : Params) : BT := Hz.n (zo36 P) Hz.e Hz.e
def zt0_34 (P : Params) : BT := Hz.n (zo34 P) Hz.e Hz.e
def zt0_38 (P : Params) : BT := Hz.n (zo38 P) Hz.e Hz.e
def zt0 (P : Params) : BT := (Hz.n (zo0 P) (Hz.n (zo1 P) (Hz.n (zo3 P) (Hz.n (zo7 P) (Hz.n (zo15 P) (zt0_31 P) Hz.e) (Hz.n (zo23 P) Hz.e Hz.e)) (Hz.n (zo11 P) (Hz.n (zo19 P) (zt0_35 P) Hz.e) (Hz.n (zo27 P) Hz.e Hz.e))) (Hz.n (zo5 P) (Hz.n (zo9 P) (Hz.n (zo17 P) (zt0_33 P) Hz.e) (Hz.n (zo25 P) Hz.e Hz.e)) (Hz.n (zo13 P) (Hz.n (zo21 P) (zt0_37 P) Hz.e) (Hz.n (zo29 P) Hz.e Hz.e)))) (Hz.n (zo2 P) (Hz.n (zo4 P) (Hz.n (zo8 P) (Hz.n (zo16 P) (zt0_32 P) Hz.e) (Hz.n (zo24 P) Hz.e Hz.e)) (Hz.n (zo12 P) (Hz.n (zo20 P) (zt0_36 P) Hz.e) (Hz.n (zo28 P) Hz.e Hz.e))) (Hz.n (zo6 P) (Hz.n (zo10 P) (Hz.n (zo18 P) (zt0_34 P) Hz.e) (Hz.n (zo26 P) Hz.e Hz.e)) (Hz.n (zo14 P) (Hz.n (zo22 P) (zt0_38 P) Hz.e) (Hz.n (zo30 P) Hz.e Hz.e)))))
def zs0 (w : World) : SharedT := ⟨zt0 w.params, 39, {}, #[], ⟨0, 0, 0, 0⟩, 370, (start (opening zR.prog)).1.os⟩
def zo39 (P : Params) : Obj := ⟨(.type "tuple"), none, (.seq #[] 0), #[]⟩
def zo40 (P : Params) : Obj := ⟨.none, none, (.fields #[]), #[]⟩
def zo41 (P : Params) : Obj := ⟨(.type "code"), none, (.fields #[(.str (Hz.t "<module>") 371), (.str (Hz.t "<module>") 372), (.str (Hz.t "/claim/cut.py") 373), (.int 1 0), (.int 0 0), (.int 0 0), (.int 0 0), (.int 0 0), (.ref 39), (.bool false), (.int 370 0), (.ref 40), .none, .none, .none, .none, (.int 374 0), (.int 1 0), (.str (Hz.t "/claim/cut.py") 375)]), #[]⟩
def zo42 (P : Params) : Obj := ⟨(.type "frame"), none, .plain, #[(some (.ref 41)), (some (.ref 3)), (some (.ref 3)), none, (some (.str (Hz.t "__main__") 164)), none, (some (.ref 0))]⟩
def ztP_31 (P : Params) : BT := Hz.n (zo31 P) Hz.e Hz.e
def ztP_39 (P : Params) : BT := Hz.n (zo39 P) Hz.e Hz.e
def ztP_35 (P : Params) : BT := Hz.n (zo35 P) Hz.e Hz.e
def ztP_33 (P : Params) : BT := Hz.n (zo33 P) Hz.e Hz.e
def ztP_41 (P : Params) : BT := Hz.n (zo41 P) Hz.e Hz.e
def ztP_37 (P : Params) : BT := Hz.n (zo37 P) Hz.e Hz.e
def ztP_32 (P : Params) : BT := Hz.n (zo32 P) Hz.e Hz.e
def ztP_40 (P : Params) : BT := Hz.n (zo40 P) Hz.e Hz.e
def ztP_36 (P : Params) : BT := Hz.n (zo36 P) Hz.e Hz.e
def ztP_34 (P : Params) : BT := Hz.n (zo34 P) Hz.e Hz.e
def ztP_42 (P : Params) : BT := Hz.n (zo42 P) Hz.e Hz.e
def ztP_38 (P : Params) : BT := Hz.n (zo38 P) Hz.e Hz.e
def ztP (P : Params) : BT := (Hz.n (zo0 P) (Hz.n (zo1 P) (Hz.n (zo3 P) (Hz.n (zo7 P) (Hz.n (zo15 P) (ztP_31 P) Hz.e) (Hz.n (zo23 P) (ztP_39 P) Hz.e)) (Hz.n (zo11 P) (Hz.n (zo19 P) (ztP_35 P) Hz.e) (Hz.n (zo27 P) Hz.e Hz.e))) (Hz.n (zo5 P) (Hz.n (zo9 P) (Hz.n (zo17 P) (ztP_33 P) Hz.e) (Hz.n (zo25 P) (ztP_41 P) Hz.e)) (Hz.n (zo13 P) (Hz.n (zo21 P) (ztP_37 P) Hz.e) (Hz.n (zo29 P) Hz.e Hz.e)))) (Hz.n (zo2 P) (Hz.n (zo4 P) (Hz.n (zo8 P) (Hz.n (zo16 P) (ztP_32 P) Hz.e) (Hz.n (zo24 P) (ztP_40 P) Hz.e)) (Hz.n (zo12 P) (Hz.n (zo20 P) (ztP_36 P) Hz.e) (Hz.n (zo28 P) Hz.e Hz.e))) (Hz.n (zo6 P) (Hz.n (zo10 P) (Hz.n (zo18 P) (ztP_34 P) Hz.e) (Hz.n (zo26 P) (ztP_42 P) Hz.e)) (Hz.n (zo14 P) (Hz.n (zo22 P) (ztP_38 P) Hz.e) (Hz.n (zo30 P) Hz.e Hz.e)))))
def zsP (w : World) : SharedT := ⟨ztP w.params, 43, {}, #[], ⟨0, 0, 0, 0⟩, 376, (start (opening zR.prog)).1.os⟩
def zo3_1 (P : Params) : Obj := ⟨(.type "dict"), none, (.dict #[(Hz.en P "__name__" 165 (.str (Hz.t "law_anyfifth_k35_scales_written_and_read") 1240)), (Hz.en P "__doc__" 166 .none), (Hz.en P "__package__" 167 .none), (Hz.en P "__loader__" 168 (.builtin "__main__.__loader__#opaque")), (Hz.en P "__spec__" 169 .none), (Hz.en P "__annotations__" 170 (.ref 6)), (Hz.en P "__builtins__" 171 (.ref 4)), (Hz.en P "__file__" 173 (.str (Hz.t "/claim/cut.py") 172)), (Hz.en P "__cached__" 174 .none), (Hz.en P "gcd" 369 (.builtin "math.gcd")), (Hz.en P "_wall" 382 (.ref 49)), (Hz.en P "FifthError" 402 (.ref 59)), (Hz.en P "BadInput" 418 (.ref 72)), (Hz.en P "Refused" 434 (.ref 84)), (Hz.en P "BadRatio" 459 (.ref 103)), (Hz.en P "BadFifth" 484 (.ref 122)), (Hz.en P "BadNumber" 509 (.ref 141)), (Hz.en P "BadScale" 534 (.ref 160)), (Hz.en P "BadText" 561 (.ref 179)), (Hz.en P "NoDivisor" 577 (.ref 191)), (Hz.en P "TooMany" 604 (.ref 210)), (Hz.en P "is_int" 613 (.ref 219)), (Hz.en P "written" 624 (.ref 226)), (Hz.en P "integer_in" 633 (.ref 233)), (Hz.en P "is_from_to" 642 (.ref 240)), (Hz.en P "Ratio" 945 (.ref 456)), (Hz.en P "parts_of" 952 (.ref 467)), (Hz.en P "ratio_in" 964 (.ref 474)), (Hz.en P "_lead" 976 (.ref 481)), (Hz.en P "_quotient" 988 (.ref 488)), (Hz.en P "Scale" 1220 (.ref 666)), (Hz.en P "_is_note" 1227 (.ref 677)), (Hz.en P "_raised" 1233 (.ref 682)), (Hz.en P "_keys" 1239 (.ref 687)), (Hz.en P "_law_pen" 1248 (.ref 694)), (Hz.en P "_law_draw" 1261 (.ref 701)), (Hz.en P "_law_pick" 1269 (.ref 708)), (Hz.en P "_law_some" 1275 (.ref 713)), (Hz.en P "_law_scaled" 1285 (.ref 720)), (Hz.en P "_law_text" 1291 (.ref 725)), (Hz.en P "_law_due" 1297 (.ref 730)), (Hz.en P "_law_heard" 1306 (.ref 737)), (Hz.en P "_law_bent" 1319 (.ref 744)), (Hz.en P "law" 1325 (.ref 749))] 44), #[]⟩
def zo40_1 (P : Params) : Obj := ⟨.none, none, (.fields #[(.int 2 0), (.int 0 0), (.ref 48), (.int 6 0), (.int 0 0), (.ref 55), (.int 8 0), (.int 0 0), (.ref 68), (.int 10 0), (.int 0 0), (.ref 80), (.int 12 0), (.int 0 0), (.ref 92), (.int 16 0), (.int 0 0), (.ref 111), (.int 20 0), (.int 0 0), (.ref 130), (.int 24 0), (.int 0 0), (.ref 149), (.int 28 0), (.int 0 0), (.ref 168), (.int 33 0), (.int 0 0), (.ref 187), (.int 35 0), (.int 0 0), (.ref 199), (.int 41 0), (.int 0 0), (.ref 218), (.int 43 0), (.int 0 0), (.ref 225), (.int 53 0), (.int 0 0), (.ref 232), (.int 60 0), (.int 0 0), (.ref 239), (.int 63 0), (.int 0 0), (.ref 246), (.int 193 0), (.int 0 0), (.ref 466), (.int 197 0), (.int 0 0), (.ref 473), (.int 205 0), (.int 0 0), (.ref 480), (.int 209 0), (.int 0 0), (.ref 487), (.int 216 0), (.int 0 0), (.ref 494), (.int 331 0), (.int 0 0), (.ref 676), (.int 333 0), (.int 0 0), (.ref 681), (.int 341 0), (.int 0 0), (.ref 686), (.int 344 0), (.int 0 0), (.ref 693), (.int 346 0), (.int 0 0), (.ref 700), (.int 363 0), (.int 0 0), (.ref 707), (.int 365 0), (.int 0 0), (.ref 712), (.int 368 0), (.int 0 0), (.ref 719), (.int 380 0), (.int 0 0), (.ref 724), (.int 382 0), (.int 0 0), (.ref 729), (.int 394 0), (.int 0 0), (.ref 736), (.int 401 0), (.int 0 0), (.ref 743), (.int 415 0), (.int 0 0), (.ref 748)]), #[]⟩
def zo43 (P : Params) : Obj := ⟨(.type "tuple"), none, (.seq #[] 0), #[]⟩
def zo44 (P : Params) : Obj := ⟨.none, none, (.fields #[]), #[]⟩
def zo45 (P : Params) : Obj := ⟨(.type "tuple"), none, (.seq #[(.str (Hz.t "k") 379)] 0), #[]⟩
def zo46 (P : Params) : Obj := ⟨(.type "tuple"), none, (.seq #[] 0), #[]⟩
def zo47 (P : Params) : Obj := ⟨.none, none, (.func (Hz.fnD (ztop 1) "_wall" "_wall" 0 [] .none .none .none .none none .none .none 0)), #[]⟩
def zo48 (P : Params) : Obj := ⟨(.type "code"), none, (.fields #[(.str (Hz.t "_wall") 376), (.str (Hz.t "_wall") 377), (.str (Hz.t "/claim/cut.py") 378), (.int 2 0), (.int 1 0), (.int 0 0), (.int 0 0), (.int 3 0), (.ref 43), (.bool true), (.int 370 0), (.ref 44), .none, (.ref 45), (.ref 46), (.ref 47), (.int 380 0), (.int 2 0), (.str (Hz.t "/claim/cut.py") 381)]), #[]⟩
def zo49 (P : Params) : Obj := ⟨(.type "function"), none, (.func (Hz.fnD (ztop 1) "_wall" "_wall" 3 [] .none .none .none (.str (Hz.t "__main__") 164) none (.ref 48) .none 0)), #[]⟩
def zo50 (P : Params) : Obj := ⟨(.type "tuple"), none, (.seq #[(.type "ValueError")] 0), #[]⟩
def zo51 (P : Params) : Obj := ⟨(.type "builtin_function_or_method"), none, (.fields #[(.builtin "type.__prepare__"), (.type "type")]), #[]⟩
def zo52 (P : Params) : Obj := ⟨(.type "dict"), none, (.dict #[(Hz.en P "__module__" 392 (.str (Hz.t "anyfifth.errors") 383)), (Hz.en P "__qualname__" 394 (.str (Hz.t "FifthError") 393)), (Hz.en P "__firstlineno__" 396 (.int 6 395)), (Hz.en P "__static_attributes__" 397 (.ref 57))] 4), #[]⟩
def zo53 (P : Params) : Obj := ⟨(.type "tuple"), none, (.seq #[] 0), #[]⟩
def zo54 (P : Params) : Obj := ⟨.none, none, (.fields #[]), #[]⟩
def zo55 (P : Params) : Obj := ⟨(.type "code"), none, (.fields #[(.str (Hz.t "FifthError") 387), (.str (Hz.t "FifthError") 388), (.str (Hz.t "/claim/cut.py") 389), (.int 6 0), (.int 0 0), (.int 0 0), (.int 0 0), (.int 0 0), (.ref 53), (.bool false), (.int 370 0), (.ref 54), .none, .none, .none, .none, (.int 390 0), (.int 6 0), (.str (Hz.t "/claim/cut.py") 391)]), #[]⟩
def zo56 (P : Params) : Obj := ⟨(.type "frame"), none, .plain, #[(some (.ref 55)), (some (.ref 3)), (some (.ref 52)), none, (some (.str (Hz.t "anyfifth.errors") 383)), none, (some (.ref 0))]⟩
def zo57 (P : Params) : Obj := ⟨(.type "tuple"), none, (.seq #[] 0), #[]⟩
def zo58 (P : Params) : Obj := ⟨(.type "dict"), none, (.dict #[(Hz.en P "__module__" 392 (.str (Hz.t "anyfifth.errors") 383)), (Hz.en P "__firstlineno__" 396 (.int 6 395)), (Hz.en P "__static_attributes__" 397 (.ref 57)), (Hz.en P "__weakref__" 399 (.ref 60)), (Hz.en P "__doc__" 400 .none)] 3), #[]⟩
def zo59 (P : Params) : Obj := ⟨(.type "type"), none, (.cls ⟨(Hz.t "FifthError"), [(.type "ValueError")], [(.ref 59), (.type "ValueError"), (.type "Exception"), (.type "BaseException"), (.type "object")], 58, (Hz.t "FifthError"), true, [], [(.ref 72), (.ref 84)], false, none, false⟩), #[(some (.ref 50)), none, (some (.str (Hz.t "FifthError") 385)), (some (.str (Hz.t "FifthError") 393)), (some (.builtin "ValueError.__new__")), (some (.bool true))]⟩
def zo60 (P : Params) : Obj := ⟨(.type "getset_descriptor"), none, (.fields #[(.str (Hz.t "__weakref__") 398), (.ref 59), (.builtin "ExceptionGroup.__weakref__"), .none]), #[]⟩
def zo61 (P : Params) : Obj := ⟨(.type "super"), none, (.fields #[(.ref 59), (.ref 59), (.ref 59)]), #[]⟩
def zo62 (P : Params) : Obj := ⟨(.type "builtin_function_or_method"), none, (.fields #[(.builtin "object.__init_subclass__"), (.ref 59)]), #[]⟩
def zo63 (P : Params) : Obj := ⟨(.type "tuple"), none, (.seq #[(.ref 59)] 0), #[]⟩
def zo64 (P : Params) : Obj := ⟨(.type "builtin_function_or_method"), none, (.fields #[(.builtin "type.__prepare__"), (.type "type")]), #[]⟩
def zo65 (P : Params) : Obj := ⟨(.type "dict"), none, (.dict #[(Hz.en P "__module__" 410 (.str (Hz.t "anyfifth.errors") 383)), (Hz.en P "__qualname__" 412 (.str (Hz.t "BadInput") 411)), (Hz.en P "__firstlineno__" 414 (.int 8 413)), (Hz.en P "__static_attributes__" 415 (.ref 70))] 4), #[]⟩
def zo66 (P : Params) : Obj := ⟨(.type "tuple"), none, (.seq #[] 0), #[]⟩
def zo67 (P : Params) : Obj := ⟨.none, none, (.fields #[]), #[]⟩
def zo68 (P : Params) : Obj := ⟨(.type "code"), none, (.fields #[(.str (Hz.t "BadInput") 405), (.str (Hz.t "BadInput") 406), (.str (Hz.t "/claim/cut.py") 407), (.int 8 0), (.int 0 0), (.int 0 0), (.int 0 0), (.int 0 0), (.ref 66), (.bool false), (.int 370 0), (.ref 67), .none, .none, .none, .none, (.int 408 0), (.int 8 0), (.str (Hz.t "/claim/cut.py") 409)]), #[]⟩
def zo69 (P : Params) : Obj := ⟨(.type "frame"), none, .plain, #[(some (.ref 68)), (some (.ref 3)), (some (.ref 65)), none, (some (.str (Hz.t "anyfifth.errors") 383)), none, (some (.ref 0))]⟩
def zo70 (P : Params) : Obj := ⟨(.type "tuple"), none, (.seq #[] 0), #[]⟩
def zo71 (P : Params) : Obj := ⟨(.type "dict"), none, (.dict #[(Hz.en P "__module__" 410 (.str (Hz.t "anyfifth.errors") 383)), (Hz.en P "__firstlineno__" 414 (.int 8 413)), (Hz.en P "__static_attributes__" 415 (.ref 70)), (Hz.en P "__doc__" 416 .none)] 2), #[]⟩
def zo72 (P : Params) : Obj := ⟨(.type "type"), none, (.cls ⟨(Hz.t "BadInput"), [(.ref 59)], [(.ref 72), (.ref 59), (.type "ValueError"), (.type "Exception"), (.type "BaseException"), (.type "object")], 71, (Hz.t "BadInput"), true, [], [(.ref 103), (.ref 122), (.ref 141), (.ref 160), (.ref 179)], false, none, false⟩), #[(some (.ref 63)), none, (some (.str (Hz.t "BadInput") 403)), (some (.str (Hz.t "BadInput") 411)), (some (.builtin "ValueError.__new__")), (some (.bool true))]⟩
def zo73 (P : Params) : Obj := ⟨(.type "super"), none, (.fields #[(.ref 72), (.ref 72), (.ref 72)]), #[]⟩
def zo74 (P : Params) : Obj := ⟨(.type "builtin_function_or_method"), none, (.fields #[(.builtin "object.__init_subclass__"), (.ref 72)]), #[]⟩
def zo75 (P : Params) : Obj := ⟨(.type "tuple"), none, (.seq #[(.ref 59)] 0), #[]⟩
def zo76 (P : Params) : Obj := ⟨(.type "builtin_function_or_method"), none, (.fields #[(.builtin "type.__prepare__"), (.type "type")]), #[]⟩
def zo77 (P : Params) : Obj := ⟨(.type "dict"), none, (.dict #[(Hz.en P "__module__" 426 (.str (Hz.t "anyfifth.errors") 383)), (Hz.en P "__qualname__" 428 (.str (Hz.t "Refused") 427)), (Hz.en P "__firstlineno__" 430 (.int 10 429)), (Hz.en P "__static_attributes__" 431 (.ref 82))] 4), #[]⟩
def zo78 (P : Params) : Obj := ⟨(.type "tuple"), none, (.seq #[] 0), #[]⟩
def zo79 (P : Params) : Obj := ⟨.none, none, (.fields #[]), #[]⟩
def zo80 (P : Params) : Obj := ⟨(.type "code"), none, (.fields #[(.str (Hz.t "Refused") 421), (.str (Hz.t "Refused") 422), (.str (Hz.t "/claim/cut.py") 423), (.int 10 0), (.int 0 0), (.int 0 0), (.int 0 0), (.int 0 0), (.ref 78), (.bool false), (.int 370 0), (.ref 79), .none, .none, .none, .none, (.int 424 0), (.int 10 0), (.str (Hz.t "/claim/cut.py") 425)]), #[]⟩
def zo81 (P : Params) : Obj := ⟨(.type "frame"), none, .plain, #[(some (.ref 80)), (some (.ref 3)), (some (.ref 77)), none, (some (.str (Hz.t "anyfifth.errors") 383)), none, (some (.ref 0))]⟩
def zo82 (P : Params) : Obj := ⟨(.type "tuple"), none, (.seq #[] 0), #[]⟩
def zo83 (P : Params) : Obj := ⟨(.type "dict"), none, (.dict #[(Hz.en P "__module__" 426 (.str (Hz.t "anyfifth.errors") 383)), (Hz.en P "__firstlineno__" 430 (.int 10 429)), (Hz.en P "__static_attributes__" 431 (.ref 82)), (Hz.en P "__doc__" 432 .none)] 2), #[]⟩
def zo84 (P : Params) : Obj := ⟨(.type "type"), none, (.cls ⟨(Hz.t "Refused"), [(.ref 59)], [(.ref 84), (.ref 59), (.type "ValueError"), (.type "Exception"), (.type "BaseException"), (.type "object")], 83, (Hz.t "Refused"), true, [], [(.ref 191), (.ref 210)], false, none, false⟩), #[(some (.ref 75)), none, (some (.str (Hz.t "Refused") 419)), (some (.str (Hz.t "Refused") 427)), (some (.builtin "ValueError.__new__")), (some (.bool true))]⟩
def zo85 (P : Params) : Obj := ⟨(.type "super"), none, (.fields #[(.ref 84), (.ref 84), (.ref 84)]), #[]⟩
def zo86 (P : Params) : Obj := ⟨(.type "builtin_function_or_method"), none, (.fields #[(.builtin "object.__init_subclass__"), (.ref 84)]), #[]⟩
def zo87 (P : Params) : Obj := ⟨(.type "tuple"), none, (.seq #[(.ref 72)] 0), #[]⟩
def zo88 (P : Params) : Obj := ⟨(.type "builtin_function_or_method"), none, (.fields #[(.builtin "type.__prepare__"), (.type "type")]), #[]⟩
def zo89 (P : Params) : Obj := ⟨(.type "dict"), none, (.dict #[(Hz.en P "__module__" 442 (.str (Hz.t "anyfifth.errors") 383)), (Hz.en P "__qualname__" 444 (.str (Hz.t "BadRatio") 443)), (Hz.en P "__firstlineno__" 446 (.int 12 445)), (Hz.en P "__init__" 454 (.ref 100)), (Hz.en P "__static_attributes__" 456 (.ref 101))] 5), #[]⟩
def zo90 (P : Params) : Obj := ⟨(.type "tuple"), none, (.seq #[] 0), #[]⟩
def zo91 (P : Params) : Obj := ⟨.none, none, (.fields #[(.int 14 0), (.int 4 0), (.ref 99)]), #[]⟩
def zo92 (P : Params) : Obj := ⟨(.type "code"), none, (.fields #[(.str (Hz.t "BadRatio") 437), (.str (Hz.t "BadRatio") 438), (.str (Hz.t "/claim/cut.py") 439), (.int 12 0), (.int 0 0), (.int 0 0), (.int 0 0), (.int 0 0), (.ref 90), (.bool false), (.int 370 0), (.ref 91), .none, .none, .none, .none, (.int 440 0), (.int 12 0), (.str (Hz.t "/claim/cut.py") 441)]), #[]⟩
def zo93 (P : Params) : Obj := ⟨(.type "frame"), none, .plain, #[(some (.ref 92)), (some (.ref 3)), (some (.ref 89)), none, (some (.str (Hz.t "anyfifth.errors") 383)), none, (some (.ref 0))]⟩
def zo94 (P : Params) : Obj := ⟨(.type "tuple"), none, (.seq #[] 0), #[]⟩
def zo95 (P : Params) : Obj := ⟨.none, none, (.fields #[]), #[]⟩
def zo96 (P : Params) : Obj := ⟨(.type "tuple"), none, (.seq #[(.str (Hz.t "self") 450), (.str (Hz.t "part") 451)] 0), #[]⟩
def zo97 (P : Params) : Obj := ⟨(.type "tuple"), none, (.seq #[] 0), #[]⟩
def zo98 (P : Params) : Obj := ⟨.none, none, (.func (Hz.fnD (inClass (ztop 6) 0) "__init__" "BadRatio.__init__" 0 [] .none .none .none .none none .none .none 0)), #[]⟩
def zo99 (P : Params) : Obj := ⟨(.type "code"), none, (.fields #[(.str (Hz.t "__init__") 447), (.str (Hz.t "BadRatio.__init__") 448), (.str (Hz.t "/claim/cut.py") 449), (.int 14 0), (.int 2 0), (.int 0 0), (.int 0 0), (.int 3 0), (.ref 94), (.bool true), (.int 370 0), (.ref 95), .none, (.ref 96), (.ref 97), (.ref 98), (.int 452 0), (.int 14 0), (.str (Hz.t "/claim/cut.py") 453)]), #[]⟩
def zo100 (P : Params) : Obj := ⟨(.type "function"), none, (.func (Hz.fnD (inClass (ztop 6) 0) "__init__" "BadRatio.__init__" 3 [] .none .none .none (.str (Hz.t "anyfifth.errors") 383) none (.ref 99) .none 0)), #[]⟩
def zo101 (P : Params) : Obj := ⟨(.type "tuple"), none, (.seq #[(.str (Hz.t "part") 455)] 0), #[]⟩
def zo102 (P : Params) : Obj := ⟨(.type "dict"), none, (.dict #[(Hz.en P "__module__" 442 (.str (Hz.t "anyfifth.errors") 383)), (Hz.en P "__firstlineno__" 446 (.int 12 445)), (Hz.en P "__init__" 454 (.ref 100)), (Hz.en P "__static_attributes__" 456 (.ref 101)), (Hz.en P "__doc__" 457 .none)] 2), #[]⟩
def zo103 (P : Params) : Obj := ⟨(.type "type"), none, (.cls ⟨(Hz.t "BadRatio"), [(.ref 72)], [(.ref 103), (.ref 72), (.ref 59), (.type "ValueError"), (.type "Exception"), (.type "BaseException"), (.type "object")], 102, (Hz.t "BadRatio"), true, [], [], false, none, false⟩), #[(some (.ref 87)), none, (some (.str (Hz.t "BadRatio") 435)), (some (.str (Hz.t "BadRatio") 443)), (some (.builtin "ValueError.__new__")), (some (.bool true))]⟩
def zo104 (P : Params) : Obj := ⟨(.type "super"), none, (.fields #[(.ref 103), (.ref 103), (.ref 103)]), #[]⟩
def zo105 (P : Params) : Obj := ⟨(.type "builtin_function_or_method"), none, (.fields #[(.builtin "object.__init_subclass__"), (.ref 103)]), #[]⟩
def zo106 (P : Params) : Obj := ⟨(.type "tuple"), none, (.seq #[(.ref 72)] 0), #[]⟩
def zo107 (P : Params) : Obj := ⟨(.type "builtin_function_or_method"), none, (.fields #[(.builtin "type.__prepare__"), (.type "type")]), #[]⟩
def zo108 (P : Params) : Obj := ⟨(.type "dict"), none, (.dict #[(Hz.en P "__module__" 467 (.str (Hz.t "anyfifth.errors") 383)), (Hz.en P "__qualname__" 469 (.str (Hz.t "BadFifth") 468)), (Hz.en P "__firstlineno__" 471 (.int 16 470)), (Hz.en P "__init__" 479 (.ref 119)), (Hz.en P "__static_attributes__" 481 (.ref 120))] 5), #[]⟩
def zo109 (P : Params) : Obj := ⟨(.type "tuple"), none, (.seq #[] 0), #[]⟩
def zo110 (P : Params) : Obj := ⟨.none, none, (.fields #[(.int 18 0), (.int 4 0), (.ref 118)]), #[]⟩
def zo111 (P : Params) : Obj := ⟨(.type "code"), none, (.fields #[(.str (Hz.t "BadFifth") 462), (.str (Hz.t "BadFifth") 463), (.str (Hz.t "/claim/cut.py") 464), (.int 16 0), (.int 0 0), (.int 0 0), (.int 0 0), (.int 0 0), (.ref 109), (.bool false), (.int 370 0), (.ref 110), .none, .none, .none, .none, (.int 465 0), (.int 16 0), (.str (Hz.t "/claim/cut.py") 466)]), #[]⟩
def zo112 (P : Params) : Obj := ⟨(.type "frame"), none, .plain, #[(some (.ref 111)), (some (.ref 3)), (some (.ref 108)), none, (some (.str (Hz.t "anyfifth.errors") 383)), none, (some (.ref 0))]⟩
def zo113 (P : Params) : Obj := ⟨(.type "tuple"), none, (.seq #[] 0), #[]⟩
def zo114 (P : Params) : Obj := ⟨.none, none, (.fields #[]), #[]⟩
def zo115 (P : Params) : Obj := ⟨(.type "tuple"), none, (.seq #[(.str (Hz.t "self") 475), (.str (Hz.t "value") 476)] 0), #[]⟩
def zo116 (P : Params) : Obj := ⟨(.type "tuple"), none, (.seq #[] 0), #[]⟩
def zo117 (P : Params) : Obj := ⟨.none, none, (.func (Hz.fnD (inClass (ztop 7) 0) "__init__" "BadFifth.__init__" 0 [] .none .none .none .none none .none .none 0)), #[]⟩
def zo118 (P : Params) : Obj := ⟨(.type "code"), none, (.fields #[(.str (Hz.t "__init__") 472), (.str (Hz.t "BadFifth.__init__") 473), (.str (Hz.t "/claim/cut.py") 474), (.int 18 0), (.int 2 0), (.int 0 0), (.int 0 0), (.int 3 0), (.ref 113), (.bool true), (.int 370 0), (.ref 114), .none, (.ref 115), (.ref 116), (.ref 117), (.int 477 0), (.int 18 0), (.str (Hz.t "/claim/cut.py") 478)]), #[]⟩
def zo119 (P : Params) : Obj := ⟨(.type "function"), none, (.func (Hz.fnD (inClass (ztop 7) 0) "__init__" "BadFifth.__init__" 3 [] .none .none .none (.str (Hz.t "anyfifth.errors") 383) none (.ref 118) .none 0)), #[]⟩
def zo120 (P : Params) : Obj := ⟨(.type "tuple"), none, (.seq #[(.str (Hz.t "value") 480)] 0), #[]⟩
def zo121 (P : Params) : Obj := ⟨(.type "dict"), none, (.dict #[(Hz.en P "__module__" 467 (.str (Hz.t "anyfifth.errors") 383)), (Hz.en P "__firstlineno__" 471 (.int 16 470)), (Hz.en P "__init__" 479 (.ref 119)), (Hz.en P "__static_attributes__" 481 (.ref 120)), (Hz.en P "__doc__" 482 .none)] 2), #[]⟩
def zo122 (P : Params) : Obj := ⟨(.type "type"), none, (.cls ⟨(Hz.t "BadFifth"), [(.ref 72)], [(.ref 122), (.ref 72), (.ref 59), (.type "ValueError"), (.type "Exception"), (.type "BaseException"), (.type "object")], 121, (Hz.t "BadFifth"), true, [], [], false, none, false⟩), #[(some (.ref 106)), none, (some (.str (Hz.t "BadFifth") 460)), (some (.str (Hz.t "BadFifth") 468)), (some (.builtin "ValueError.__new__")), (some (.bool true))]⟩
def zo123 (P : Params) : Obj := ⟨(.type "super"), none, (.fields #[(.ref 122), (.ref 122), (.ref 122)]), #[]⟩
def zo124 (P : Params) : Obj := ⟨(.type "builtin_function_or_method"), none, (.fields #[(.builtin "object.__init_subclass__"), (.ref 122)]), #[]⟩
def zo125 (P : Params) : Obj := ⟨(.type "tuple"), none, (.seq #[(.ref 72)] 0), #[]⟩
def zo126 (P : Params) : Obj := ⟨(.type "builtin_function_or_method"), none, (.fields #[(.builtin "type.__prepare__"), (.type "type")]), #[]⟩
def zo127 (P : Params) : Obj := ⟨(.type "dict"), none, (.dict #[(Hz.en P "__module__" 492 (.str (Hz.t "anyfifth.errors") 383)), (Hz.en P "__qualname__" 494 (.str (Hz.t "BadNumber") 493)), (Hz.en P "__firstlineno__" 496 (.int 20 495)), (Hz.en P "__init__" 504 (.ref 138)), (Hz.en P "__static_attributes__" 506 (.ref 139))] 5), #[]⟩
def zo128 (P : Params) : Obj := ⟨(.type "tuple"), none, (.seq #[] 0), #[]⟩
def zo129 (P : Params) : Obj := ⟨.none, none, (.fields #[(.int 22 0), (.int 4 0), (.ref 137)]), #[]⟩
def zo130 (P : Params) : Obj := ⟨(.type "code"), none, (.fields #[(.str (Hz.t "BadNumber") 487), (.str (Hz.t "BadNumber") 488), (.str (Hz.t "/claim/cut.py") 489), (.int 20 0), (.int 0 0), (.int 0 0), (.int 0 0), (.int 0 0), (.ref 128), (.bool false), (.int 370 0), (.ref 129), .none, .none, .none, .none, (.int 490 0), (.int 20 0), (.str (Hz.t "/claim/cut.py") 491)]), #[]⟩
def zo131 (P : Params) : Obj := ⟨(.type "frame"), none, .plain, #[(some (.ref 130)), (some (.ref 3)), (some (.ref 127)), none, (some (.str (Hz.t "anyfifth.errors") 383)), none, (some (.ref 0))]⟩
def zo132 (P : Params) : Obj := ⟨(.type "tuple"), none, (.seq #[] 0), #[]⟩
def zo133 (P : Params) : Obj := ⟨.none, none, (.fields #[]), #[]⟩
def zo134 (P : Params) : Obj := ⟨(.type "tuple"), none, (.seq #[(.str (Hz.t "self") 500), (.str (Hz.t "value") 501)] 0), #[]⟩
def zo135 (P : Params) : Obj := ⟨(.type "tuple"), none, (.seq #[] 0), #[]⟩
def zo136 (P : Params) : Obj := ⟨.none, none, (.func (Hz.fnD (inClass (ztop 8) 0) "__init__" "BadNumber.__init__" 0 [] .none .none .none .none none .none .none 0)), #[]⟩
def zo137 (P : Params) : Obj := ⟨(.type "code"), none, (.fields #[(.str (Hz.t "__init__") 497), (.str (Hz.t "BadNumber.__init__") 498), (.str (Hz.t "/claim/cut.py") 499), (.int 22 0), (.int 2 0), (.int 0 0), (.int 0 0), (.int 3 0), (.ref 132), (.bool true), (.int 370 0), (.ref 133), .none, (.ref 134), (.ref 135), (.ref 136), (.int 502 0), (.int 22 0), (.str (Hz.t "/claim/cut.py") 503)]), #[]⟩
def zo138 (P : Params) : Obj := ⟨(.type "function"), none, (.func (Hz.fnD (inClass (ztop 8) 0) "__init__" "BadNumber.__init__" 3 [] .none .none .none (.str (Hz.t "anyfifth.errors") 383) none (.ref 137) .none 0)), #[]⟩
def zo139 (P : Params) : Obj := ⟨(.type "tuple"), none, (.seq #[(.str (Hz.t "value") 505)] 0), #[]⟩
def zo140 (P : Params) : Obj := ⟨(.type "dict"), none, (.dict #[(Hz.en P "__module__" 492 (.str (Hz.t "anyfifth.errors") 383)), (Hz.en P "__firstlineno__" 496 (.int 20 495)), (Hz.en P "__init__" 504 (.ref 138)), (Hz.en P "__static_attributes__" 506 (.ref 139)), (Hz.en P "__doc__" 507 .none)] 2), #[]⟩
def zo141 (P : Params) : Obj := ⟨(.type "type"), none, (.cls ⟨(Hz.t "BadNumber"), [(.ref 72)], [(.ref 141), (.ref 72), (.ref 59), (.type "ValueError"), (.type "Exception"), (.type "BaseException"), (.type "object")], 140, (Hz.t "BadNumber"), true, [], [], false, none, false⟩), #[(some (.ref 125)), none, (some (.str (Hz.t "BadNumber") 485)), (some (.str (Hz.t "BadNumber") 493)), (some (.builtin "ValueError.__new__")), (some (.bool true))]⟩
def zo142 (P : Params) : Obj := ⟨(.type "super"), none, (.fields #[(.ref 141), (.ref 141), (.ref 141)]), #[]⟩
def zo143 (P : Params) : Obj := ⟨(.type "builtin_function_or_method"), none, (.fields #[(.builtin "object.__init_subclass__"), (.ref 141)]), #[]⟩
def zo144 (P : Params) : Obj := ⟨(.type "tuple"), none, (.seq #[(.ref 72)] 0), #[]⟩
def zo145 (P : Params) : Obj := ⟨(.type "builtin_function_or_method"), none, (.fields #[(.builtin "type.__prepare__"), (.type "type")]), #[]⟩
def zo146 (P : Params) : Obj := ⟨(.type "dict"), none, (.dict #[(Hz.en P "__module__" 517 (.str (Hz.t "anyfifth.errors") 383)), (Hz.en P "__qualname__" 519 (.str (Hz.t "BadScale") 518)), (Hz.en P "__firstlineno__" 521 (.int 24 520)), (Hz.en P "__init__" 529 (.ref 157)), (Hz.en P "__static_attributes__" 531 (.ref 158))] 5), #[]⟩
def zo147 (P : Params) : Obj := ⟨(.type "tuple"), none, (.seq #[] 0), #[]⟩
def zo148 (P : Params) : Obj := ⟨.none, none, (.fields #[(.int 26 0), (.int 4 0), (.ref 156)]), #[]⟩
def zo149 (P : Params) : Obj := ⟨(.type "code"), none, (.fields #[(.str (Hz.t "BadScale") 512), (.str (Hz.t "BadScale") 513), (.str (Hz.t "/claim/cut.py") 514), (.int 24 0), (.int 0 0), (.int 0 0), (.int 0 0), (.int 0 0), (.ref 147), (.bool false), (.int 370 0), (.ref 148), .none, .none, .none, .none, (.int 515 0), (.int 24 0), (.str (Hz.t "/claim/cut.py") 516)]), #[]⟩
def zo150 (P : Params) : Obj := ⟨(.type "frame"), none, .plain, #[(some (.ref 149)), (some (.ref 3)), (some (.ref 146)), none, (some (.str (Hz.t "anyfifth.errors") 383)), none, (some (.ref 0))]⟩
def zo151 (P : Params) : Obj := ⟨(.type "tuple"), none, (.seq #[] 0), #[]⟩
def zo152 (P : Params) : Obj := ⟨.none, none, (.fields #[]), #[]⟩
def zo153 (P : Params) : Obj := ⟨(.type "tuple"), none, (.seq #[(.str (Hz.t "self") 525), (.str (Hz.t "at") 526)] 0), #[]⟩
def zo154 (P : Params) : Obj := ⟨(.type "tuple"), none, (.seq #[] 0), #[]⟩
def zo155 (P : Params) : Obj := ⟨.none, none, (.func (Hz.fnD (inClass (ztop 9) 0) "__init__" "BadScale.__init__" 0 [] .none .none .none .none none .none .none 0)), #[]⟩
def zo156 (P : Params) : Obj := ⟨(.type "code"), none, (.fields #[(.str (Hz.t "__init__") 522), (.str (Hz.t "BadScale.__init__") 523), (.str (Hz.t "/claim/cut.py") 524), (.int 26 0), (.int 2 0), (.int 0 0), (.int 0 0), (.int 3 0), (.ref 151), (.bool true), (.int 370 0), (.ref 152), .none, (.ref 153), (.ref 154), (.ref 155), (.int 527 0), (.int 26 0), (.str (Hz.t "/claim/cut.py") 528)]), #[]⟩
def zo157 (P : Params) : Obj := ⟨(.type "function"), none, (.func (Hz.fnD (inClass (ztop 9) 0) "__init__" "BadScale.__init__" 3 [] .none .none .none (.str (Hz.t "anyfifth.errors") 383) none (.ref 156) .none 0)), #[]⟩
def zo158 (P : Params) : Obj := ⟨(.type "tuple"), none, (.seq #[(.str (Hz.t "at") 530)] 0), #[]⟩
def zo159 (P : Params) : Obj := ⟨(.type "dict"), none, (.dict #[(Hz.en P "__module__" 517 (.str (Hz.t "anyfifth.errors") 383)), (Hz.en P "__firstlineno__" 521 (.int 24 520)), (Hz.en P "__init__" 529 (.ref 157)), (Hz.en P "__static_attributes__" 531 (.ref 158)), (Hz.en P "__doc__" 532 .none)] 2), #[]⟩
def zo160 (P : Params) : Obj := ⟨(.type "type"), none, (.cls ⟨(Hz.t "BadScale"), [(.ref 72)], [(.ref 160), (.ref 72), (.ref 59), (.type "ValueError"), (.type "Exception"), (.type "BaseException"), (.type "object")], 159, (Hz.t "BadScale"), true, [], [], false, none, false⟩), #[(some (.ref 144)), none, (some (.str (Hz.t "BadScale") 510)), (some (.str (Hz.t "BadScale") 518)), (some (.builtin "ValueError.__new__")), (some (.bool true))]⟩
def zo161 (P : Params) : Obj := ⟨(.type "super"), none, (.fields #[(.ref 160), (.ref 160), (.ref 160)]), #[]⟩
def zo162 (P : Params) : Obj := ⟨(.type "builtin_function_or_method"), none, (.fields #[(.builtin "object.__init_subclass__"), (.ref 160)]), #[]⟩
def zo163 (P : Params) : Obj := ⟨(.type "tuple"), none, (.seq #[(.ref 72)] 0), #[]⟩
def zo164 (P : Params) : Obj := ⟨(.type "builtin_function_or_method"), none, (.fields #[(.builtin "type.__prepare__"), (.type "type")]), #[]⟩
def zo165 (P : Params) : Obj := ⟨(.type "dict"), none, (.dict #[(Hz.en P "__module__" 542 (.str (Hz.t "anyfifth.errors") 383)), (Hz.en P "__qualname__" 544 (.str (Hz.t "BadText") 543)), (Hz.en P "__firstlineno__" 546 (.int 28 545)), (Hz.en P "__init__" 555 (.ref 176)), (Hz.en P "__static_attributes__" 558 (.ref 177))] 5), #[]⟩
def zo166 (P : Params) : Obj := ⟨(.type "tuple"), none, (.seq #[] 0), #[]⟩
def zo167 (P : Params) : Obj := ⟨.none, none, (.fields #[(.int 30 0), (.int 4 0), (.ref 175)]), #[]⟩
def zo168 (P : Params) : Obj := ⟨(.type "code"), none, (.fields #[(.str (Hz.t "BadText") 537), (.str (Hz.t "BadText") 538), (.str (Hz.t "/claim/cut.py") 539), (.int 28 0), (.int 0 0), (.int 0 0), (.int 0 0), (.int 0 0), (.ref 166), (.bool false), (.int 370 0), (.ref 167), .none, .none, .none, .none, (.int 540 0), (.int 28 0), (.str (Hz.t "/claim/cut.py") 541)]), #[]⟩
def zo169 (P : Params) : Obj := ⟨(.type "frame"), none, .plain, #[(some (.ref 168)), (some (.ref 3)), (some (.ref 165)), none, (some (.str (Hz.t "anyfifth.errors") 383)), none, (some (.ref 0))]⟩
def zo170 (P : Params) : Obj := ⟨(.type "tuple"), none, (.seq #[] 0), #[]⟩
def zo171 (P : Params) : Obj := ⟨.none, none, (.fields #[]), #[]⟩
def zo172 (P : Params) : Obj := ⟨(.type "tuple"), none, (.seq #[(.str (Hz.t "self") 550), (.str (Hz.t "line") 551), (.str (Hz.t "word") 552)] 0), #[]⟩
def zo173 (P : Params) : Obj := ⟨(.type "tuple"), none, (.seq #[] 0), #[]⟩
def zo174 (P : Params) : Obj := ⟨.none, none, (.func (Hz.fnD (inClass (ztop 10) 0) "__init__" "BadText.__init__" 0 [] .none .none .none .none none .none .none 0)), #[]⟩
def zo175 (P : Params) : Obj := ⟨(.type "code"), none, (.fields #[(.str (Hz.t "__init__") 547), (.str (Hz.t "BadText.__init__") 548), (.str (Hz.t "/claim/cut.py") 549), (.int 30 0), (.int 3 0), (.int 0 0), (.int 0 0), (.int 3 0), (.ref 170), (.bool true), (.int 370 0), (.ref 171), .none, (.ref 172), (.ref 173), (.ref 174), (.int 553 0), (.int 30 0), (.str (Hz.t "/claim/cut.py") 554)]), #[]⟩
def zo176 (P : Params) : Obj := ⟨(.type "function"), none, (.func (Hz.fnD (inClass (ztop 10) 0) "__init__" "BadText.__init__" 3 [] .none .none .none (.str (Hz.t "anyfifth.errors") 383) none (.ref 175) .none 0)), #[]⟩
def zo177 (P : Params) : Obj := ⟨(.type "tuple"), none, (.seq #[(.str (Hz.t "line") 556), (.str (Hz.t "word") 557)] 0), #[]⟩
def zo178 (P : Params) : Obj := ⟨(.type "dict"), none, (.dict #[(Hz.en P "__module__" 542 (.str (Hz.t "anyfifth.errors") 383)), (Hz.en P "__firstlineno__" 546 (.int 28 545)), (Hz.en P "__init__" 555 (.ref 176)), (Hz.en P "__static_attributes__" 558 (.ref 177)), (Hz.en P "__doc__" 559 .none)] 2), #[]⟩
def zo179 (P : Params) : Obj := ⟨(.type "type"), none, (.cls ⟨(Hz.t "BadText"), [(.ref 72)], [(.ref 179), (.ref 72), (.ref 59), (.type "ValueError"), (.type "Exception"), (.type "BaseException"), (.type "object")], 178, (Hz.t "BadText"), true, [], [], false, none, false⟩), #[(some (.ref 163)), none, (some (.str (Hz.t "BadText") 535)), (some (.str (Hz.t "BadText") 543)), (some (.builtin "ValueError.__new__")), (some (.bool true))]⟩
def zo180 (P : Params) : Obj := ⟨(.type "super"), none, (.fields #[(.ref 179), (.ref 179), (.ref 179)]), #[]⟩
def zo181 (P : Params) : Obj := ⟨(.type "builtin_function_or_method"), none, (.fields #[(.builtin "object.__init_subclass__"), (.ref 179)]), #[]⟩
def zo182 (P : Params) : Obj := ⟨(.type "tuple"), none, (.seq #[(.ref 84)] 0), #[]⟩
def zo183 (P : Params) : Obj := ⟨(.type "builtin_function_or_method"), none, (.fields #[(.builtin "type.__prepare__"), (.type "type")]), #[]⟩
def zo184 (P : Params) : Obj := ⟨(.type "dict"), none, (.dict #[(Hz.en P "__module__" 569 (.str (Hz.t "anyfifth.errors") 383)), (Hz.en P "__qualname__" 571 (.str (Hz.t "NoDivisor") 570)), (Hz.en P "__firstlineno__" 573 (.int 33 572)), (Hz.en P "__static_attributes__" 574 (.ref 189))] 4), #[]⟩
def zo185 (P : Params) : Obj := ⟨(.type "tuple"), none, (.seq #[] 0), #[]⟩
def zo186 (P : Params) : Obj := ⟨.none, none, (.fields #[]), #[]⟩
def zo187 (P : Params) : Obj := ⟨(.type "code"), none, (.fields #[(.str (Hz.t "NoDivisor") 564), (.str (Hz.t "NoDivisor") 565), (.str (Hz.t "/claim/cut.py") 566), (.int 33 0), (.int 0 0), (.int 0 0), (.int 0 0), (.int 0 0), (.ref 185), (.bool false), (.int 370 0), (.ref 186), .none, .none, .none, .none, (.int 567 0), (.int 33 0), (.str (Hz.t "/claim/cut.py") 568)]), #[]⟩
def zo188 (P : Params) : Obj := ⟨(.type "frame"), none, .plain, #[(some (.ref 187)), (some (.ref 3)), (some (.ref 184)), none, (some (.str (Hz.t "anyfifth.errors") 383)), none, (some (.ref 0))]⟩
def zo189 (P : Params) : Obj := ⟨(.type "tuple"), none, (.seq #[] 0), #[]⟩
def zo190 (P : Params) : Obj := ⟨(.type "dict"), none, (.dict #[(Hz.en P "__module__" 569 (.str (Hz.t "anyfifth.errors") 383)), (Hz.en P "__firstlineno__" 573 (.int 33 572)), (Hz.en P "__static_attributes__" 574 (.ref 189)), (Hz.en P "__doc__" 575 .none)] 2), #[]⟩
def zo191 (P : Params) : Obj := ⟨(.type "type"), none, (.cls ⟨(Hz.t "NoDivisor"), [(.ref 84)], [(.ref 191), (.ref 84), (.ref 59), (.type "ValueError"), (.type "Exception"), (.type "BaseException"), (.type "object")], 190, (Hz.t "NoDivisor"), true, [], [], false, none, false⟩), #[(some (.ref 182)), none, (some (.str (Hz.t "NoDivisor") 562)), (some (.str (Hz.t "NoDivisor") 570)), (some (.builtin "ValueError.__new__")), (some (.bool true))]⟩
def zo192 (P : Params) : Obj := ⟨(.type "super"), none, (.fields #[(.ref 191), (.ref 191), (.ref 191)]), #[]⟩
def zo193 (P : Params) : Obj := ⟨(.type "builtin_function_or_method"), none, (.fields #[(.builtin "object.__init_subclass__"), (.ref 191)]), #[]⟩
def zo194 (P : Params) : Obj := ⟨(.type "tuple"), none, (.seq #[(.ref 84)] 0), #[]⟩
def zo195 (P : Params) : Obj := ⟨(.type "builtin_function_or_method"), none, (.fields #[(.builtin "type.__prepare__"), (.type "type")]), #[]⟩
def zo196 (P : Params) : Obj := ⟨(.type "dict"), none, (.dict #[(Hz.en P "__module__" 585 (.str (Hz.t "anyfifth.errors") 383)), (Hz.en P "__qualname__" 587 (.str (Hz.t "TooMany") 586)), (Hz.en P "__firstlineno__" 589 (.int 35 588)), (Hz.en P "__init__" 598 (.ref 207)), (Hz.en P "__static_attributes__" 601 (.ref 208))] 5), #[]⟩
def zo197 (P : Params) : Obj := ⟨(.type "tuple"), none, (.seq #[] 0), #[]⟩
def zo198 (P : Params) : Obj := ⟨.none, none, (.fields #[(.int 37 0), (.int 4 0), (.ref 206)]), #[]⟩
def zo199 (P : Params) : Obj := ⟨(.type "code"), none, (.fields #[(.str (Hz.t "TooMany") 580), (.str (Hz.t "TooMany") 581), (.str (Hz.t "/claim/cut.py") 582), (.int 35 0), (.int 0 0), (.int 0 0), (.int 0 0), (.int 0 0), (.ref 197), (.bool false), (.int 370 0), (.ref 198), .none, .none, .none, .none, (.int 583 0), (.int 35 0), (.str (Hz.t "/claim/cut.py") 584)]), #[]⟩
def zo200 (P : Params) : Obj := ⟨(.type "frame"), none, .plain, #[(some (.ref 199)), (some (.ref 3)), (some (.ref 196)), none, (some (.str (Hz.t "anyfifth.errors") 383)), none, (some (.ref 0))]⟩
def zo201 (P : Params) : Obj := ⟨(.type "tuple"), none, (.seq #[] 0), #[]⟩
def zo202 (P : Params) : Obj := ⟨.none, none, (.fields #[]), #[]⟩
def zo203 (P : Params) : Obj := ⟨(.type "tuple"), none, (.seq #[(.str (Hz.t "self") 593), (.str (Hz.t "what") 594), (.str (Hz.t "most") 595)] 0), #[]⟩
def zo204 (P : Params) : Obj := ⟨(.type "tuple"), none, (.seq #[] 0), #[]⟩
def zo205 (P : Params) : Obj := ⟨.none, none, (.func (Hz.fnD (inClass (ztop 12) 0) "__init__" "TooMany.__init__" 0 [] .none .none .none .none none .none .none 0)), #[]⟩
def zo206 (P : Params) : Obj := ⟨(.type "code"), none, (.fields #[(.str (Hz.t "__init__") 590), (.str (Hz.t "TooMany.__init__") 591), (.str (Hz.t "/claim/cut.py") 592), (.int 37 0), (.int 3 0), (.int 0 0), (.int 0 0), (.int 3 0), (.ref 201), (.bool true), (.int 370 0), (.ref 202), .none, (.ref 203), (.ref 204), (.ref 205), (.int 596 0), (.int 37 0), (.str (Hz.t "/claim/cut.py") 597)]), #[]⟩
def zo207 (P : Params) : Obj := ⟨(.type "function"), none, (.func (Hz.fnD (inClass (ztop 12) 0) "__init__" "TooMany.__init__" 3 [] .none .none .none (.str (Hz.t "anyfifth.errors") 383) none (.ref 206) .none 0)), #[]⟩
def zo208 (P : Params) : Obj := ⟨(.type "tuple"), none, (.seq #[(.str (Hz.t "most") 599), (.str (Hz.t "what") 600)] 0), #[]⟩
def zo209 (P : Params) : Obj := ⟨(.type "dict"), none, (.dict #[(Hz.en P "__module__" 585 (.str (Hz.t "anyfifth.errors") 383)), (Hz.en P "__firstlineno__" 589 (.int 35 588)), (Hz.en P "__init__" 598 (.ref 207)), (Hz.en P "__static_attributes__" 601 (.ref 208)), (Hz.en P "__doc__" 602 .none)] 2), #[]⟩
def zo210 (P : Params) : Obj := ⟨(.type "type"), none, (.cls ⟨(Hz.t "TooMany"), [(.ref 84)], [(.ref 210), (.ref 84), (.ref 59), (.type "ValueError"), (.type "Exception"), (.type "BaseException"), (.type "object")], 209, (Hz.t "TooMany"), true, [], [], false, none, false⟩), #[(some (.ref 194)), none, (some (.str (Hz.t "TooMany") 578)), (some (.str (Hz.t "TooMany") 586)), (some (.builtin "ValueError.__new__")), (some (.bool true))]⟩
def zo211 (P : Params) : Obj := ⟨(.type "super"), none, (.fields #[(.ref 210), (.ref 210), (.ref 210)]), #[]⟩
def zo212 (P : Params) : Obj := ⟨(.type "builtin_function_or_method"), none, (.fields #[(.builtin "object.__init_subclass__"), (.ref 210)]), #[]⟩
def zo213 (P : Params) : Obj := ⟨(.type "tuple"), none, (.seq #[] 0), #[]⟩
def zo214 (P : Params) : Obj := ⟨.none, none, (.fields #[]), #[]⟩
def zo215 (P : Params) : Obj := ⟨(.type "tuple"), none, (.seq #[(.str (Hz.t "value") 610)] 0), #[]⟩
def zo216 (P : Params) : Obj := ⟨(.type "tuple"), none, (.seq #[] 0), #[]⟩
def zo217 (P : Params) : Obj := ⟨.none, none, (.func (Hz.fnD (ztop 14) "is_int" "is_int" 0 [] .none .none .none .none none .none .none 0)), #[]⟩
def zo218 (P : Params) : Obj := ⟨(.type "code"), none, (.fields #[(.str (Hz.t "is_int") 607), (.str (Hz.t "is_int") 608), (.str (Hz.t "/claim/cut.py") 609), (.int 41 0), (.int 1 0), (.int 0 0), (.int 0 0), (.int 3 0), (.ref 213), (.bool true), (.int 370 0), (.ref 214), .none, (.ref 215), (.ref 216), (.ref 217), (.int 611 0), (.int 41 0), (.str (Hz.t "/claim/cut.py") 612)]), #[]⟩
def zo219 (P : Params) : Obj := ⟨(.type "function"), none, (.func (Hz.fnD (ztop 14) "is_int" "is_int" 3 [] .none .none .none (.str (Hz.t "anyfifth.plain") 605) none (.ref 218) .none 0)), #[]⟩
def zo220 (P : Params) : Obj := ⟨(.type "tuple"), none, (.seq #[] 0), #[]⟩
def zo221 (P : Params) : Obj := ⟨.none, none, (.fields #[]), #[]⟩
def zo222 (P : Params) : Obj := ⟨(.type "tuple"), none, (.seq #[(.str (Hz.t "number") 617), (.str (Hz.t "power") 618), (.str (Hz.t "figures") 619), (.str (Hz.t "high") 620), (.str (Hz.t "low") 621)] 0), #[]⟩
def zo223 (P : Params) : Obj := ⟨(.type "tuple"), none, (.seq #[] 0), #[]⟩
def zo224 (P : Params) : Obj := ⟨.none, none, (.func (Hz.fnD (ztop 15) "written" "written" 0 [] .none .none .none .none none .none .none 0)), #[]⟩
def zo225 (P : Params) : Obj := ⟨(.type "code"), none, (.fields #[(.str (Hz.t "written") 614), (.str (Hz.t "written") 615), (.str (Hz.t "/claim/cut.py") 616), (.int 43 0), (.int 1 0), (.int 0 0), (.int 0 0), (.int 3 0), (.ref 220), (.bool true), (.int 370 0), (.ref 221), .none, (.ref 222), (.ref 223), (.ref 224), (.int 622 0), (.int 43 0), (.str (Hz.t "/claim/cut.py") 623)]), #[]⟩
def zo226 (P : Params) : Obj := ⟨(.type "function"), none, (.func (Hz.fnD (ztop 15) "written" "written" 3 [] .none .none .none (.str (Hz.t "anyfifth.plain") 605) none (.ref 225) .none 0)), #[]⟩
def zo227 (P : Params) : Obj := ⟨(.type "tuple"), none, (.seq #[] 0), #[]⟩
def zo228 (P : Params) : Obj := ⟨.none, none, (.fields #[]), #[]⟩
def zo229 (P : Params) : Obj := ⟨(.type "tuple"), none, (.seq #[(.str (Hz.t "word") 628), (.str (Hz.t "most") 629), (.str (Hz.t "figures") 630)] 0), #[]⟩
def zo230 (P : Params) : Obj := ⟨(.type "tuple"), none, (.seq #[] 0), #[]⟩
def zo231 (P : Params) : Obj := ⟨.none, none, (.func (Hz.fnD (ztop 16) "integer_in" "integer_in" 0 [] .none .none .none .none none .none .none 0)), #[]⟩
def zo232 (P : Params) : Obj := ⟨(.type "code"), none, (.fields #[(.str (Hz.t "integer_in") 625), (.str (Hz.t "integer_in") 626), (.str (Hz.t "/claim/cut.py") 627), (.int 53 0), (.int 2 0), (.int 0 0), (.int 0 0), (.int 3 0), (.ref 227), (.bool true), (.int 370 0), (.ref 228), .none, (.ref 229), (.ref 230), (.ref 231), (.int 631 0), (.int 53 0), (.str (Hz.t "/claim/cut.py") 632)]), #[]⟩
def zo233 (P : Params) : Obj := ⟨(.type "function"), none, (.func (Hz.fnD (ztop 16) "integer_in" "integer_in" 3 [] .none .none .none (.str (Hz.t "anyfifth.plain") 605) none (.ref 232) .none 0)), #[]⟩
def zo234 (P : Params) : Obj := ⟨(.type "tuple"), none, (.seq #[] 0), #[]⟩
def zo235 (P : Params) : Obj := ⟨.none, none, (.fields #[]), #[]⟩
def zo236 (P : Params) : Obj := ⟨(.type "tuple"), none, (.seq #[(.str (Hz.t "value") 637), (.str (Hz.t "low") 638), (.str (Hz.t "high") 639)] 0), #[]⟩
def zo237 (P : Params) : Obj := ⟨(.type "tuple"), none, (.seq #[] 0), #[]⟩
def zo238 (P : Params) : Obj := ⟨.none, none, (.func (Hz.fnD (ztop 17) "is_from_to" "is_from_to" 0 [] .none .none .none .none none .none .none 0)), #[]⟩
def zo239 (P : Params) : Obj := ⟨(.type "code"), none, (.fields #[(.str (Hz.t "is_from_to") 634), (.str (Hz.t "is_from_to") 635), (.str (Hz.t "/claim/cut.py") 636), (.int 60 0), (.int 3 0), (.int 0 0), (.int 0 0), (.int 3 0), (.ref 234), (.bool true), (.int 370 0), (.ref 235), .none, (.ref 236), (.ref 237), (.ref 238), (.int 640 0), (.int 60 0), (.str (Hz.t "/claim/cut.py") 641)]), #[]⟩
def zo240 (P : Params) : Obj := ⟨(.type "function"), none, (.func (Hz.fnD (ztop 17) "is_from_to" "is_from_to" 3 [] .none .none .none (.str (Hz.t "anyfifth.plain") 605) none (.ref 239) .none 0)), #[]⟩
def zo241 (P : Params) : Obj := ⟨(.type "tuple"), none, (.seq #[] 0), #[]⟩
def zo242 (P : Params) : Obj := ⟨(.type "builtin_function_or_method"), none, (.fields #[(.builtin "type.__prepare__"), (.type "type")]), #[]⟩
def zo243 (P : Params) : Obj := ⟨(.type "dict"), none, (.dict #[(Hz.en P "__module__" 652 (.str (Hz.t "anyfifth.ratios") 643)), (Hz.en P "__qualname__" 654 (.str (Hz.t "Ratio") 653)), (Hz.en P "__firstlineno__" 656 (.int 63 655)), (Hz.en P "__init__" 667 (.ref 255)), (Hz.en P "is_number" 686 (.ref 264)), (Hz.en P "is_fifth" 705 (.ref 274)), (Hz.en P "of" 724 (.ref 284)), (Hz.en P "total" 743 (.ref 294)), (Hz.en P "read" 764 (.ref 304)), (Hz.en P "is_whole" 772 (.ref 313)), (Hz.en P "over" 780 (.ref 320)), (Hz.en P "__add__" 790 (.ref 327)), (Hz.en P "__radd__" 798 (.ref 334)), (Hz.en P "__sub__" 808 (.ref 341)), (Hz.en P "__rsub__" 816 (.ref 348)), (Hz.en P "__mul__" 826 (.ref 355)), (Hz.en P "__rmul__" 834 (.ref 362)), (Hz.en P "__floordiv__" 842 (.ref 369)), (Hz.en P "__rfloordiv__" 850 (.ref 376)), (Hz.en P "__mod__" 858 (.ref 383)), (Hz.en P "__rmod__" 866 (.ref 390)), (Hz.en P "__neg__" 873 (.ref 397)), (Hz.en P "__abs__" 880 (.ref 404)), (Hz.en P "__bool__" 887 (.ref 411)), (Hz.en P "__eq__" 895 (.ref 418)), (Hz.en P "__lt__" 903 (.ref 425)), (Hz.en P "__le__" 911 (.ref 432)), (Hz.en P "__gt__" 919 (.ref 439)), (Hz.en P "__ge__" 927 (.ref 446)), (Hz.en P "__str__" 934 (.ref 453)), (Hz.en P "__static_attributes__" 937 (.ref 454))] 31), #[]⟩
def zo244 (P : Params) : Obj := ⟨(.type "tuple"), none, (.seq #[] 0), #[]⟩
def zo245 (P : Params) : Obj := ⟨.none, none, (.fields #[(.int 65 0), (.int 4 0), (.ref 254), (.int 77 0), (.int 4 0), (.ref 261), (.int 81 0), (.int 4 0), (.ref 271), (.int 85 0), (.int 4 0), (.ref 281), (.int 93 0), (.int 4 0), (.ref 291), (.int 97 0), (.int 4 0), (.ref 301), (.int 104 0), (.int 4 0), (.ref 311), (.int 107 0), (.int 4 0), (.ref 319), (.int 110 0), (.int 4 0), (.ref 326), (.int 116 0), (.int 4 0), (.ref 333), (.int 119 0), (.int 4 0), (.ref 340), (.int 125 0), (.int 4 0), (.ref 347), (.int 128 0), (.int 4 0), (.ref 354), (.int 134 0), (.int 4 0), (.ref 361), (.int 137 0), (.int 4 0), (.ref 368), (.int 142 0), (.int 4 0), (.ref 375), (.int 147 0), (.int 4 0), (.ref 382), (.int 152 0), (.int 4 0), (.ref 389), (.int 157 0), (.int 4 0), (.ref 396), (.int 160 0), (.int 4 0), (.ref 403), (.int 163 0), (.int 4 0), (.ref 410), (.int 166 0), (.int 4 0), (.ref 417), (.int 171 0), (.int 4 0), (.ref 424), (.int 176 0), (.int 4 0), (.ref 431), (.int 181 0), (.int 4 0), (.ref 438), (.int 186 0), (.int 4 0), (.ref 445), (.int 191 0), (.int 4 0), (.ref 452)]), #[]⟩
def zo246 (P : Params) : Obj := ⟨(.type "code"), none, (.fields #[(.str (Hz.t "Ratio") 647), (.str (Hz.t "Ratio") 648), (.str (Hz.t "/claim/cut.py") 649), (.int 63 0), (.int 0 0), (.int 0 0), (.int 0 0), (.int 0 0), (.ref 244), (.bool false), (.int 370 0), (.ref 245), .none, .none, .none, .none, (.int 650 0), (.int 63 0), (.str (Hz.t "/claim/cut.py") 651)]), #[]⟩
def zo247 (P : Params) : Obj := ⟨(.type "frame"), none, .plain, #[(some (.ref 246)), (some (.ref 3)), (some (.ref 243)), none, (some (.str (Hz.t "anyfifth.ratios") 643)), none, (some (.ref 0))]⟩
def zo248 (P : Params) : Obj := ⟨(.type "tuple"), none, (.seq #[(.int 1 657)] 0), #[]⟩
def zo249 (P : Params) : Obj := ⟨(.type "tuple"), none, (.seq #[] 0), #[]⟩
def zo250 (P : Params) : Obj := ⟨.none, none, (.fields #[]), #[]⟩
def zo251 (P : Params) : Obj := ⟨(.type "tuple"), none, (.seq #[(.str (Hz.t "self") 661), (.str (Hz.t "top") 662), (.str (Hz.t "bottom") 663), (.str (Hz.t "divisor") 664)] 0), #[]⟩
def zo252 (P : Params) : Obj := ⟨(.type "tuple"), none, (.seq #[] 0), #[]⟩
def zo253 (P : Params) : Obj := ⟨.none, none, (.func (Hz.fnD (inClass (ztop 19) 0) "__init__" "Ratio.__init__" 0 [] .none .none .none .none none .none .none 0)), #[]⟩
def zo254 (P : Params) : Obj := ⟨(.type "code"), none, (.fields #[(.str (Hz.t "__init__") 658), (.str (Hz.t "Ratio.__init__") 659), (.str (Hz.t "/claim/cut.py") 660), (.int 65 0), (.int 3 0), (.int 0 0), (.int 0 0), (.int 3 0), (.ref 249), (.bool true), (.int 370 0), (.ref 250), .none, (.ref 251), (.ref 252), (.ref 253), (.int 665 0), (.int 65 0), (.str (Hz.t "/claim/cut.py") 666)]), #[]⟩
def zo255 (P : Params) : Obj := ⟨(.type "function"), none, (.func (Hz.fnD (inClass (ztop 19) 0) "__init__" "Ratio.__init__" 3 [] (.ref 248) .none .none (.str (Hz.t "anyfifth.ratios") 643) none (.ref 254) .none 0)), #[]⟩
def zo256 (P : Params) : Obj := ⟨(.type "tuple"), none, (.seq #[] 0), #[]⟩
def zo257 (P : Params) : Obj := ⟨.none, none, (.fields #[]), #[]⟩
def zo258 (P : Params) : Obj := ⟨(.type "tuple"), none, (.seq #[(.str (Hz.t "value") 671)] 0), #[]⟩
def zo259 (P : Params) : Obj := ⟨(.type "tuple"), none, (.seq #[] 0), #[]⟩
def zo260 (P : Params) : Obj := ⟨.none, none, (.func (Hz.fnD (inClass (ztop 19) 1) "is_number" "Ratio.is_number" 0 [] .none .none .none .none none .none .none 0)), #[]⟩
def zo261 (P : Params) : Obj := ⟨(.type "code"), none, (.fields #[(.str (Hz.t "is_number") 668), (.str (Hz.t "Ratio.is_number") 669), (.str (Hz.t "/claim/cut.py") 670), (.int 76 0), (.int 1 0), (.int 0 0), (.int 0 0), (.int 3 0), (.ref 256), (.bool true), (.int 370 0), (.ref 257), .none, (.ref 258), (.ref 259), (.ref 260), (.int 672 0), (.int 76 0), (.str (Hz.t "/claim/cut.py") 673)]), #[]⟩
def zo262 (P : Params) : Obj := ⟨(.type "function"), none, (.func (Hz.fnD (inClass (ztop 19) 1) "is_number" "Ratio.is_number" 3 [] .none .none .none (.str (Hz.t "anyfifth.ratios") 643) (some 265) (.ref 261) .none 0)), #[]⟩
def zo263 (P : Params) : Obj := ⟨(.type "dict"), none, (.dict #[(Hz.en P "__module__" 675 (.str (Hz.t "anyfifth.ratios") 643)), (Hz.en P "__name__" 678 (.str (Hz.t "is_number") 677)), (Hz.en P "__qualname__" 681 (.str (Hz.t "Ratio.is_number") 680)), (Hz.en P "__doc__" 683 .none), (Hz.en P "__annotations__" 685 (.ref 265))] 5), #[]⟩
def zo264 (P : Params) : Obj := ⟨(.type "staticmethod"), (some 263), (.fields #[(.ref 262), (.bool false)]), #[]⟩
def zo265 (P : Params) : Obj := ⟨(.type "dict"), none, (.dict #[] 0), #[]⟩
def zo266 (P : Params) : Obj := ⟨(.type "tuple"), none, (.seq #[] 0), #[]⟩
def zo267 (P : Params) : Obj := ⟨.none, none, (.fields #[]), #[]⟩
def zo268 (P : Params) : Obj := ⟨(.type "tuple"), none, (.seq #[(.str (Hz.t "value") 690)] 0), #[]⟩
def zo269 (P : Params) : Obj := ⟨(.type "tuple"), none, (.seq #[] 0), #[]⟩
def zo270 (P : Params) : Obj := ⟨.none, none, (.func (Hz.fnD (inClass (ztop 19) 2) "is_fifth" "Ratio.is_fifth" 0 [] .none .none .none .none none .none .none 0)), #[]⟩
def zo271 (P : Params) : Obj := ⟨(.type "code"), none, (.fields #[(.str (Hz.t "is_fifth") 687), (.str (Hz.t "Ratio.is_fifth") 688), (.str (Hz.t "/claim/cut.py") 689), (.int 80 0), (.int 1 0), (.int 0 0), (.int 0 0), (.int 3 0), (.ref 266), (.bool true), (.int 370 0), (.ref 267), .none, (.ref 268), (.ref 269), (.ref 270), (.int 691 0), (.int 80 0), (.str (Hz.t "/claim/cut.py") 692)]), #[]⟩
def zo272 (P : Params) : Obj := ⟨(.type "function"), none, (.func (Hz.fnD (inClass (ztop 19) 2) "is_fifth" "Ratio.is_fifth" 3 [] .none .none .none (.str (Hz.t "anyfifth.ratios") 643) (some 275) (.ref 271) .none 0)), #[]⟩
def zo273 (P : Params) : Obj := ⟨(.type "dict"), none, (.dict #[(Hz.en P "__module__" 694 (.str (Hz.t "anyfifth.ratios") 643)), (Hz.en P "__name__" 697 (.str (Hz.t "is_fifth") 696)), (Hz.en P "__qualname__" 700 (.str (Hz.t "Ratio.is_fifth") 699)), (Hz.en P "__doc__" 702 .none), (Hz.en P "__annotations__" 704 (.ref 275))] 5), #[]⟩
def zo274 (P : Params) : Obj := ⟨(.type "staticmethod"), (some 273), (.fields #[(.ref 272), (.bool false)]), #[]⟩
def zo275 (P : Params) : Obj := ⟨(.type "dict"), none, (.dict #[] 0), #[]⟩
def zo276 (P : Params) : Obj := ⟨(.type "tuple"), none, (.seq #[] 0), #[]⟩
def zo277 (P : Params) : Obj := ⟨.none, none, (.fields #[]), #[]⟩
def zo278 (P : Params) : Obj := ⟨(.type "tuple"), none, (.seq #[(.str (Hz.t "number") 709)] 0), #[]⟩
def zo279 (P : Params) : Obj := ⟨(.type "tuple"), none, (.seq #[] 0), #[]⟩
def zo280 (P : Params) : Obj := ⟨.none, none, (.func (Hz.fnD (inClass (ztop 19) 3) "of" "Ratio.of" 0 [] .none .none .none .none none .none .none 0)), #[]⟩
def zo281 (P : Params) : Obj := ⟨(.type "code"), none, (.fields #[(.str (Hz.t "of") 706), (.str (Hz.t "Ratio.of") 707), (.str (Hz.t "/claim/cut.py") 708), (.int 84 0), (.int 1 0), (.int 0 0), (.int 0 0), (.int 3 0), (.ref 276), (.bool true), (.int 370 0), (.ref 277), .none, (.ref 278), (.ref 279), (.ref 280), (.int 710 0), (.int 84 0), (.str (Hz.t "/claim/cut.py") 711)]), #[]⟩
def zo282 (P : Params) : Obj := ⟨(.type "function"), none, (.func (Hz.fnD (inClass (ztop 19) 3) "of" "Ratio.of" 3 [] .none .none .none (.str (Hz.t "anyfifth.ratios") 643) (some 285) (.ref 281) .none 0)), #[]⟩
def zo283 (P : Params) : Obj := ⟨(.type "dict"), none, (.dict #[(Hz.en P "__module__" 713 (.str (Hz.t "anyfifth.ratios") 643)), (Hz.en P "__name__" 716 (.str (Hz.t "of") 715)), (Hz.en P "__qualname__" 719 (.str (Hz.t "Ratio.of") 718)), (Hz.en P "__doc__" 721 .none), (Hz.en P "__annotations__" 723 (.ref 285))] 5), #[]⟩
def zo284 (P : Params) : Obj := ⟨(.type "staticmethod"), (some 283), (.fields #[(.ref 282), (.bool false)]), #[]⟩
def zo285 (P : Params) : Obj := ⟨(.type "dict"), none, (.dict #[] 0), #[]⟩
def zo286 (P : Params) : Obj := ⟨(.type "tuple"), none, (.seq #[] 0), #[]⟩
def zo287 (P : Params) : Obj := ⟨.none, none, (.fields #[]), #[]⟩
def zo288 (P : Params) : Obj := ⟨(.type "tuple"), none, (.seq #[(.str (Hz.t "numbers") 728)] 0), #[]⟩
def zo289 (P : Params) : Obj := ⟨(.type "tuple"), none, (.seq #[] 0), #[]⟩
def zo290 (P : Params) : Obj := ⟨.none, none, (.func (Hz.fnD (inClass (ztop 19) 4) "total" "Ratio.total" 0 [] .none .none .none .none none .none .none 0)), #[]⟩
def zo291 (P : Params) : Obj := ⟨(.type "code"), none, (.fields #[(.str (Hz.t "total") 725), (.str (Hz.t "Ratio.total") 726), (.str (Hz.t "/claim/cut.py") 727), (.int 92 0), (.int 1 0), (.int 0 0), (.int 0 0), (.int 3 0), (.ref 286), (.bool true), (.int 370 0), (.ref 287), .none, (.ref 288), (.ref 289), (.ref 290), (.int 729 0), (.int 92 0), (.str (Hz.t "/claim/cut.py") 730)]), #[]⟩
def zo292 (P : Params) : Obj := ⟨(.type "function"), none, (.func (Hz.fnD (inClass (ztop 19) 4) "total" "Ratio.total" 3 [] .none .none .none (.str (Hz.t "anyfifth.ratios") 643) (some 295) (.ref 291) .none 0)), #[]⟩
def zo293 (P : Params) : Obj := ⟨(.type "dict"), none, (.dict #[(Hz.en P "__module__" 732 (.str (Hz.t "anyfifth.ratios") 643)), (Hz.en P "__name__" 735 (.str (Hz.t "total") 734)), (Hz.en P "__qualname__" 738 (.str (Hz.t "Ratio.total") 737)), (Hz.en P "__doc__" 740 .none), (Hz.en P "__annotations__" 742 (.ref 295))] 5), #[]⟩
def zo294 (P : Params) : Obj := ⟨(.type "staticmethod"), (some 293), (.fields #[(.ref 292), (.bool false)]), #[]⟩
def zo295 (P : Params) : Obj := ⟨(.type "dict"), none, (.dict #[] 0), #[]⟩
def zo296 (P : Params) : Obj := ⟨(.type "tuple"), none, (.seq #[] 0), #[]⟩
def zo297 (P : Params) : Obj := ⟨.none, none, (.fields #[]), #[]⟩
def zo298 (P : Params) : Obj := ⟨(.type "tuple"), none, (.seq #[(.str (Hz.t "cls") 747), (.str (Hz.t "text") 748), (.str (Hz.t "found") 749)] 0), #[]⟩
def zo299 (P : Params) : Obj := ⟨(.type "tuple"), none, (.seq #[] 0), #[]⟩
def zo300 (P : Params) : Obj := ⟨.none, none, (.func (Hz.fnD (inClass (ztop 19) 5) "read" "Ratio.read" 0 [] .none .none .none .none none .none .none 0)), #[]⟩
def zo301 (P : Params) : Obj := ⟨(.type "code"), none, (.fields #[(.str (Hz.t "read") 744), (.str (Hz.t "Ratio.read") 745), (.str (Hz.t "/claim/cut.py") 746), (.int 96 0), (.int 2 0), (.int 0 0), (.int 0 0), (.int 3 0), (.ref 296), (.bool true), (.int 370 0), (.ref 297), .none, (.ref 298), (.ref 299), (.ref 300), (.int 750 0), (.int 96 0), (.str (Hz.t "/claim/cut.py") 751)]), #[]⟩
def zo302 (P : Params) : Obj := ⟨(.type "function"), none, (.func (Hz.fnD (inClass (ztop 19) 5) "read" "Ratio.read" 3 [] .none .none .none (.str (Hz.t "anyfifth.ratios") 643) (some 305) (.ref 301) .none 0)), #[]⟩
def zo303 (P : Params) : Obj := ⟨(.type "dict"), none, (.dict #[(Hz.en P "__module__" 753 (.str (Hz.t "anyfifth.ratios") 643)), (Hz.en P "__name__" 756 (.str (Hz.t "read") 755)), (Hz.en P "__qualname__" 759 (.str (Hz.t "Ratio.read") 758)), (Hz.en P "__doc__" 761 .none), (Hz.en P "__annotations__" 763 (.ref 305))] 5), #[]⟩
def zo304 (P : Params) : Obj := ⟨(.type "classmethod"), (some 303), (.fields #[(.ref 302), (.bool false)]), #[]⟩
def zo305 (P : Params) : Obj := ⟨(.type "dict"), none, (.dict #[] 0), #[]⟩
def zo306 (P : Params) : Obj := ⟨(.type "tuple"), none, (.seq #[] 0), #[]⟩
def zo307 (P : Params) : Obj := ⟨.none, none, (.fields #[]), #[]⟩
def zo308 (P : Params) : Obj := ⟨(.type "tuple"), none, (.seq #[(.str (Hz.t "self") 768)] 0), #[]⟩
def zo309 (P : Params) : Obj := ⟨(.type "tuple"), none, (.seq #[] 0), #[]⟩
def zo310 (P : Params) : Obj := ⟨.none, none, (.func (Hz.fnD (inClass (ztop 19) 6) "is_whole" "Ratio.is_whole" 0 [] .none .none .none .none none .none .none 0)), #[]⟩
def zo311 (P : Params) : Obj := ⟨(.type "code"), none, (.fields #[(.str (Hz.t "is_whole") 765), (.str (Hz.t "Ratio.is_whole") 766), (.str (Hz.t "/claim/cut.py") 767), (.int 103 0), (.int 1 0), (.int 0 0), (.int 0 0), (.int 3 0), (.ref 306), (.bool true), (.int 370 0), (.ref 307), .none, (.ref 308), (.ref 309), (.ref 310), (.int 769 0), (.int 103 0), (.str (Hz.t "/claim/cut.py") 770)]), #[]⟩
def zo312 (P : Params) : Obj := ⟨(.type "function"), none, (.func (Hz.fnD (inClass (ztop 19) 6) "is_whole" "Ratio.is_whole" 3 [] .none .none .none (.str (Hz.t "anyfifth.ratios") 643) none (.ref 311) .none 0)), #[]⟩
def zo313 (P : Params) : Obj := ⟨(.type "property"), none, (.fields #[(.ref 312), .none, .none, .none, (.str (Hz.t "is_whole") 772), (.bool false)]), #[]⟩
def zo314 (P : Params) : Obj := ⟨(.type "tuple"), none, (.seq #[] 0), #[]⟩
def zo315 (P : Params) : Obj := ⟨.none, none, (.fields #[]), #[]⟩
def zo316 (P : Params) : Obj := ⟨(.type "tuple"), none, (.seq #[(.str (Hz.t "self") 776), (.str (Hz.t "number") 777)] 0), #[]⟩
def zo317 (P : Params) : Obj := ⟨(.type "tuple"), none, (.seq #[] 0), #[]⟩
def zo318 (P : Params) : Obj := ⟨.none, none, (.func (Hz.fnD (inClass (ztop 19) 7) "over" "Ratio.over" 0 [] .none .none .none .none none .none .none 0)), #[]⟩
def zo319 (P : Params) : Obj := ⟨(.type "code"), none, (.fields #[(.str (Hz.t "over") 773), (.str (Hz.t "Ratio.over") 774), (.str (Hz.t "/claim/cut.py") 775), (.int 107 0), (.int 2 0), (.int 0 0), (.int 0 0), (.int 3 0), (.ref 314), (.bool true), (.int 370 0), (.ref 315), .none, (.ref 316), (.ref 317), (.ref 318), (.int 778 0), (.int 107 0), (.str (Hz.t "/claim/cut.py") 779)]), #[]⟩
def zo320 (P : Params) : Obj := ⟨(.type "function"), none, (.func (Hz.fnD (inClass (ztop 19) 7) "over" "Ratio.over" 3 [] .none .none .none (.str (Hz.t "anyfifth.ratios") 643) none (.ref 319) .none 0)), #[]⟩
def zo321 (P : Params) : Obj := ⟨(.type "tuple"), none, (.seq #[] 0), #[]⟩
def zo322 (P : Params) : Obj := ⟨.none, none, (.fields #[]), #[]⟩
def zo323 (P : Params) : Obj := ⟨(.type "tuple"), none, (.seq #[(.str (Hz.t "self") 784), (.str (Hz.t "other") 785), (.str (Hz.t "top") 786), (.str (Hz.t "bottom") 787)] 0), #[]⟩
def zo324 (P : Params) : Obj := ⟨(.type "tuple"), none, (.seq #[] 0), #[]⟩
def zo325 (P : Params) : Obj := ⟨.none, none, (.func (Hz.fnD (inClass (ztop 19) 8) "__add__" "Ratio.__add__" 0 [] .none .none .none .none none .none .none 0)), #[]⟩
def zo326 (P : Params) : Obj := ⟨(.type "code"), none, (.fields #[(.str (Hz.t "__add__") 781), (.str (Hz.t "Ratio.__add__") 782), (.str (Hz.t "/claim/cut.py") 783), (.int 110 0), (.int 2 0), (.int 0 0), (.int 0 0), (.int 3 0), (.ref 321), (.bool true), (.int 370 0), (.ref 322), .none, (.ref 323), (.ref 324), (.ref 325), (.int 788 0), (.int 110 0), (.str (Hz.t "/claim/cut.py") 789)]), #[]⟩
def zo327 (P : Params) : Obj := ⟨(.type "function"), none, (.func (Hz.fnD (inClass (ztop 19) 8) "__add__" "Ratio.__add__" 3 [] .none .none .none (.str (Hz.t "anyfifth.ratios") 643) none (.ref 326) .none 0)), #[]⟩
def zo328 (P : Params) : Obj := ⟨(.type "tuple"), none, (.seq #[] 0), #[]⟩
def zo329 (P : Params) : Obj := ⟨.none, none, (.fields #[]), #[]⟩
def zo330 (P : Params) : Obj := ⟨(.type "tuple"), none, (.seq #[(.str (Hz.t "self") 794), (.str (Hz.t "other") 795)] 0), #[]⟩
def zo331 (P : Params) : Obj := ⟨(.type "tuple"), none, (.seq #[] 0), #[]⟩
def zo332 (P : Params) : Obj := ⟨.none, none, (.func (Hz.fnD (inClass (ztop 19) 9) "__radd__" "Ratio.__radd__" 0 [] .none .none .none .none none .none .none 0)), #[]⟩
def zo333 (P : Params) : Obj := ⟨(.type "code"), none, (.fields #[(.str (Hz.t "__radd__") 791), (.str (Hz.t "Ratio.__radd__") 792), (.str (Hz.t "/claim/cut.py") 793), (.int 116 0), (.int 2 0), (.int 0 0), (.int 0 0), (.int 3 0), (.ref 328), (.bool true), (.int 370 0), (.ref 329), .none, (.ref 330), (.ref 331), (.ref 332), (.int 796 0), (.int 116 0), (.str (Hz.t "/claim/cut.py") 797)]), #[]⟩
def zo334 (P : Params) : Obj := ⟨(.type "function"), none, (.func (Hz.fnD (inClass (ztop 19) 9) "__radd__" "Ratio.__radd__" 3 [] .none .none .none (.str (Hz.t "anyfifth.ratios") 643) none (.ref 333) .none 0)), #[]⟩
def zo335 (P : Params) : Obj := ⟨(.type "tuple"), none, (.seq #[] 0), #[]⟩
def zo336 (P : Params) : Obj := ⟨.none, none, (.fields #[]), #[]⟩
def zo337 (P : Params) : Obj := ⟨(.type "tuple"), none, (.seq #[(.str (Hz.t "self") 802), (.str (Hz.t "other") 803), (.str (Hz.t "top") 804), (.str (Hz.t "bottom") 805)] 0), #[]⟩
def zo338 (P : Params) : Obj := ⟨(.type "tuple"), none, (.seq #[] 0), #[]⟩
def zo339 (P : Params) : Obj := ⟨.none, none, (.func (Hz.fnD (inClass (ztop 19) 10) "__sub__" "Ratio.__sub__" 0 [] .none .none .none .none none .none .none 0)), #[]⟩
def zo340 (P : Params) : Obj := ⟨(.type "code"), none, (.fields #[(.str (Hz.t "__sub__") 799), (.str (Hz.t "Ratio.__sub__") 800), (.str (Hz.t "/claim/cut.py") 801), (.int 119 0), (.int 2 0), (.int 0 0), (.int 0 0), (.int 3 0), (.ref 335), (.bool true), (.int 370 0), (.ref 336), .none, (.ref 337), (.ref 338), (.ref 339), (.int 806 0), (.int 119 0), (.str (Hz.t "/claim/cut.py") 807)]), #[]⟩
def zo341 (P : Params) : Obj := ⟨(.type "function"), none, (.func (Hz.fnD (inClass (ztop 19) 10) "__sub__" "Ratio.__sub__" 3 [] .none .none .none (.str (Hz.t "anyfifth.ratios") 643) none (.ref 340) .none 0)), #[]⟩
def zo342 (P : Params) : Obj := ⟨(.type "tuple"), none, (.seq #[] 0), #[]⟩
def zo343 (P : Params) : Obj := ⟨.none, none, (.fields #[]), #[]⟩
def zo344 (P : Params) : Obj := ⟨(.type "tuple"), none, (.seq #[(.str (Hz.t "self") 812), (.str (Hz.t "other") 813)] 0), #[]⟩
def zo345 (P : Params) : Obj := ⟨(.type "tuple"), none, (.seq #[] 0), #[]⟩
def zo346 (P : Params) : Obj := ⟨.none, none, (.func (Hz.fnD (inClass (ztop 19) 11) "__rsub__" "Ratio.__rsub__" 0 [] .none .none .none .none none .none .none 0)), #[]⟩
def zo347 (P : Params) : Obj := ⟨(.type "code"), none, (.fields #[(.str (Hz.t "__rsub__") 809), (.str (Hz.t "Ratio.__rsub__") 810), (.str (Hz.t "/claim/cut.py") 811), (.int 125 0), (.int 2 0), (.int 0 0), (.int 0 0), (.int 3 0), (.ref 342), (.bool true), (.int 370 0), (.ref 343), .none, (.ref 344), (.ref 345), (.ref 346), (.int 814 0), (.int 125 0), (.str (Hz.t "/claim/cut.py") 815)]), #[]⟩
def zo348 (P : Params) : Obj := ⟨(.type "function"), none, (.func (Hz.fnD (inClass (ztop 19) 11) "__rsub__" "Ratio.__rsub__" 3 [] .none .none .none (.str (Hz.t "anyfifth.ratios") 643) none (.ref 347) .none 0)), #[]⟩
def zo349 (P : Params) : Obj := ⟨(.type "tuple"), none, (.seq #[] 0), #[]⟩
def zo350 (P : Params) : Obj := ⟨.none, none, (.fields #[]), #[]⟩
def zo351 (P : Params) : Obj := ⟨(.type "tuple"), none, (.seq #[(.str (Hz.t "self") 820), (.str (Hz.t "other") 821), (.str (Hz.t "top") 822), (.str (Hz.t "bottom") 823)] 0), #[]⟩
def zo352 (P : Params) : Obj := ⟨(.type "tuple"), none, (.seq #[] 0), #[]⟩
def zo353 (P : Params) : Obj := ⟨.none, none, (.func (Hz.fnD (inClass (ztop 19) 12) "__mul__" "Ratio.__mul__" 0 [] .none .none .none .none none .none .none 0)), #[]⟩
def zo354 (P : Params) : Obj := ⟨(.type "code"), none, (.fields #[(.str (Hz.t "__mul__") 817), (.str (Hz.t "Ratio.__mul__") 818), (.str (Hz.t "/claim/cut.py") 819), (.int 128 0), (.int 2 0), (.int 0 0), (.int 0 0), (.int 3 0), (.ref 349), (.bool true), (.int 370 0), (.ref 350), .none, (.ref 351), (.ref 352), (.ref 353), (.int 824 0), (.int 128 0), (.str (Hz.t "/claim/cut.py") 825)]), #[]⟩
def zo355 (P : Params) : Obj := ⟨(.type "function"), none, (.func (Hz.fnD (inClass (ztop 19) 12) "__mul__" "Ratio.__mul__" 3 [] .none .none .none (.str (Hz.t "anyfifth.ratios") 643) none (.ref 354) .none 0)), #[]⟩
def zo356 (P : Params) : Obj := ⟨(.type "tuple"), none, (.seq #[] 0), #[]⟩
def zo357 (P : Params) : Obj := ⟨.none, none, (.fields #[]), #[]⟩
def zo358 (P : Params) : Obj := ⟨(.type "tuple"), none, (.seq #[(.str (Hz.t "self") 830), (.str (Hz.t "other") 831)] 0), #[]⟩
def zo359 (P : Params) : Obj := ⟨(.type "tuple"), none, (.seq #[] 0), #[]⟩
def zo360 (P : Params) : Obj := ⟨.none, none, (.func (Hz.fnD (inClass (ztop 19) 13) "__rmul__" "Ratio.__rmul__" 0 [] .none .none .none .none none .none .none 0)), #[]⟩
def zo361 (P : Params) : Obj := ⟨(.type "code"), none, (.fields #[(.str (Hz.t "__rmul__") 827), (.str (Hz.t "Ratio.__rmul__") 828), (.str (Hz.t "/claim/cut.py") 829), (.int 134 0), (.int 2 0), (.int 0 0), (.int 0 0), (.int 3 0), (.ref 356), (.bool true), (.int 370 0), (.ref 357), .none, (.ref 358), (.ref 359), (.ref 360), (.int 832 0), (.int 134 0), (.str (Hz.t "/claim/cut.py") 833)]), #[]⟩
def zo362 (P : Params) : Obj := ⟨(.type "function"), none, (.func (Hz.fnD (inClass (ztop 19) 13) "__rmul__" "Ratio.__rmul__" 3 [] .none .none .none (.str (Hz.t "anyfifth.ratios") 643) none (.ref 361) .none 0)), #[]⟩
def zo363 (P : Params) : Obj := ⟨(.type "tuple"), none, (.seq #[] 0), #[]⟩
def zo364 (P : Params) : Obj := ⟨.none, none, (.fields #[]), #[]⟩
def zo365 (P : Params) : Obj := ⟨(.type "tuple"), none, (.seq #[(.str (Hz.t "self") 838), (.str (Hz.t "other") 839)] 0), #[]⟩
def zo366 (P : Params) : Obj := ⟨(.type "tuple"), none, (.seq #[] 0), #[]⟩
def zo367 (P : Params) : Obj := ⟨.none, none, (.func (Hz.fnD (inClass (ztop 19) 14) "__floordiv__" "Ratio.__floordiv__" 0 [] .none .none .none .none none .none .none 0)), #[]⟩
def zo368 (P : Params) : Obj := ⟨(.type "code"), none, (.fields #[(.str (Hz.t "__floordiv__") 835), (.str (Hz.t "Ratio.__floordiv__") 836), (.str (Hz.t "/claim/cut.py") 837), (.int 137 0), (.int 2 0), (.int 0 0), (.int 0 0), (.int 3 0), (.ref 363), (.bool true), (.int 370 0), (.ref 364), .none, (.ref 365), (.ref 366), (.ref 367), (.int 840 0), (.int 137 0), (.str (Hz.t "/claim/cut.py") 841)]), #[]⟩
def zo369 (P : Params) : Obj := ⟨(.type "function"), none, (.func (Hz.fnD (inClass (ztop 19) 14) "__floordiv__" "Ratio.__floordiv__" 3 [] .none .none .none (.str (Hz.t "anyfifth.ratios") 643) none (.ref 368) .none 0)), #[]⟩
def zo370 (P : Params) : Obj := ⟨(.type "tuple"), none, (.seq #[] 0), #[]⟩
def zo371 (P : Params) : Obj := ⟨.none, none, (.fields #[]), #[]⟩
def zo372 (P : Params) : Obj := ⟨(.type "tuple"), none, (.seq #[(.str (Hz.t "self") 846), (.str (Hz.t "other") 847)] 0), #[]⟩
def zo373 (P : Params) : Obj := ⟨(.type "tuple"), none, (.seq #[] 0), #[]⟩
def zo374 (P : Params) : Obj := ⟨.none, none, (.func (Hz.fnD (inClass (ztop 19) 15) "__rfloordiv__" "Ratio.__rfloordiv__" 0 [] .none .none .none .none none .none .none 0)), #[]⟩
def zo375 (P : Params) : Obj := ⟨(.type "code"), none, (.fields #[(.str (Hz.t "__rfloordiv__") 843), (.str (Hz.t "Ratio.__rfloordiv__") 844), (.str (Hz.t "/claim/cut.py") 845), (.int 142 0), (.int 2 0), (.int 0 0), (.int 0 0), (.int 3 0), (.ref 370), (.bool true), (.int 370 0), (.ref 371), .none, (.ref 372), (.ref 373), (.ref 374), (.int 848 0), (.int 142 0), (.str (Hz.t "/claim/cut.py") 849)]), #[]⟩
def zo376 (P : Params) : Obj := ⟨(.type "function"), none, (.func (Hz.fnD (inClass (ztop 19) 15) "__rfloordiv__" "Ratio.__rfloordiv__" 3 [] .none .none .none (.str (Hz.t "anyfifth.ratios") 643) none (.ref 375) .none 0)), #[]⟩
def zo377 (P : Params) : Obj := ⟨(.type "tuple"), none, (.seq #[] 0), #[]⟩
def zo378 (P : Params) : Obj := ⟨.none, none, (.fields #[]), #[]⟩
def zo379 (P : Params) : Obj := ⟨(.type "tuple"), none, (.seq #[(.str (Hz.t "self") 854), (.str (Hz.t "other") 855)] 0), #[]⟩
def zo380 (P : Params) : Obj := ⟨(.type "tuple"), none, (.seq #[] 0), #[]⟩
def zo381 (P : Params) : Obj := ⟨.none, none, (.func (Hz.fnD (inClass (ztop 19) 16) "__mod__" "Ratio.__mod__" 0 [] .none .none .none .none none .none .none 0)), #[]⟩
def zo382 (P : Params) : Obj := ⟨(.type "code"), none, (.fields #[(.str (Hz.t "__mod__") 851), (.str (Hz.t "Ratio.__mod__") 852), (.str (Hz.t "/claim/cut.py") 853), (.int 147 0), (.int 2 0), (.int 0 0), (.int 0 0), (.int 3 0), (.ref 377), (.bool true), (.int 370 0), (.ref 378), .none, (.ref 379), (.ref 380), (.ref 381), (.int 856 0), (.int 147 0), (.str (Hz.t "/claim/cut.py") 857)]), #[]⟩
def zo383 (P : Params) : Obj := ⟨(.type "function"), none, (.func (Hz.fnD (inClass (ztop 19) 16) "__mod__" "Ratio.__mod__" 3 [] .none .none .none (.str (Hz.t "anyfifth.ratios") 643) none (.ref 382) .none 0)), #[]⟩
def zo384 (P : Params) : Obj := ⟨(.type "tuple"), none, (.seq #[] 0), #[]⟩
def zo385 (P : Params) : Obj := ⟨.none, none, (.fields #[]), #[]⟩
def zo386 (P : Params) : Obj := ⟨(.type "tuple"), none, (.seq #[(.str (Hz.t "self") 862), (.str (Hz.t "other") 863)] 0), #[]⟩
def zo387 (P : Params) : Obj := ⟨(.type "tuple"), none, (.seq #[] 0), #[]⟩
def zo388 (P : Params) : Obj := ⟨.none, none, (.func (Hz.fnD (inClass (ztop 19) 17) "__rmod__" "Ratio.__rmod__" 0 [] .none .none .none .none none .none .none 0)), #[]⟩
def zo389 (P : Params) : Obj := ⟨(.type "code"), none, (.fields #[(.str (Hz.t "__rmod__") 859), (.str (Hz.t "Ratio.__rmod__") 860), (.str (Hz.t "/claim/cut.py") 861), (.int 152 0), (.int 2 0), (.int 0 0), (.int 0 0), (.int 3 0), (.ref 384), (.bool true), (.int 370 0), (.ref 385), .none, (.ref 386), (.ref 387), (.ref 388), (.int 864 0), (.int 152 0), (.str (Hz.t "/claim/cut.py") 865)]), #[]⟩
def zo390 (P : Params) : Obj := ⟨(.type "function"), none, (.func (Hz.fnD (inClass (ztop 19) 17) "__rmod__" "Ratio.__rmod__" 3 [] .none .none .none (.str (Hz.t "anyfifth.ratios") 643) none (.ref 389) .none 0)), #[]⟩
def zo391 (P : Params) : Obj := ⟨(.type "tuple"), none, (.seq #[] 0), #[]⟩
def zo392 (P : Params) : Obj := ⟨.none, none, (.fields #[]), #[]⟩
def zo393 (P : Params) : Obj := ⟨(.type "tuple"), none, (.seq #[(.str (Hz.t "self") 870)] 0), #[]⟩
def zo394 (P : Params) : Obj := ⟨(.type "tuple"), none, (.seq #[] 0), #[]⟩
def zo395 (P : Params) : Obj := ⟨.none, none, (.func (Hz.fnD (inClass (ztop 19) 18) "__neg__" "Ratio.__neg__" 0 [] .none .none .none .none none .none .none 0)), #[]⟩
def zo396 (P : Params) : Obj := ⟨(.type "code"), none, (.fields #[(.str (Hz.t "__neg__") 867), (.str (Hz.t "Ratio.__neg__") 868), (.str (Hz.t "/claim/cut.py") 869), (.int 157 0), (.int 1 0), (.int 0 0), (.int 0 0), (.int 3 0), (.ref 391), (.bool true), (.int 370 0), (.ref 392), .none, (.ref 393), (.ref 394), (.ref 395), (.int 871 0), (.int 157 0), (.str (Hz.t "/claim/cut.py") 872)]), #[]⟩
def zo397 (P : Params) : Obj := ⟨(.type "function"), none, (.func (Hz.fnD (inClass (ztop 19) 18) "__neg__" "Ratio.__neg__" 3 [] .none .none .none (.str (Hz.t "anyfifth.ratios") 643) none (.ref 396) .none 0)), #[]⟩
def zo398 (P : Params) : Obj := ⟨(.type "tuple"), none, (.seq #[] 0), #[]⟩
def zo399 (P : Params) : Obj := ⟨.none, none, (.fields #[]), #[]⟩
def zo400 (P : Params) : Obj := ⟨(.type "tuple"), none, (.seq #[(.str (Hz.t "self") 877)] 0), #[]⟩
def zo401 (P : Params) : Obj := ⟨(.type "tuple"), none, (.seq #[] 0), #[]⟩
def zo402 (P : Params) : Obj := ⟨.none, none, (.func (Hz.fnD (inClass (ztop 19) 19) "__abs__" "Ratio.__abs__" 0 [] .none .none .none .none none .none .none 0)), #[]⟩
def zo403 (P : Params) : Obj := ⟨(.type "code"), none, (.fields #[(.str (Hz.t "__abs__") 874), (.str (Hz.t "Ratio.__abs__") 875), (.str (Hz.t "/claim/cut.py") 876), (.int 160 0), (.int 1 0), (.int 0 0), (.int 0 0), (.int 3 0), (.ref 398), (.bool true), (.int 370 0), (.ref 399), .none, (.ref 400), (.ref 401), (.ref 402), (.int 878 0), (.int 160 0), (.str (Hz.t "/claim/cut.py") 879)]), #[]⟩
def zo404 (P : Params) : Obj := ⟨(.type "function"), none, (.func (Hz.fnD (inClass (ztop 19) 19) "__abs__" "Ratio.__abs__" 3 [] .none .none .none (.str (Hz.t "anyfifth.ratios") 643) none (.ref 403) .none 0)), #[]⟩
def zo405 (P : Params) : Obj := ⟨(.type "tuple"), none, (.seq #[] 0), #[]⟩
def zo406 (P : Params) : Obj := ⟨.none, none, (.fields #[]), #[]⟩
def zo407 (P : Params) : Obj := ⟨(.type "tuple"), none, (.seq #[(.str (Hz.t "self") 884)] 0), #[]⟩
def zo408 (P : Params) : Obj := ⟨(.type "tuple"), none, (.seq #[] 0), #[]⟩
def zo409 (P : Params) : Obj := ⟨.none, none, (.func (Hz.fnD (inClass (ztop 19) 20) "__bool__" "Ratio.__bool__" 0 [] .none .none .none .none none .none .none 0)), #[]⟩
def zo410 (P : Params) : Obj := ⟨(.type "code"), none, (.fields #[(.str (Hz.t "__bool__") 881), (.str (Hz.t "Ratio.__bool__") 882), (.str (Hz.t "/claim/cut.py") 883), (.int 163 0), (.int 1 0), (.int 0 0), (.int 0 0), (.int 3 0), (.ref 405), (.bool true), (.int 370 0), (.ref 406), .none, (.ref 407), (.ref 408), (.ref 409), (.int 885 0), (.int 163 0), (.str (Hz.t "/claim/cut.py") 886)]), #[]⟩
def zo411 (P : Params) : Obj := ⟨(.type "function"), none, (.func (Hz.fnD (inClass (ztop 19) 20) "__bool__" "Ratio.__bool__" 3 [] .none .none .none (.str (Hz.t "anyfifth.ratios") 643) none (.ref 410) .none 0)), #[]⟩
def zo412 (P : Params) : Obj := ⟨(.type "tuple"), none, (.seq #[] 0), #[]⟩
def zo413 (P : Params) : Obj := ⟨.none, none, (.fields #[]), #[]⟩
def zo414 (P : Params) : Obj := ⟨(.type "tuple"), none, (.seq #[(.str (Hz.t "self") 891), (.str (Hz.t "other") 892)] 0), #[]⟩
def zo415 (P : Params) : Obj := ⟨(.type "tuple"), none, (.seq #[] 0), #[]⟩
def zo416 (P : Params) : Obj := ⟨.none, none, (.func (Hz.fnD (inClass (ztop 19) 21) "__eq__" "Ratio.__eq__" 0 [] .none .none .none .none none .none .none 0)), #[]⟩
def zo417 (P : Params) : Obj := ⟨(.type "code"), none, (.fields #[(.str (Hz.t "__eq__") 888), (.str (Hz.t "Ratio.__eq__") 889), (.str (Hz.t "/claim/cut.py") 890), (.int 166 0), (.int 2 0), (.int 0 0), (.int 0 0), (.int 3 0), (.ref 412), (.bool true), (.int 370 0), (.ref 413), .none, (.ref 414), (.ref 415), (.ref 416), (.int 893 0), (.int 166 0), (.str (Hz.t "/claim/cut.py") 894)]), #[]⟩
def zo418 (P : Params) : Obj := ⟨(.type "function"), none, (.func (Hz.fnD (inClass (ztop 19) 21) "__eq__" "Ratio.__eq__" 3 [] .none .none .none (.str (Hz.t "anyfifth.ratios") 643) none (.ref 417) .none 0)), #[]⟩
def zo419 (P : Params) : Obj := ⟨(.type "tuple"), none, (.seq #[] 0), #[]⟩
def zo420 (P : Params) : Obj := ⟨.none, none, (.fields #[]), #[]⟩
def zo421 (P : Params) : Obj := ⟨(.type "tuple"), none, (.seq #[(.str (Hz.t "self") 899), (.str (Hz.t "other") 900)] 0), #[]⟩
def zo422 (P : Params) : Obj := ⟨(.type "tuple"), none, (.seq #[] 0), #[]⟩
def zo423 (P : Params) : Obj := ⟨.none, none, (.func (Hz.fnD (inClass (ztop 19) 22) "__lt__" "Ratio.__lt__" 0 [] .none .none .none .none none .none .none 0)), #[]⟩
def zo424 (P : Params) : Obj := ⟨(.type "code"), none, (.fields #[(.str (Hz.t "__lt__") 896), (.str (Hz.t "Ratio.__lt__") 897), (.str (Hz.t "/claim/cut.py") 898), (.int 171 0), (.int 2 0), (.int 0 0), (.int 0 0), (.int 3 0), (.ref 419), (.bool true), (.int 370 0), (.ref 420), .none, (.ref 421), (.ref 422), (.ref 423), (.int 901 0), (.int 171 0), (.str (Hz.t "/claim/cut.py") 902)]), #[]⟩
def zo425 (P : Params) : Obj := ⟨(.type "function"), none, (.func (Hz.fnD (inClass (ztop 19) 22) "__lt__" "Ratio.__lt__" 3 [] .none .none .none (.str (Hz.t "anyfifth.ratios") 643) none (.ref 424) .none 0)), #[]⟩
def zo426 (P : Params) : Obj := ⟨(.type "tuple"), none, (.seq #[] 0), #[]⟩
def zo427 (P : Params) : Obj := ⟨.none, none, (.fields #[]), #[]⟩
def zo428 (P : Params) : Obj := ⟨(.type "tuple"), none, (.seq #[(.str (Hz.t "self") 907), (.str (Hz.t "other") 908)] 0), #[]⟩
def zo429 (P : Params) : Obj := ⟨(.type "tuple"), none, (.seq #[] 0), #[]⟩
def zo430 (P : Params) : Obj := ⟨.none, none, (.func (Hz.fnD (inClass (ztop 19) 23) "__le__" "Ratio.__le__" 0 [] .none .none .none .none none .none .none 0)), #[]⟩
def zo431 (P : Params) : Obj := ⟨(.type "code"), none, (.fields #[(.str (Hz.t "__le__") 904), (.str (Hz.t "Ratio.__le__") 905), (.str (Hz.t "/claim/cut.py") 906), (.int 176 0), (.int 2 0), (.int 0 0), (.int 0 0), (.int 3 0), (.ref 426), (.bool true), (.int 370 0), (.ref 427), .none, (.ref 428), (.ref 429), (.ref 430), (.int 909 0), (.int 176 0), (.str (Hz.t "/claim/cut.py") 910)]), #[]⟩
def zo432 (P : Params) : Obj := ⟨(.type "function"), none, (.func (Hz.fnD (inClass (ztop 19) 23) "__le__" "Ratio.__le__" 3 [] .none .none .none (.str (Hz.t "anyfifth.ratios") 643) none (.ref 431) .none 0)), #[]⟩
def zo433 (P : Params) : Obj := ⟨(.type "tuple"), none, (.seq #[] 0), #[]⟩
def zo434 (P : Params) : Obj := ⟨.none, none, (.fields #[]), #[]⟩
def zo435 (P : Params) : Obj := ⟨(.type "tuple"), none, (.seq #[(.str (Hz.t "self") 915), (.str (Hz.t "other") 916)] 0), #[]⟩
def zo436 (P : Params) : Obj := ⟨(.type "tuple"), none, (.seq #[] 0), #[]⟩
def zo437 (P : Params) : Obj := ⟨.none, none, (.func (Hz.fnD (inClass (ztop 19) 24) "__gt__" "Ratio.__gt__" 0 [] .none .none .none .none none .none .none 0)), #[]⟩
def zo438 (P : Params) : Obj := ⟨(.type "code"), none, (.fields #[(.str (Hz.t "__gt__") 912), (.str (Hz.t "Ratio.__gt__") 913), (.str (Hz.t "/claim/cut.py") 914), (.int 181 0), (.int 2 0), (.int 0 0), (.int 0 0), (.int 3 0), (.ref 433), (.bool true), (.int 370 0), (.ref 434), .none, (.ref 435), (.ref 436), (.ref 437), (.int 917 0), (.int 181 0), (.str (Hz.t "/claim/cut.py") 918)]), #[]⟩
def zo439 (P : Params) : Obj := ⟨(.type "function"), none, (.func (Hz.fnD (inClass (ztop 19) 24) "__gt__" "Ratio.__gt__" 3 [] .none .none .none (.str (Hz.t "anyfifth.ratios") 643) none (.ref 438) .none 0)), #[]⟩
def zo440 (P : Params) : Obj := ⟨(.type "tuple"), none, (.seq #[] 0), #[]⟩
def zo441 (P : Params) : Obj := ⟨.none, none, (.fields #[]), #[]⟩
def zo442 (P : Params) : Obj := ⟨(.type "tuple"), none, (.seq #[(.str (Hz.t "self") 923), (.str (Hz.t "other") 924)] 0), #[]⟩
def zo443 (P : Params) : Obj := ⟨(.type "tuple"), none, (.seq #[] 0), #[]⟩
def zo444 (P : Params) : Obj := ⟨.none, none, (.func (Hz.fnD (inClass (ztop 19) 25) "__ge__" "Ratio.__ge__" 0 [] .none .none .none .none none .none .none 0)), #[]⟩
def zo445 (P : Params) : Obj := ⟨(.type "code"), none, (.fields #[(.str (Hz.t "__ge__") 920), (.str (Hz.t "Ratio.__ge__") 921), (.str (Hz.t "/claim/cut.py") 922), (.int 186 0), (.int 2 0), (.int 0 0), (.int 0 0), (.int 3 0), (.ref 440), (.bool true), (.int 370 0), (.ref 441), .none, (.ref 442), (.ref 443), (.ref 444), (.int 925 0), (.int 186 0), (.str (Hz.t "/claim/cut.py") 926)]), #[]⟩
def zo446 (P : Params) : Obj := ⟨(.type "function"), none, (.func (Hz.fnD (inClass (ztop 19) 25) "__ge__" "Ratio.__ge__" 3 [] .none .none .none (.str (Hz.t "anyfifth.ratios") 643) none (.ref 445) .none 0)), #[]⟩
def zo447 (P : Params) : Obj := ⟨(.type "tuple"), none, (.seq #[] 0), #[]⟩
def zo448 (P : Params) : Obj := ⟨.none, none, (.fields #[]), #[]⟩
def zo449 (P : Params) : Obj := ⟨(.type "tuple"), none, (.seq #[(.str (Hz.t "self") 931)] 0), #[]⟩
def zo450 (P : Params) : Obj := ⟨(.type "tuple"), none, (.seq #[] 0), #[]⟩
def zo451 (P : Params) : Obj := ⟨.none, none, (.func (Hz.fnD (inClass (ztop 19) 26) "__str__" "Ratio.__str__" 0 [] .none .none .none .none none .none .none 0)), #[]⟩
def zo452 (P : Params) : Obj := ⟨(.type "code"), none, (.fields #[(.str (Hz.t "__str__") 928), (.str (Hz.t "Ratio.__str__") 929), (.str (Hz.t "/claim/cut.py") 930), (.int 191 0), (.int 1 0), (.int 0 0), (.int 0 0), (.int 3 0), (.ref 447), (.bool true), (.int 370 0), (.ref 448), .none, (.ref 449), (.ref 450), (.ref 451), (.int 932 0), (.int 191 0), (.str (Hz.t "/claim/cut.py") 933)]), #[]⟩
def zo453 (P : Params) : Obj := ⟨(.type "function"), none, (.func (Hz.fnD (inClass (ztop 19) 26) "__str__" "Ratio.__str__" 3 [] .none .none .none (.str (Hz.t "anyfifth.ratios") 643) none (.ref 452) .none 0)), #[]⟩
def zo454 (P : Params) : Obj := ⟨(.type "tuple"), none, (.seq #[(.str (Hz.t "bottom") 935), (.str (Hz.t "top") 936)] 0), #[]⟩
def zo455 (P : Params) : Obj := ⟨(.type "dict"), none, (.dict #[(Hz.en P "__module__" 652 (.str (Hz.t "anyfifth.ratios") 643)), (Hz.en P "__firstlineno__" 656 (.int 63 655)), (Hz.en P "__init__" 667 (.ref 255)), (Hz.en P "is_number" 686 (.ref 264)), (Hz.en P "is_fifth" 705 (.ref 274)), (Hz.en P "of" 724 (.ref 284)), (Hz.en P "total" 743 (.ref 294)), (Hz.en P "read" 764 (.ref 304)), (Hz.en P "is_whole" 772 (.ref 313)), (Hz.en P "over" 780 (.ref 320)), (Hz.en P "__add__" 790 (.ref 327)), (Hz.en P "__radd__" 798 (.ref 334)), (Hz.en P "__sub__" 808 (.ref 341)), (Hz.en P "__rsub__" 816 (.ref 348)), (Hz.en P "__mul__" 826 (.ref 355)), (Hz.en P "__rmul__" 834 (.ref 362)), (Hz.en P "__floordiv__" 842 (.ref 369)), (Hz.en P "__rfloordiv__" 850 (.ref 376)), (Hz.en P "__mod__" 858 (.ref 383)), (Hz.en P "__rmod__" 866 (.ref 390)), (Hz.en P "__neg__" 873 (.ref 397)), (Hz.en P "__abs__" 880 (.ref 404)), (Hz.en P "__bool__" 887 (.ref 411)), (Hz.en P "__eq__" 895 (.ref 418)), (Hz.en P "__lt__" 903 (.ref 425)), (Hz.en P "__le__" 911 (.ref 432)), (Hz.en P "__gt__" 919 (.ref 439)), (Hz.en P "__ge__" 927 (.ref 446)), (Hz.en P "__str__" 934 (.ref 453)), (Hz.en P "__static_attributes__" 937 (.ref 454)), (Hz.en P "__dict__" 939 (.ref 457)), (Hz.en P "__weakref__" 941 (.ref 458)), (Hz.en P "__doc__" 942 .none), (Hz.en P "__hash__" 943 .none)] 5), #[]⟩
def zo456 (P : Params) : Obj := ⟨(.type "type"), none, (.cls ⟨(Hz.t "Ratio"), [(.type "object")], [(.ref 456), (.type "object")], 455, (Hz.t "Ratio"), true, [], [], false, none, false⟩), #[none, none, (some (.str (Hz.t "Ratio") 645)), (some (.str (Hz.t "Ratio") 653)), (some (.builtin "object.__new__")), (some (.bool true))]⟩
def zo457 (P : Params) : Obj := ⟨(.type "getset_descriptor"), none, (.fields #[(.str (Hz.t "__dict__") 938), (.ref 456), (.builtin "function.__dict__"), (.builtin "function.__dict__#set")]), #[]⟩
def zo458 (P : Params) : Obj := ⟨(.type "getset_descriptor"), none, (.fields #[(.str (Hz.t "__weakref__") 940), (.ref 456), (.builtin "ExceptionGroup.__weakref__"), .none]), #[]⟩
def zo459 (P : Params) : Obj := ⟨(.type "super"), none, (.fields #[(.ref 456), (.ref 456), (.ref 456)]), #[]⟩
def zo460 (P : Params) : Obj := ⟨(.type "builtin_function_or_method"), none, (.fields #[(.builtin "object.__init_subclass__"), (.ref 456)]), #[]⟩
def zo461 (P : Params) : Obj := ⟨(.type "tuple"), none, (.seq #[] 0), #[]⟩
def zo462 (P : Params) : Obj := ⟨.none, none, (.fields #[]), #[]⟩
def zo463 (P : Params) : Obj := ⟨(.type "tuple"), none, (.seq #[(.str (Hz.t "number") 949)] 0), #[]⟩
def zo464 (P : Params) : Obj := ⟨(.type "tuple"), none, (.seq #[] 0), #[]⟩
def zo465 (P : Params) : Obj := ⟨.none, none, (.func (Hz.fnD (ztop 20) "parts_of" "parts_of" 0 [] .none .none .none .none none .none .none 0)), #[]⟩
def zo466 (P : Params) : Obj := ⟨(.type "code"), none, (.fields #[(.str (Hz.t "parts_of") 946), (.str (Hz.t "parts_of") 947), (.str (Hz.t "/claim/cut.py") 948), (.int 193 0), (.int 1 0), (.int 0 0), (.int 0 0), (.int 3 0), (.ref 461), (.bool true), (.int 370 0), (.ref 462), .none, (.ref 463), (.ref 464), (.ref 465), (.int 950 0), (.int 193 0), (.str (Hz.t "/claim/cut.py") 951)]), #[]⟩
def zo467 (P : Params) : Obj := ⟨(.type "function"), none, (.func (Hz.fnD (ztop 20) "parts_of" "parts_of" 3 [] .none .none .none (.str (Hz.t "anyfifth.ratios") 643) none (.ref 466) .none 0)), #[]⟩
def zo468 (P : Params) : Obj := ⟨(.type "tuple"), none, (.seq #[] 0), #[]⟩
def zo469 (P : Params) : Obj := ⟨.none, none, (.fields #[]), #[]⟩
def zo470 (P : Params) : Obj := ⟨(.type "tuple"), none, (.seq #[(.str (Hz.t "text") 956), (.str (Hz.t "first") 957), (.str (Hz.t "_") 958), (.str (Hz.t "last") 959), (.str (Hz.t "top") 960), (.str (Hz.t "bottom") 961)] 0), #[]⟩
def zo471 (P : Params) : Obj := ⟨(.type "tuple"), none, (.seq #[] 0), #[]⟩
def zo472 (P : Params) : Obj := ⟨.none, none, (.func (Hz.fnD (ztop 21) "ratio_in" "ratio_in" 0 [] .none .none .none .none none .none .none 0)), #[]⟩
def zo473 (P : Params) : Obj := ⟨(.type "code"), none, (.fields #[(.str (Hz.t "ratio_in") 953), (.str (Hz.t "ratio_in") 954), (.str (Hz.t "/claim/cut.py") 955), (.int 197 0), (.int 1 0), (.int 0 0), (.int 0 0), (.int 3 0), (.ref 468), (.bool true), (.int 370 0), (.ref 469), .none, (.ref 470), (.ref 471), (.ref 472), (.int 962 0), (.int 197 0), (.str (Hz.t "/claim/cut.py") 963)]), #[]⟩
def zo474 (P : Params) : Obj := ⟨(.type "function"), none, (.func (Hz.fnD (ztop 21) "ratio_in" "ratio_in" 3 [] .none .none .none (.str (Hz.t "anyfifth.ratios") 643) none (.ref 473) .none 0)), #[]⟩
def zo475 (P : Params) : Obj := ⟨(.type "tuple"), none, (.seq #[] 0), #[]⟩
def zo476 (P : Params) : Obj := ⟨.none, none, (.fields #[]), #[]⟩
def zo477 (P : Params) : Obj := ⟨(.type "tuple"), none, (.seq #[(.str (Hz.t "one") 968), (.str (Hz.t "other") 969), (.str (Hz.t "top") 970), (.str (Hz.t "bottom") 971), (.str (Hz.t "other_top") 972), (.str (Hz.t "other_bottom") 973)] 0), #[]⟩
def zo478 (P : Params) : Obj := ⟨(.type "tuple"), none, (.seq #[] 0), #[]⟩
def zo479 (P : Params) : Obj := ⟨.none, none, (.func (Hz.fnD (ztop 22) "_lead" "_lead" 0 [] .none .none .none .none none .none .none 0)), #[]⟩
def zo480 (P : Params) : Obj := ⟨(.type "code"), none, (.fields #[(.str (Hz.t "_lead") 965), (.str (Hz.t "_lead") 966), (.str (Hz.t "/claim/cut.py") 967), (.int 205 0), (.int 2 0), (.int 0 0), (.int 0 0), (.int 3 0), (.ref 475), (.bool true), (.int 370 0), (.ref 476), .none, (.ref 477), (.ref 478), (.ref 479), (.int 974 0), (.int 205 0), (.str (Hz.t "/claim/cut.py") 975)]), #[]⟩
def zo481 (P : Params) : Obj := ⟨(.type "function"), none, (.func (Hz.fnD (ztop 22) "_lead" "_lead" 3 [] .none .none .none (.str (Hz.t "anyfifth.ratios") 643) none (.ref 480) .none 0)), #[]⟩
def zo482 (P : Params) : Obj := ⟨(.type "tuple"), none, (.seq #[] 0), #[]⟩
def zo483 (P : Params) : Obj := ⟨.none, none, (.fields #[]), #[]⟩
def zo484 (P : Params) : Obj := ⟨(.type "tuple"), none, (.seq #[(.str (Hz.t "one") 980), (.str (Hz.t "other") 981), (.str (Hz.t "top") 982), (.str (Hz.t "bottom") 983), (.str (Hz.t "other_top") 984), (.str (Hz.t "other_bottom") 985)] 0), #[]⟩
def zo485 (P : Params) : Obj := ⟨(.type "tuple"), none, (.seq #[] 0), #[]⟩
def zo486 (P : Params) : Obj := ⟨.none, none, (.func (Hz.fnD (ztop 23) "_quotient" "_quotient" 0 [] .none .none .none .none none .none .none 0)), #[]⟩
def zo487 (P : Params) : Obj := ⟨(.type "code"), none, (.fields #[(.str (Hz.t "_quotient") 977), (.str (Hz.t "_quotient") 978), (.str (Hz.t "/claim/cut.py") 979), (.int 209 0), (.int 2 0), (.int 0 0), (.int 0 0), (.int 3 0), (.ref 482), (.bool true), (.int 370 0), (.ref 483), .none, (.ref 484), (.ref 485), (.ref 486), (.int 986 0), (.int 209 0), (.str (Hz.t "/claim/cut.py") 987)]), #[]⟩
def zo488 (P : Params) : Obj := ⟨(.type "function"), none, (.func (Hz.fnD (ztop 23) "_quotient" "_quotient" 3 [] .none .none .none (.str (Hz.t "anyfifth.ratios") 643) none (.ref 487) .none 0)), #[]⟩
def zo489 (P : Params) : Obj := ⟨(.type "tuple"), none, (.seq #[] 0), #[]⟩
def zo490 (P : Params) : Obj := ⟨(.type "builtin_function_or_method"), none, (.fields #[(.builtin "type.__prepare__"), (.type "type")]), #[]⟩
def zo491 (P : Params) : Obj := ⟨(.type "dict"), none, (.dict #[(Hz.en P "__module__" 998 (.str (Hz.t "anyfifth.scales") 989)), (Hz.en P "__qualname__" 1000 (.str (Hz.t "Scale") 999)), (Hz.en P "__firstlineno__" 1002 (.int 216 1001)), (Hz.en P "MOST" 1004 (.int 16 1003)), (Hz.en P "__init__" 1014 (.ref 502)), (Hz.en P "read" 1038 (.ref 511)), (Hz.en P "numbers" 1046 (.ref 520)), (Hz.en P "backward" 1053 (.ref 527)), (Hz.en P "drop" 1062 (.ref 534)), (Hz.en P "put" 1070 (.ref 541)), (Hz.en P "cut" 1079 (.ref 548)), (Hz.en P "twin" 1086 (.ref 555)), (Hz.en P "groups" 1094 (.ref 562)), (Hz.en P "ordered" 1102 (.ref 569)), (Hz.en P "steps" 1110 (.ref 576)), (Hz.en P "apart" 1117 (.ref 583)), (Hz.en P "order_region" 1125 (.ref 590)), (Hz.en P "__call__" 1133 (.ref 597)), (Hz.en P "__iter__" 1140 (.ref 604)), (Hz.en P "__len__" 1147 (.ref 611)), (Hz.en P "__contains__" 1155 (.ref 618)), (Hz.en P "__getitem__" 1163 (.ref 625)), (Hz.en P "__setitem__" 1173 (.ref 632)), (Hz.en P "__iadd__" 1181 (.ref 639)), (Hz.en P "__add__" 1190 (.ref 646)), (Hz.en P "__neg__" 1196 (.ref 651)), (Hz.en P "__eq__" 1204 (.ref 658)), (Hz.en P "__str__" 1210 (.ref 663)), (Hz.en P "__static_attributes__" 1212 (.ref 664))] 29), #[]⟩
def zo492 (P : Params) : Obj := ⟨(.type "tuple"), none, (.seq #[] 0), #[]⟩
def zo493 (P : Params) : Obj := ⟨.none, none, (.fields #[(.int 219 0), (.int 4 0), (.ref 501), (.int 228 0), (.int 4 0), (.ref 508), (.int 242 0), (.int 4 0), (.ref 518), (.int 245 0), (.int 4 0), (.ref 526), (.int 248 0), (.int 4 0), (.ref 533), (.int 255 0), (.int 4 0), (.ref 540), (.int 262 0), (.int 4 0), (.ref 547), (.int 265 0), (.int 4 0), (.ref 554), (.int 268 0), (.int 4 0), (.ref 561), (.int 271 0), (.int 4 0), (.ref 568), (.int 274 0), (.int 4 0), (.ref 575), (.int 277 0), (.int 4 0), (.ref 582), (.int 280 0), (.int 4 0), (.ref 589), (.int 283 0), (.int 4 0), (.ref 596), (.int 288 0), (.int 4 0), (.ref 603), (.int 291 0), (.int 4 0), (.ref 610), (.int 294 0), (.int 4 0), (.ref 617), (.int 297 0), (.int 4 0), (.ref 624), (.int 302 0), (.int 4 0), (.ref 631), (.int 310 0), (.int 4 0), (.ref 638), (.int 314 0), (.int 4 0), (.ref 645), (.int 318 0), (.int 4 0), (.ref 650), (.int 322 0), (.int 4 0), (.ref 657), (.int 327 0), (.int 4 0), (.ref 662)]), #[]⟩
def zo494 (P : Params) : Obj := ⟨(.type "code"), none, (.fields #[(.str (Hz.t "Scale") 993), (.str (Hz.t "Scale") 994), (.str (Hz.t "/claim/cut.py") 995), (.int 216 0), (.int 0 0), (.int 0 0), (.int 0 0), (.int 0 0), (.ref 492), (.bool false), (.int 370 0), (.ref 493), .none, .none, .none, .none, (.int 996 0), (.int 216 0), (.str (Hz.t "/claim/cut.py") 997)]), #[]⟩
def zo495 (P : Params) : Obj := ⟨(.type "frame"), none, .plain, #[(some (.ref 494)), (some (.ref 3)), (some (.ref 491)), none, (some (.str (Hz.t "anyfifth.scales") 989)), none, (some (.ref 0))]⟩
def zo496 (P : Params) : Obj := ⟨(.type "tuple"), none, (.seq #[] 0), #[]⟩
def zo497 (P : Params) : Obj := ⟨.none, none, (.fields #[]), #[]⟩
def zo498 (P : Params) : Obj := ⟨(.type "tuple"), none, (.seq #[(.str (Hz.t "self") 1008), (.str (Hz.t "numbers") 1009), (.str (Hz.t "at") 1010), (.str (Hz.t "number") 1011)] 0), #[]⟩
def zo499 (P : Params) : Obj := ⟨(.type "tuple"), none, (.seq #[] 0), #[]⟩
def zo500 (P : Params) : Obj := ⟨.none, none, (.func (Hz.fnD (inClass (ztop 25) 1) "__init__" "Scale.__init__" 0 [] .none .none .none .none none .none .none 0)), #[]⟩
def zo501 (P : Params) : Obj := ⟨(.type "code"), none, (.fields #[(.str (Hz.t "__init__") 1005), (.str (Hz.t "Scale.__init__") 1006), (.str (Hz.t "/claim/cut.py") 1007), (.int 219 0), (.int 1 0), (.int 0 0), (.int 0 0), (.int 7 0), (.ref 496), (.bool true), (.int 370 0), (.ref 497), .none, (.ref 498), (.ref 499), (.ref 500), (.int 1012 0), (.int 219 0), (.str (Hz.t "/claim/cut.py") 1013)]), #[]⟩
def zo502 (P : Params) : Obj := ⟨(.type "function"), none, (.func (Hz.fnD (inClass (ztop 25) 1) "__init__" "Scale.__init__" 3 [] .none .none .none (.str (Hz.t "anyfifth.scales") 989) none (.ref 501) .none 0)), #[]⟩
def zo503 (P : Params) : Obj := ⟨(.type "tuple"), none, (.seq #[] 0), #[]⟩
def zo504 (P : Params) : Obj := ⟨.none, none, (.fields #[]), #[]⟩
def zo505 (P : Params) : Obj := ⟨(.type "tuple"), none, (.seq #[(.str (Hz.t "cls") 1018), (.str (Hz.t "text") 1019), (.str (Hz.t "numbers") 1020), (.str (Hz.t "at") 1021), (.str (Hz.t "word") 1022), (.str (Hz.t "number") 1023)] 0), #[]⟩
def zo506 (P : Params) : Obj := ⟨(.type "tuple"), none, (.seq #[] 0), #[]⟩
def zo507 (P : Params) : Obj := ⟨.none, none, (.func (Hz.fnD (inClass (ztop 25) 2) "read" "Scale.read" 0 [] .none .none .none .none none .none .none 0)), #[]⟩
def zo508 (P : Params) : Obj := ⟨(.type "code"), none, (.fields #[(.str (Hz.t "read") 1015), (.str (Hz.t "Scale.read") 1016), (.str (Hz.t "/claim/cut.py") 1017), (.int 227 0), (.int 2 0), (.int 0 0), (.int 0 0), (.int 3 0), (.ref 503), (.bool true), (.int 370 0), (.ref 504), .none, (.ref 505), (.ref 506), (.ref 507), (.int 1024 0), (.int 227 0), (.str (Hz.t "/claim/cut.py") 1025)]), #[]⟩
def zo509 (P : Params) : Obj := ⟨(.type "function"), none, (.func (Hz.fnD (inClass (ztop 25) 2) "read" "Scale.read" 3 [] .none .none .none (.str (Hz.t "anyfifth.scales") 989) (some 512) (.ref 508) .none 0)), #[]⟩
def zo510 (P : Params) : Obj := ⟨(.type "dict"), none, (.dict #[(Hz.en P "__module__" 1027 (.str (Hz.t "anyfifth.scales") 989)), (Hz.en P "__name__" 1030 (.str (Hz.t "read") 1029)), (Hz.en P "__qualname__" 1033 (.str (Hz.t "Scale.read") 1032)), (Hz.en P "__doc__" 1035 .none), (Hz.en P "__annotations__" 1037 (.ref 512))] 5), #[]⟩
def zo511 (P : Params) : Obj := ⟨(.type "classmethod"), (some 510), (.fields #[(.ref 509), (.bool false)]), #[]⟩
def zo512 (P : Params) : Obj := ⟨(.type "dict"), none, (.dict #[] 0), #[]⟩
def zo513 (P : Params) : Obj := ⟨(.type "tuple"), none, (.seq #[] 0), #[]⟩
def zo514 (P : Params) : Obj := ⟨.none, none, (.fields #[]), #[]⟩
def zo515 (P : Params) : Obj := ⟨(.type "tuple"), none, (.seq #[(.str (Hz.t "self") 1042)] 0), #[]⟩
def zo516 (P : Params) : Obj := ⟨(.type "tuple"), none, (.seq #[] 0), #[]⟩
def zo517 (P : Params) : Obj := ⟨.none, none, (.func (Hz.fnD (inClass (ztop 25) 3) "numbers" "Scale.numbers" 0 [] .none .none .none .none none .none .none 0)), #[]⟩
def zo518 (P : Params) : Obj := ⟨(.type "code"), none, (.fields #[(.str (Hz.t "numbers") 1039), (.str (Hz.t "Scale.numbers") 1040), (.str (Hz.t "/claim/cut.py") 1041), (.int 241 0), (.int 1 0), (.int 0 0), (.int 0 0), (.int 3 0), (.ref 513), (.bool true), (.int 370 0), (.ref 514), .none, (.ref 515), (.ref 516), (.ref 517), (.int 1043 0), (.int 241 0), (.str (Hz.t "/claim/cut.py") 1044)]), #[]⟩
def zo519 (P : Params) : Obj := ⟨(.type "function"), none, (.func (Hz.fnD (inClass (ztop 25) 3) "numbers" "Scale.numbers" 3 [] .none .none .none (.str (Hz.t "anyfifth.scales") 989) none (.ref 518) .none 0)), #[]⟩
def zo520 (P : Params) : Obj := ⟨(.type "property"), none, (.fields #[(.ref 519), .none, .none, .none, (.str (Hz.t "numbers") 1046), (.bool false)]), #[]⟩
def zo521 (P : Params) : Obj := ⟨(.type "tuple"), none, (.seq #[] 0), #[]⟩
def zo522 (P : Params) : Obj := ⟨.none, none, (.fields #[]), #[]⟩
def zo523 (P : Params) : Obj := ⟨(.type "tuple"), none, (.seq #[(.str (Hz.t "self") 1050)] 0), #[]⟩
def zo524 (P : Params) : Obj := ⟨(.type "tuple"), none, (.seq #[] 0), #[]⟩
def zo525 (P : Params) : Obj := ⟨.none, none, (.func (Hz.fnD (inClass (ztop 25) 4) "backward" "Scale.backward" 0 [] .none .none .none .none none .none .none 0)), #[]⟩
def zo526 (P : Params) : Obj := ⟨(.type "code"), none, (.fields #[(.str (Hz.t "backward") 1047), (.str (Hz.t "Scale.backward") 1048), (.str (Hz.t "/claim/cut.py") 1049), (.int 245 0), (.int 1 0), (.int 0 0), (.int 0 0), (.int 3 0), (.ref 521), (.bool true), (.int 370 0), (.ref 522), .none, (.ref 523), (.ref 524), (.ref 525), (.int 1051 0), (.int 245 0), (.str (Hz.t "/claim/cut.py") 1052)]), #[]⟩
def zo527 (P : Params) : Obj := ⟨(.type "function"), none, (.func (Hz.fnD (inClass (ztop 25) 4) "backward" "Scale.backward" 3 [] .none .none .none (.str (Hz.t "anyfifth.scales") 989) none (.ref 526) .none 0)), #[]⟩
def zo528 (P : Params) : Obj := ⟨(.type "tuple"), none, (.seq #[] 0), #[]⟩
def zo529 (P : Params) : Obj := ⟨.none, none, (.fields #[]), #[]⟩
def zo530 (P : Params) : Obj := ⟨(.type "tuple"), none, (.seq #[(.str (Hz.t "self") 1057), (.str (Hz.t "k") 1058), (.str (Hz.t "dropped") 1059)] 0), #[]⟩
def zo531 (P : Params) : Obj := ⟨(.type "tuple"), none, (.seq #[] 0), #[]⟩
def zo532 (P : Params) : Obj := ⟨.none, none, (.func (Hz.fnD (inClass (ztop 25) 5) "drop" "Scale.drop" 0 [] .none .none .none .none none .none .none 0)), #[]⟩
def zo533 (P : Params) : Obj := ⟨(.type "code"), none, (.fields #[(.str (Hz.t "drop") 1054), (.str (Hz.t "Scale.drop") 1055), (.str (Hz.t "/claim/cut.py") 1056), (.int 248 0), (.int 2 0), (.int 0 0), (.int 0 0), (.int 3 0), (.ref 528), (.bool true), (.int 370 0), (.ref 529), .none, (.ref 530), (.ref 531), (.ref 532), (.int 1060 0), (.int 248 0), (.str (Hz.t "/claim/cut.py") 1061)]), #[]⟩
def zo534 (P : Params) : Obj := ⟨(.type "function"), none, (.func (Hz.fnD (inClass (ztop 25) 5) "drop" "Scale.drop" 3 [] .none .none .none (.str (Hz.t "anyfifth.scales") 989) none (.ref 533) .none 0)), #[]⟩
def zo535 (P : Params) : Obj := ⟨(.type "tuple"), none, (.seq #[] 0), #[]⟩
def zo536 (P : Params) : Obj := ⟨.none, none, (.fields #[]), #[]⟩
def zo537 (P : Params) : Obj := ⟨(.type "tuple"), none, (.seq #[(.str (Hz.t "self") 1066), (.str (Hz.t "number") 1067)] 0), #[]⟩
def zo538 (P : Params) : Obj := ⟨(.type "tuple"), none, (.seq #[] 0), #[]⟩
def zo539 (P : Params) : Obj := ⟨.none, none, (.func (Hz.fnD (inClass (ztop 25) 6) "put" "Scale.put" 0 [] .none .none .none .none none .none .none 0)), #[]⟩
def zo540 (P : Params) : Obj := ⟨(.type "code"), none, (.fields #[(.str (Hz.t "put") 1063), (.str (Hz.t "Scale.put") 1064), (.str (Hz.t "/claim/cut.py") 1065), (.int 255 0), (.int 2 0), (.int 0 0), (.int 0 0), (.int 3 0), (.ref 535), (.bool true), (.int 370 0), (.ref 536), .none, (.ref 537), (.ref 538), (.ref 539), (.int 1068 0), (.int 255 0), (.str (Hz.t "/claim/cut.py") 1069)]), #[]⟩
def zo541 (P : Params) : Obj := ⟨(.type "function"), none, (.func (Hz.fnD (inClass (ztop 25) 6) "put" "Scale.put" 3 [] .none .none .none (.str (Hz.t "anyfifth.scales") 989) none (.ref 540) .none 0)), #[]⟩
def zo542 (P : Params) : Obj := ⟨(.type "tuple"), none, (.seq #[] 0), #[]⟩
def zo543 (P : Params) : Obj := ⟨.none, none, (.fields #[]), #[]⟩
def zo544 (P : Params) : Obj := ⟨(.type "tuple"), none, (.seq #[(.str (Hz.t "self") 1074), (.str (Hz.t "first") 1075), (.str (Hz.t "end") 1076)] 0), #[]⟩
def zo545 (P : Params) : Obj := ⟨(.type "tuple"), none, (.seq #[] 0), #[]⟩
def zo546 (P : Params) : Obj := ⟨.none, none, (.func (Hz.fnD (inClass (ztop 25) 7) "cut" "Scale.cut" 0 [] .none .none .none .none none .none .none 0)), #[]⟩
def zo547 (P : Params) : Obj := ⟨(.type "code"), none, (.fields #[(.str (Hz.t "cut") 1071), (.str (Hz.t "Scale.cut") 1072), (.str (Hz.t "/claim/cut.py") 1073), (.int 262 0), (.int 3 0), (.int 0 0), (.int 0 0), (.int 3 0), (.ref 542), (.bool true), (.int 370 0), (.ref 543), .none, (.ref 544), (.ref 545), (.ref 546), (.int 1077 0), (.int 262 0), (.str (Hz.t "/claim/cut.py") 1078)]), #[]⟩
def zo548 (P : Params) : Obj := ⟨(.type "function"), none, (.func (Hz.fnD (inClass (ztop 25) 7) "cut" "Scale.cut" 3 [] .none .none .none (.str (Hz.t "anyfifth.scales") 989) none (.ref 547) .none 0)), #[]⟩
def zo549 (P : Params) : Obj := ⟨(.type "tuple"), none, (.seq #[] 0), #[]⟩
def zo550 (P : Params) : Obj := ⟨.none, none, (.fields #[]), #[]⟩
def zo551 (P : Params) : Obj := ⟨(.type "tuple"), none, (.seq #[(.str (Hz.t "self") 1083)] 0), #[]⟩
def zo552 (P : Params) : Obj := ⟨(.type "tuple"), none, (.seq #[] 0), #[]⟩
def zo553 (P : Params) : Obj := ⟨.none, none, (.func (Hz.fnD (inClass (ztop 25) 8) "twin" "Scale.twin" 0 [] .none .none .none .none none .none .none 0)), #[]⟩
def zo554 (P : Params) : Obj := ⟨(.type "code"), none, (.fields #[(.str (Hz.t "twin") 1080), (.str (Hz.t "Scale.twin") 1081), (.str (Hz.t "/claim/cut.py") 1082), (.int 265 0), (.int 1 0), (.int 0 0), (.int 0 0), (.int 3 0), (.ref 549), (.bool true), (.int 370 0), (.ref 550), .none, (.ref 551), (.ref 552), (.ref 553), (.int 1084 0), (.int 265 0), (.str (Hz.t "/claim/cut.py") 1085)]), #[]⟩
def zo555 (P : Params) : Obj := ⟨(.type "function"), none, (.func (Hz.fnD (inClass (ztop 25) 8) "twin" "Scale.twin" 3 [] .none .none .none (.str (Hz.t "anyfifth.scales") 989) none (.ref 554) .none 0)), #[]⟩
def zo556 (P : Params) : Obj := ⟨(.type "tuple"), none, (.seq #[] 0), #[]⟩
def zo557 (P : Params) : Obj := ⟨.none, none, (.fields #[]), #[]⟩
def zo558 (P : Params) : Obj := ⟨(.type "tuple"), none, (.seq #[(.str (Hz.t "self") 1090), (.str (Hz.t "fifth") 1091)] 0), #[]⟩
def zo559 (P : Params) : Obj := ⟨(.type "tuple"), none, (.seq #[] 0), #[]⟩
def zo560 (P : Params) : Obj := ⟨.none, none, (.func (Hz.fnD (inClass (ztop 25) 9) "groups" "Scale.groups" 0 [] .none .none .none .none none .none .none 0)), #[]⟩
def zo561 (P : Params) : Obj := ⟨(.type "code"), none, (.fields #[(.str (Hz.t "groups") 1087), (.str (Hz.t "Scale.groups") 1088), (.str (Hz.t "/claim/cut.py") 1089), (.int 268 0), (.int 2 0), (.int 0 0), (.int 0 0), (.int 3 0), (.ref 556), (.bool true), (.int 370 0), (.ref 557), .none, (.ref 558), (.ref 559), (.ref 560), (.int 1092 0), (.int 268 0), (.str (Hz.t "/claim/cut.py") 1093)]), #[]⟩
def zo562 (P : Params) : Obj := ⟨(.type "function"), none, (.func (Hz.fnD (inClass (ztop 25) 9) "groups" "Scale.groups" 3 [] .none .none .none (.str (Hz.t "anyfifth.scales") 989) none (.ref 561) .none 0)), #[]⟩
def zo563 (P : Params) : Obj := ⟨(.type "tuple"), none, (.seq #[] 0), #[]⟩
def zo564 (P : Params) : Obj := ⟨.none, none, (.fields #[]), #[]⟩
def zo565 (P : Params) : Obj := ⟨(.type "tuple"), none, (.seq #[(.str (Hz.t "self") 1098), (.str (Hz.t "piece") 1099)] 0), #[]⟩
def zo566 (P : Params) : Obj := ⟨(.type "tuple"), none, (.seq #[] 0), #[]⟩
def zo567 (P : Params) : Obj := ⟨.none, none, (.func (Hz.fnD (inClass (ztop 25) 10) "ordered" "Scale.ordered" 0 [] .none .none .none .none none .none .none 0)), #[]⟩
def zo568 (P : Params) : Obj := ⟨(.type "code"), none, (.fields #[(.str (Hz.t "ordered") 1095), (.str (Hz.t "Scale.ordered") 1096), (.str (Hz.t "/claim/cut.py") 1097), (.int 271 0), (.int 2 0), (.int 0 0), (.int 0 0), (.int 3 0), (.ref 563), (.bool true), (.int 370 0), (.ref 564), .none, (.ref 565), (.ref 566), (.ref 567), (.int 1100 0), (.int 271 0), (.str (Hz.t "/claim/cut.py") 1101)]), #[]⟩
def zo569 (P : Params) : Obj := ⟨(.type "function"), none, (.func (Hz.fnD (inClass (ztop 25) 10) "ordered" "Scale.ordered" 3 [] .none .none .none (.str (Hz.t "anyfifth.scales") 989) none (.ref 568) .none 0)), #[]⟩
def zo570 (P : Params) : Obj := ⟨(.type "tuple"), none, (.seq #[] 0), #[]⟩
def zo571 (P : Params) : Obj := ⟨.none, none, (.fields #[]), #[]⟩
def zo572 (P : Params) : Obj := ⟨(.type "tuple"), none, (.seq #[(.str (Hz.t "self") 1106), (.str (Hz.t "piece") 1107)] 0), #[]⟩
def zo573 (P : Params) : Obj := ⟨(.type "tuple"), none, (.seq #[] 0), #[]⟩
def zo574 (P : Params) : Obj := ⟨.none, none, (.func (Hz.fnD (inClass (ztop 25) 11) "steps" "Scale.steps" 0 [] .none .none .none .none none .none .none 0)), #[]⟩
def zo575 (P : Params) : Obj := ⟨(.type "code"), none, (.fields #[(.str (Hz.t "steps") 1103), (.str (Hz.t "Scale.steps") 1104), (.str (Hz.t "/claim/cut.py") 1105), (.int 274 0), (.int 2 0), (.int 0 0), (.int 0 0), (.int 3 0), (.ref 570), (.bool true), (.int 370 0), (.ref 571), .none, (.ref 572), (.ref 573), (.ref 574), (.int 1108 0), (.int 274 0), (.str (Hz.t "/claim/cut.py") 1109)]), #[]⟩
def zo576 (P : Params) : Obj := ⟨(.type "function"), none, (.func (Hz.fnD (inClass (ztop 25) 11) "steps" "Scale.steps" 3 [] .none .none .none (.str (Hz.t "anyfifth.scales") 989) none (.ref 575) .none 0)), #[]⟩
def zo577 (P : Params) : Obj := ⟨(.type "tuple"), none, (.seq #[] 0), #[]⟩
def zo578 (P : Params) : Obj := ⟨.none, none, (.fields #[]), #[]⟩
def zo579 (P : Params) : Obj := ⟨(.type "tuple"), none, (.seq #[(.str (Hz.t "self") 1114)] 0), #[]⟩
def zo580 (P : Params) : Obj := ⟨(.type "tuple"), none, (.seq #[] 0), #[]⟩
def zo581 (P : Params) : Obj := ⟨.none, none, (.func (Hz.fnD (inClass (ztop 25) 12) "apart" "Scale.apart" 0 [] .none .none .none .none none .none .none 0)), #[]⟩
def zo582 (P : Params) : Obj := ⟨(.type "code"), none, (.fields #[(.str (Hz.t "apart") 1111), (.str (Hz.t "Scale.apart") 1112), (.str (Hz.t "/claim/cut.py") 1113), (.int 277 0), (.int 1 0), (.int 0 0), (.int 0 0), (.int 3 0), (.ref 577), (.bool true), (.int 370 0), (.ref 578), .none, (.ref 579), (.ref 580), (.ref 581), (.int 1115 0), (.int 277 0), (.str (Hz.t "/claim/cut.py") 1116)]), #[]⟩
def zo583 (P : Params) : Obj := ⟨(.type "function"), none, (.func (Hz.fnD (inClass (ztop 25) 12) "apart" "Scale.apart" 3 [] .none .none .none (.str (Hz.t "anyfifth.scales") 989) none (.ref 582) .none 0)), #[]⟩
def zo584 (P : Params) : Obj := ⟨(.type "tuple"), none, (.seq #[] 0), #[]⟩
def zo585 (P : Params) : Obj := ⟨.none, none, (.fields #[]), #[]⟩
def zo586 (P : Params) : Obj := ⟨(.type "tuple"), none, (.seq #[(.str (Hz.t "self") 1121), (.str (Hz.t "numbers") 1122)] 0), #[]⟩
def zo587 (P : Params) : Obj := ⟨(.type "tuple"), none, (.seq #[] 0), #[]⟩
def zo588 (P : Params) : Obj := ⟨.none, none, (.func (Hz.fnD (inClass (ztop 25) 13) "order_region" "Scale.order_region" 0 [] .none .none .none .none none .none .none 0)), #[]⟩
def zo589 (P : Params) : Obj := ⟨(.type "code"), none, (.fields #[(.str (Hz.t "order_region") 1118), (.str (Hz.t "Scale.order_region") 1119), (.str (Hz.t "/claim/cut.py") 1120), (.int 280 0), (.int 2 0), (.int 0 0), (.int 0 0), (.int 3 0), (.ref 584), (.bool true), (.int 370 0), (.ref 585), .none, (.ref 586), (.ref 587), (.ref 588), (.int 1123 0), (.int 280 0), (.str (Hz.t "/claim/cut.py") 1124)]), #[]⟩
def zo590 (P : Params) : Obj := ⟨(.type "function"), none, (.func (Hz.fnD (inClass (ztop 25) 13) "order_region" "Scale.order_region" 3 [] .none .none .none (.str (Hz.t "anyfifth.scales") 989) none (.ref 589) .none 0)), #[]⟩
def zo591 (P : Params) : Obj := ⟨(.type "tuple"), none, (.seq #[] 0), #[]⟩
def zo592 (P : Params) : Obj := ⟨.none, none, (.fields #[]), #[]⟩
def zo593 (P : Params) : Obj := ⟨(.type "tuple"), none, (.seq #[(.str (Hz.t "self") 1129), (.str (Hz.t "fifth") 1130)] 0), #[]⟩
def zo594 (P : Params) : Obj := ⟨(.type "tuple"), none, (.seq #[] 0), #[]⟩
def zo595 (P : Params) : Obj := ⟨.none, none, (.func (Hz.fnD (inClass (ztop 25) 14) "__call__" "Scale.__call__" 0 [] .none .none .none .none none .none .none 0)), #[]⟩
def zo596 (P : Params) : Obj := ⟨(.type "code"), none, (.fields #[(.str (Hz.t "__call__") 1126), (.str (Hz.t "Scale.__call__") 1127), (.str (Hz.t "/claim/cut.py") 1128), (.int 283 0), (.int 2 0), (.int 0 0), (.int 0 0), (.int 3 0), (.ref 591), (.bool true), (.int 370 0), (.ref 592), .none, (.ref 593), (.ref 594), (.ref 595), (.int 1131 0), (.int 283 0), (.str (Hz.t "/claim/cut.py") 1132)]), #[]⟩
def zo597 (P : Params) : Obj := ⟨(.type "function"), none, (.func (Hz.fnD (inClass (ztop 25) 14) "__call__" "Scale.__call__" 3 [] .none .none .none (.str (Hz.t "anyfifth.scales") 989) none (.ref 596) .none 0)), #[]⟩
def zo598 (P : Params) : Obj := ⟨(.type "tuple"), none, (.seq #[] 0), #[]⟩
def zo599 (P : Params) : Obj := ⟨.none, none, (.fields #[]), #[]⟩
def zo600 (P : Params) : Obj := ⟨(.type "tuple"), none, (.seq #[(.str (Hz.t "self") 1137)] 0), #[]⟩
def zo601 (P : Params) : Obj := ⟨(.type "tuple"), none, (.seq #[] 0), #[]⟩
def zo602 (P : Params) : Obj := ⟨.none, none, (.func (Hz.fnD (inClass (ztop 25) 15) "__iter__" "Scale.__iter__" 0 [] .none .none .none .none none .none .none 0)), #[]⟩
def zo603 (P : Params) : Obj := ⟨(.type "code"), none, (.fields #[(.str (Hz.t "__iter__") 1134), (.str (Hz.t "Scale.__iter__") 1135), (.str (Hz.t "/claim/cut.py") 1136), (.int 288 0), (.int 1 0), (.int 0 0), (.int 0 0), (.int 3 0), (.ref 598), (.bool true), (.int 370 0), (.ref 599), .none, (.ref 600), (.ref 601), (.ref 602), (.int 1138 0), (.int 288 0), (.str (Hz.t "/claim/cut.py") 1139)]), #[]⟩
def zo604 (P : Params) : Obj := ⟨(.type "function"), none, (.func (Hz.fnD (inClass (ztop 25) 15) "__iter__" "Scale.__iter__" 3 [] .none .none .none (.str (Hz.t "anyfifth.scales") 989) none (.ref 603) .none 0)), #[]⟩
def zo605 (P : Params) : Obj := ⟨(.type "tuple"), none, (.seq #[] 0), #[]⟩
def zo606 (P : Params) : Obj := ⟨.none, none, (.fields #[]), #[]⟩
def zo607 (P : Params) : Obj := ⟨(.type "tuple"), none, (.seq #[(.str (Hz.t "self") 1144)] 0), #[]⟩
def zo608 (P : Params) : Obj := ⟨(.type "tuple"), none, (.seq #[] 0), #[]⟩
def zo609 (P : Params) : Obj := ⟨.none, none, (.func (Hz.fnD (inClass (ztop 25) 16) "__len__" "Scale.__len__" 0 [] .none .none .none .none none .none .none 0)), #[]⟩
def zo610 (P : Params) : Obj := ⟨(.type "code"), none, (.fields #[(.str (Hz.t "__len__") 1141), (.str (Hz.t "Scale.__len__") 1142), (.str (Hz.t "/claim/cut.py") 1143), (.int 291 0), (.int 1 0), (.int 0 0), (.int 0 0), (.int 3 0), (.ref 605), (.bool true), (.int 370 0), (.ref 606), .none, (.ref 607), (.ref 608), (.ref 609), (.int 1145 0), (.int 291 0), (.str (Hz.t "/claim/cut.py") 1146)]), #[]⟩
def zo611 (P : Params) : Obj := ⟨(.type "function"), none, (.func (Hz.fnD (inClass (ztop 25) 16) "__len__" "Scale.__len__" 3 [] .none .none .none (.str (Hz.t "anyfifth.scales") 989) none (.ref 610) .none 0)), #[]⟩
def zo612 (P : Params) : Obj := ⟨(.type "tuple"), none, (.seq #[] 0), #[]⟩
def zo613 (P : Params) : Obj := ⟨.none, none, (.fields #[]), #[]⟩
def zo614 (P : Params) : Obj := ⟨(.type "tuple"), none, (.seq #[(.str (Hz.t "self") 1151), (.str (Hz.t "x") 1152)] 0), #[]⟩
def zo615 (P : Params) : Obj := ⟨(.type "tuple"), none, (.seq #[] 0), #[]⟩
def zo616 (P : Params) : Obj := ⟨.none, none, (.func (Hz.fnD (inClass (ztop 25) 17) "__contains__" "Scale.__contains__" 0 [] .none .none .none .none none .none .none 0)), #[]⟩
def zo617 (P : Params) : Obj := ⟨(.type "code"), none, (.fields #[(.str (Hz.t "__contains__") 1148), (.str (Hz.t "Scale.__contains__") 1149), (.str (Hz.t "/claim/cut.py") 1150), (.int 294 0), (.int 2 0), (.int 0 0), (.int 0 0), (.int 3 0), (.ref 612), (.bool true), (.int 370 0), (.ref 613), .none, (.ref 614), (.ref 615), (.ref 616), (.int 1153 0), (.int 294 0), (.str (Hz.t "/claim/cut.py") 1154)]), #[]⟩
def zo618 (P : Params) : Obj := ⟨(.type "function"), none, (.func (Hz.fnD (inClass (ztop 25) 17) "__contains__" "Scale.__contains__" 3 [] .none .none .none (.str (Hz.t "anyfifth.scales") 989) none (.ref 617) .none 0)), #[]⟩
def zo619 (P : Params) : Obj := ⟨(.type "tuple"), none, (.seq #[] 0), #[]⟩
def zo620 (P : Params) : Obj := ⟨.none, none, (.fields #[]), #[]⟩
def zo621 (P : Params) : Obj := ⟨(.type "tuple"), none, (.seq #[(.str (Hz.t "self") 1159), (.str (Hz.t "at") 1160)] 0), #[]⟩
def zo622 (P : Params) : Obj := ⟨(.type "tuple"), none, (.seq #[] 0), #[]⟩
def zo623 (P : Params) : Obj := ⟨.none, none, (.func (Hz.fnD (inClass (ztop 25) 18) "__getitem__" "Scale.__getitem__" 0 [] .none .none .none .none none .none .none 0)), #[]⟩
def zo624 (P : Params) : Obj := ⟨(.type "code"), none, (.fields #[(.str (Hz.t "__getitem__") 1156), (.str (Hz.t "Scale.__getitem__") 1157), (.str (Hz.t "/claim/cut.py") 1158), (.int 297 0), (.int 2 0), (.int 0 0), (.int 0 0), (.int 3 0), (.ref 619), (.bool true), (.int 370 0), (.ref 620), .none, (.ref 621), (.ref 622), (.ref 623), (.int 1161 0), (.int 297 0), (.str (Hz.t "/claim/cut.py") 1162)]), #[]⟩
def zo625 (P : Params) : Obj := ⟨(.type "function"), none, (.func (Hz.fnD (inClass (ztop 25) 18) "__getitem__" "Scale.__getitem__" 3 [] .none .none .none (.str (Hz.t "anyfifth.scales") 989) none (.ref 624) .none 0)), #[]⟩
def zo626 (P : Params) : Obj := ⟨(.type "tuple"), none, (.seq #[] 0), #[]⟩
def zo627 (P : Params) : Obj := ⟨.none, none, (.fields #[]), #[]⟩
def zo628 (P : Params) : Obj := ⟨(.type "tuple"), none, (.seq #[(.str (Hz.t "self") 1167), (.str (Hz.t "at") 1168), (.str (Hz.t "worth") 1169), (.str (Hz.t "others") 1170)] 0), #[]⟩
def zo629 (P : Params) : Obj := ⟨(.type "tuple"), none, (.seq #[] 0), #[]⟩
def zo630 (P : Params) : Obj := ⟨.none, none, (.func (Hz.fnD (inClass (ztop 25) 19) "__setitem__" "Scale.__setitem__" 0 [] .none .none .none .none none .none .none 0)), #[]⟩
def zo631 (P : Params) : Obj := ⟨(.type "code"), none, (.fields #[(.str (Hz.t "__setitem__") 1164), (.str (Hz.t "Scale.__setitem__") 1165), (.str (Hz.t "/claim/cut.py") 1166), (.int 302 0), (.int 3 0), (.int 0 0), (.int 0 0), (.int 3 0), (.ref 626), (.bool true), (.int 370 0), (.ref 627), .none, (.ref 628), (.ref 629), (.ref 630), (.int 1171 0), (.int 302 0), (.str (Hz.t "/claim/cut.py") 1172)]), #[]⟩
def zo632 (P : Params) : Obj := ⟨(.type "function"), none, (.func (Hz.fnD (inClass (ztop 25) 19) "__setitem__" "Scale.__setitem__" 3 [] .none .none .none (.str (Hz.t "anyfifth.scales") 989) none (.ref 631) .none 0)), #[]⟩
def zo633 (P : Params) : Obj := ⟨(.type "tuple"), none, (.seq #[] 0), #[]⟩
def zo634 (P : Params) : Obj := ⟨.none, none, (.fields #[]), #[]⟩
def zo635 (P : Params) : Obj := ⟨(.type "tuple"), none, (.seq #[(.str (Hz.t "self") 1177), (.str (Hz.t "other") 1178)] 0), #[]⟩
def zo636 (P : Params) : Obj := ⟨(.type "tuple"), none, (.seq #[] 0), #[]⟩
def zo637 (P : Params) : Obj := ⟨.none, none, (.func (Hz.fnD (inClass (ztop 25) 20) "__iadd__" "Scale.__iadd__" 0 [] .none .none .none .none none .none .none 0)), #[]⟩
def zo638 (P : Params) : Obj := ⟨(.type "code"), none, (.fields #[(.str (Hz.t "__iadd__") 1174), (.str (Hz.t "Scale.__iadd__") 1175), (.str (Hz.t "/claim/cut.py") 1176), (.int 310 0), (.int 2 0), (.int 0 0), (.int 0 0), (.int 3 0), (.ref 633), (.bool true), (.int 370 0), (.ref 634), .none, (.ref 635), (.ref 636), (.ref 637), (.int 1179 0), (.int 310 0), (.str (Hz.t "/claim/cut.py") 1180)]), #[]⟩
def zo639 (P : Params) : Obj := ⟨(.type "function"), none, (.func (Hz.fnD (inClass (ztop 25) 20) "__iadd__" "Scale.__iadd__" 3 [] .none .none .none (.str (Hz.t "anyfifth.scales") 989) none (.ref 638) .none 0)), #[]⟩
def zo640 (P : Params) : Obj := ⟨(.type "tuple"), none, (.seq #[] 0), #[]⟩
def zo641 (P : Params) : Obj := ⟨.none, none, (.fields #[]), #[]⟩
def zo642 (P : Params) : Obj := ⟨(.type "tuple"), none, (.seq #[(.str (Hz.t "self") 1185), (.str (Hz.t "other") 1186), (.str (Hz.t "numbers") 1187)] 0), #[]⟩
def zo643 (P : Params) : Obj := ⟨(.type "tuple"), none, (.seq #[] 0), #[]⟩
def zo644 (P : Params) : Obj := ⟨.none, none, (.func (Hz.fnD (inClass (ztop 25) 21) "__add__" "Scale.__add__" 0 [] .none .none .none .none none .none .none 0)), #[]⟩
def zo645 (P : Params) : Obj := ⟨(.type "code"), none, (.fields #[(.str (Hz.t "__add__") 1182), (.str (Hz.t "Scale.__add__") 1183), (.str (Hz.t "/claim/cut.py") 1184), (.int 314 0), (.int 2 0), (.int 0 0), (.int 0 0), (.int 3 0), (.ref 640), (.bool true), (.int 370 0), (.ref 641), .none, (.ref 642), (.ref 643), (.ref 644), (.int 1188 0), (.int 314 0), (.str (Hz.t "/claim/cut.py") 1189)]), #[]⟩
def zo646 (P : Params) : Obj := ⟨(.type "function"), none, (.func (Hz.fnD (inClass (ztop 25) 21) "__add__" "Scale.__add__" 3 [] .none .none .none (.str (Hz.t "anyfifth.scales") 989) none (.ref 645) .none 0)), #[]⟩
def zo647 (P : Params) : Obj := ⟨(.type "tuple"), none, (.seq #[] 0), #[]⟩
def zo648 (P : Params) : Obj := ⟨.none, none, (.fields #[]), #[]⟩
def zo649 (P : Params) : Obj := ⟨.none, none, (.func (Hz.fnD (inClass (ztop 25) 22) "__neg__" "Scale.__neg__" 0 [] .none .none .none .none none .none .none 0)), #[]⟩
def zo650 (P : Params) : Obj := ⟨(.type "code"), none, (.fields #[(.str (Hz.t "__neg__") 1191), (.str (Hz.t "Scale.__neg__") 1192), (.str (Hz.t "/claim/cut.py") 1193), (.int 318 0), (.int 1 0), (.int 0 0), (.int 0 0), (.int 3 0), (.ref 647), (.bool true), (.int 370 0), (.ref 648), .none, .none, .none, (.ref 649), (.int 1194 0), (.int 318 0), (.str (Hz.t "/claim/cut.py") 1195)]), #[]⟩
def zo651 (P : Params) : Obj := ⟨(.type "function"), none, (.func (Hz.fnD (inClass (ztop 25) 22) "__neg__" "Scale.__neg__" 3 [] .none .none .none (.str (Hz.t "anyfifth.scales") 989) none (.ref 650) .none 0)), #[]⟩
def zo652 (P : Params) : Obj := ⟨(.type "tuple"), none, (.seq #[] 0), #[]⟩
def zo653 (P : Params) : Obj := ⟨.none, none, (.fields #[]), #[]⟩
def zo654 (P : Params) : Obj := ⟨(.type "tuple"), none, (.seq #[(.str (Hz.t "self") 1200), (.str (Hz.t "other") 1201)] 0), #[]⟩
def zo655 (P : Params) : Obj := ⟨(.type "tuple"), none, (.seq #[] 0), #[]⟩
def zo656 (P : Params) : Obj := ⟨.none, none, (.func (Hz.fnD (inClass (ztop 25) 23) "__eq__" "Scale.__eq__" 0 [] .none .none .none .none none .none .none 0)), #[]⟩
def zo657 (P : Params) : Obj := ⟨(.type "code"), none, (.fields #[(.str (Hz.t "__eq__") 1197), (.str (Hz.t "Scale.__eq__") 1198), (.str (Hz.t "/claim/cut.py") 1199), (.int 322 0), (.int 2 0), (.int 0 0), (.int 0 0), (.int 3 0), (.ref 652), (.bool true), (.int 370 0), (.ref 653), .none, (.ref 654), (.ref 655), (.ref 656), (.int 1202 0), (.int 322 0), (.str (Hz.t "/claim/cut.py") 1203)]), #[]⟩
def zo658 (P : Params) : Obj := ⟨(.type "function"), none, (.func (Hz.fnD (inClass (ztop 25) 23) "__eq__" "Scale.__eq__" 3 [] .none .none .none (.str (Hz.t "anyfifth.scales") 989) none (.ref 657) .none 0)), #[]⟩
def zo659 (P : Params) : Obj := ⟨(.type "tuple"), none, (.seq #[] 0), #[]⟩
def zo660 (P : Params) : Obj := ⟨.none, none, (.fields #[]), #[]⟩
def zo661 (P : Params) : Obj := ⟨.none, none, (.func (Hz.fnD (inClass (ztop 25) 24) "__str__" "Scale.__str__" 0 [] .none .none .none .none none .none .none 0)), #[]⟩
def zo662 (P : Params) : Obj := ⟨(.type "code"), none, (.fields #[(.str (Hz.t "__str__") 1205), (.str (Hz.t "Scale.__str__") 1206), (.str (Hz.t "/claim/cut.py") 1207), (.int 327 0), (.int 1 0), (.int 0 0), (.int 0 0), (.int 3 0), (.ref 659), (.bool true), (.int 370 0), (.ref 660), .none, .none, .none, (.ref 661), (.int 1208 0), (.int 327 0), (.str (Hz.t "/claim/cut.py") 1209)]), #[]⟩
def zo663 (P : Params) : Obj := ⟨(.type "function"), none, (.func (Hz.fnD (inClass (ztop 25) 24) "__str__" "Scale.__str__" 3 [] .none .none .none (.str (Hz.t "anyfifth.scales") 989) none (.ref 662) .none 0)), #[]⟩
def zo664 (P : Params) : Obj := ⟨(.type "tuple"), none, (.seq #[(.str (Hz.t "_numbers") 1211)] 0), #[]⟩
def zo665 (P : Params) : Obj := ⟨(.type "dict"), none, (.dict #[(Hz.en P "__module__" 998 (.str (Hz.t "anyfifth.scales") 989)), (Hz.en P "__firstlineno__" 1002 (.int 216 1001)), (Hz.en P "MOST" 1004 (.int 16 1003)), (Hz.en P "__init__" 1014 (.ref 502)), (Hz.en P "read" 1038 (.ref 511)), (Hz.en P "numbers" 1046 (.ref 520)), (Hz.en P "backward" 1053 (.ref 527)), (Hz.en P "drop" 1062 (.ref 534)), (Hz.en P "put" 1070 (.ref 541)), (Hz.en P "cut" 1079 (.ref 548)), (Hz.en P "twin" 1086 (.ref 555)), (Hz.en P "groups" 1094 (.ref 562)), (Hz.en P "ordered" 1102 (.ref 569)), (Hz.en P "steps" 1110 (.ref 576)), (Hz.en P "apart" 1117 (.ref 583)), (Hz.en P "order_region" 1125 (.ref 590)), (Hz.en P "__call__" 1133 (.ref 597)), (Hz.en P "__iter__" 1140 (.ref 604)), (Hz.en P "__len__" 1147 (.ref 611)), (Hz.en P "__contains__" 1155 (.ref 618)), (Hz.en P "__getitem__" 1163 (.ref 625)), (Hz.en P "__setitem__" 1173 (.ref 632)), (Hz.en P "__iadd__" 1181 (.ref 639)), (Hz.en P "__add__" 1190 (.ref 646)), (Hz.en P "__neg__" 1196 (.ref 651)), (Hz.en P "__eq__" 1204 (.ref 658)), (Hz.en P "__str__" 1210 (.ref 663)), (Hz.en P "__static_attributes__" 1212 (.ref 664)), (Hz.en P "__dict__" 1214 (.ref 667)), (Hz.en P "__weakref__" 1216 (.ref 668)), (Hz.en P "__doc__" 1217 .none), (Hz.en P "__hash__" 1218 .none)] 5), #[]⟩
def zo666 (P : Params) : Obj := ⟨(.type "type"), none, (.cls ⟨(Hz.t "Scale"), [(.type "object")], [(.ref 666), (.type "object")], 665, (Hz.t "Scale"), true, [], [], false, none, false⟩), #[none, none, (some (.str (Hz.t "Scale") 991)), (some (.str (Hz.t "Scale") 999)), (some (.builtin "object.__new__")), (some (.bool true))]⟩
def zo667 (P : Params) : Obj := ⟨(.type "getset_descriptor"), none, (.fields #[(.str (Hz.t "__dict__") 1213), (.ref 666), (.builtin "function.__dict__"), (.builtin "function.__dict__#set")]), #[]⟩
def zo668 (P : Params) : Obj := ⟨(.type "getset_descriptor"), none, (.fields #[(.str (Hz.t "__weakref__") 1215), (.ref 666), (.builtin "ExceptionGroup.__weakref__"), .none]), #[]⟩
def zo669 (P : Params) : Obj := ⟨(.type "super"), none, (.fields #[(.ref 666), (.ref 666), (.ref 666)]), #[]⟩
def zo670 (P : Params) : Obj := ⟨(.type "builtin_function_or_method"), none, (.fields #[(.builtin "object.__init_subclass__"), (.ref 666)]), #[]⟩
def zo671 (P : Params) : Obj := ⟨(.type "tuple"), none, (.seq #[] 0), #[]⟩
def zo672 (P : Params) : Obj := ⟨.none, none, (.fields #[]), #[]⟩
def zo673 (P : Params) : Obj := ⟨(.type "tuple"), none, (.seq #[(.str (Hz.t "value") 1224)] 0), #[]⟩
def zo674 (P : Params) : Obj := ⟨(.type "tuple"), none, (.seq #[] 0), #[]⟩
def zo675 (P : Params) : Obj := ⟨.none, none, (.func (Hz.fnD (ztop 26) "_is_note" "_is_note" 0 [] .none .none .none .none none .none .none 0)), #[]⟩
def zo676 (P : Params) : Obj := ⟨(.type "code"), none, (.fields #[(.str (Hz.t "_is_note") 1221), (.str (Hz.t "_is_note") 1222), (.str (Hz.t "/claim/cut.py") 1223), (.int 331 0), (.int 1 0), (.int 0 0), (.int 0 0), (.int 3 0), (.ref 671), (.bool true), (.int 370 0), (.ref 672), .none, (.ref 673), (.ref 674), (.ref 675), (.int 1225 0), (.int 331 0), (.str (Hz.t "/claim/cut.py") 1226)]), #[]⟩
def zo677 (P : Params) : Obj := ⟨(.type "function"), none, (.func (Hz.fnD (ztop 26) "_is_note" "_is_note" 3 [] .none .none .none (.str (Hz.t "anyfifth.scales") 989) none (.ref 676) .none 0)), #[]⟩
def zo678 (P : Params) : Obj := ⟨(.type "tuple"), none, (.seq #[] 0), #[]⟩
def zo679 (P : Params) : Obj := ⟨.none, none, (.fields #[]), #[]⟩
def zo680 (P : Params) : Obj := ⟨.none, none, (.func (Hz.fnD (ztop 27) "_raised" "_raised" 0 [] .none .none .none .none none .none .none 0)), #[]⟩
def zo681 (P : Params) : Obj := ⟨(.type "code"), none, (.fields #[(.str (Hz.t "_raised") 1228), (.str (Hz.t "_raised") 1229), (.str (Hz.t "/claim/cut.py") 1230), (.int 333 0), (.int 2 0), (.int 0 0), (.int 0 0), (.int 3 0), (.ref 678), (.bool true), (.int 370 0), (.ref 679), .none, .none, .none, (.ref 680), (.int 1231 0), (.int 333 0), (.str (Hz.t "/claim/cut.py") 1232)]), #[]⟩
def zo682 (P : Params) : Obj := ⟨(.type "function"), none, (.func (Hz.fnD (ztop 27) "_raised" "_raised" 3 [] .none .none .none (.str (Hz.t "anyfifth.scales") 989) none (.ref 681) .none 0)), #[]⟩
def zo683 (P : Params) : Obj := ⟨(.type "tuple"), none, (.seq #[] 0), #[]⟩
def zo684 (P : Params) : Obj := ⟨.none, none, (.fields #[]), #[]⟩
def zo685 (P : Params) : Obj := ⟨.none, none, (.func (Hz.fnD (ztop 28) "_keys" "_keys" 0 [] .none .none .none .none none .none .none 0)), #[]⟩
def zo686 (P : Params) : Obj := ⟨(.type "code"), none, (.fields #[(.str (Hz.t "_keys") 1234), (.str (Hz.t "_keys") 1235), (.str (Hz.t "/claim/cut.py") 1236), (.int 341 0), (.int 2 0), (.int 0 0), (.int 0 0), (.int 3 0), (.ref 683), (.bool true), (.int 370 0), (.ref 684), .none, .none, .none, (.ref 685), (.int 1237 0), (.int 341 0), (.str (Hz.t "/claim/cut.py") 1238)]), #[]⟩
def zo687 (P : Params) : Obj := ⟨(.type "function"), none, (.func (Hz.fnD (ztop 28) "_keys" "_keys" 3 [] .none .none .none (.str (Hz.t "anyfifth.scales") 989) none (.ref 686) .none 0)), #[]⟩
def zo688 (P : Params) : Obj := ⟨(.type "tuple"), none, (.seq #[] 0), #[]⟩
def zo689 (P : Params) : Obj := ⟨.none, none, (.fields #[]), #[]⟩
def zo690 (P : Params) : Obj := ⟨(.type "tuple"), none, (.seq #[(.str (Hz.t "_law_script") 1245)] 0), #[]⟩
def zo691 (P : Params) : Obj := ⟨(.type "tuple"), none, (.seq #[] 0), #[]⟩
def zo692 (P : Params) : Obj := ⟨.none, none, (.func (Hz.fnD (ztop 30) "_law_pen" "_law_pen" 0 [] .none .none .none .none none .none .none 0)), #[]⟩
def zo693 (P : Params) : Obj := ⟨(.type "code"), none, (.fields #[(.str (Hz.t "_law_pen") 1242), (.str (Hz.t "_law_pen") 1243), (.str (Hz.t "/claim/cut.py") 1244), (.int 344 0), (.int 1 0), (.int 0 0), (.int 0 0), (.int 3 0), (.ref 688), (.bool true), (.int 370 0), (.ref 689), .none, (.ref 690), (.ref 691), (.ref 692), (.int 1246 0), (.int 344 0), (.str (Hz.t "/claim/cut.py") 1247)]), #[]⟩
def zo694 (P : Params) : Obj := ⟨(.type "function"), none, (.func (Hz.fnD (ztop 30) "_law_pen" "_law_pen" 3 [] .none .none .none (.str (Hz.t "law_anyfifth_k35_scales_written_and_read") 1240) none (.ref 693) .none 0)), #[]⟩
def zo695 (P : Params) : Obj := ⟨(.type "tuple"), none, (.seq #[] 0), #[]⟩
def zo696 (P : Params) : Obj := ⟨.none, none, (.fields #[]), #[]⟩
def zo697 (P : Params) : Obj := ⟨(.type "tuple"), none, (.seq #[(.str (Hz.t "_law_pen_here") 1252), (.str (Hz.t "_law_many") 1253), (.str (Hz.t "_law_digit") 1254), (.str (Hz.t "_law_taken") 1255), (.str (Hz.t "_law_cell") 1256), (.str (Hz.t "_law_great") 1257), (.str (Hz.t "_law_mixed") 1258)] 0), #[]⟩
def zo698 (P : Params) : Obj := ⟨(.type "tuple"), none, (.seq #[] 0), #[]⟩
def zo699 (P : Params) : Obj := ⟨.none, none, (.func (Hz.fnD (ztop 31) "_law_draw" "_law_draw" 0 [] .none .none .none .none none .none .none 0)), #[]⟩
def zo700 (P : Params) : Obj := ⟨(.type "code"), none, (.fields #[(.str (Hz.t "_law_draw") 1249), (.str (Hz.t "_law_draw") 1250), (.str (Hz.t "/claim/cut.py") 1251), (.int 346 0), (.int 2 0), (.int 0 0), (.int 0 0), (.int 3 0), (.ref 695), (.bool true), (.int 370 0), (.ref 696), .none, (.ref 697), (.ref 698), (.ref 699), (.int 1259 0), (.int 346 0), (.str (Hz.t "/claim/cut.py") 1260)]), #[]⟩
def zo701 (P : Params) : Obj := ⟨(.type "function"), none, (.func (Hz.fnD (ztop 31) "_law_draw" "_law_draw" 3 [] .none .none .none (.str (Hz.t "law_anyfifth_k35_scales_written_and_read") 1240) none (.ref 700) .none 0)), #[]⟩
def zo702 (P : Params) : Obj := ⟨(.type "tuple"), none, (.seq #[] 0), #[]⟩
def zo703 (P : Params) : Obj := ⟨.none, none, (.fields #[]), #[]⟩
def zo704 (P : Params) : Obj := ⟨(.type "tuple"), none, (.seq #[(.str (Hz.t "_law_pen_here") 1265), (.str (Hz.t "_law_some_here") 1266)] 0), #[]⟩
def zo705 (P : Params) : Obj := ⟨(.type "tuple"), none, (.seq #[] 0), #[]⟩
def zo706 (P : Params) : Obj := ⟨.none, none, (.func (Hz.fnD (ztop 32) "_law_pick" "_law_pick" 0 [] .none .none .none .none none .none .none 0)), #[]⟩
def zo707 (P : Params) : Obj := ⟨(.type "code"), none, (.fields #[(.str (Hz.t "_law_pick") 1262), (.str (Hz.t "_law_pick") 1263), (.str (Hz.t "/claim/cut.py") 1264), (.int 363 0), (.int 2 0), (.int 0 0), (.int 0 0), (.int 3 0), (.ref 702), (.bool true), (.int 370 0), (.ref 703), .none, (.ref 704), (.ref 705), (.ref 706), (.int 1267 0), (.int 363 0), (.str (Hz.t "/claim/cut.py") 1268)]), #[]⟩
def zo708 (P : Params) : Obj := ⟨(.type "function"), none, (.func (Hz.fnD (ztop 32) "_law_pick" "_law_pick" 3 [] .none .none .none (.str (Hz.t "law_anyfifth_k35_scales_written_and_read") 1240) none (.ref 707) .none 0)), #[]⟩
def zo709 (P : Params) : Obj := ⟨(.type "tuple"), none, (.seq #[] 0), #[]⟩
def zo710 (P : Params) : Obj := ⟨.none, none, (.fields #[]), #[]⟩
def zo711 (P : Params) : Obj := ⟨.none, none, (.func (Hz.fnD (ztop 33) "_law_some" "_law_some" 0 [] .none .none .none .none none .none .none 0)), #[]⟩
def zo712 (P : Params) : Obj := ⟨(.type "code"), none, (.fields #[(.str (Hz.t "_law_some") 1270), (.str (Hz.t "_law_some") 1271), (.str (Hz.t "/claim/cut.py") 1272), (.int 365 0), (.int 3 0), (.int 0 0), (.int 0 0), (.int 3 0), (.ref 709), (.bool true), (.int 370 0), (.ref 710), .none, .none, .none, (.ref 711), (.int 1273 0), (.int 365 0), (.str (Hz.t "/claim/cut.py") 1274)]), #[]⟩
def zo713 (P : Params) : Obj := ⟨(.type "function"), none, (.func (Hz.fnD (ztop 33) "_law_some" "_law_some" 3 [] .none .none .none (.str (Hz.t "law_anyfifth_k35_scales_written_and_read") 1240) none (.ref 712) .none 0)), #[]⟩
def zo714 (P : Params) : Obj := ⟨(.type "tuple"), none, (.seq #[] 0), #[]⟩
def zo715 (P : Params) : Obj := ⟨.none, none, (.fields #[]), #[]⟩
def zo716 (P : Params) : Obj := ⟨(.type "tuple"), none, (.seq #[(.str (Hz.t "_law_row") 1279), (.str (Hz.t "_law_ahead") 1280), (.str (Hz.t "_law_found") 1281), (.str (Hz.t "_law_one") 1282)] 0), #[]⟩
def zo717 (P : Params) : Obj := ⟨(.type "tuple"), none, (.seq #[] 0), #[]⟩
def zo718 (P : Params) : Obj := ⟨.none, none, (.func (Hz.fnD (ztop 34) "_law_scaled" "_law_scaled" 0 [] .none .none .none .none none .none .none 0)), #[]⟩
def zo719 (P : Params) : Obj := ⟨(.type "code"), none, (.fields #[(.str (Hz.t "_law_scaled") 1276), (.str (Hz.t "_law_scaled") 1277), (.str (Hz.t "/claim/cut.py") 1278), (.int 368 0), (.int 1 0), (.int 0 0), (.int 0 0), (.int 3 0), (.ref 714), (.bool true), (.int 370 0), (.ref 715), .none, (.ref 716), (.ref 717), (.ref 718), (.int 1283 0), (.int 368 0), (.str (Hz.t "/claim/cut.py") 1284)]), #[]⟩
def zo720 (P : Params) : Obj := ⟨(.type "function"), none, (.func (Hz.fnD (ztop 34) "_law_scaled" "_law_scaled" 3 [] .none .none .none (.str (Hz.t "law_anyfifth_k35_scales_written_and_read") 1240) none (.ref 719) .none 0)), #[]⟩
def zo721 (P : Params) : Obj := ⟨(.type "tuple"), none, (.seq #[] 0), #[]⟩
def zo722 (P : Params) : Obj := ⟨.none, none, (.fields #[]), #[]⟩
def zo723 (P : Params) : Obj := ⟨.none, none, (.func (Hz.fnD (ztop 35) "_law_text" "_law_text" 0 [] .none .none .none .none none .none .none 0)), #[]⟩
def zo724 (P : Params) : Obj := ⟨(.type "code"), none, (.fields #[(.str (Hz.t "_law_text") 1286), (.str (Hz.t "_law_text") 1287), (.str (Hz.t "/claim/cut.py") 1288), (.int 380 0), (.int 1 0), (.int 0 0), (.int 0 0), (.int 3 0), (.ref 721), (.bool true), (.int 370 0), (.ref 722), .none, .none, .none, (.ref 723), (.int 1289 0), (.int 380 0), (.str (Hz.t "/claim/cut.py") 1290)]), #[]⟩
def zo725 (P : Params) : Obj := ⟨(.type "function"), none, (.func (Hz.fnD (ztop 35) "_law_text" "_law_text" 3 [] .none .none .none (.str (Hz.t "law_anyfifth_k35_scales_written_and_read") 1240) none (.ref 724) .none 0)), #[]⟩
def zo726 (P : Params) : Obj := ⟨(.type "tuple"), none, (.seq #[] 0), #[]⟩
def zo727 (P : Params) : Obj := ⟨.none, none, (.fields #[]), #[]⟩
def zo728 (P : Params) : Obj := ⟨.none, none, (.func (Hz.fnD (ztop 36) "_law_due" "_law_due" 0 [] .none .none .none .none none .none .none 0)), #[]⟩
def zo729 (P : Params) : Obj := ⟨(.type "code"), none, (.fields #[(.str (Hz.t "_law_due") 1292), (.str (Hz.t "_law_due") 1293), (.str (Hz.t "/claim/cut.py") 1294), (.int 382 0), (.int 1 0), (.int 0 0), (.int 0 0), (.int 3 0), (.ref 726), (.bool true), (.int 370 0), (.ref 727), .none, .none, .none, (.ref 728), (.int 1295 0), (.int 382 0), (.str (Hz.t "/claim/cut.py") 1296)]), #[]⟩
def zo730 (P : Params) : Obj := ⟨(.type "function"), none, (.func (Hz.fnD (ztop 36) "_law_due" "_law_due" 3 [] .none .none .none (.str (Hz.t "law_anyfifth_k35_scales_written_and_read") 1240) none (.ref 729) .none 0)), #[]⟩
def zo731 (P : Params) : Obj := ⟨(.type "tuple"), none, (.seq #[] 0), #[]⟩
def zo732 (P : Params) : Obj := ⟨.none, none, (.fields #[]), #[]⟩
def zo733 (P : Params) : Obj := ⟨(.type "tuple"), none, (.seq #[(.str (Hz.t "_law_ask") 1301), (.str (Hz.t "_law_caught") 1302), (.str (Hz.t "error") 1303)] 0), #[]⟩
def zo734 (P : Params) : Obj := ⟨(.type "tuple"), none, (.seq #[] 0), #[]⟩
def zo735 (P : Params) : Obj := ⟨.none, none, (.func (Hz.fnD (ztop 37) "_law_heard" "_law_heard" 0 [] .none .none .none .none none .none .none 0)), #[]⟩
def zo736 (P : Params) : Obj := ⟨(.type "code"), none, (.fields #[(.str (Hz.t "_law_heard") 1298), (.str (Hz.t "_law_heard") 1299), (.str (Hz.t "/claim/cut.py") 1300), (.int 394 0), (.int 1 0), (.int 0 0), (.int 0 0), (.int 3 0), (.ref 731), (.bool true), (.int 370 0), (.ref 732), .none, (.ref 733), (.ref 734), (.ref 735), (.int 1304 0), (.int 394 0), (.str (Hz.t "/claim/cut.py") 1305)]), #[]⟩
def zo737 (P : Params) : Obj := ⟨(.type "function"), none, (.func (Hz.fnD (ztop 37) "_law_heard" "_law_heard" 3 [] .none .none .none (.str (Hz.t "law_anyfifth_k35_scales_written_and_read") 1240) none (.ref 736) .none 0)), #[]⟩
def zo738 (P : Params) : Obj := ⟨(.type "tuple"), none, (.seq #[] 0), #[]⟩
def zo739 (P : Params) : Obj := ⟨.none, none, (.fields #[]), #[]⟩
def zo740 (P : Params) : Obj := ⟨(.type "tuple"), none, (.seq #[(.str (Hz.t "_law_pen_here") 1310), (.str (Hz.t "_law_page") 1311), (.str (Hz.t "_law_words") 1312), (.str (Hz.t "_law_way") 1313), (.str (Hz.t "_law_spot") 1314), (.str (Hz.t "_law_some_here") 1315), (.str (Hz.t "_law_word") 1316)] 0), #[]⟩
def zo741 (P : Params) : Obj := ⟨(.type "tuple"), none, (.seq #[] 0), #[]⟩
def zo742 (P : Params) : Obj := ⟨.none, none, (.func (Hz.fnD (ztop 38) "_law_bent" "_law_bent" 0 [] .none .none .none .none none .none .none 0)), #[]⟩
def zo743 (P : Params) : Obj := ⟨(.type "code"), none, (.fields #[(.str (Hz.t "_law_bent") 1307), (.str (Hz.t "_law_bent") 1308), (.str (Hz.t "/claim/cut.py") 1309), (.int 401 0), (.int 2 0), (.int 0 0), (.int 0 0), (.int 3 0), (.ref 738), (.bool true), (.int 370 0), (.ref 739), .none, (.ref 740), (.ref 741), (.ref 742), (.int 1317 0), (.int 401 0), (.str (Hz.t "/claim/cut.py") 1318)]), #[]⟩
def zo744 (P : Params) : Obj := ⟨(.type "function"), none, (.func (Hz.fnD (ztop 38) "_law_bent" "_law_bent" 3 [] .none .none .none (.str (Hz.t "law_anyfifth_k35_scales_written_and_read") 1240) none (.ref 743) .none 0)), #[]⟩
def zo745 (P : Params) : Obj := ⟨(.type "tuple"), none, (.seq #[] 0), #[]⟩
def zo746 (P : Params) : Obj := ⟨.none, none, (.fields #[]), #[]⟩
def zo747 (P : Params) : Obj := ⟨.none, none, (.func (Hz.fnD (ztop 39) "law" "law" 0 [] .none .none .none .none none .none .none 0)), #[]⟩
def zo748 (P : Params) : Obj := ⟨(.type "code"), none, (.fields #[(.str (Hz.t "law") 1320), (.str (Hz.t "law") 1321), (.str (Hz.t "/claim/cut.py") 1322), (.int 415 0), (.int 1 0), (.int 0 0), (.int 0 0), (.int 3 0), (.ref 745), (.bool true), (.int 370 0), (.ref 746), .none, .none, .none, (.ref 747), (.int 1323 0), (.int 415 0), (.str (Hz.t "/claim/cut.py") 1324)]), #[]⟩
def zo749 (P : Params) : Obj := ⟨(.type "function"), none, (.func (Hz.fnD (ztop 39) "law" "law" 3 [] .none .none .none (.str (Hz.t "law_anyfifth_k35_scales_written_and_read") 1240) none (.ref 748) .none 0)), #[]⟩
def zt1_31 (P : Params) : BT := Hz.n (zo31 P) (Hz.n (zo63 P) (Hz.n (zo127 P) (Hz.n (zo255 P) (Hz.n (zo511 P) Hz.e Hz.e) Hz.e) (Hz.n (zo383 P) (Hz.n (zo639 P) Hz.e Hz.e) Hz.e)) (Hz.n (zo191 P) (Hz.n (zo319 P) (Hz.n (zo575 P) Hz.e Hz.e) Hz.e) (Hz.n (zo447 P) (Hz.n (zo703 P) Hz.e Hz.e) Hz.e))) (Hz.n (zo95 P) (Hz.n (zo159 P) (Hz.n (zo287 P) (Hz.n (zo543 P) Hz.e Hz.e) Hz.e) (Hz.n (zo415 P) (Hz.n (zo671 P) Hz.e Hz.e) Hz.e)) (Hz.n (zo223 P) (Hz.n (zo351 P) (Hz.n (zo607 P) Hz.e Hz.e) Hz.e) (Hz.n (zo479 P) (Hz.n (zo735 P) Hz.e Hz.e) Hz.e)))
def zt1_47 (P : Params) : BT := Hz.n (zo47 P) (Hz.n (zo79 P) (Hz.n (zo143 P) (Hz.n (zo271 P) (Hz.n (zo527 P) Hz.e Hz.e) Hz.e) (Hz.n (zo399 P) (Hz.n (zo655 P) Hz.e Hz.e) Hz.e)) (Hz.n (zo207 P) (Hz.n (zo335 P) (Hz.n (zo591 P) Hz.e Hz.e) Hz.e) (Hz.n (zo463 P) (Hz.n (zo719 P) Hz.e Hz.e) Hz.e))) (Hz.n (zo111 P) (Hz.n (zo175 P) (Hz.n (zo303 P) (Hz.n (zo559 P) Hz.e Hz.e) Hz.e) (Hz.n (zo431 P) (Hz.n (zo687 P) Hz.e Hz.e) Hz.e)) (Hz.n (zo239 P) (Hz.n (zo367 P) (Hz.n (zo623 P) Hz.e Hz.e) Hz.e) (Hz.n (zo495 P) Hz.e Hz.e)))
def zt1_39 (P : Params) : BT := Hz.n (zo39 P) (Hz.n (zo71 P) (Hz.n (zo135 P) (Hz.n (zo263 P) (Hz.n (zo519 P) Hz.e Hz.e) Hz.e) (Hz.n (zo391 P) (Hz.n (zo647 P) Hz.e Hz.e) Hz.e)) (Hz.n (zo199 P) (Hz.n (zo327 P) (Hz.n (zo583 P) Hz.e Hz.e) Hz.e) (Hz.n (zo455 P) (Hz.n (zo711 P) Hz.e Hz.e) Hz.e))) (Hz.n (zo103 P) (Hz.n (zo167 P) (Hz.n (zo295 P) (Hz.n (zo551 P) Hz.e Hz.e) Hz.e) (Hz.n (zo423 P) (Hz.n (zo679 P) Hz.e Hz.e) Hz.e)) (Hz.n (zo231 P) (Hz.n (zo359 P) (Hz.n (zo615 P) Hz.e Hz.e) Hz.e) (Hz.n (zo487 P) (Hz.n (zo743 P) Hz.e Hz.e) Hz.e)))
def zt1_55 (P : Params) : BT := Hz.n (zo55 P) (Hz.n (zo87 P) (Hz.n (zo151 P) (Hz.n (zo279 P) (Hz.n (zo535 P) Hz.e Hz.e) Hz.e) (Hz.n (zo407 P) (Hz.n (zo663 P) Hz.e Hz.e) Hz.e)) (Hz.n (zo215 P) (Hz.n (zo343 P) (Hz.n (zo599 P) Hz.e Hz.e) Hz.e) (Hz.n (zo471 P) (Hz.n (zo727 P) Hz.e Hz.e) Hz.e))) (Hz.n (zo119 P) (Hz.n (zo183 P) (Hz.n (zo311 P) (Hz.n (zo567 P) Hz.e Hz.e) Hz.e) (Hz.n (zo439 P) (Hz.n (zo695 P) Hz.e Hz.e) Hz.e)) (Hz.n (zo247 P) (Hz.n (zo375 P) (Hz.n (zo631 P) Hz.e Hz.e) Hz.e) (Hz.n (zo503 P) Hz.e Hz.e)))
def zt1_35 (P : Params) : BT := Hz.n (zo35 P) (Hz.n (zo67 P) (Hz.n (zo131 P) (Hz.n (zo259 P) (Hz.n (zo515 P) Hz.e Hz.e) Hz.e) (Hz.n (zo387 P) (Hz.n (zo643 P) Hz.e Hz.e) Hz.e)) (Hz.n (zo195 P) (Hz.n (zo323 P) (Hz.n (zo579 P) Hz.e Hz.e) Hz.e) (Hz.n (zo451 P) (Hz.n (zo707 P) Hz.e Hz.e) Hz.e))) (Hz.n (zo99 P) (Hz.n (zo163 P) (Hz.n (zo291 P) (Hz.n (zo547 P) Hz.e Hz.e) Hz.e) (Hz.n (zo419 P) (Hz.n (zo675 P) Hz.e Hz.e) Hz.e)) (Hz.n (zo227 P) (Hz.n (zo355 P) (Hz.n (zo611 P) Hz.e Hz.e) Hz.e) (Hz.n (zo483 P) (Hz.n (zo739 P) Hz.e Hz.e) Hz.e)))
def zt1_51 (P : Params) : BT := Hz.n (zo51 P) (Hz.n (zo83 P) (Hz.n (zo147 P) (Hz.n (zo275 P) (Hz.n (zo531 P) Hz.e Hz.e) Hz.e) (Hz.n (zo403 P) (Hz.n (zo659 P) Hz.e Hz.e) Hz.e)) (Hz.n (zo211 P) (Hz.n (zo339 P) (Hz.n (zo595 P) Hz.e Hz.e) Hz.e) (Hz.n (zo467 P) (Hz.n (zo723 P) Hz.e Hz.e) Hz.e))) (Hz.n (zo115 P) (Hz.n (zo179 P) (Hz.n (zo307 P) (Hz.n (zo563 P) Hz.e Hz.e) Hz.e) (Hz.n (zo435 P) (Hz.n (zo691 P) Hz.e Hz.e) Hz.e)) (Hz.n (zo243 P) (Hz.n (zo371 P) (Hz.n (zo627 P) Hz.e Hz.e) Hz.e) (Hz.n (zo499 P) Hz.e Hz.e)))
def zt1_43 (P : Params) : BT := Hz.n (zo43 P) (Hz.n (zo75 P) (Hz.n (zo139 P) (Hz.n (zo267 P) (Hz.n (zo523 P) Hz.e Hz.e) Hz.e) (Hz.n (zo395 P) (Hz.n (zo651 P) Hz.e Hz.e) Hz.e)) (Hz.n (zo203 P) (Hz.n (zo331 P) (Hz.n (zo587 P) Hz.e Hz.e) Hz.e) (Hz.n (zo459 P) (Hz.n (zo715 P) Hz.e Hz.e) Hz.e))) (Hz.n (zo107 P) (Hz.n (zo171 P) (Hz.n (zo299 P) (Hz.n (zo555 P) Hz.e Hz.e) Hz.e) (Hz.n (zo427 P) (Hz.n (zo683 P) Hz.e Hz.e) Hz.e)) (Hz.n (zo235 P) (Hz.n (zo363 P) (Hz.n (zo619 P) Hz.e Hz.e) Hz.e) (Hz.n (zo491 P) (Hz.n (zo747 P) Hz.e Hz.e) Hz.e)))
def zt1_59 (P : Params) : BT := Hz.n (zo59 P) (Hz.n (zo91 P) (Hz.n (zo155 P) (Hz.n (zo283 P) (Hz.n (zo539 P) Hz.e Hz.e) Hz.e) (Hz.n (zo411 P) (Hz.n (zo667 P) Hz.e Hz.e) Hz.e)) (Hz.n (zo219 P) (Hz.n (zo347 P) (Hz.n (zo603 P) Hz.e Hz.e) Hz.e) (Hz.n (zo475 P) (Hz.n (zo731 P) Hz.e Hz.e) Hz.e))) (Hz.n (zo123 P) (Hz.n (zo187 P) (Hz.n (zo315 P) (Hz.n (zo571 P) Hz.e Hz.e) Hz.e) (Hz.n (zo443 P) (Hz.n (zo699 P) Hz.e Hz.e) Hz.e)) (Hz.n (zo251 P) (Hz.n (zo379 P) (Hz.n (zo635 P) Hz.e Hz.e) Hz.e) (Hz.n (zo507 P) Hz.e Hz.e)))
def zt1_33 (P : Params) : BT := Hz.n (zo33 P) (Hz.n (zo65 P) (Hz.n (zo129 P) (Hz.n (zo257 P) (Hz.n (zo513 P) Hz.e Hz.e) Hz.e) (Hz.n (zo385 P) (Hz.n (zo641 P) Hz.e Hz.e) Hz.e)) (Hz.n (zo193 P) (Hz.n (zo321 P) (Hz.n (zo577 P) Hz.e Hz.e) Hz.e) (Hz.n (zo449 P) (Hz.n (zo705 P) Hz.e Hz.e) Hz.e))) (Hz.n (zo97 P) (Hz.n (zo161 P) (Hz.n (zo289 P) (Hz.n (zo545 P) Hz.e Hz.e) Hz.e) (Hz.n (zo417 P) (Hz.n (zo673 P) Hz.e Hz.e) Hz.e)) (Hz.n (zo225 P) (Hz.n (zo353 P) (Hz.n (zo609 P) Hz.e Hz.e) Hz.e) (Hz.n (zo481 P) (Hz.n (zo737 P) Hz.e Hz.e) Hz.e)))
def zt1_49 (P : Params) : BT := Hz.n (zo49 P) (Hz.n (zo81 P) (Hz.n (zo145 P) (Hz.n (zo273 P) (Hz.n (zo529 P) Hz.e Hz.e) Hz.e) (Hz.n (zo401 P) (Hz.n (zo657 P) Hz.e Hz.e) Hz.e)) (Hz.n (zo209 P) (Hz.n (zo337 P) (Hz.n (zo593 P) Hz.e Hz.e) Hz.e) (Hz.n (zo465 P) (Hz.n (zo721 P) Hz.e Hz.e) Hz.e))) (Hz.n (zo113 P) (Hz.n (zo177 P) (Hz.n (zo305 P) (Hz.n (zo561 P) Hz.e Hz.e) Hz.e) (Hz.n (zo433 P) (Hz.n (zo689 P) Hz.e Hz.e) Hz.e)) (Hz.n (zo241 P) (Hz.n (zo369 P) (Hz.n (zo625 P) Hz.e Hz.e) Hz.e) (Hz.n (zo497 P) Hz.e Hz.e)))
def zt1_41 (P : Params) : BT := Hz.n (zo41 P) (Hz.n (zo73 P) (Hz.n (zo137 P) (Hz.n (zo265 P) (Hz.n (zo521 P) Hz.e Hz.e) Hz.e) (Hz.n (zo393 P) (Hz.n (zo649 P) Hz.e Hz.e) Hz.e)) (Hz.n (zo201 P) (Hz.n (zo329 P) (Hz.n (zo585 P) Hz.e Hz.e) Hz.e) (Hz.n (zo457 P) (Hz.n (zo713 P) Hz.e Hz.e) Hz.e))) (Hz.n (zo105 P) (Hz.n (zo169 P) (Hz.n (zo297 P) (Hz.n (zo553 P) Hz.e Hz.e) Hz.e) (Hz.n (zo425 P) (Hz.n (zo681 P) Hz.e Hz.e) Hz.e)) (Hz.n (zo233 P) (Hz.n (zo361 P) (Hz.n (zo617 P) Hz.e Hz.e) Hz.e) (Hz.n (zo489 P) (Hz.n (zo745 P) Hz.e Hz.e) Hz.e)))
def zt1_57 (P : Params) : BT := Hz.n (zo57 P) (Hz.n (zo89 P) (Hz.n (zo153 P) (Hz.n (zo281 P) (Hz.n (zo537 P) Hz.e Hz.e) Hz.e) (Hz.n (zo409 P) (Hz.n (zo665 P) Hz.e Hz.e) Hz.e)) (Hz.n (zo217 P) (Hz.n (zo345 P) (Hz.n (zo601 P) Hz.e Hz.e) Hz.e) (Hz.n (zo473 P) (Hz.n (zo729 P) Hz.e Hz.e) Hz.e))) (Hz.n (zo121 P) (Hz.n (zo185 P) (Hz.n (zo313 P) (Hz.n (zo569 P) Hz.e Hz.e) Hz.e) (Hz.n (zo441 P) (Hz.n (zo697 P) Hz.e Hz.e) Hz.e)) (Hz.n (zo249 P) (Hz.n (zo377 P) (Hz.n (zo633 P) Hz.e Hz.e) Hz.e) (Hz.n (zo505 P) Hz.e Hz.e)))
def zt1_37 (P : Params) : BT := Hz.n (zo37 P) (Hz.n (zo69 P) (Hz.n (zo133 P) (Hz.n (zo261 P) (Hz.n (zo517 P) Hz.e Hz.e) Hz.e) (Hz.n (zo389 P) (Hz.n (zo645 P) Hz.e Hz.e) Hz.e)) (Hz.n (zo197 P) (Hz.n (zo325 P) (Hz.n (zo581 P) Hz.e Hz.e) Hz.e) (Hz.n (zo453 P) (Hz.n (zo709 P) Hz.e Hz.e) Hz.e))) (Hz.n (zo101 P) (Hz.n (zo165 P) (Hz.n (zo293 P) (Hz.n (zo549 P) Hz.e Hz.e) Hz.e) (Hz.n (zo421 P) (Hz.n (zo677 P) Hz.e Hz.e) Hz.e)) (Hz.n (zo229 P) (Hz.n (zo357 P) (Hz.n (zo613 P) Hz.e Hz.e) Hz.e) (Hz.n (zo485 P) (Hz.n (zo741 P) Hz.e Hz.e) Hz.e)))
def zt1_53 (P : Params) : BT := Hz.n (zo53 P) (Hz.n (zo85 P) (Hz.n (zo149 P) (Hz.n (zo277 P) (Hz.n (zo533 P) Hz.e Hz.e) Hz.e) (Hz.n (zo405 P) (Hz.n (zo661 P) Hz.e Hz.e) Hz.e)) (Hz.n (zo213 P) (Hz.n (zo341 P) (Hz.n (zo597 P) Hz.e Hz.e) Hz.e) (Hz.n (zo469 P) (Hz.n (zo725 P) Hz.e Hz.e) Hz.e))) (Hz.n (zo117 P) (Hz.n (zo181 P) (Hz.n (zo309 P) (Hz.n (zo565 P) Hz.e Hz.e) Hz.e) (Hz.n (zo437 P) (Hz.n (zo693 P) Hz.e Hz.e) Hz.e)) (Hz.n (zo245 P) (Hz.n (zo373 P) (Hz.n (zo629 P) Hz.e Hz.e) Hz.e) (Hz.n (zo501 P) Hz.e Hz.e)))
def zt1_45 (P : Params) : BT := Hz.n (zo45 P) (Hz.n (zo77 P) (Hz.n (zo141 P) (Hz.n (zo269 P) (Hz.n (zo525 P) Hz.e Hz.e) Hz.e) (Hz.n (zo397 P) (Hz.n (zo653 P) Hz.e Hz.e) Hz.e)) (Hz.n (zo205 P) (Hz.n (zo333 P) (Hz.n (zo589 P) Hz.e Hz.e) Hz.e) (Hz.n (zo461 P) (Hz.n (zo717 P) Hz.e Hz.e) Hz.e))) (Hz.n (zo109 P) (Hz.n (zo173 P) (Hz.n (zo301 P) (Hz.n (zo557 P) Hz.e Hz.e) Hz.e) (Hz.n (zo429 P) (Hz.n (zo685 P) Hz.e Hz.e) Hz.e)) (Hz.n (zo237 P) (Hz.n (zo365 P) (Hz.n (zo621 P) Hz.e Hz.e) Hz.e) (Hz.n (zo493 P) (Hz.n (zo749 P) Hz.e Hz.e) Hz.e)))
def zt1_61 (P : Params) : BT := Hz.n (zo61 P) (Hz.n (zo93 P) (Hz.n (zo157 P) (Hz.n (zo285 P) (Hz.n (zo541 P) Hz.e Hz.e) Hz.e) (Hz.n (zo413 P) (Hz.n (zo669 P) Hz.e Hz.e) Hz.e)) (Hz.n (zo221 P) (Hz.n (zo349 P) (Hz.n (zo605 P) Hz.e Hz.e) Hz.e) (Hz.n (zo477 P) (Hz.n (zo733 P) Hz.e Hz.e) Hz.e))) (Hz.n (zo125 P) (Hz.n (zo189 P) (Hz.n (zo317 P) (Hz.n (zo573 P) Hz.e Hz.e) Hz.e) (Hz.n (zo445 P) (Hz.n (zo701 P) Hz.e Hz.e) Hz.e)) (Hz.n (zo253 P) (Hz.n (zo381 P) (Hz.n (zo637 P) Hz.e Hz.e) Hz.e) (Hz.n (zo509 P) Hz.e Hz.e)))
def zt1_32 (P : Params) : BT := Hz.n (zo32 P) (Hz.n (zo64 P) (Hz.n (zo128 P) (Hz.n (zo256 P) (Hz.n (zo512 P) Hz.e Hz.e) Hz.e) (Hz.n (zo384 P) (Hz.n (zo640 P) Hz.e Hz.e) Hz.e)) (Hz.n (zo192 P) (Hz.n (zo320 P) (Hz.n (zo576 P) Hz.e Hz.e) Hz.e) (Hz.n (zo448 P) (Hz.n (zo704 P) Hz.e Hz.e) Hz.e))) (Hz.n (zo96 P) (Hz.n (zo160 P) (Hz.n (zo288 P) (Hz.n (zo544 P) Hz.e Hz.e) Hz.e) (Hz.n (zo416 P) (Hz.n (zo672 P) Hz.e Hz.e) Hz.e)) (Hz.n (zo224 P) (Hz.n (zo352 P) (Hz.n (zo608 P) Hz.e Hz.e) Hz.e) (Hz.n (zo480 P) (Hz.n (zo736 P) Hz.e Hz.e) Hz.e)))
def zt1_48 (P : Params) : BT := Hz.n (zo48 P) (Hz.n (zo80 P) (Hz.n (zo144 P) (Hz.n (zo272 P) (Hz.n (zo528 P) Hz.e Hz.e) Hz.e) (Hz.n (zo400 P) (Hz.n (zo656 P) Hz.e Hz.e) Hz.e)) (Hz.n (zo208 P) (Hz.n (zo336 P) (Hz.n (zo592 P) Hz.e Hz.e) Hz.e) (Hz.n (zo464 P) (Hz.n (zo720 P) Hz.e Hz.e) Hz.e))) (Hz.n (zo112 P) (Hz.n (zo176 P) (Hz.n (zo304 P) (Hz.n (zo560 P) Hz.e Hz.e) Hz.e) (Hz.n (zo432 P) (Hz.n (zo688 P) Hz.e Hz.e) Hz.e)) (Hz.n (zo240 P) (Hz.n (zo368 P) (Hz.n (zo624 P) Hz.e Hz.e) Hz.e) (Hz.n (zo496 P) Hz.e Hz.e)))
def zt1_40 (P : Params) : BT := Hz.n (zo40_1 P) (Hz.n (zo72 P) (Hz.n (zo136 P) (Hz.n (zo264 P) (Hz.n (zo520 P) Hz.e Hz.e) Hz.e) (Hz.n (zo392 P) (Hz.n (zo648 P) Hz.e Hz.e) Hz.e)) (Hz.n (zo200 P) (Hz.n (zo328 P) (Hz.n (zo584 P) Hz.e Hz.e) Hz.e) (Hz.n (zo456 P) (Hz.n (zo712 P) Hz.e Hz.e) Hz.e))) (Hz.n (zo104 P) (Hz.n (zo168 P) (Hz.n (zo296 P) (Hz.n (zo552 P) Hz.e Hz.e) Hz.e) (Hz.n (zo424 P) (Hz.n (zo680 P) Hz.e Hz.e) Hz.e)) (Hz.n (zo232 P) (Hz.n (zo360 P) (Hz.n (zo616 P) Hz.e Hz.e) Hz.e) (Hz.n (zo488 P) (Hz.n (zo744 P) Hz.e Hz.e) Hz.e)))
def zt1_56 (P : Params) : BT := Hz.n (zo56 P) (Hz.n (zo88 P) (Hz.n (zo152 P) (Hz.n (zo280 P) (Hz.n (zo536 P) Hz.e Hz.e) Hz.e) (Hz.n (zo408 P) (Hz.n (zo664 P) Hz.e Hz.e) Hz.e)) (Hz.n (zo216 P) (Hz.n (zo344 P) (Hz.n (zo600 P) Hz.e Hz.e) Hz.e) (Hz.n (zo472 P) (Hz.n (zo728 P) Hz.e Hz.e) Hz.e))) (Hz.n (zo120 P) (Hz.n (zo184 P) (Hz.n (zo312 P) (Hz.n (zo568 P) Hz.e Hz.e) Hz.e) (Hz.n (zo440 P) (Hz.n (zo696 P) Hz.e Hz.e) Hz.e)) (Hz.n (zo248 P) (Hz.n (zo376 P) (Hz.n (zo632 P) Hz.e Hz.e) Hz.e) (Hz.n (zo504 P) Hz.e Hz.e)))
def zt1_36 (P : Params) : BT := Hz.n (zo36 P) (Hz.n (zo68 P) (Hz.n (zo132 P) (Hz.n (zo260 P) (Hz.n (zo516 P) Hz.e Hz.e) Hz.e) (Hz.n (zo388 P) (Hz.n (zo644 P) Hz.e Hz.e) Hz.e)) (Hz.n (zo196 P) (Hz.n (zo324 P) (Hz.n (zo580 P) Hz.e Hz.e) Hz.e) (Hz.n (zo452 P) (Hz.n (zo708 P) Hz.e Hz.e) Hz.e))) (Hz.n (zo100 P) (Hz.n (zo164 P) (Hz.n (zo292 P) (Hz.n (zo548 P) Hz.e Hz.e) Hz.e) (Hz.n (zo420 P) (Hz.n (zo676 P) Hz.e Hz.e) Hz.e)) (Hz.n (zo228 P) (Hz.n (zo356 P) (Hz.n (zo612 P) Hz.e Hz.e) Hz.e) (Hz.n (zo484 P) (Hz.n (zo740 P) Hz.e Hz.e) Hz.e)))
def zt1_52 (P : Params) : BT := Hz.n (zo52 P) (Hz.n (zo84 P) (Hz.n (zo148 P) (Hz.n (zo276 P) (Hz.n (zo532 P) Hz.e Hz.e) Hz.e) (Hz.n (zo404 P) (Hz.n (zo660 P) Hz.e Hz.e) Hz.e)) (Hz.n (zo212 P) (Hz.n (zo340 P) (Hz.n (zo596 P) Hz.e Hz.e) Hz.e) (Hz.n (zo468 P) (Hz.n (zo724 P) Hz.e Hz.e) Hz.e))) (Hz.n (zo116 P) (Hz.n (zo180 P) (Hz.n (zo308 P) (Hz.n (zo564 P) Hz.e Hz.e) Hz.e) (Hz.n (zo436 P) (Hz.n (zo692 P) Hz.e Hz.e) Hz.e)) (Hz.n (zo244 P) (Hz.n (zo372 P) (Hz.n (zo628 P) Hz.e Hz.e) Hz.e) (Hz.n (zo500 P) Hz.e Hz.e)))
def zt1_44 (P : Params) : BT := Hz.n (zo44 P) (Hz.n (zo76 P) (Hz.n (zo140 P) (Hz.n (zo268 P) (Hz.n (zo524 P) Hz.e Hz.e) Hz.e) (Hz.n (zo396 P) (Hz.n (zo652 P) Hz.e Hz.e) Hz.e)) (Hz.n (zo204 P) (Hz.n (zo332 P) (Hz.n (zo588 P) Hz.e Hz.e) Hz.e) (Hz.n (zo460 P) (Hz.n (zo716 P) Hz.e Hz.e) Hz.e))) (Hz.n (zo108 P) (Hz.n (zo172 P) (Hz.n (zo300 P) (Hz.n (zo556 P) Hz.e Hz.e) Hz.e) (Hz.n (zo428 P) (Hz.n (zo684 P) Hz.e Hz.e) Hz.e)) (Hz.n (zo236 P) (Hz.n (zo364 P) (Hz.n (zo620 P) Hz.e Hz.e) Hz.e) (Hz.n (zo492 P) (Hz.n (zo748 P) Hz.e Hz.e) Hz.e)))
def zt1_60 (P : Params) : BT := Hz.n (zo60 P) (Hz.n (zo92 P) (Hz.n (zo156 P) (Hz.n (zo284 P) (Hz.n (zo540 P) Hz.e Hz.e) Hz.e) (Hz.n (zo412 P) (Hz.n (zo668 P) Hz.e Hz.e) Hz.e)) (Hz.n (zo220 P) (Hz.n (zo348 P) (Hz.n (zo604 P) Hz.e Hz.e) Hz.e) (Hz.n (zo476 P) (Hz.n (zo732 P) Hz.e Hz.e) Hz.e))) (Hz.n (zo124 P) (Hz.n (zo188 P) (Hz.n (zo316 P) (Hz.n (zo572 P) Hz.e Hz.e) Hz.e) (Hz.n (zo444 P) (Hz.n (zo700 P) Hz.e Hz.e) Hz.e)) (Hz.n (zo252 P) (Hz.n (zo380 P) (Hz.n (zo636 P) Hz.e Hz.e) Hz.e) (Hz.n (zo508 P) Hz.e Hz.e)))
def zt1_34 (P : Params) : BT := Hz.n (zo34 P) (Hz.n (zo66 P) (Hz.n (zo130 P) (Hz.n (zo258 P) (Hz.n (zo514 P) Hz.e Hz.e) Hz.e) (Hz.n (zo386 P) (Hz.n (zo642 P) Hz.e Hz.e) Hz.e)) (Hz.n (zo194 P) (Hz.n (zo322 P) (Hz.n (zo578 P) Hz.e Hz.e) Hz.e) (Hz.n (zo450 P) (Hz.n (zo706 P) Hz.e Hz.e) Hz.e))) (Hz.n (zo98 P) (Hz.n (zo162 P) (Hz.n (zo290 P) (Hz.n (zo546 P) Hz.e Hz.e) Hz.e) (Hz.n (zo418 P) (Hz.n (zo674 P) Hz.e Hz.e) Hz.e)) (Hz.n (zo226 P) (Hz.n (zo354 P) (Hz.n (zo610 P) Hz.e Hz.e) Hz.e) (Hz.n (zo482 P) (Hz.n (zo738 P) Hz.e Hz.e) Hz.e)))
def zt1_50 (P : Params) : BT := Hz.n (zo50 P) (Hz.n (zo82 P) (Hz.n (zo146 P) (Hz.n (zo274 P) (Hz.n (zo530 P) Hz.e Hz.e) Hz.e) (Hz.n (zo402 P) (Hz.n (zo658 P) Hz.e Hz.e) Hz.e)) (Hz.n (zo210 P) (Hz.n (zo338 P) (Hz.n (zo594 P) Hz.e Hz.e) Hz.e) (Hz.n (zo466 P) (Hz.n (zo722 P) Hz.e Hz.e) Hz.e))) (Hz.n (zo114 P) (Hz.n (zo178 P) (Hz.n (zo306 P) (Hz.n (zo562 P) Hz.e Hz.e) Hz.e) (Hz.n (zo434 P) (Hz.n (zo690 P) Hz.e Hz.e) Hz.e)) (Hz.n (zo242 P) (Hz.n (zo370 P) (Hz.n (zo626 P) Hz.e Hz.e) Hz.e) (Hz.n (zo498 P) Hz.e Hz.e)))
def zt1_42 (P : Params) : BT := Hz.n (zo42 P) (Hz.n (zo74 P) (Hz.n (zo138 P) (Hz.n (zo266 P) (Hz.n (zo522 P) Hz.e Hz.e) Hz.e) (Hz.n (zo394 P) (Hz.n (zo650 P) Hz.e Hz.e) Hz.e)) (Hz.n (zo202 P) (Hz.n (zo330 P) (Hz.n (zo586 P) Hz.e Hz.e) Hz.e) (Hz.n (zo458 P) (Hz.n (zo714 P) Hz.e Hz.e) Hz.e))) (Hz.n (zo106 P) (Hz.n (zo170 P) (Hz.n (zo298 P) (Hz.n (zo554 P) Hz.e Hz.e) Hz.e) (Hz.n (zo426 P) (Hz.n (zo682 P) Hz.e Hz.e) Hz.e)) (Hz.n (zo234 P) (Hz.n (zo362 P) (Hz.n (zo618 P) Hz.e Hz.e) Hz.e) (Hz.n (zo490 P) (Hz.n (zo746 P) Hz.e Hz.e) Hz.e)))
def zt1_58 (P : Params) : BT := Hz.n (zo58 P) (Hz.n (zo90 P) (Hz.n (zo154 P) (Hz.n (zo282 P) (Hz.n (zo538 P) Hz.e Hz.e) Hz.e) (Hz.n (zo410 P) (Hz.n (zo666 P) Hz.e Hz.e) Hz.e)) (Hz.n (zo218 P) (Hz.n (zo346 P) (Hz.n (zo602 P) Hz.e Hz.e) Hz.e) (Hz.n (zo474 P) (Hz.n (zo730 P) Hz.e Hz.e) Hz.e))) (Hz.n (zo122 P) (Hz.n (zo186 P) (Hz.n (zo314 P) (Hz.n (zo570 P) Hz.e Hz.e) Hz.e) (Hz.n (zo442 P) (Hz.n (zo698 P) Hz.e Hz.e) Hz.e)) (Hz.n (zo250 P) (Hz.n (zo378 P) (Hz.n (zo634 P) Hz.e Hz.e) Hz.e) (Hz.n (zo506 P) Hz.e Hz.e)))
def zt1_38 (P : Params) : BT := Hz.n (zo38 P) (Hz.n (zo70 P) (Hz.n (zo134 P) (Hz.n (zo262 P) (Hz.n (zo518 P) Hz.e Hz.e) Hz.e) (Hz.n (zo390 P) (Hz.n (zo646 P) Hz.e Hz.e) Hz.e)) (Hz.n (zo198 P) (Hz.n (zo326 P) (Hz.n (zo582 P) Hz.e Hz.e) Hz.e) (Hz.n (zo454 P) (Hz.n (zo710 P) Hz.e Hz.e) Hz.e))) (Hz.n (zo102 P) (Hz.n (zo166 P) (Hz.n (zo294 P) (Hz.n (zo550 P) Hz.e Hz.e) Hz.e) (Hz.n (zo422 P) (Hz.n (zo678 P) Hz.e Hz.e) Hz.e)) (Hz.n (zo230 P) (Hz.n (zo358 P) (Hz.n (zo614 P) Hz.e Hz.e) Hz.e) (Hz.n (zo486 P) (Hz.n (zo742 P) Hz.e Hz.e) Hz.e)))
def zt1_54 (P : Params) : BT := Hz.n (zo54 P) (Hz.n (zo86 P) (Hz.n (zo150 P) (Hz.n (zo278 P) (Hz.n (zo534 P) Hz.e Hz.e) Hz.e) (Hz.n (zo406 P) (Hz.n (zo662 P) Hz.e Hz.e) Hz.e)) (Hz.n (zo214 P) (Hz.n (zo342 P) (Hz.n (zo598 P) Hz.e Hz.e) Hz.e) (Hz.n (zo470 P) (Hz.n (zo726 P) Hz.e Hz.e) Hz.e))) (Hz.n (zo118 P) (Hz.n (zo182 P) (Hz.n (zo310 P) (Hz.n (zo566 P) Hz.e Hz.e) Hz.e) (Hz.n (zo438 P) (Hz.n (zo694 P) Hz.e Hz.e) Hz.e)) (Hz.n (zo246 P) (Hz.n (zo374 P) (Hz.n (zo630 P) Hz.e Hz.e) Hz.e) (Hz.n (zo502 P) Hz.e Hz.e)))
def zt1_46 (P : Params) : BT := Hz.n (zo46 P) (Hz.n (zo78 P) (Hz.n (zo142 P) (Hz.n (zo270 P) (Hz.n (zo526 P) Hz.e Hz.e) Hz.e) (Hz.n (zo398 P) (Hz.n (zo654 P) Hz.e Hz.e) Hz.e)) (Hz.n (zo206 P) (Hz.n (zo334 P) (Hz.n (zo590 P) Hz.e Hz.e) Hz.e) (Hz.n (zo462 P) (Hz.n (zo718 P) Hz.e Hz.e) Hz.e))) (Hz.n (zo110 P) (Hz.n (zo174 P) (Hz.n (zo302 P) (Hz.n (zo558 P) Hz.e Hz.e) Hz.e) (Hz.n (zo430 P) (Hz.n (zo686 P) Hz.e Hz.e) Hz.e)) (Hz.n (zo238 P) (Hz.n (zo366 P) (Hz.n (zo622 P) Hz.e Hz.e) Hz.e) (Hz.n (zo494 P) Hz.e Hz.e)))
def zt1_62 (P : Params) : BT := Hz.n (zo62 P) (Hz.n (zo94 P) (Hz.n (zo158 P) (Hz.n (zo286 P) (Hz.n (zo542 P) Hz.e Hz.e) Hz.e) (Hz.n (zo414 P) (Hz.n (zo670 P) Hz.e Hz.e) Hz.e)) (Hz.n (zo222 P) (Hz.n (zo350 P) (Hz.n (zo606 P) Hz.e Hz.e) Hz.e) (Hz.n (zo478 P) (Hz.n (zo734 P) Hz.e Hz.e) Hz.e))) (Hz.n (zo126 P) (Hz.n (zo190 P) (Hz.n (zo318 P) (Hz.n (zo574 P) Hz.e Hz.e) Hz.e) (Hz.n (zo446 P) (Hz.n (zo702 P) Hz.e Hz.e) Hz.e)) (Hz.n (zo254 P) (Hz.n (zo382 P) (Hz.n (zo638 P) Hz.e Hz.e) Hz.e) (Hz.n (zo510 P) Hz.e Hz.e)))
def zt1 (P : Params) : BT := (Hz.n (zo0 P) (Hz.n (zo1 P) (Hz.n (zo3_1 P) (Hz.n (zo7 P) (Hz.n (zo15 P) (zt1_31 P) (zt1_47 P)) (Hz.n (zo23 P) (zt1_39 P) (zt1_55 P))) (Hz.n (zo11 P) (Hz.n (zo19 P) (zt1_35 P) (zt1_51 P)) (Hz.n (zo27 P) (zt1_43 P) (zt1_59 P)))) (Hz.n (zo5 P) (Hz.n (zo9 P) (Hz.n (zo17 P) (zt1_33 P) (zt1_49 P)) (Hz.n (zo25 P) (zt1_41 P) (zt1_57 P))) (Hz.n (zo13 P) (Hz.n (zo21 P) (zt1_37 P) (zt1_53 P)) (Hz.n (zo29 P) (zt1_45 P) (zt1_61 P))))) (Hz.n (zo2 P) (Hz.n (zo4 P) (Hz.n (zo8 P) (Hz.n (zo16 P) (zt1_32 P) (zt1_48 P)) (Hz.n (zo24 P) (zt1_40 P) (zt1_56 P))) (Hz.n (zo12 P) (Hz.n (zo20 P) (zt1_36 P) (zt1_52 P)) (Hz.n (zo28 P) (zt1_44 P) (zt1_60 P)))) (Hz.n (zo6 P) (Hz.n (zo10 P) (Hz.n (zo18 P) (zt1_34 P) (zt1_50 P)) (Hz.n (zo26 P) (zt1_42 P) (zt1_58 P))) (Hz.n (zo14 P) (Hz.n (zo22 P) (zt1_38 P) (zt1_54 P)) (Hz.n (zo30 P) (zt1_46 P) (zt1_62 P))))))
def zs1 (w : World) : SharedT := ⟨zt1 w.params, 750, {}, #[], ⟨0, 0, 0, 0⟩, 1326, (start (opening zR.prog)).1.os⟩
def zbody : List Stmt := behindTheImports zR.prog
def zenv : Env := { scope := zR.prog.main.scope, locals := mainNs, globals := mainNs, cells := [], code := (.ref 41), frame := some 42 }
def zc : Code := .body zbody zenv
def zq : Pos := ⟨0, 0, 0, 0⟩
abbrev zann : Option Value := (some (.ref 6))
def zl0 : List Stmt := (zbody.drop 0).take 39
theorem zsplit : zbody = zl0 ++ ([]) := by
  kernel_rfl
set_option maxRecDepth 100000 in
set_option maxHeartbeats 0 in
theorem zO (w : World) : Hz.openF (Hz.stQ (opening zR.prog) w) 2000 zR.prog = some (zs0 w) := by
  kernel_rfl
set_option maxRecDepth 100000 in
set_option maxHeartbeats 0 in
theorem zA (w : World) : (zs0 w).abs.heap.nsMap mainGlobals "__annotations__" = zann := by
  kernel_rfl
set_option maxRecDepth 100000 in
set_option maxHeartbeats 0 in
theorem zP (w : World) : Hz.toF (Hz.stQ zR.prog w) (Hz.okQ 39 zann) 12 (zs0 w) (topStub zR.prog) = some (zsP w, ⟨HandSHeadRun.denQ HandSHeadRun.tabQ (.body zbody zenv), zc, ⟨0, 0, 0, 0⟩, [topFrame zq]⟩) := by
  kernel_rfl
set_option maxRecDepth 100000 in
set_option maxHeartbeats 0 in
theorem zB (w : World) : Hz.segF (Hz.stQ zR.prog w) (Hz.okQ 39 zann) 1 1 (zsP w) (blockOf zbody zenv zc ⟨0, 0, 0, 0⟩ [topFrame zq]) = some (.next, zsP w, zc, ⟨0, 0, 0, 0⟩) := by
  kernel_rfl
set_option maxRecDepth 100000 in
set_option maxHeartbeats 0 in
theorem zU0 (w : World) : Hz.segF (Hz.stQ zR.prog w) (Hz.okQ 39 zann) 1 6046 (zsP w) (Hz.piecesQ zl0 zenv zc ⟨0, 0, 0, 0⟩ [topFrame zq]) = some (.next, zs1 w, zc, ⟨415, 0, 440, 84⟩) := by
  kernel_rfl
set_option maxRecDepth 100000 in
set_option maxHeartbeats 0 in
theorem zX (w : World) : Hz.endF (Hz.stQ zR.prog w) (Hz.okQ 39 zann) 2 (zs1 w) ⟨doneF .next, zc, ⟨415, 0, 440, 84⟩, [topFrame zq]⟩ = some (zs1 w) := by
  kernel_rfl
theorem zT (w : World) : topRun treeTable zR.prog w 39 zann (12 + (1 + (6046 + 2))) (zs0 w).abs (topStub zR.prog) = some (zs1 w).abs := by
  refine Hz.top_begin (zP w) (zB w) ?_
  show topRun treeTable zR.prog w 39 zann _ (zsP w).abs (restOf zbody zenv zc ⟨0, 0, 0, 0⟩ [topFrame zq]) = _
  rw [zsplit]
  exact Hz.top_more (zU0 w) (Hz.top_end (zX w))
set_option maxRecDepth 100000 in
set_option maxHeartbeats 0 in
theorem zL (w : World) : Hz.looksA zR.prog (zs0 w).abs (zs1 w).abs = true := by
  kernel_rfl
set_option maxRecDepth 100000 in
set_option maxHeartbeats 0 in
theorem zS (w : World) : HandSHeadRun.seenQ zq0 znames (importedModules zR.prog.main.body) (fun s => xlAt zq0 [] s && recOk zR.toRowW.records s) (zs1 w).abs = openGood zq0 znames := by
  kernel_rfl
set_option maxRecDepth 100000 in
set_option maxHeartbeats 0 in
theorem zF0 (w : World) : Hz.ob zxs 4 zfs0 zds0 ztf0 (zs1 w) = Hz.due zds0 := by
  kernel_rfl
set_option maxRecDepth 100000 in
set_option maxHeartbeats 0 in
theorem zF1 (w : World) : Hz.ob zxs 4 zfs1 zds1 [] (zs1 w) = Hz.due zds1 := by
  kernel_rfl
set_option maxRecDepth 100000 in
set_option maxHeartbeats 0 in
theorem zF2 (w : World) : Hz.ob zxs 4 zfs2 zds2 [] (zs1 w) = Hz.due zds2 := by
  kernel_rfl
set_option maxRecDepth 100000 in
set_option maxHeartbeats 0 in
theorem zF3 (w : World) : Hz.ob zxs 4 zfs3 zds3 [] (zs1 w) = Hz.due zds3 := by
  kernel_rfl
theorem zV (w : World) : zob (zs1 w) = zhk.val w := Hz.ob_app (zF0 w) (Hz.ob_app (zF1 w) (Hz.ob_app (zF2 w) (zF3 w)))
end Toy
set_option maxRecDepth 100000
set_option maxHeartbeats 4000000
/-! Rules of our own: static methods, comparisons by the text's own operators. -/
namespace Own
open PySem PySem.Spec PyProof.Rows L2
open AutoSeq1 (wpAny_loadPart')

section
variable {X : Cx} {pins : List (Addr × Obj)} {σ : L2.St} {H : Hp} {s : Shared} {C p f : Addr} {mc : Value} {m : Str} {A : Around} {E : Value → Shared → Prop}
/-- C.m is a static method: its record at p, its def at f -/
structure SMet (K : PySem.W.Frag) (C : Addr) (mc : Value) (m : Str) (p f : Addr) : Prop where
  at_ : PySem.W.findCls K (.ref C) mc m = some (.get (.builtin "staticmethod.__get__") (.ref p) .none (.ref C))
  rc : ∃ rest, PySem.W.recIn K p "staticmethod" = some (.ref f :: rest)
  kp : PySem.W.keepIn K (.ref f) = true
theorem getsm_ok {b : Bool} {Q : Value → Shared → Prop} (I : Inv X pins σ H s) (r : ClX.CRead X.K C mc) (k : SMet X.K C mc m p f) (h : ∀ s', Inv X pins σ H s' → Q (.ref f) s') : wpAny (model X.prog X.w) A (getAttr (.ref C) m b) Q E s := by
  obtain ⟨rest, hp⟩ := k.rc
  refine PySem.W.cls_bind I.kIn r.rd k.at_ ?_
  refine wpAny_call (PySem.W.sm_get (s := { s with toks := s.toks + 1 }) I.kIn hp (PySem.W.handed_on rfl ?_))
  exact h _ (I.tok _)
def tSMeth (C : Addr) (sp : Sp) (E : XK) (ta : TE) (t : TA) : TE := fun σ H Q => ta σ H fun x H1 => x = .ref C ∧ t σ H1 fun vs H2 => sp (vs ++ []) H2 Q E
end
section
variable {X : Cx} {CX : CXT} {k : Nat} {C p f : Addr} {mc : Value} {sp : Sp} {E : XK} {o e : Expr} {es : List Expr} {m : Str} {pos apos : Pos} {ta : TE} {t : TA} {pl : Sem Bool} {fd : FuncData} {ps : List Str}
theorem pe_smeth (r : ClX.CRead X.K C mc) (c : SMet X.K C mc m p f) (F : FnOk X.prog X.w X.K X.mg X.base CX k f fd ps sp) (hr : Room k X.A) (hb : Binds X.K fd ps []) (hx : Passes CX X E) (he : PE X o ta) (ha : PA X (e :: es) t)
    (hst : starEach (e :: es) X.env = (false, eval e X.env) :: starEach es X.env := by rfl) (hpl : (backTo pos (starEach es X.env)).any (·.1) = false := by rfl)
    (ht : eval (.Call (.Attribute o m apos) (e :: es) [] pos) X.env = (do
      let ov ← eval o X.env
      standAt apos.atName
      let (f, first) ← holding [ov] (getMethod ov m pl)
      callWith pos f first (backTo pos (starEach (e :: es) X.env)) (backToKw pos (keywordEach [] X.env))) := by rfl) :
    PE X (.Call (.Attribute o m apos) (e :: es) [] pos) (tSMeth C sp E ta t) := by
  refine ⟨fun pins s σ H Q I h => ?_⟩
  refine PySem.W.methodCall_KW (pl := pl) (thn (he.run pins s σ H _ I h) fun u s1 ⟨x, H1, I1, rx, ex, q⟩ => ?_) ht
  subst ex
  obtain rfl : u = Value.ref C := rx
  refine PySem.W.method_cls I1.kIn r.ga (getsm_ok I1 r c fun s2 I2 => ?_)
  refine PySem.W.callWith_K (first := []) (h₀ := X.base) I.ok.mod.kin c.kp (thn (ha.run pos pins s2 σ H1 _ I2 q) fun us s3 ⟨vs, H2, I3, rv, q2⟩ => ⟨I3.kIn, ?_⟩) hst hpl
  exact run_fn F hr hb .nil hx I3 rv q2
end

theorem pe_gref {X : Cx} {x : Str} {a : Addr} {pos : Pos} (hg : Gl X x) (hm : X.mg x = some (.ref a)) (hd : (x == ("__debug__" : Str)) = false := by decide) : PE X (.Name x pos) (tC (.ref a)) := pe_glob hg hm rfl hd
/-! ### calls with keywords alone -/
def tMethK0 (C : Addr) (m : Str) (n : Nat) (sp : Sp) (gV : List V → List V → List V) (E : XK) (ta : TE) (tk : TA) : TE := fun σ H Q => ta σ H fun x H1 => ∃ a dx fs, x = .ref a ∧ H1 a = some (.ins C dx fs) ∧ fs.lookup m = none ∧
  tk σ H1 fun zs H2 => zs.length = n ∧ sp (gV [x] zs) H2 Q E
section
variable {X : Cx} {CX : CXT} {k : Nat} {C p f : Addr} {sp : Sp} {E : XK} {o : Expr} {m : Str} {pos apos : Pos} {ta : TE} {tk : TA} {pl : Sem Bool} {fd : FuncData} {ps ks : List Str} {kws : List Keyword}
  {g : List Value → List Value → List Value} {gV : List V → List V → List V}
theorem pe_methK0 (he : PE X o ta) (c : Cls X.K C) (hm : Meth X.K C m f) (F : FnOk X.prog X.w X.K X.mg X.base CX k f fd ps sp) (hr : Room k X.A) (hb : KBn X.K fd ps 1 ks g gV) (hx : Passes CX X E) (hkw : PK X kws tk)
    (hall : (backToKw pos (keywordEach kws X.env)).all (·.1.isSome) = true := by rfl) (hks : (backToKw pos (keywordEach kws X.env)).filterMap (·.1) = ks := by rfl)
    (hpl : ((backTo pos (starEach [] X.env)).any (·.1) || (backToKw pos (keywordEach kws X.env)).any (·.1.isNone)) = false := by rfl)
    (ht : eval (.Call (.Attribute o m apos) [] kws pos) X.env = (do
      let ov ← eval o X.env
      standAt apos.atName
      let (f, first) ← holding [ov] (getMethod ov m pl)
      callWith pos f first (backTo pos (starEach [] X.env)) (backToKw pos (keywordEach kws X.env))) := by rfl) :
    PE X (.Call (.Attribute o m apos) [] kws pos) (tMethK0 C m ks.length sp gV E ta tk) := by
  refine ⟨fun pins s σ H Q I h => ?_⟩
  refine PySem.W.methodCall_KW (pl := pl) (thn (he.run pins s σ H _ I h) fun u s1 ⟨x, H1, I1, rx, a, dx, fs, ex, ea, l, q⟩ => ?_) ht
  subst ex
  obtain rfl : u = Value.ref a := rx
  refine getmeth_ok I1 ea c hm l ?_
  refine PySem.W.callWith_KW0 (first := [.ref a]) (h₀ := X.base) I.ok.mod.kin hm.kp hall (thn (hkw.run pos pins s1 σ H1 _ I1 q) fun ws s2 ⟨zs, H2, I2, rz, hl, q2⟩ => ⟨I2.kIn, ?_⟩) hpl
  rw [hks]
  exact run_fnN (us := [.ref a]) (vs := [.ref a]) F hr hb hx I2 (.cons rfl .nil) rz rfl hl q2
end
/-! ### comparisons by own operators -/
section
variable {X : Cx} {CX : CXT} {k : Nat} {C f : Addr} {fd : FuncData} {ps : List Str} {sp : Sp} {E : XK} {op : CmpOp}
/-- the left one is an instance with the operator -/
def rOwnC (K : PySem.W.Frag) (C : Addr) (sp : Sp) (E : XK) : R2 := fun x y H Q => ∃ a dx fs t, x = .ref a ∧ H a = some (.ins C dx fs) ∧ TyX K H y t ∧ PySem.W.notFirst K C t = true ∧ sp [x, y] H (fun v H' => (∃ b, v = .bl b) ∧ Q v H') E
theorem op_ownC (F : FnOk X.prog X.w X.K X.mg X.base CX k f fd ps sp) (hr : Room k X.A) (hs : PySem.W.findIn X.K (.ref C) (cmpInfo op).2.1 = some (some (.ref f))) (hf : PySem.W.isFn X.K (.ref f) = true) (hb : Binds X.K fd ps []) (hx : Passes CX X E)
    (hop : ∀ a b, compareOp op a b = richCompare op a b := by intros; rfl) : OpR X (compareOp op) (rOwnC X.K C sp E) := by
  intro pins s σ H x y u v Q I rx ry h
  obtain ⟨a, dx, fs, t, rfl, ha, ty, nf, hsp⟩ := h
  cases rx
  obtain ⟨mA, J, _⟩ := ins_get I.hok ha
  obtain ⟨od, J, _⟩ := J.look
  obtain ⟨m, hF⟩ := I.fr
  obtain ⟨Pk, Z, pk, _⟩ := kit_of I ry ty
  rw [hop]
  refine PySem.W.cmp_K (op := op) (tb := t) hr.units0 hF I.ok.mod.kin J (Z.ty _ _ I.kIn pk) nf hs hf ?_
  have r2 : Vals [V.ref a, y] [Value.ref a, v] := .cons rfl (.cons ry .nil)
  refine wpAny_mono (run_fn F hr hb .nil hx I r2 hsp) (fun w s' q => ?_) fun _ _ e => e
  obtain ⟨v', H', I', rv, ⟨b, rfl⟩, q⟩ := q
  cases rv
  exact ⟨.bl b, H', I', rfl, q⟩

/-- an int on the left, an instance with the reflected operator on the right -/
def rReflC (C : Addr) (sp : Sp) (E : XK) : R2 := fun x y H Q => ∃ i a dx fs, x = .int i ∧ y = .ref a ∧ H a = some (.ins C dx fs) ∧ sp [y, x] H (fun v H' => (∃ b, v = .bl b) ∧ Q v H') E
theorem op_reflC {id : String} {B : Builtin} (F : FnOk X.prog X.w X.K X.mg X.base CX k f fd ps sp) (hr : Room k X.A) (hs : PySem.W.findIn X.K (.ref C) (cmpInfo op).2.2 = some (some (.ref f))) (hf : PySem.W.isFn X.K (.ref f) = true)
    (hsub : PySem.W.subIn X.K (.ref C) (.type "int") = some false) (hb : Binds X.K fd ps []) (hx : Passes CX X E)
    (slot : Slot "int" (cmpInfo op).2.1 id) (entry : entryFor table id = some B) (args : ∀ a b, argsOk id ⟨[a, b], []⟩)
    (dec : ∀ (b : Int) (u : Tok) (l : Addr) (C dx : Addr), Meets (B ⟨[.int b u, .ref l], []⟩) (fun _ R s => s.heap.get? l = some (PySem.W.instObj C dx) ∧ R (.ok (.ret .notImplemented)) s))
    (hne : op ≠ .Eq ∧ op ≠ .NotEq) (hop : ∀ a b, compareOp op a b = richCompare op a b := by intros; rfl) : OpR X (compareOp op) (rReflC C sp E) := by
  intro pins s σ H x y u v Q I rx ry h
  obtain ⟨i, a, dx, fs, rfl, rfl, ha, hsp⟩ := h
  obtain ⟨t, rfl⟩ := rx
  cases ry
  obtain ⟨mA, O, _⟩ := ins_get I.hok ha
  obtain ⟨od, J, _⟩ := O.look
  have ho : s.heap.get? a = some (PySem.W.instObj C dx) := by
    obtain ⟨_, _, _, e, _⟩ := I.hok a _ ha
    exact e
  have KX := I.kIn
  rw [hop]
  have one : wpAny (model X.prog X.w) X.A (tryCompare (.ref a) (cmpInfo op).2.2 (.int i t)) (fun r s' => ∃ v, r = some v ∧ EP X pins σ Q v s') X.xe s := by
    unfold tryCompare
    have r2 : Vals [V.ref a, V.int i] [Value.ref a, Value.int i t] := .cons rfl (.cons ⟨t, rfl⟩ .nil)
    refine wpAny_bind (PySem.W.ifBound_K KX J hs hf (wpAny_mono (run_fn F hr hb .nil hx I r2 hsp) (fun v s' hv => ?_) fun _ _ e => e))
    obtain ⟨v', H', I', rv, ⟨b, rfl⟩, q⟩ := hv
    cases rv
    exact wpAny_pure ⟨_, rfl, .bl b, H', I', rfl, q⟩
  have hT := typeIs_int s i t
  unfold richCompare
  simp only [hT.oneThing_none]
  refine wpAny_holding (wpAny_bind (wpAny_cRoomFor hr.units0 ?_))
  refine wpAny_bind (wpAny_typeOf hT (wpAny_bind (J.type.here ?_)))
  have hne1 : (Value.type "int" != Value.ref C) = true := rfl
  simp only [hne1, if_true]
  refine wpAny_bind ((PySem.W.looks_subIn KX hsub).here ?_)
  simp only [Bool.false_eq_true, if_false, Bool.not_false, if_true]
  refine wpAny_bind (m := tryCompare (.int i t) _ (.ref a)) (wpAny_tryCompare_declines hT slot (call_meets slot hT entry (args _ _) (dec i t a C dx) ⟨ho, rfl, ?_⟩))
  refine wpAny_bind (wpAny_mono one (fun r s' z => ?_) fun _ _ e => e)
  obtain ⟨v, rfl, hq⟩ := z
  exact wpAny_pure hq
end
theorem int_le_dec (b : Int) (u : Tok) (l : Addr) (C dx : Addr) :
    Meets (Builtin.«int.__le__» ⟨[.int b u, .ref l], []⟩) (fun _ R s => s.heap.get? l = some (PySem.W.instObj C dx) ∧ R (.ok (.ret .notImplemented)) s) :=
  .of_wp fun prog w A R s h => by obtain ⟨hp, g, d, tk, os⟩ := s; obtain ⟨hl, h⟩ := h; wp_walk using wpAny_loadPart' hl, wpAny_load hl; exact ⟨_, rfl, h⟩
theorem int_lt_dec (b : Int) (u : Tok) (l : Addr) (C dx : Addr) :
    Meets (Builtin.«int.__lt__» ⟨[.int b u, .ref l], []⟩) (fun _ R s => s.heap.get? l = some (PySem.W.instObj C dx) ∧ R (.ok (.ret .notImplemented)) s) :=
  .of_wp fun prog w A R s h => by obtain ⟨hp, g, d, tk, os⟩ := s; obtain ⟨hl, h⟩ := h; wp_walk using wpAny_loadPart' hl, wpAny_load hl; exact ⟨_, rfl, h⟩
end Own
set_option maxRecDepth 100000
set_option maxHeartbeats 4000000
/-! Rules of our own: arithmetic by the text's own operators, != by its own ==, abs and minus. -/
namespace Own
open PySem PySem.Spec PyProof.Rows L2
open AutoSeq1 (wpAny_loadPart')
theorem relV_back {v : V} {u : Value} {s' : Shared} {Q : Value → Shared → Prop} (r : RelV v u) (q : Q u s') : PySem.W.CmpBack Q u s' := by
  cases v <;> first | (obtain ⟨t, rfl⟩ := r; exact q) | (obtain rfl := r; exact q)
section
variable {X : Cx} {CX : CXT} {k : Nat} {C f : Addr} {fd : FuncData} {ps : List Str} {sp : Sp} {E : XK} {op : Operator}
/-- an own method in the place of an operator: an instance at the left, the same class or an int at the right -/
def rOwnB (C : Addr) (sp : Sp) (E : XK) : R2 := fun x y H Q => ∃ a dx fs, x = .ref a ∧ H a = some (.ins C dx fs) ∧ ((∃ j, y = .int j) ∨ ∃ b dy gs, y = .ref b ∧ H b = some (.ins C dy gs)) ∧ sp [x, y] H Q E
theorem op_ownB {fo ro rc : Option Value} (F : FnOk X.prog X.w X.K X.mg X.base CX k f fd ps sp) (hr : Room k X.A) (hs : PySem.W.findIn X.K (.ref C) (PySem.dunder op.info.2) = some (some (.ref f))) (hf : PySem.W.isFn X.K (.ref f) = true)
    (hc : PySem.W.selfFirst X.K C = true) (hR : PySem.W.findIn X.K (.ref C) (dunderR op.info.2) = some rc) (hp : rc = none ∨ ∃ g : Addr, rc = some (.ref g)) (h1 : PySem.W.findIn X.K (.type "int") (PySem.dunder op.info.2) = some fo)
    (h2 : PySem.W.findIn X.K (.type "int") (dunderR op.info.2) = some ro) (hsub : PySem.W.subIn X.K (.type "int") (.ref C) = some false) (hb : Binds X.K fd ps []) (hx : Passes CX X E) : OpR X (binaryOp op) (rOwnB C sp E) := by
  intro pins s σ H x y u v Q I rx ry h
  obtain ⟨a, dx, fs, rfl, ha, hy, hsp⟩ := h
  cases rx
  obtain ⟨mA, J, _⟩ := ins_get I.hok ha
  obtain ⟨od, J, _⟩ := J.look
  obtain ⟨m, hF⟩ := I.fr
  have r2 : Vals [V.ref a, y] [Value.ref a, v] := .cons rfl (.cons ry .nil)
  have fin : wpAny (model X.prog X.w) X.A (call (.ref f) [.ref a, v]) (PySem.W.CmpBack (EP X pins σ Q)) X.xe s := wpAny_mono (run_fn F hr hb .nil hx I r2 hsp) (fun w s' q => by
    obtain ⟨v', H', I', rv, q⟩ := q
    exact relV_back rv ⟨v', H', I', rv, q⟩) fun _ _ e => e
  rcases hy with ⟨j, rfl⟩ | ⟨b, dy, gs, rfl, hb'⟩
  · obtain ⟨t, rfl⟩ := ry
    exact PySem.W.ksp_binT (T := "int") hF I.ok.mod.kin J rfl hc hs hf hR hp h1 h2 hsub fin
  · cases ry
    obtain ⟨mB, J', _⟩ := ins_get I.hok hb'
    obtain ⟨od', J', _⟩ := J'.look
    exact PySem.W.binop_K hF I.ok.mod.kin J J'.type hc hs hf fin

/-- an int at the left, an instance with the reflected operator at the right -/
def rReflB (C : Addr) (sp : Sp) (E : XK) : R2 := fun x y H Q => ∃ i a dx fs, x = .int i ∧ y = .ref a ∧ H a = some (.ins C dx fs) ∧ sp [y, x] H Q E
theorem op_reflB {f0 : Addr} {id : String} {B : Builtin} (F : FnOk X.prog X.w X.K X.mg X.base CX k f fd ps sp) (hr : Room k X.A) (hs : PySem.W.findIn X.K (.ref C) (dunderR op.info.2) = some (some (.ref f))) (hf : PySem.W.isFn X.K (.ref f) = true)
    (hs0 : PySem.W.findIn X.K (.ref C) (PySem.dunder op.info.2) = some (some (.ref f0))) (hc : PySem.W.selfFirst X.K C = true) (hsub : PySem.W.subIn X.K (.ref C) (.type "int") = some false) (hb : Binds X.K fd ps []) (hx : Passes CX X E)
    (fills : fillsNumberSlot (.type "int") op.info.2 = pure true) (slot : Slot "int" (PySem.dunder op.info.2) id) (entry : entryFor table id = some B) (args : ∀ a b, argsOk id ⟨[a, b], []⟩)
    (dec : ∀ (b : Int) (u : Tok) (l : Addr) (C dx : Addr), Meets (B ⟨[.int b u, .ref l], []⟩) (fun _ R s => s.heap.get? l = some (PySem.W.instObj C dx) ∧ R (.ok (.ret .notImplemented)) s)) : OpR X (binaryOp op) (rReflB C sp E) := by
  intro pins s σ H x y u v Q I rx ry h
  obtain ⟨i, a, dx, fs, rfl, rfl, ha, hsp⟩ := h
  obtain ⟨t, rfl⟩ := rx
  cases ry
  obtain ⟨mA, O, _⟩ := ins_get I.hok ha
  obtain ⟨od, J, _⟩ := O.look
  have ho : s.heap.get? a = some (PySem.W.instObj C dx) := by
    obtain ⟨_, _, _, e, _⟩ := I.hok a _ ha
    exact e
  have KX := I.kIn
  obtain ⟨cd, rest, hcd, hm⟩ := PySem.W.ksp_first hc
  rcases hi : op.info with ⟨sym, nm⟩
  rw [hi] at hs hs0 fills slot
  dsimp only at hs hs0 fills slot
  have one : wpAny (model X.prog X.w) X.A (tryMethod (.ref a) (dunderR nm) (.int i t)) (fun r s' => ∃ v, r = some v ∧ EP X pins σ Q v s') X.xe s := by
    have r2 : Vals [V.ref a, V.int i] [Value.ref a, Value.int i t] := .cons rfl (.cons ⟨t, rfl⟩ .nil)
    refine PySem.W.ksp_try KX J hs hf (wpAny_mono (run_fn F hr hb .nil hx I r2 hsp) (fun v s' hv => ?_) fun _ _ e => e)
    obtain ⟨v', H', I', rv, q⟩ := hv
    exact relV_back rv ⟨v', H', I', rv, q⟩
  have hT := typeIs_int s i t
  have L3 : PySem.W.Looks (model X.prog X.w) s.heap (fillsNumberSlot (.ref C) nm) true := PySem.W.fills_K KX hcd hm hs0
  have hne : (Value.type "int" == Value.ref C) = false := Bool.eq_false_iff.mpr fun q => by cases beq_iff_eq.mp q
  have hpy : numberSlotInPython (.type "int") nm = pure false := rfl
  simp only [binaryOp, hi]
  refine wpAny_holding (wpAny_bind ?_)
  unfold binaryOp1
  refine wpAny_bind (wpAny_typeOf hT (wpAny_bind (J.type.here (wpAny_bind (wpAny_of_eq fills ?_)))))
  simp only [hne, Bool.false_eq_true, if_false]
  refine wpAny_bind (L3.here ?_)
  simp only [Bool.and_self, if_true]
  refine wpAny_bind ((PySem.W.looks_subIn KX hsub).here ?_)
  simp only [Bool.false_eq_true, if_false, pure_bind, Bool.not_false, Bool.and_self, if_true, hpy]
  refine wpAny_bind (wpAny_tryMethod_declines hT slot (call_meets slot hT entry (args _ _) (dec i t a C dx) ⟨ho, rfl, ?_⟩))
  dsimp only
  refine wpAny_bind (wpAny_mono one (fun r s' z => ?_) fun _ _ e => e)
  obtain ⟨v, rfl, hq⟩ := z
  exact wpAny_bind (wpAny_rule (wpAny_pure (wpAny_pure hq)))

/-- minus an instance -/
def rNeg (C : Addr) (sp : Sp) (E : XK) : V → Hp → VK → Prop := fun x H Q => ∃ a dx fs, x = .ref a ∧ H a = some (.ins C dx fs) ∧ sp [x] H Q E
theorem un_ownNeg (F : FnOk X.prog X.w X.K X.mg X.base CX k f fd ps sp) (hr : Room k X.A) (hs : PySem.W.findIn X.K (.ref C) "__neg__" = some (some (.ref f))) (hf : PySem.W.isFn X.K (.ref f) = true) (hb : Binds X.K fd ps []) (hx : Passes CX X E) :
    UnR X (unaryOp .USub) (rNeg C sp E) := by
  intro pins s σ H x v Q I rx h
  obtain ⟨a, dx, fs, rfl, ha, hsp⟩ := h
  cases rx
  obtain ⟨mA, J, _⟩ := ins_get I.hok ha
  obtain ⟨od, J, _⟩ := J.look
  obtain ⟨m, hF⟩ := I.fr
  exact PySem.W.ksp_neg hF I.ok.mod.kin J hs hf (run_fn F hr hb .nil hx I (vs := [.ref a]) (.cons rfl .nil) hsp)

/-- at any place below the body -/
theorem run_fnA {pins : List (Addr × Obj)} {σ : L2.St} {H : Hp} {s : Shared} {Q : VK} {us : List Value} {vs : List V} {A : Around} (F : FnOk X.prog X.w X.K X.mg X.base CX k f fd ps sp) (hr : Room k A) (hA : A.frames = X.A.frames) (hb : Binds X.K fd ps []) (hx : Passes CX X E)
    (I : Inv X pins σ H s) (r : Vals vs us) (h : sp vs H Q E) : wpAny (model X.prog X.w) A (call (.ref f) us) (EP X pins σ Q) X.xe s := by
  have hl : us.length = ps.length := by rw [← r.length]; exact F.len _ _ _ _ h
  have e0 : Env0 X.prog X.w X.K X.mg X.base A X.stack s H := by
    have e := I.env0
    exact ⟨by rw [hA]; exact e.frames, e.mod, e.bs, e.bsz, e.funs, e.frf, e.hok, e.bare⟩
  refine wpAny_call (codeAny_mono (F.run A X.stack s H ⟨us, []⟩ us vs Q E hr e0 (by
    have := hb s us I.kIn (by rw [List.append_nil]; exact hl)
    rwa [List.append_nil] at this) r h) fun r s' hq => ?_)
  cases r with
  | error e => exact hx pins σ H s e s' I hq
  | ok fl =>
    cases fl with
    | ret u => exact I.after hq
    | next => exact False.elim hq
    | brk => exact False.elim hq
    | cont => exact False.elim hq

/-! ### == and != by an own == -/
/-- an own ==: gives a bool -/
def rEqL (C : Addr) (sp : Sp) (E : XK) (g : Bool → Bool) : R2 := fun x y H Q => ∃ a dx fs, x = .ref a ∧ H a = some (.ins C dx fs) ∧ ((∃ j, y = .int j) ∨ ∃ b dy gs, y = .ref b ∧ H b = some (.ins C dy gs)) ∧ sp [x, y] H (fun v H' => ∃ b, v = .bl b ∧ Q (.bl (g b)) H') E
def rEqR (C : Addr) (sp : Sp) (E : XK) (g : Bool → Bool) : R2 := fun x y H Q => ∃ i a dx fs, x = .int i ∧ y = .ref a ∧ H a = some (.ins C dx fs) ∧ sp [y, x] H (fun v H' => ∃ b, v = .bl b ∧ Q (.bl (g b)) H') E
theorem op_eqL (F : FnOk X.prog X.w X.K X.mg X.base CX k f fd ps sp) (hr : Room k X.A) (hs : PySem.W.findIn X.K (.ref C) "__eq__" = some (some (.ref f))) (hf : PySem.W.isFn X.K (.ref f) = true) (hn : PySem.W.notFirst X.K C (.type "int") = true) (hb : Binds X.K fd ps []) (hx : Passes CX X E) :
    OpR X (compareOp .Eq) (rEqL C sp E fun b => b) := by
  intro pins s σ H x y u v Q I rx ry h
  obtain ⟨a, dx, fs, rfl, ha, hy, hsp⟩ := h
  cases rx
  obtain ⟨mA, J, _⟩ := ins_get I.hok ha
  obtain ⟨od, J, _⟩ := J.look
  obtain ⟨m, hF⟩ := I.fr
  have r2 : Vals [V.ref a, y] [Value.ref a, v] := .cons rfl (.cons ry .nil)
  have fin : wpAny (model X.prog X.w) X.A (call (.ref f) [.ref a, v]) (PySem.W.CmpBack (EP X pins σ Q)) X.xe s := wpAny_mono (run_fn F hr hb .nil hx I r2 hsp) (fun w s' q => by
    obtain ⟨v', H', I', rv, b, rfl, q⟩ := q
    cases rv
    exact ⟨.bl b, H', I', rfl, q⟩) fun _ _ e => e
  show wpAny (model X.prog X.w) X.A (richCompare .Eq (.ref a) v) (EP X pins σ Q) X.xe s
  rcases hy with ⟨j, rfl⟩ | ⟨b, dy, gs, rfl, hb'⟩
  · obtain ⟨t, rfl⟩ := ry
    exact PySem.W.cmp_K (op := .Eq) (tb := .type "int") hr.units0 hF I.ok.mod.kin J (PySem.W.Looks.of_pure rfl) hn hs hf fin
  · cases ry
    obtain ⟨mB, J', _⟩ := ins_get I.hok hb'
    obtain ⟨od', J', _⟩ := J'.look
    exact PySem.W.cmp_K (op := .Eq) (tb := .ref C) hr.units0 hF I.ok.mod.kin J J'.type (by simp [PySem.W.notFirst]) hs hf fin
theorem bind_ne (self : Value) : bindSpecial (.builtin "object.__ne__") self = pure (.builtin "object.__ne__", [self]) :=
  (Slot.of (T := "object") (name := "__ne__") (owner := "object") (n := "__ne__") (by rw [typeLookup_type, builtinLookup_eq_fast]; kernel_rfl) (by decide +kernel) (by decide +kernel) (by decide +kernel)
    (.inl (by decide +kernel)) (by rw [isSubtype_type]; kernel_rfl)).bind self
theorem plain_ne : plainId "object.__ne__" = true := by decide +kernel
/-- x.__ne__(y) of an instance without its own one -/
theorem try_ne {pins : List (Addr × Obj)} {σ : L2.St} {H : Hp} {s : Shared} {a dx : Addr} {fs : List (Str × V)} {y : V} {v : Value} {Q : VK} (F : FnOk X.prog X.w X.K X.mg X.base CX k f fd ps sp) (hr : Room (k + 1) X.A) (hs : PySem.W.findIn X.K (.ref C) "__eq__" = some (some (.ref f)))
    (hn : PySem.W.findIn X.K (.ref C) "__ne__" = some (some (.builtin "object.__ne__"))) (hO : PySem.W.subIn X.K (.ref C) (.type "object") = some true) (hf : PySem.W.isFn X.K (.ref f) = true) (hb : Binds X.K fd ps []) (hx : Passes CX X E) (I : Inv X pins σ H s)
    (ha : H a = some (.ins C dx fs)) (ry : RelV y v) (hsp : sp [.ref a, y] H (fun v H' => ∃ b, v = .bl b ∧ Q (.bl (!b)) H') E) :
    wpAny (model X.prog X.w) X.A (tryCompare (.ref a) "__ne__" v) (fun r s' => ∃ w, r = some w ∧ EP X pins σ Q w s') X.xe s := by
  obtain ⟨mA, J, _⟩ := ins_get I.hok ha
  obtain ⟨od, J, _⟩ := J.look
  have KX := I.kIn
  have r2 : Vals [V.ref a, y] [Value.ref a, v] := .cons rfl (.cons ry .nil)
  have inner : wpAny (model X.prog X.w) X.A.in1 (Builtin.«object.__ne__» ⟨[.ref a, v], []⟩) (fun fin s' => ∃ b, fin = .done (.ret (.bool b)) ∧ EP X pins σ Q (.bool b) s') X.xe s := by
    unfold Builtin.«object.__ne__»
    repeat (first | with_reducible refine wpAny_cRoomFor hr.in1.units0 ?_ | ((fail_if_success (with_reducible show wpAny _ _ (callSpecialIfBound? _ _ _) _ _ _)); wp_step))
    refine (PySem.W.ifBound_K KX J hs hf (wpAny_mono (run_fnA F hr.in1 rfl hb hx I r2 hsp) (fun w s' q => ?_) fun _ _ e => e))
    obtain ⟨v', H', I', rv, b, rfl, q⟩ := q
    cases rv
    exact wpAny_bind (wpAny_truthy_bool (wpAny_pure ⟨_, rfl, .bl (!b), H', I', rfl, q⟩))
  unfold tryCompare
  simp only [callSpecialIfBound?, bindSpecialIfBound?]
  refine wpAny_bind (wpAny_holding (wpAny_bind (wpAny_bind (wpAny_bind (J.type.here ((PySem.W.looks_findIn KX hn).here ?_))))))
  refine wpAny_bind (wpAny_askSetting (wpAny_ite ?_))
  have t2 : PySem.W.Looks (model X.prog X.w) s.heap (isInstance (.ref a) (.type "object")) true := J.type.andThen (PySem.W.looks_subIn KX hO)
  have fin : wpAny (model X.prog X.w) X.A (call (.builtin "object.__ne__") ([.ref a] ++ [v]) >>= fun v => pure (some v)) (fun r s' => wpAny (model X.prog X.w) X.A (match (motive := Option Value → Sem (Option Value)) r with
      | some .notImplemented | none => pure none
      | some v => pure (some v)) (fun r s' => ∃ w, r = some w ∧ EP X pins σ Q w s') X.xe s') X.xe s := by
    refine wpAny_bind (wpAny_call (codeAny_call_builtin plain_ne PySem.F.cmpEntry_ne (PySem.W.check_slot PySem.F.cmpKind_ne PySem.F.cmpSplit_ne t2 (PySem.F.cmpArgs_ne _ _) (wpAny_mono inner (fun fin s' q => ?_) fun _ _ e => e))))
    obtain ⟨b, rfl, q⟩ := q
    exact wpAny_pure (wpAny_pure ⟨_, rfl, q⟩)
  split
  · exact wpAny_bind (wpAny_of_eq (bind_ne _) (wpAny_pure (by exact fin)))
  · exact wpAny_tryCatch (wpAny_bind (wpAny_of_eq (bind_ne _) (wpAny_pure (by exact fin))))
end
end Own
set_option maxRecDepth 100000
set_option maxHeartbeats 4000000
namespace Own
open PySem PySem.Spec PyProof.Rows L2
open AutoSeq1 (wpAny_loadPart')
section
variable {X : Cx} {CX : CXT} {k : Nat} {C f : Addr} {fd : FuncData} {ps : List Str} {sp : Sp} {E : XK}
theorem op_neL (F : FnOk X.prog X.w X.K X.mg X.base CX k f fd ps sp) (hr : Room (k + 1) X.A) (hs : PySem.W.findIn X.K (.ref C) "__eq__" = some (some (.ref f))) (hn : PySem.W.findIn X.K (.ref C) "__ne__" = some (some (.builtin "object.__ne__")))
    (hO : PySem.W.subIn X.K (.ref C) (.type "object") = some true) (hf : PySem.W.isFn X.K (.ref f) = true) (hN : PySem.W.notFirst X.K C (.type "int") = true) (hb : Binds X.K fd ps []) (hx : Passes CX X E) : OpR X (compareOp .NotEq) (rEqL C sp E fun b => !b) := by
  intro pins s σ H x y u v Q I rx ry h
  obtain ⟨a, dx, fs, rfl, ha, hy, hsp⟩ := h
  cases rx
  have one := try_ne F hr hs hn hO hf hb hx I ha ry hsp
  obtain ⟨mA, J, _⟩ := ins_get I.hok ha
  obtain ⟨od, J, _⟩ := J.look
  have KX := I.kIn
  have go : ∀ t : Value, PySem.W.Looks (model X.prog X.w) s.heap (typeOf v) t → PySem.W.notFirst X.K C t = true → wpAny (model X.prog X.w) X.A (richCompare .NotEq (.ref a) v) (EP X pins σ Q) X.xe s := fun t hT hn => by
    unfold richCompare
    simp only [oneThing_ref, cmpInfo_NotEq]
    refine wpAny_holding (wpAny_bind (wpAny_cRoomFor hr.units0 ?_))
    refine wpAny_bind (J.type.here (wpAny_bind (hT.here ?_)))
    split
    · rename_i q
      have e : PySem.W.subIn X.K t (.ref C) = some false := by
        rcases Bool.or_eq_true_iff.mp hn with e | e
        · rw [beq_iff_eq.mp e] at q; simp at q
        · exact beq_iff_eq.mp e
      refine wpAny_bind ((PySem.W.looks_subIn KX e).here ?_)
      simp only [Bool.false_eq_true, if_false]
      refine wpAny_bind (wpAny_mono one (fun r s' z => ?_) fun _ _ e => e)
      obtain ⟨v, rfl, hq⟩ := z
      exact wpAny_pure hq
    · refine wpAny_bind (wpAny_pure ?_)
      simp only [Bool.false_eq_true, if_false]
      refine wpAny_bind (wpAny_mono one (fun r s' z => ?_) fun _ _ e => e)
      obtain ⟨v, rfl, hq⟩ := z
      exact wpAny_pure hq
  show wpAny (model X.prog X.w) X.A (richCompare .NotEq (.ref a) v) (EP X pins σ Q) X.xe s
  rcases hy with ⟨j, rfl⟩ | ⟨b, dy, gs, rfl, hb'⟩
  · obtain ⟨t, rfl⟩ := ry
    exact go (.type "int") (PySem.W.Looks.of_pure rfl) hN
  · cases ry
    obtain ⟨mB, J', _⟩ := ins_get I.hok hb'
    obtain ⟨od', J', _⟩ := J'.look
    exact go (.ref C) J'.type (by simp [PySem.W.notFirst])
/-- int == instance, int != instance: the int declines -/
theorem refl_cmp {op : CmpOp} {pins : List (Addr × Obj)} {σ : L2.St} {H : Hp} {s : Shared} {i : Int} {t : Tok} {a dx : Addr} {fs : List (Str × V)} {Q : VK} {id : String} {B : Builtin} (hr : Room k X.A) (I : Inv X pins σ H s) (ha : H a = some (.ins C dx fs))
    (hsub : PySem.W.subIn X.K (.ref C) (.type "int") = some false) (slot : Slot "int" (cmpInfo op).2.1 id) (entry : entryFor table id = some B) (args : ∀ a b, argsOk id ⟨[a, b], []⟩)
    (dec : ∀ (b : Int) (u : Tok) (l : Addr) (C dx : Addr), Meets (B ⟨[.int b u, .ref l], []⟩) (fun _ R s => s.heap.get? l = some (PySem.W.instObj C dx) ∧ R (.ok (.ret .notImplemented)) s))
    (one : wpAny (model X.prog X.w) X.A (tryCompare (.ref a) (cmpInfo op).2.2 (.int i t)) (fun r s' => ∃ v, r = some v ∧ EP X pins σ Q v s') X.xe s) :
    wpAny (model X.prog X.w) X.A (richCompare op (.int i t) (.ref a)) (EP X pins σ Q) X.xe s := by
  obtain ⟨mA, O, _⟩ := ins_get I.hok ha
  obtain ⟨od, J, _⟩ := O.look
  have ho : s.heap.get? a = some (PySem.W.instObj C dx) := by
    obtain ⟨_, _, _, e, _⟩ := I.hok a _ ha
    exact e
  have KX := I.kIn
  have hT := typeIs_int s i t
  unfold richCompare
  simp only [hT.oneThing_none]
  refine wpAny_holding (wpAny_bind (wpAny_cRoomFor hr.units0 ?_))
  refine wpAny_bind (wpAny_typeOf hT (wpAny_bind (J.type.here ?_)))
  have hne1 : (Value.type "int" != Value.ref C) = true := rfl
  simp only [hne1, if_true]
  refine wpAny_bind ((PySem.W.looks_subIn KX hsub).here ?_)
  simp only [Bool.false_eq_true, if_false, Bool.not_false, if_true]
  refine wpAny_bind (m := tryCompare (.int i t) _ (.ref a)) (wpAny_tryCompare_declines hT slot (call_meets slot hT entry (args _ _) (dec i t a C dx) ⟨ho, rfl, ?_⟩))
  refine wpAny_bind (wpAny_mono one (fun r s' z => ?_) fun _ _ e => e)
  obtain ⟨v, rfl, hq⟩ := z
  exact wpAny_pure hq
theorem int_eq_dec (b : Int) (u : Tok) (l : Addr) (C dx : Addr) :
    Meets (Builtin.«int.__eq__» ⟨[.int b u, .ref l], []⟩) (fun _ R s => s.heap.get? l = some (PySem.W.instObj C dx) ∧ R (.ok (.ret .notImplemented)) s) :=
  .of_wp fun prog w A R s h => by obtain ⟨hp, g, d, tk, os⟩ := s; obtain ⟨hl, h⟩ := h; wp_walk using wpAny_loadPart' hl, wpAny_load hl; exact ⟨_, rfl, h⟩
theorem int_ne_dec (b : Int) (u : Tok) (l : Addr) (C dx : Addr) :
    Meets (Builtin.«int.__ne__» ⟨[.int b u, .ref l], []⟩) (fun _ R s => s.heap.get? l = some (PySem.W.instObj C dx) ∧ R (.ok (.ret .notImplemented)) s) :=
  .of_wp fun prog w A R s h => by obtain ⟨hp, g, d, tk, os⟩ := s; obtain ⟨hl, h⟩ := h; wp_walk using wpAny_loadPart' hl, wpAny_load hl; exact ⟨_, rfl, h⟩
theorem int_ge_dec (b : Int) (u : Tok) (l : Addr) (C dx : Addr) :
    Meets (Builtin.«int.__ge__» ⟨[.int b u, .ref l], []⟩) (fun _ R s => s.heap.get? l = some (PySem.W.instObj C dx) ∧ R (.ok (.ret .notImplemented)) s) :=
  .of_wp fun prog w A R s h => by obtain ⟨hp, g, d, tk, os⟩ := s; obtain ⟨hl, h⟩ := h; wp_walk using wpAny_loadPart' hl, wpAny_load hl; exact ⟨_, rfl, h⟩
theorem int_gt_dec (b : Int) (u : Tok) (l : Addr) (C dx : Addr) :
    Meets (Builtin.«int.__gt__» ⟨[.int b u, .ref l], []⟩) (fun _ R s => s.heap.get? l = some (PySem.W.instObj C dx) ∧ R (.ok (.ret .notImplemented)) s) :=
  .of_wp fun prog w A R s h => by obtain ⟨hp, g, d, tk, os⟩ := s; obtain ⟨hl, h⟩ := h; wp_walk using wpAny_loadPart' hl, wpAny_load hl; exact ⟨_, rfl, h⟩
theorem int_add_dec (b : Int) (u : Tok) (l : Addr) (C dx : Addr) :
    Meets (Builtin.«int.__add__» ⟨[.int b u, .ref l], []⟩) (fun _ R s => s.heap.get? l = some (PySem.W.instObj C dx) ∧ R (.ok (.ret .notImplemented)) s) :=
  .of_wp fun prog w A R s h => by obtain ⟨hp, g, d, tk, os⟩ := s; obtain ⟨hl, h⟩ := h; wp_walk using wpAny_loadPart' hl, wpAny_load hl; exact ⟨_, rfl, h⟩
theorem int_sub_dec (b : Int) (u : Tok) (l : Addr) (C dx : Addr) :
    Meets (Builtin.«int.__sub__» ⟨[.int b u, .ref l], []⟩) (fun _ R s => s.heap.get? l = some (PySem.W.instObj C dx) ∧ R (.ok (.ret .notImplemented)) s) :=
  .of_wp fun prog w A R s h => by obtain ⟨hp, g, d, tk, os⟩ := s; obtain ⟨hl, h⟩ := h; wp_walk using wpAny_loadPart' hl, wpAny_load hl; exact ⟨_, rfl, h⟩
theorem int_mul_dec (b : Int) (u : Tok) (l : Addr) (C dx : Addr) :
    Meets (Builtin.«int.__mul__» ⟨[.int b u, .ref l], []⟩) (fun _ R s => s.heap.get? l = some (PySem.W.instObj C dx) ∧ R (.ok (.ret .notImplemented)) s) :=
  .of_wp fun prog w A R s h => by obtain ⟨hp, g, d, tk, os⟩ := s; obtain ⟨hl, h⟩ := h; wp_walk using wpAny_loadPart' hl, wpAny_load hl; exact ⟨_, rfl, h⟩
theorem op_eqR (F : FnOk X.prog X.w X.K X.mg X.base CX k f fd ps sp) (hr : Room k X.A) (hs : PySem.W.findIn X.K (.ref C) "__eq__" = some (some (.ref f))) (hf : PySem.W.isFn X.K (.ref f) = true) (hsub : PySem.W.subIn X.K (.ref C) (.type "int") = some false) (hb : Binds X.K fd ps []) (hx : Passes CX X E) :
    OpR X (compareOp .Eq) (rEqR C sp E fun b => b) := by
  intro pins s σ H x y u v Q I rx ry h
  obtain ⟨i, a, dx, fs, rfl, rfl, ha, hsp⟩ := h
  obtain ⟨t, rfl⟩ := rx
  cases ry
  obtain ⟨mA, O, _⟩ := ins_get I.hok ha
  obtain ⟨od, J, _⟩ := O.look
  refine refl_cmp (op := .Eq) hr I ha hsub PySem.F.slot_int_eq PySem.F.entry_int_eq PySem.F.args_int_eq_2 int_eq_dec ?_
  unfold tryCompare
  have r2 : Vals [V.ref a, V.int i] [Value.ref a, Value.int i t] := .cons rfl (.cons ⟨t, rfl⟩ .nil)
  refine wpAny_bind (PySem.W.ifBound_K I.kIn J hs hf (wpAny_mono (run_fn F hr hb .nil hx I r2 hsp) (fun v s' hv => ?_) fun _ _ e => e))
  obtain ⟨v', H', I', rv, b, rfl, q⟩ := hv
  cases rv
  exact wpAny_pure ⟨_, rfl, .bl b, H', I', rfl, q⟩
theorem op_neR (F : FnOk X.prog X.w X.K X.mg X.base CX k f fd ps sp) (hr : Room (k + 1) X.A) (hs : PySem.W.findIn X.K (.ref C) "__eq__" = some (some (.ref f))) (hn : PySem.W.findIn X.K (.ref C) "__ne__" = some (some (.builtin "object.__ne__")))
    (hO : PySem.W.subIn X.K (.ref C) (.type "object") = some true) (hf : PySem.W.isFn X.K (.ref f) = true) (hsub : PySem.W.subIn X.K (.ref C) (.type "int") = some false) (hb : Binds X.K fd ps []) (hx : Passes CX X E) : OpR X (compareOp .NotEq) (rEqR C sp E fun b => !b) := by
  intro pins s σ H x y u v Q I rx ry h
  obtain ⟨i, a, dx, fs, rfl, rfl, ha, hsp⟩ := h
  obtain ⟨t, rfl⟩ := rx
  cases ry
  exact refl_cmp (op := .NotEq) (hr.mono (Nat.le_succ k)) I ha hsub PySem.F.slot_int_ne PySem.F.entry_int_ne PySem.F.args_int_ne_2 int_ne_dec (try_ne F hr hs hn hO hf hb hx I ha (y := .int i) ⟨t, rfl⟩ hsp)
/-- abs of an instance -/
def rAbs (C : Addr) (sp : Sp) (E : XK) : List V → Hp → VK → Prop := fun xs H Q => ∃ a dx fs, xs = [.ref a] ∧ H a = some (.ins C dx fs) ∧ sp [.ref a] H Q E
theorem call_ownAbs (F : FnOk X.prog X.w X.K X.mg X.base CX k f fd ps sp) (hr : Room (k + 1) X.A) (hs : PySem.W.findIn X.K (.ref C) "__abs__" = some (some (.ref f))) (hf : PySem.W.isFn X.K (.ref f) = true) (hb : Binds X.K fd ps []) (hx : Passes CX X E) :
    CallR X (.builtin "abs") (rAbs C sp E) := by
  intro pins s σ H xs us Q I r h
  obtain ⟨a, dx, fs, rfl, ha, hsp⟩ := h
  obtain ⟨u, rfl, ru⟩ := vals1 r
  obtain rfl : u = Value.ref a := ru
  obtain ⟨mA, J, _⟩ := ins_get I.hok ha
  obtain ⟨od, J, _⟩ := J.look
  have inner : wpAny (model X.prog X.w) X.A.in1 (Builtin.«abs» ⟨[.ref a], []⟩) (fun fin s' => ∃ v, fin = .done (.ret v) ∧ EP X pins σ Q v s') X.xe s := by
    unfold Builtin.«abs»
    repeat (first | ((fail_if_success (with_reducible show wpAny _ _ (callSpecial? _ _ _) _ _ _)); wp_step))
    refine PySem.W.special_fn I.kIn J hs (beq_iff_eq.mp hf) (wpAny_mono (run_fnA F hr.in1 rfl hb hx I (vs := [.ref a]) (.cons rfl .nil) hsp) (fun w s' q => ?_) fun _ _ e => e)
    exact wpAny_pure ⟨_, rfl, q⟩
  refine wpAny_call (codeAny_call_builtin (b := Builtin.«abs») (by decide +kernel) (entryFor_of_tree (by kernel_rfl)) ?_)
  have hchk : checkBuiltinCall "abs" ⟨[.ref a], []⟩ = pure () := by kernel_rfl
  refine wpAny_of_eq hchk (wpAny_mono inner (fun fin s' q => ?_) fun _ _ e => e)
  obtain ⟨v, rfl, q⟩ := q
  exact q
end
end Own
set_option maxRecDepth 100000
set_option maxHeartbeats 4000000
namespace Toy
open PySem L2
def top (i : Nat) : Stmt := PySem.Challenge.pw_anyfifth_k35_scales_written_and_read.main.body.getD i (.Pass ⟨0, 0, 0, 0⟩)

structure Bl (mg : Str → Option Value) : Prop where
  int : mg "int" = none
  len : mg "len" = none
  abs : mg "abs" = none
  list : mg "list" = none
  range : mg "range" = none
  isinstance : mg "isinstance" = none
  bool : mg "bool" = none
  gcd : mg "gcd" = some (.builtin "math.gcd")

/-- all but what stands at p is as it was -/
def But (p : Addr) (H H' : Hp) : Prop := ∀ b o, H b = some o → b ≠ p → H' b = some o
theorem But.refl {p : Addr} {H : Hp} : But p H H := fun _ _ h _ => h
theorem But.upd {p : Addr} {H H1 : Hp} {o : HO} (h : But p H H1) : But p H (upd H1 p o) := fun b u e n => by rw [upd_ne n]; exact h b u e n
theorem But.new {p q : Addr} {H H1 : Hp} {o : HO} (h : But p H H1) (hq : H1 q = none) : But p H (L2.upd H1 q o) := fun b u e n => by
  rw [upd_ne (ne_of_none (h b u e n) hq)]; exact h b u e n
theorem But.trans {p : Addr} {H H1 H2 : Hp} (a : But p H H1) (b : But p H1 H2) : But p H H2 := fun c u e n => b c u (a c u e n) n
theorem But.same {p : Addr} {H H' : Hp} (h : Same H H') : But p H H' := fun b o e _ => h b o e

/-- the state of the drawing at p, behind at most k draws -/
structure PenW (H : Hp) (p c : Addr) (ns : List Int) (b l : Int) : Prop where
  hp : H p = some (.lst [.ref c, .int b, .int l])
  hc : H c = some (.lst (ns.map V.int))
  ln : ns.length ≤ 63
  b0 : 0 ≤ b
def Pen (H : Hp) (p c : Addr) (k : Nat) : Prop := ∃ ns b l, PenW H p c ns b l ∧ b ≤ k
theorem PenW.ne {H : Hp} {p c : Addr} {ns : List Int} {b l : Int} (h : PenW H p c ns b l) : c ≠ p := by
  intro e
  have h1 := h.hp
  have h2 := h.hc
  rw [e, h1] at h2
  have h3 := Option.some.inj h2
  injection h3 with h4
  cases ns with
  | nil => cases h4
  | cons a r => injection h4 with h5 h6; cases h5
theorem PenW.put {H : Hp} {p c : Addr} {ns : List Int} {b l b' l' : Int} (h : PenW H p c ns b l) (hb : 0 ≤ b') : PenW (upd H p (.lst [.ref c, .int b', .int l'])) p c ns b' l' :=
  ⟨upd_same, by rw [upd_ne h.ne]; exact h.hc, h.ln, hb⟩
theorem PenW.new {H : Hp} {p c q : Addr} {ns : List Int} {b l : Int} {o : HO} (h : PenW H p c ns b l) (hq : H q = none) : PenW (upd H q o) p c ns b l :=
  ⟨by rw [upd_ne (ne_of_none h.hp hq)]; exact h.hp, by rw [upd_ne (ne_of_none h.hc hq)]; exact h.hc, h.ln, h.b0⟩
theorem Pen.same {H H' : Hp} {p c : Addr} {k : Nat} (h : Pen H p c k) (e : Same H H') : Pen H' p c k := by
  obtain ⟨ns, b, l, h, hk⟩ := h
  exact ⟨ns, b, l, ⟨e _ _ h.hp, e _ _ h.hc, h.ln, h.b0⟩, hk⟩
theorem Pen.mono {H : Hp} {p c : Addr} {k j : Nat} (h : Pen H p c k) (e : k ≤ j) : Pen H p c j := by
  obtain ⟨ns, b, l, h, hk⟩ := h
  exact ⟨ns, b, l, h, by omega⟩
theorem dpInts {K : PySem.W.Frag} {H : Hp} : ∀ ns : List Int, DpAll K H (ns.map V.int) (ns.map PyData.int)
  | [] => .nil
  | n :: r => .cons (.int n) (dpInts r)
theorem shInts (ns : List Int) : SeqAt.shaped (.list (ns.map PyData.int)) = true := PySem.W.ke_shaped_ints ns
theorem eqvNil (ns : List Int) : PyData.eqv (.list (ns.map PyData.int)) (.list []) = decide (ns = []) := by
  cases ns <;> rfl
theorem modB (a : Int) {m : Int} (h : 0 < m) : 0 ≤ a % m ∧ a % m < m := ⟨Int.emod_nonneg _ (by omega), Int.emod_lt_of_pos _ h⟩
theorem wide_m {i m : Int} (h : 0 < m) (hb : m.natAbs < 2 ^ 2000) : CDivW i m := wide_div h hb (by decide) (by decide)

theorem atI_in {α : Type} {xs : List α} {i : Int} (h0 : 0 ≤ i) (h1 : i < (xs.length : Int)) : atI xs i = some (xs[i.toNat]'(by omega)) := by
  have e : i = ((i.toNat : Nat) : Int) := by omega
  exact (congrArg (atI xs) e).trans (atI_nat (List.getElem?_eq_getElem (by omega)))

theorem p0 {j : Int} (h : decide (0 < j) = true) : 0 < j := of_decide_eq_true h
theorem mulB {x y M N : Int} (hx : 0 ≤ x) (hxM : x ≤ M) (hy : 0 ≤ y) (hyN : y ≤ N) : 0 ≤ x * y ∧ x * y ≤ M * N := ⟨Int.mul_nonneg hx hy, Int.mul_le_mul hxM hyN hy (by omega)⟩
abbrev sDraw : Stmt := top 31
def spDraw : Sp := fun vs H Q _ => ∃ (p c : Addr) (m : Int) (k : Nat), vs = [.ref p, .int m] ∧ Pen H p c k ∧ k ≤ 1000000 ∧ 0 < m ∧ m.natAbs < 2 ^ 2000 ∧
  ∀ r H', 0 ≤ r → r < m → Pen H' p c (k + 1) → But p H H' → Q (.int r) H'
section
variable {P : Program} {w : World} {K : PySem.W.Frag} {mg : Str → Option Value} {base : Heap}
theorem scD : FnScope ["_law_pen_here", "_law_many", "_law_digit", "_law_taken", "_law_cell", "_law_great", "_law_mixed"] ["_law_pen_here", "_law_many"] (defScope sDraw) :=
  ⟨rfl, rfl, rfl, by decide +kernel, rfl, by decide +kernel, by decide +kernel⟩
theorem ok_draw {f : Addr} {fd : FuncData} (F : Fun K "_law_draw" "_law_draw" sDraw f fd) (T : Bl mg) : FnOk P w K mg base CX0 1 f fd ["_law_pen_here", "_law_many"] spDraw := by
  refine F.ok scD (fun vs H Q E h => ?_) (fun cdv A outer s H vs Q E hr h => ?_)
  · obtain ⟨p, c, m, k, rfl, _⟩ := h
    rfl
  · obtain ⟨p, c, m, k, rfl, ⟨ns, b, l, W, hb⟩, hk, hm, hmb, q⟩ := h
    have nd := scD.nd
    refine ⟨_, pss_cons (ps_if (pt_cmpR op_gt (pe_ix ix_list (pv 0) pe_int (fun _ _ => rfl)) pe_int (nomark _)) (pss_cons (ps_set (i := 2) nd rfl (Or.inl rfl) (pe_op op_mod (pe_callTy call_int1 (by rfl) T.int (by decide +kernel) (pa_cons (pe_ix ix_list (pv 0) pe_int (fun _ _ => rfl)) pa_nil)) (pv 1)))
      (pss_cons (ps_asg (pe_op op_fdivW (pe_callTy call_int1 (by rfl) T.int (by decide +kernel) (pa_cons (pe_ix ix_list (pv 0) pe_int (fun _ _ => rfl)) pa_nil)) (pv 1)) (pg_sub (pv 0) pe_int set_list))
      (pss_one (ps_ret (pv 2))))) pss_nil)
      (pss_cons (ps_set (i := 3) nd rfl (Or.inl rfl) (pe_ix ix_list (pv 0) pe_int (fun _ _ => rfl)))
      (pss_cons (ps_asg (pe_op op_add (pv 3) pe_int) (pg_sub (pv 0) pe_int set_list))
      (pss_cons (ps_set (i := 4) nd rfl (Or.inl rfl) (pe_op op_add (pe_op op_mul pe_int (pv 3)) pe_int))
      (C8.pss_cut (ps_if (pt_cmpR (op_neD hr.units) (pe_ix ix_list (pv 0) pe_int (fun _ _ => rfl)) (pe_lst pa_nil) (nomark _)) (pss_one (ps_set (i := 4) nd rfl (Or.inl rfl) (pe_ix ix_list (pe_ix ix_list (pv 0) pe_int (fun _ _ => rfl)) (pe_op op_mod (pe_callTy call_int1 (by rfl) T.int (by decide +kernel) (pa_cons (pv 3) pa_nil)) (pe_callB call_len (by rfl) T.len (by decide +kernel) (pa_cons (pe_ix ix_list (pv 0) pe_int (fun _ _ => rfl)) pa_nil))) (fun _ _ => rfl)))) pss_nil)
      (pss_cons (ps_if (PW.pt (pw_and (pt_cmpR op_lt (pv 3) (pe_callB call_len (by rfl) T.len (by decide +kernel) (pa_cons (pe_ix ix_list (pv 0) pe_int (fun _ _ => rfl)) pa_nil)) (nomark _)) (pw_and1 (pt_cmpR op_ge (pe_callB call_abs (by rfl) T.abs (by decide +kernel) (pa_cons (pv 4) pa_nil)) (pe_op op_pow pe_int pe_int) (nomark _))))) (pss_cons (ps_set (i := 5) nd rfl (Or.inl rfl) (pe_op op_add (pe_op op_mul pe_int (pe_op op_sub (pe_callB call_abs (by rfl) T.abs (by decide +kernel) (pa_cons (pv 4) pa_nil)) (pe_op op_pow pe_int pe_int))) (pe_callTy call_int1 (by rfl) T.int (by decide +kernel) (pa_cons (pe_cmpR op_lt (pv 4) pe_int (nomark _)) pa_nil))))
      (pss_cons (ps_asg (pe_op op_fdivW (pe_callTy call_int1 (by rfl) T.int (by decide +kernel) (pa_cons (pv 5) pa_nil)) (pv 1)) (pg_sub (pv 0) pe_int set_list))
      (pss_one (ps_ret (pe_op op_mod (pe_callTy call_int1 (by rfl) T.int (by decide +kernel) (pa_cons (pv 5) pa_nil)) (pv 1)))))) pss_nil)
      (pss_cons (ps_set (i := 6) nd rfl (Or.inl rfl) (pe_op op_mod (pe_callTy call_int1 (by rfl) T.int (by decide +kernel) (pa_cons (pe_op op_pow (pe_op op_add (pe_op op_add (pe_op op_mod (pe_callTy call_int1 (by rfl) T.int (by decide +kernel) (pa_cons (pv 4) pa_nil)) pe_int) (pe_op op_mul pe_int (pv 3))) pe_int) pe_int) pa_nil)) pe_int))
      (pss_cons (ps_set (i := 6) nd rfl (Or.inl rfl) (pe_op op_mod (pe_callTy call_int1 (by rfl) T.int (by decide +kernel) (pa_cons (pe_op op_pow (pe_op op_add (pe_op op_add (pe_op op_mul (pv 6) (pe_op op_add (pe_op op_mul pe_int (pv 3)) pe_int)) (pe_op op_mul (pe_op op_mul pe_int (pv 3)) (pv 3))) pe_int) pe_int) pa_nil)) pe_int))
      (pss_one (ps_ret (pe_op op_mod (pe_callTy call_int1 (by rfl) T.int (by decide +kernel) (pa_cons (pe_op op_fdivW (pv 6) pe_int) pa_nil)) (pv 1))))))))))), ?_⟩
    have hp := W.hp
    -- what is left of a great cell
    refine ⟨_, rfl, p, _, _, _, rfl, rfl, SqL.of hp, rfl, _, _, rfl, rfl, _, rfl, ?_⟩
    refine ite2 (fun _ => ?_) (fun _ => ?_)
    · refine ⟨_, rfl, p, _, _, _, rfl, rfl, SqL.of hp, rfl, .inl ⟨_, rfl, _, rfl, _, _, rfl, rfl, hm, ?_⟩⟩
      refine ⟨_, rfl, p, _, _, _, rfl, rfl, SqL.of hp, rfl, .inl ⟨_, rfl, _, rfl, _, _, rfl, rfl, wide_m hm hmb, ?_⟩⟩
      refine ⟨_, rfl, p, _, _, _, rfl, rfl, hp, rfl, ?_⟩
      refine ⟨_, rfl, ?_⟩
      exact q _ _ (modB _ hm).1 (modB _ hm).2 ⟨ns, b, _, W.put W.b0, by omega⟩ (But.refl.upd)
    · -- begun; the count goes up; cell
      refine ⟨_, rfl, p, _, _, _, rfl, rfl, SqL.of hp, rfl, ?_⟩
      refine ⟨_, rfl, _, _, rfl, rfl, ?_⟩
      refine ⟨_, rfl, p, _, _, _, rfl, rfl, hp, rfl, ?_⟩
      refine ⟨_, rfl, _, _, rfl, rfl, .inl ⟨by decide, by decide⟩, _, _, rfl, rfl, ?_⟩
      have W1 : PenW (upd H p (.lst [.ref c, .int (b + 1), .int l])) p c ns (b + 1) l := W.put (by have := W.b0; omega)
      refine ⟨fun σ' H' => ∃ z : Int, σ' = [some (.ref p), some (.int m), none, some (.int b), some (.int z), none, none] ∧ PenW H' p c ns (b + 1) l ∧ But p H H', ?_, ?_⟩
      · -- a cell of the script
        refine ⟨_, rfl, p, _, _, _, rfl, rfl, SqL.of W1.hp, rfl, by decide, fun e he => ?_⟩
        refine ⟨_, _, .lst (SqL.of (W1.new he).hc) (dpInts ns), .lst (SqL.of upd_same) .nil, shInts ns, by decide, _, rfl, ?_⟩
        have W2 := W1.new (o := .lst []) he
        have B2 : But p H (upd (upd H p (.lst [.ref c, .int (b + 1), .int l])) e (.lst [])) := (But.refl.upd).new he
        rw [eqvNil]
        by_cases hn : ns = []
        · rw [decide_eq_true hn]
          refine iteF ?_
          exact ⟨_, rfl, W2, B2⟩
        · rw [decide_eq_false hn]
          refine iteT ?_
          have hl0 : 0 < ns.length := List.length_pos_iff.mpr hn
          have hm0 : (0 : Int) < ((ns.map V.int).length : Int) := by rw [List.length_map]; omega
          refine ⟨_, rfl, p, _, _, _, rfl, rfl, SqL.of W2.hp, rfl, _, rfl, .inl ⟨_, rfl, _, rfl, p, _, _, _, rfl, rfl, SqL.of W2.hp, rfl, _, _, rfl, .inl ⟨_, SqL.of W2.hc, rfl⟩, _, _, rfl, rfl, hm0, ?_⟩⟩
          obtain ⟨z, hz⟩ : ∃ z, (ns.map V.int)[(b % ((ns.map V.int).length : Int)).toNat]'(by have := modB b hm0; omega) = .int z := ⟨_, List.getElem_map ..⟩
          exact ⟨c, _, _, .int z, rfl, rfl, SqL.of W2.hc, by rw [atI_in (modB b hm0).1 (modB b hm0).2, hz], ⟨_, rfl, W2, B2⟩⟩
      · rintro σ' H' ⟨z, rfl, W2, B2⟩
        have hp2 := W2.hp
        have hb1 := W.b0
        have hb2 : b ≤ 1000000 := by omega
        -- a great cell
        refine ⟨_, rfl, _, rfl, p, _, _, _, rfl, rfl, SqL.of hp2, rfl, _, _, rfl, .inl ⟨_, SqL.of W2.hc, rfl⟩, _, _, rfl, rfl, _, rfl, ?_⟩
        refine ite2 (fun _ => ?_) (fun _ => ?_)
        · refine ⟨_, rfl, _, rfl, _, _, rfl, rfl, ⟨by decide, by decide, by decide⟩, _, _, rfl, rfl, _, rfl, ?_⟩
          refine ite2 (fun _ => ?_) (fun _ => ?_)
          · refine ⟨_, rfl, _, rfl, _, _, rfl, rfl, ⟨by decide, by decide, by decide⟩, _, _, rfl, rfl, _, _, rfl, rfl, .inl ⟨by decide, by decide⟩, ?_⟩
            refine ⟨_, rfl, _, _, rfl, rfl, .inr ⟨_, rfl, _, _, rfl, rfl, ?_⟩⟩
            refine ⟨_, rfl, .inl ⟨_, rfl, _, rfl, _, _, rfl, rfl, wide_m hm hmb, ?_⟩⟩
            refine ⟨_, rfl, p, _, _, _, rfl, rfl, hp2, rfl, ?_⟩
            refine ⟨_, rfl, .inl ⟨_, rfl, _, rfl, _, _, rfl, rfl, hm, ?_⟩⟩
            exact q _ _ (modB _ hm).1 (modB _ hm).2 ⟨ns, b + 1, _, W2.put W2.b0, by omega⟩ B2.upd
          · refine ⟨_, rfl, .inl ⟨_, rfl, _, _, rfl, rfl, p0 rfl, _, rfl, _, _, rfl, rfl, .inl ⟨by decide, by decide⟩, _, _, rfl, rfl, _, _, rfl, rfl, _, _, rfl, rfl, ⟨by decide, by decide, ?_⟩, .inl ⟨_, rfl, _, _, rfl, rfl, p0 rfl, ?_⟩⟩⟩
            · have h1 := modB z (m := 2147483563) (by decide)
              omega
            have hx := modB ((z % 2147483563 + 49604 * b + 544) ^ (5 : Int).toNat) (m := 2147483629) (by decide)
            generalize hxe : (z % 2147483563 + 49604 * b + 544) ^ (5 : Int).toNat % 2147483629 = x at hx
            have p1 := mulB hx.1 (show x ≤ 2147483629 by omega) (show 0 ≤ 2 * b + 201 by omega) (show 2 * b + 201 ≤ 2100000 by omega)
            have p2 := mulB (show 0 ≤ 54296 * b by omega) (show 54296 * b ≤ 100000000000 by omega) hb1 hb2
            refine ⟨_, rfl, _, rfl, _, _, rfl, rfl, .inl ⟨by decide, by decide⟩, _, _, rfl, rfl, _, _, rfl, rfl, .inl ?_, _, rfl, _, _, rfl, rfl, .inl ⟨by decide, by decide⟩, _, rfl, _, _, rfl, rfl, .inl ?_, _, _, rfl, rfl, _, _, rfl, rfl, _, _, rfl, rfl, ⟨by decide, by decide, ?_⟩, .inl ⟨_, rfl, _, _, rfl, rfl, p0 rfl, ?_⟩⟩
            · rw [hxe]; omega
            · omega
            · rw [hxe]; omega
            refine ⟨_, rfl, _, _, rfl, rfl, ⟨by decide, by decide⟩, .inl ⟨_, rfl, _, rfl, _, _, rfl, rfl, hm, ?_⟩⟩
            exact q _ _ (modB _ hm).1 (modB _ hm).2 ⟨ns, b + 1, _, W2, by omega⟩ B2
        · refine ⟨_, rfl, .inl ⟨_, rfl, _, _, rfl, rfl, p0 rfl, _, rfl, _, _, rfl, rfl, .inl ⟨by decide, by decide⟩, _, _, rfl, rfl, _, _, rfl, rfl, _, _, rfl, rfl, ⟨by decide, by decide, ?_⟩, .inl ⟨_, rfl, _, _, rfl, rfl, p0 rfl, ?_⟩⟩⟩
          · have h1 := modB z (m := 2147483563) (by decide)
            omega
          have hx := modB ((z % 2147483563 + 49604 * b + 544) ^ (5 : Int).toNat) (m := 2147483629) (by decide)
          generalize hxe : (z % 2147483563 + 49604 * b + 544) ^ (5 : Int).toNat % 2147483629 = x at hx
          have p1 := mulB hx.1 (show x ≤ 2147483629 by omega) (show 0 ≤ 2 * b + 201 by omega) (show 2 * b + 201 ≤ 2100000 by omega)
          have p2 := mulB (show 0 ≤ 54296 * b by omega) (show 54296 * b ≤ 100000000000 by omega) hb1 hb2
          refine ⟨_, rfl, _, rfl, _, _, rfl, rfl, .inl ⟨by decide, by decide⟩, _, _, rfl, rfl, _, _, rfl, rfl, .inl ?_, _, rfl, _, _, rfl, rfl, .inl ⟨by decide, by decide⟩, _, rfl, _, _, rfl, rfl, .inl ?_, _, _, rfl, rfl, _, _, rfl, rfl, _, _, rfl, rfl, ⟨by decide, by decide, ?_⟩, .inl ⟨_, rfl, _, _, rfl, rfl, p0 rfl, ?_⟩⟩
          · rw [hxe]; omega
          · omega
          · rw [hxe]; omega
          refine ⟨_, rfl, _, _, rfl, rfl, ⟨by decide, by decide⟩, .inl ⟨_, rfl, _, rfl, _, _, rfl, rfl, hm, ?_⟩⟩
          exact q _ _ (modB _ hm).1 (modB _ hm).2 ⟨ns, b + 1, _, W2, by omega⟩ B2
end

/-! ### callees -/
structure Cal (P : Program) (w : World) (K : PySem.W.Frag) (mg : Str → Option Value) (base : Heap) (k : Nat) (x : Str) (f : Addr) (fd : FuncData) (ps : List Str) (sp : Sp) : Prop where
  F : FnOk P w K mg base CX0 k f fd ps sp
  mgf : mg x = some (.ref f)
  kp : PySem.W.keepIn K (.ref f) = true
  b : Binds K fd ps []
structure Mak (P : Program) (w : World) (K : PySem.W.Frag) (mg : Str → Option Value) (base : Heap) (k : Nat) (x : Str) (C f : Addr) (fd : FuncData) (ps : List Str) (sp : Sp) : Prop where
  M : Mk K C f
  F : FnOk P w K mg base CX0 k f fd ps sp
  mgC : mg x = some (.ref C)
  b : Binds K fd ps []
structure Sta (P : Program) (w : World) (K : PySem.W.Frag) (mg : Str → Option Value) (base : Heap) (k : Nat) (C : Addr) (m : Str) (p f : Addr) (fd : FuncData) (ps : List Str) (sp : Sp) : Prop where
  s : Own.SMet K C (.type "type") m p f
  F : FnOk P w K mg base CX0 k f fd ps sp
  b : Binds K fd ps []
structure Dot (P : Program) (w : World) (K : PySem.W.Frag) (mg : Str → Option Value) (base : Heap) (k : Nat) (C : Addr) (m : Str) (f : Addr) (fd : FuncData) (ps : List Str) (sp : Sp) : Prop where
  m : Meth K C m f
  F : FnOk P w K mg base CX0 k f fd ps sp
  b : Binds K fd ps []
/-- facts of an own class -/
structure ClT (K : PySem.W.Frag) (mg : Str → Option Value) (C : Addr) (x : Str) : Prop where
  cl : Cls K C
  mgC : mg x = some (.ref C)
  rd : ClX.CRead K C (.type "type")
  ca : PySem.W.findIn K (.ref C) "__class__" = some (some (.builtin "object.__class__"))
  cn : PySem.W.specialIn K (.builtin "object.__class__") "__get__" = some (some (.builtin "getset_descriptor.__get__"))
  ct : PySem.W.takesIn K (.builtin "object.__class__") = some true
  cm : PySem.W.mroIn K C (.type "object") = some true
  kI : PySem.W.kitOne K (.ref C) (.type "int") = some false
  kB : PySem.W.kitOne K (.ref C) (.type "bool") = some false
  kS : PySem.W.kitOne K (.ref C) (.ref C) = some true
  iK : PySem.W.kitOne K (.type "int") (.ref C) = some false
  sI : PySem.W.subIn K (.ref C) (.type "int") = some false
  nI : PySem.W.notFirst K C (.type "int") = true
  nC : PySem.W.notFirst K C (.ref C) = true
theorem ClT.ty {K : PySem.W.Frag} {mg : Str → Option Value} {C a dx : Addr} {x : Str} {H : Hp} {fs : List (Str × V)} (T : ClT K mg C x) (h : H a = some (.ins C dx fs)) : TyX K H (.ref a) (.ref C) :=
  .base (.ins h T.cl T.ca T.cn T.ct T.cm)
structure RatT (K : PySem.W.Frag) (mg : Str → Option Value) (C : Addr) : Prop extends ClT K mg C "Ratio" where
  nT : NoAttr K C "top"
  nB : NoAttr K C "bottom"
structure PieT (K : PySem.W.Frag) (mg : Str → Option Value) (C : Addr) : Prop extends ClT K mg C "Piece" where
  nL : NoAttr K C "left"
  nR : NoAttr K C "right"

/-! ### ratios -/
theorem tb_ne : ¬ (("bottom" : Str) = "top") := by decide +kernel
theorem bt_ne : ¬ (("top" : Str) = "bottom") := by decide +kernel
def ratF (n d : Int) : List (Str × V) := putF "bottom" (.int d) (putF "top" (.int n) [])
theorem ratF_top (n d : Int) : (ratF n d).lookup ("top" : Str) = some (.int n) := by
  unfold ratF
  rw [lookup_putF, if_neg bt_ne, lookup_putF, if_pos rfl]
theorem ratF_bot (n d : Int) : (ratF n d).lookup ("bottom" : Str) = some (.int d) := by
  unfold ratF
  rw [lookup_putF, if_pos rfl]
/-- a Ratio n / d stands at a -/
def RatAt (C : Addr) (H : Hp) (a : Addr) (n d : Int) : Prop := ∃ dx, H a = some (.ins C dx (ratF n d))
theorem RatAt.same {C : Addr} {H H' : Hp} {a : Addr} {n d : Int} (h : RatAt C H a n d) (e : Same H H') : RatAt C H' a n d := let ⟨dx, h⟩ := h; ⟨dx, e _ _ h⟩
theorem RatAt.but {C p : Addr} {H H' : Hp} {a : Addr} {n d : Int} (h : RatAt C H a n d) (e : But p H H') (hp : a ≠ p) : RatAt C H' a n d := let ⟨dx, h⟩ := h; ⟨dx, e _ _ h hp⟩
/-- a number: an int or a Ratio -/
inductive NumAt (C : Addr) (H : Hp) : V → Int → Int → Prop
  | int (i : Int) : NumAt C H (.int i) i 1
  | rat {a : Addr} {n d : Int} (h : RatAt C H a n d) : NumAt C H (.ref a) n d
theorem NumAt.same {C : Addr} {H H' : Hp} {v : V} {n d : Int} (h : NumAt C H v n d) (e : Same H H') : NumAt C H' v n d := by
  cases h with
  | int => exact .int _
  | rat h => exact .rat (h.same e)
theorem same_new {H : Hp} {p : Addr} {o : HO} (h : H p = none) : Same H (upd H p o) := fun b u e => by rw [upd_ne (ne_of_none e h)]; exact e
theorem same_two {H : Hp} {p q : Addr} {o u : HO} (h : H p = none) (h2 : H q = none) (n : p ≠ q) : Same H (upd (upd H p o) q u) := (same_new h).trans (same_new (by rw [upd_ne n.symm]; exact h2))
/-- small enough to reckon with -/
def Sz (z : Int) : Prop := z.natAbs < 2 ^ 8000
theorem Sz.mul {i j : Int} (a : Sz i) (b : Sz j) : CMulW i j := wide_mul a b (by decide) (by decide) (by decide)
theorem Sz.of {z : Int} (h : z.natAbs < 10 ^ 250) : Sz z := Nat.lt_trans h (by decide +kernel)

section
variable {P : Program} {w : World} {K : PySem.W.Frag} {mg : Str → Option Value} {base : Heap} {C : Addr}
def isIntK (K : PySem.W.Frag) (t : Value) (b : Bool) : Prop := ∃ b1 b2, PySem.W.kitOne K t (.type "int") = some b1 ∧ PySem.W.kitOne K t (.type "bool") = some b2 ∧ b = (b1 && !b2)
theorem isIntK_int : isIntK K (.type "int") true := ⟨true, false, kit_ty (by decide +kernel), kit_ty (by decide +kernel), rfl⟩
theorem isIntK_own {x : Str} (T : ClT K mg C x) : isIntK K (.ref C) false := ⟨false, false, T.kI, T.kB, rfl⟩
def spIsInt (K : PySem.W.Frag) : Sp := fun vs H Q _ => ∃ v t b, vs = [v] ∧ TyX K H v t ∧ isIntK K t b ∧ Q (.bl b) H

abbrev sIsInt : Stmt := top 14
theorem scII : FnScope ["value"] ["value"] (defScope sIsInt) := ⟨rfl, rfl, rfl, by decide +kernel, rfl, by decide +kernel, by decide +kernel⟩
theorem ok_isint {f : Addr} {fd : FuncData} (F : Fun K "is_int" "is_int" sIsInt f fd) (T : Bl mg) : FnOk P w K mg base CX0 1 f fd ["value"] (spIsInt K) := by
  refine F.ok scII (fun vs H Q E h => ?_) (fun cdv A outer s H vs Q E hr h => ?_)
  · obtain ⟨v, t, b, rfl, _⟩ := h
    rfl
  · obtain ⟨v, t, b, rfl, ty, ⟨b1, b2, h1, h2, rfl⟩, q⟩ := h
    have nd := scII.nd
    refine ⟨_, pss_one (ps_ret (pe_and (pe_callB call_isi (by rfl) T.isinstance (by decide +kernel) (pa_cons (pv 0) (pa_cons (pe_bltn (v := .ty "int") (u := .type "int") (by rfl) T.int (by decide +kernel) rfl) pa_nil))) (pe_one (pe_not (pe_callB call_isi (by rfl) T.isinstance (by decide +kernel) (pa_cons (pv 0) (pa_cons (pe_bltn (v := .ty "bool") (u := .type "bool") (by rfl) T.bool (by decide +kernel) rfl) pa_nil))))))), ?_⟩
    refine ⟨_, rfl, _, _, t, _, b1, rfl, .ty _, ty, h1, _, rfl, ?_⟩
    cases b1 with
    | true =>
      refine iteT ?_
      exact ⟨_, rfl, _, _, t, _, b2, rfl, .ty _, ty, h2, _, rfl, q⟩
    | false => exact iteF q

def spIsNum (K : PySem.W.Frag) (C : Addr) : Sp := fun vs H Q _ => ∃ v t b c, vs = [v] ∧ TyX K H v t ∧ isIntK K t b ∧ PySem.W.kitOne K t (.ref C) = some c ∧ Q (.bl (b || c)) H
theorem NumAt.spNum {x : Str} {H : Hp} {v : V} {n d : Int} {Q : VK} {E : XK} (T : ClT K mg C x) (h : NumAt C H v n d) (q : Q (.bl true) H) : spIsNum K C [v] H Q E := by
  cases h with
  | int => exact ⟨_, _, _, _, rfl, .base (.int _), isIntK_int, T.iK, q⟩
  | rat h => obtain ⟨dx, h⟩ := h; exact ⟨_, _, _, _, rfl, T.ty h, isIntK_own T, T.kS, q⟩
abbrev sIsNum : Stmt := inClass (top 19) 1
theorem scIN : FnScope ["value"] ["value"] (defScope sIsNum) := ⟨rfl, rfl, rfl, by decide +kernel, rfl, by decide +kernel, by decide +kernel⟩
theorem ok_isnum {f f1 : Addr} {fd fd1 : FuncData} (F : Fun K "is_number" "Ratio.is_number" sIsNum f fd) (T : Bl mg) (T_Ratio : RatT K mg C) (C_is_int : Cal P w K mg base 1 "is_int" f1 fd1 ["value"] (spIsInt K)) :
    FnOk P w K mg base CX0 2 f fd ["value"] (spIsNum K C) := by
  refine F.ok scIN (fun vs H Q E h => ?_) (fun cdv A outer s H vs Q E hr h => ?_)
  · obtain ⟨v, t, b, c, rfl, _⟩ := h
    rfl
  · obtain ⟨v, t, b, c, rfl, ty, hb, hc, q⟩ := h
    have nd := scIN.nd
    refine ⟨_, pss_one (ps_ret (pe_or (pe_call C_is_int.F (hr.mono (by decide)) (by rfl) C_is_int.mgf C_is_int.kp C_is_int.b .nil pass0 (pa_cons (pv 0) pa_nil)) (pe_one (pe_callB call_isi (by rfl) T.isinstance (by decide +kernel) (pa_cons (pv 0) (pa_cons (Own.pe_gref (by rfl) T_Ratio.mgC) pa_nil)))))), ?_⟩
    refine ⟨_, rfl, _, t, b, rfl, ty, hb, _, rfl, ?_⟩
    cases b with
    | true => exact iteT q
    | false =>
      refine iteF ?_
      exact ⟨_, rfl, _, _, t, _, c, rfl, .own _, ty, hc, q⟩

def spParts (C : Addr) : Sp := fun vs H Q _ => ∃ v n d, vs = [v] ∧ NumAt C H v n d ∧ ∀ p, H p = none → Q (.ref p) (upd H p (.tup [.int n, .int d]))
abbrev sParts : Stmt := top 20
theorem scPa : FnScope ["number"] ["number"] (defScope sParts) := ⟨rfl, rfl, rfl, by decide +kernel, rfl, by decide +kernel, by decide +kernel⟩
theorem ok_parts {f : Addr} {fd : FuncData} (F : Fun K "parts_of" "parts_of" sParts f fd) (T : Bl mg) (T_Ratio : RatT K mg C) : FnOk P w K mg base CX0 1 f fd ["number"] (spParts C) := by
  refine F.ok scPa (fun vs H Q E h => ?_) (fun cdv A outer s H vs Q E hr h => ?_)
  · obtain ⟨v, n, d, rfl, _⟩ := h
    rfl
  · obtain ⟨v, n, d, rfl, hn, q⟩ := h
    have nd := scPa.nd
    refine ⟨_, pss_cons (ps_if (pt_val (pe_callB call_isi (by rfl) T.isinstance (by decide +kernel) (pa_cons (pv 0) (pa_cons (Own.pe_gref (by rfl) T_Ratio.mgC) pa_nil)))) (pss_one (ps_ret (pe_tup (pa_cons (pe_fld (pv 0) rfl) (pa_cons (pe_fld (pv 0) rfl) pa_nil))))) pss_nil)
      (pss_one (ps_ret (pe_tup (pa_cons (pv 0) (pa_cons pe_int pa_nil))))), ?_⟩
    cases hn with
    | int =>
      refine ⟨_, rfl, _, _, _, _, false, rfl, .own _, .base (.int _), T_Ratio.iK, _, rfl, iteF ?_⟩
      exact ⟨_, rfl, (by decide : 2 ≤ sizeLine), fun p hp => q p hp⟩
    | rat h =>
      obtain ⟨dx, h⟩ := h
      refine ⟨_, rfl, _, _, _, _, true, rfl, .own _, T_Ratio.ty h, T_Ratio.kS, _, rfl, iteT ?_⟩
      exact ⟨_, rfl, _, C, dx, _, _, rfl, h, T_Ratio.cl, T_Ratio.nT, ratF_top _ _, _, rfl, _, C, dx, _, _, rfl, h, T_Ratio.cl, T_Ratio.nB, ratF_bot _ _, (by decide : 2 ≤ sizeLine), fun p hp => q p hp⟩

def spLead (C : Addr) : Sp := fun vs H Q _ => ∃ v u n d m e, vs = [v, u] ∧ NumAt C H v n d ∧ NumAt C H u m e ∧ (Sz n ∧ Sz d ∧ Sz m ∧ Sz e) ∧ ∀ H', Same H H' → Q (.int (n * e - m * d)) H'
abbrev sLead : Stmt := top 22
theorem scLe : FnScope ["one", "other", "top", "bottom", "other_top", "other_bottom"] ["one", "other"] (defScope sLead) := ⟨rfl, rfl, rfl, by decide +kernel, rfl, by decide +kernel, by decide +kernel⟩
theorem ok_lead {f f1 : Addr} {fd fd1 : FuncData} (F : Fun K "_lead" "_lead" sLead f fd) (C_parts_of : Cal P w K mg base 1 "parts_of" f1 fd1 ["number"] (spParts C)) : FnOk P w K mg base CX0 2 f fd ["one", "other"] (spLead C) := by
  refine F.ok scLe (fun vs H Q E h => ?_) (fun cdv A outer s H vs Q E hr h => ?_)
  · obtain ⟨v, u, n, d, m, e, rfl, _⟩ := h
    rfl
  · obtain ⟨v, u, n, d, m, e, rfl, hv, hu, ⟨z1, z2, z3, z4⟩, q⟩ := h
    have nd := scLe.nd
    refine ⟨_, pss_cons (ps_asg (pe_call C_parts_of.F (hr.mono (by decide)) (by rfl) C_parts_of.mgf C_parts_of.kp C_parts_of.b .nil pass0 (pa_cons (pv 0) pa_nil)) (pg_tup (by rfl) (pgs_cons (pg_name (i := 2) nd rfl (Or.inl rfl)) (pgs_cons (pg_name (i := 3) nd rfl (Or.inl rfl)) pgs_nil))))
      (pss_cons (ps_asg (pe_call C_parts_of.F (hr.mono (by decide)) (by rfl) C_parts_of.mgf C_parts_of.kp C_parts_of.b .nil pass0 (pa_cons (pv 1) pa_nil)) (pg_tup (by rfl) (pgs_cons (pg_name (i := 4) nd rfl (Or.inl rfl)) (pgs_cons (pg_name (i := 5) nd rfl (Or.inl rfl)) pgs_nil))))
      (pss_one (ps_ret (pe_op op_sub (pe_op op_mulW (pv 2) (pv 5)) (pe_op op_mulW (pv 4) (pv 3)))))), ?_⟩
    refine ⟨_, rfl, _, _, _, rfl, hv, fun p hp => ⟨_, _, rfl, SqT.of upd_same, rfl, _, _, rfl, _, _, rfl, rfl, ?_⟩⟩
    have s1 : Same H (upd H p (.tup [.int n, .int d])) := same_new hp
    refine ⟨_, rfl, _, _, _, rfl, hu.same s1, fun p2 hp2 => ⟨_, _, rfl, SqT.of upd_same, rfl, _, _, rfl, _, _, rfl, rfl, ?_⟩⟩
    exact ⟨_, rfl, _, rfl, _, _, rfl, rfl, z1.mul z4, _, rfl, _, rfl, _, _, rfl, rfl, z3.mul z2, _, _, rfl, rfl, q _ (s1.trans (same_new hp2))⟩
end
end Toy
set_option maxRecDepth 100000
set_option maxHeartbeats 4000000
namespace Toy
open PySem L2
/-! ### a ratio made -/
theorem vint_ne {b c : Int} (h : b ≠ c) : ¬ (decide (V.int b = V.int c) = true) := fun e => h (V.int.inj (of_decide_eq_true e))
def CDivZ (_ j : Int) : Prop := j ≠ 0 ∧ j.natAbs.log2 < 9000
theorem op_fdivZ {X : Cx} : OpR X (binaryOp .FloorDiv) (rI CDivZ fun i j => .int (i.fdiv j)) := opI fun i j _ _ _ _ _ hc q => PyProof.Rows.floordiv_int hc.1 q (.inl (PyProof.noPylong_of_log2 hc.2))
def gcdI (t b : Int) : Int := ((Nat.gcd t.natAbs b.natAbs : Nat) : Int)
def lowD (t b : Int) : Int := if 0 < b then gcdI t b else -gcdI t b
def lowT (t b : Int) : Int := t.fdiv (lowD t b)
def lowB (t b : Int) : Int := b.fdiv (lowD t b)
theorem gcdI_pos {t b : Int} (h : b ≠ 0) : 0 < gcdI t b := by
  have h1 : 0 < b.natAbs := by omega
  have h2 := Nat.gcd_pos_of_pos_right t.natAbs h1
  unfold gcdI
  omega
theorem gcdI_neg {t b : Int} (h : b ≠ 0) : -gcdI t b ≠ 0 := by
  have := gcdI_pos (t := t) h
  omega
theorem gcdI_le {t b : Int} (h : b ≠ 0) : (gcdI t b).natAbs ≤ b.natAbs := by
  have h1 : 0 < b.natAbs := by omega
  have h2 := Nat.gcd_le_right t.natAbs h1
  unfold gcdI
  omega
theorem Sz.div {i j : Int} (h : j ≠ 0) (z : Sz j) : CDivZ i j := ⟨h, Nat.lt_trans (PySem.Flt.log2_lt_of (by decide) z) (by decide)⟩
theorem Sz.gcd {t b : Int} (h : b ≠ 0) (z : Sz b) : Sz (gcdI t b) := Nat.lt_of_le_of_lt (gcdI_le h) z
theorem Sz.neg {b : Int} (z : Sz b) : Sz (-b) := by unfold Sz; rw [Int.natAbs_neg]; exact z
theorem lowT_one {t b : Int} (h : 0 < b) (g : gcdI t b = 1) : lowT t b = t := by
  unfold lowT lowD
  rw [if_pos h, g]
  exact Int.fdiv_one t
theorem lowB_one {t b : Int} (h : 0 < b) (g : gcdI t b = 1) : lowB t b = b := by
  unfold lowB lowD
  rw [if_pos h, g]
  exact Int.fdiv_one b
theorem iteNot {b : Bool} {A B : Prop} (h : b = true) (x : B) : if (!b) = true then A else B := by
  subst h
  exact iteF x
theorem NumAt.info {K : PySem.W.Frag} {mg : Str → Option Value} {C : Addr} {x : Str} {H : Hp} {v : V} {n d : Int} (T : ClT K mg C x) (h : NumAt C H v n d) :
    ∃ t b c, TyX K H v t ∧ isIntK K t b ∧ PySem.W.kitOne K t (.ref C) = some c ∧ (b || c) = true := by
  cases h with
  | int => exact ⟨_, _, _, .base (.int _), isIntK_int, T.iK, rfl⟩
  | rat h => obtain ⟨dx, h⟩ := h; exact ⟨_, _, _, T.ty h, isIntK_own T, T.kS, rfl⟩
section
variable {P : Program} {w : World} {K : PySem.W.Frag} {mg : Str → Option Value} {base : Heap} {C : Addr}
def spRInit (C : Addr) : Sp := fun vs H Q _ => ∃ x dx t b, vs = [.ref x, .int t, .int b] ∧ H x = some (.ins C dx []) ∧ b ≠ 0 ∧ Sz b ∧ ∀ H', RatAt C H' x (lowT t b) (lowB t b) → (∀ c o, H c = some o → c ≠ x → H' c = some o) → Q .non H'
theorem spRInit.make {H1 : Hp} {t b : Int} {Q : VK} {E : XK} (hb : b ≠ 0) (hz : Sz b) (q : ∀ x H', H1 x = none → Same H1 H' → RatAt C H' x (lowT t b) (lowB t b) → Q (.ref x) H') :
    ∀ x dx, H1 x = none → H1 dx = none → dx ≠ x → spRInit C [.ref x, .int t, .int b] (upd (upd H1 dx (.own x)) x (.ins C dx [])) (fun v H2 => v = .non ∧ Q (.ref x) H2) E := fun x dx hx hdx hne =>
  ⟨x, dx, t, b, rfl, upd_same, hb, hz, fun H' hR hk => ⟨rfl, q x H' hx (fun c o e => hk c o (by rw [upd_ne (ne_of_none e hx), upd_ne (ne_of_none e hdx)]; exact e) (ne_of_none e hx)) hR⟩⟩
abbrev sRInit : Stmt := inClass (top 19) 0
theorem scRI : FnScope ["self", "top", "bottom", "divisor"] ["self", "top", "bottom"] (defScope sRInit) := ⟨rfl, rfl, rfl, by decide +kernel, rfl, by decide +kernel, by decide +kernel⟩
theorem ok_rinit {f f1 : Addr} {fd fd1 : FuncData} (F : FunD K "__init__" "Ratio.__init__" (defArgs sRInit) (defBody sRInit) (defScope sRInit) [.int 1] [] f fd) (T : Bl mg) (T_Ratio : RatT K mg C) (C_is_int : Cal P w K mg base 1 "is_int" f1 fd1 ["value"] (spIsInt K)) :
    FnOk P w K mg base CX0 2 f fd ["self", "top", "bottom"] (spRInit C) := by
  refine F.ok scRI (fun vs H Q E h => ?_) (fun cdv A outer s H vs Q E hr h => ?_)
  · obtain ⟨x, dx, t, b, rfl, _⟩ := h
    rfl
  · obtain ⟨x, dx, t, b, rfl, hx, hb, hz, q⟩ := h
    have nd := scRI.nd
    refine ⟨_, pss_cons (ps_if (pt_not (pt_val (pe_call C_is_int.F (hr.mono (by decide)) (by rfl) C_is_int.mgf C_is_int.kp C_is_int.b .nil pass0 (pa_cons (pv 1) pa_nil)))) pss_never pss_nil)
      (pss_cons (ps_if (pt_not (pt_val (pe_call C_is_int.F (hr.mono (by decide)) (by rfl) C_is_int.mgf C_is_int.kp C_is_int.b .nil pass0 (pa_cons (pv 2) pa_nil)))) pss_never pss_nil)
      (pss_cons (ps_if (pt_cmpR op_eq (pv 2) pe_int (nomark _)) pss_never pss_nil)
      (pss_cons (ps_set (i := 3) nd rfl (Or.inl rfl) (pe_ifExp (pt_cmpR op_gt (pv 2) pe_int (nomark _)) (pe_callBfun cr_gcd (by rfl) T.gcd (pa_cons (pv 1) (pa_cons (pv 2) pa_nil))) (pe_un un_neg (pe_callBfun cr_gcd (by rfl) T.gcd (pa_cons (pv 1) (pa_cons (pv 2) pa_nil))))))
      (pss_cons (ps_fld (pv 0) (pe_op op_fdivZ (pv 1) (pv 3)) rfl)
      (pss_one (ps_fld (pv 0) (pe_op op_fdivZ (pv 2) (pv 3)) rfl)))))), ?_⟩
    refine ⟨_, rfl, _, _, true, rfl, .base (.int _), isIntK_int, _, rfl, iteF ?_⟩
    refine ⟨_, rfl, _, _, true, rfl, .base (.int _), isIntK_int, _, rfl, iteF ?_⟩
    refine ⟨_, rfl, rfl, _, rfl, ?_⟩
    refine ite2 (fun e => absurd e (vint_ne hb)) (fun _ => ?_)
    refine ⟨_, rfl, _, _, rfl, rfl, _, rfl, ?_⟩
    have fin : ∀ z : Int, z = lowD t b → Q .non (upd (upd H x (.ins C dx (putF "top" (.int (t.fdiv z)) []))) x (.ins C dx (putF "bottom" (.int (b.fdiv z)) (putF "top" (.int (t.fdiv z)) [])))) := fun z e =>
      q _ ⟨dx, by rw [e]; exact upd_same⟩ fun c o h n => by rw [upd_ne n, upd_ne n]; exact h
    refine ite2 (fun hp => ?_) (fun hp => ?_)
    · have hp1 : 0 < b := of_decide_eq_true hp
      refine ⟨_, rfl, _, rfl, _, _, rfl, ?_⟩
      refine ⟨_, rfl, _, rfl, _, _, rfl, rfl, (Sz.gcd hb hz).div (by have := gcdI_pos (t := t) hb; exact Int.ne_of_gt this), _, rfl, x, C, dx, _, rfl, hx, T_Ratio.cl, T_Ratio.nT, (by decide : 0 < 1000), ?_⟩
      refine ⟨_, rfl, _, rfl, _, _, rfl, rfl, (Sz.gcd hb hz).div (by have := gcdI_pos (t := t) hb; exact Int.ne_of_gt this), _, rfl, x, C, dx, _, rfl, upd_same, T_Ratio.cl, T_Ratio.nB, (by decide : 1 < 1000), ?_⟩
      exact fin _ (by unfold lowD; rw [if_pos hp1]; rfl)
    · have hp1 : ¬ 0 < b := fun e => hp (decide_eq_true e)
      refine ⟨_, rfl, _, rfl, _, _, rfl, _, rfl, ?_⟩
      refine ⟨_, rfl, _, rfl, _, _, rfl, rfl, (Sz.gcd hb hz).neg.div (gcdI_neg hb), _, rfl, x, C, dx, _, rfl, hx, T_Ratio.cl, T_Ratio.nT, (by decide : 0 < 1000), ?_⟩
      refine ⟨_, rfl, _, rfl, _, _, rfl, rfl, (Sz.gcd hb hz).neg.div (gcdI_neg hb), _, rfl, x, C, dx, _, rfl, upd_same, T_Ratio.cl, T_Ratio.nB, (by decide : 1 < 1000), ?_⟩
      exact fin _ (by unfold lowD; rw [if_neg hp1]; rfl)

/-- comparisons -/
def spCmp (C : Addr) (g : Int → Bool) : Sp := fun vs H Q _ => ∃ v u n d m e, vs = [v, u] ∧ NumAt C H v n d ∧ NumAt C H u m e ∧ (Sz n ∧ Sz d ∧ Sz m ∧ Sz e) ∧ ∀ H', Same H H' → Q (.bl (g (n * e - m * d))) H'
structure Opr (P : Program) (w : World) (K : PySem.W.Frag) (mg : Str → Option Value) (base : Heap) (k : Nat) (C : Addr) (m : Str) (f : Addr) (fd : FuncData) (ps : List Str) (sp : Sp) : Prop where
  at_ : PySem.W.findIn K (.ref C) m = some (some (.ref f))
  fn : PySem.W.isFn K (.ref f) = true
  F : FnOk P w K mg base CX0 k f fd ps sp
  b : Binds K fd ps []
abbrev sLt : Stmt := inClass (top 19) 22
theorem scLt : FnScope ["self", "other"] ["self", "other"] (defScope sLt) := ⟨rfl, rfl, rfl, by decide +kernel, rfl, by decide +kernel, by decide +kernel⟩
theorem ok_lt {f p1 f1 f2 : Addr} {fd fd1 fd2 : FuncData} (F : Fun K "__lt__" "Ratio.__lt__" sLt f fd) (T_Ratio : RatT K mg C)
    (S_Ratio_is_number : Sta P w K mg base 2 C "is_number" p1 f1 fd1 ["value"] (spIsNum K C)) (C__lead : Cal P w K mg base 2 "_lead" f2 fd2 ["one", "other"] (spLead C)) : FnOk P w K mg base CX0 3 f fd ["self", "other"] (spCmp C fun z => decide (z < 0)) := by
  refine F.ok scLt (fun vs H Q E h => ?_) (fun cdv A outer s H vs Q E hr h => ?_)
  · obtain ⟨v, u, n, d, m, e, rfl, _⟩ := h
    rfl
  · obtain ⟨v, u, n, d, m, e, rfl, hv, hu, hz, q⟩ := h
    have nd := scLt.nd
    refine ⟨_, pss_cons (ps_if (pt_not (pt_val (Own.pe_smeth T_Ratio.rd S_Ratio_is_number.s S_Ratio_is_number.F (hr.mono (by decide)) S_Ratio_is_number.b pass0 (Own.pe_gref (by rfl) T_Ratio.mgC) (pa_cons (pv 1) pa_nil)))) pss_never pss_nil)
      (pss_one (ps_ret (pe_cmpR op_lt (pe_call C__lead.F (hr.mono (by decide)) (by rfl) C__lead.mgf C__lead.kp C__lead.b .nil pass0 (pa_cons (pv 0) (pa_cons (pv 1) pa_nil))) pe_int (nomark _)))), ?_⟩
    obtain ⟨t, b, c, ty, hb, hc, hbc⟩ := hu.info T_Ratio.toClT
    refine ⟨rfl, _, rfl, _, t, b, c, rfl, ty, hb, hc, _, rfl, iteNot hbc ?_⟩
    exact ⟨_, rfl, _, rfl, v, u, n, d, m, e, rfl, hv, hu, hz, fun H' s1 => ⟨_, _, rfl, rfl, q H' s1⟩⟩
abbrev sLeq : Stmt := inClass (top 19) 23
theorem scLeq : FnScope ["self", "other"] ["self", "other"] (defScope sLeq) := ⟨rfl, rfl, rfl, by decide +kernel, rfl, by decide +kernel, by decide +kernel⟩
theorem ok_le {f p1 f1 f2 : Addr} {fd fd1 fd2 : FuncData} (F : Fun K "__le__" "Ratio.__le__" sLeq f fd) (T_Ratio : RatT K mg C)
    (S_Ratio_is_number : Sta P w K mg base 2 C "is_number" p1 f1 fd1 ["value"] (spIsNum K C)) (C__lead : Cal P w K mg base 2 "_lead" f2 fd2 ["one", "other"] (spLead C)) : FnOk P w K mg base CX0 3 f fd ["self", "other"] (spCmp C fun z => decide (z ≤ 0)) := by
  refine F.ok scLeq (fun vs H Q E h => ?_) (fun cdv A outer s H vs Q E hr h => ?_)
  · obtain ⟨v, u, n, d, m, e, rfl, _⟩ := h
    rfl
  · obtain ⟨v, u, n, d, m, e, rfl, hv, hu, hz, q⟩ := h
    have nd := scLeq.nd
    refine ⟨_, pss_cons (ps_if (pt_not (pt_val (Own.pe_smeth T_Ratio.rd S_Ratio_is_number.s S_Ratio_is_number.F (hr.mono (by decide)) S_Ratio_is_number.b pass0 (Own.pe_gref (by rfl) T_Ratio.mgC) (pa_cons (pv 1) pa_nil)))) pss_never pss_nil)
      (pss_one (ps_ret (pe_cmpR op_le (pe_call C__lead.F (hr.mono (by decide)) (by rfl) C__lead.mgf C__lead.kp C__lead.b .nil pass0 (pa_cons (pv 0) (pa_cons (pv 1) pa_nil))) pe_int (nomark _)))), ?_⟩
    obtain ⟨t, b, c, ty, hb, hc, hbc⟩ := hu.info T_Ratio.toClT
    refine ⟨rfl, _, rfl, _, t, b, c, rfl, ty, hb, hc, _, rfl, iteNot hbc ?_⟩
    exact ⟨_, rfl, _, rfl, v, u, n, d, m, e, rfl, hv, hu, hz, fun H' s1 => ⟨_, _, rfl, rfl, q H' s1⟩⟩
abbrev sGt : Stmt := inClass (top 19) 24
theorem scGt : FnScope ["self", "other"] ["self", "other"] (defScope sGt) := ⟨rfl, rfl, rfl, by decide +kernel, rfl, by decide +kernel, by decide +kernel⟩
theorem ok_gt {f p1 f1 f2 : Addr} {fd fd1 fd2 : FuncData} (F : Fun K "__gt__" "Ratio.__gt__" sGt f fd) (T_Ratio : RatT K mg C)
    (S_Ratio_is_number : Sta P w K mg base 2 C "is_number" p1 f1 fd1 ["value"] (spIsNum K C)) (C__lead : Cal P w K mg base 2 "_lead" f2 fd2 ["one", "other"] (spLead C)) : FnOk P w K mg base CX0 3 f fd ["self", "other"] (spCmp C fun z => decide (0 < z)) := by
  refine F.ok scGt (fun vs H Q E h => ?_) (fun cdv A outer s H vs Q E hr h => ?_)
  · obtain ⟨v, u, n, d, m, e, rfl, _⟩ := h
    rfl
  · obtain ⟨v, u, n, d, m, e, rfl, hv, hu, hz, q⟩ := h
    have nd := scGt.nd
    refine ⟨_, pss_cons (ps_if (pt_not (pt_val (Own.pe_smeth T_Ratio.rd S_Ratio_is_number.s S_Ratio_is_number.F (hr.mono (by decide)) S_Ratio_is_number.b pass0 (Own.pe_gref (by rfl) T_Ratio.mgC) (pa_cons (pv 1) pa_nil)))) pss_never pss_nil)
      (pss_one (ps_ret (pe_cmpR op_gt (pe_call C__lead.F (hr.mono (by decide)) (by rfl) C__lead.mgf C__lead.kp C__lead.b .nil pass0 (pa_cons (pv 0) (pa_cons (pv 1) pa_nil))) pe_int (nomark _)))), ?_⟩
    obtain ⟨t, b, c, ty, hb, hc, hbc⟩ := hu.info T_Ratio.toClT
    refine ⟨rfl, _, rfl, _, t, b, c, rfl, ty, hb, hc, _, rfl, iteNot hbc ?_⟩
    exact ⟨_, rfl, _, rfl, v, u, n, d, m, e, rfl, hv, hu, hz, fun H' s1 => ⟨_, _, rfl, rfl, q H' s1⟩⟩
abbrev sGe : Stmt := inClass (top 19) 25
theorem scGe : FnScope ["self", "other"] ["self", "other"] (defScope sGe) := ⟨rfl, rfl, rfl, by decide +kernel, rfl, by decide +kernel, by decide +kernel⟩
theorem ok_ge {f p1 f1 f2 : Addr} {fd fd1 fd2 : FuncData} (F : Fun K "__ge__" "Ratio.__ge__" sGe f fd) (T_Ratio : RatT K mg C)
    (S_Ratio_is_number : Sta P w K mg base 2 C "is_number" p1 f1 fd1 ["value"] (spIsNum K C)) (C__lead : Cal P w K mg base 2 "_lead" f2 fd2 ["one", "other"] (spLead C)) : FnOk P w K mg base CX0 3 f fd ["self", "other"] (spCmp C fun z => decide (0 ≤ z)) := by
  refine F.ok scGe (fun vs H Q E h => ?_) (fun cdv A outer s H vs Q E hr h => ?_)
  · obtain ⟨v, u, n, d, m, e, rfl, _⟩ := h
    rfl
  · obtain ⟨v, u, n, d, m, e, rfl, hv, hu, hz, q⟩ := h
    have nd := scGe.nd
    refine ⟨_, pss_cons (ps_if (pt_not (pt_val (Own.pe_smeth T_Ratio.rd S_Ratio_is_number.s S_Ratio_is_number.F (hr.mono (by decide)) S_Ratio_is_number.b pass0 (Own.pe_gref (by rfl) T_Ratio.mgC) (pa_cons (pv 1) pa_nil)))) pss_never pss_nil)
      (pss_one (ps_ret (pe_cmpR op_ge (pe_call C__lead.F (hr.mono (by decide)) (by rfl) C__lead.mgf C__lead.kp C__lead.b .nil pass0 (pa_cons (pv 0) (pa_cons (pv 1) pa_nil))) pe_int (nomark _)))), ?_⟩
    obtain ⟨t, b, c, ty, hb, hc, hbc⟩ := hu.info T_Ratio.toClT
    refine ⟨rfl, _, rfl, _, t, b, c, rfl, ty, hb, hc, _, rfl, iteNot hbc ?_⟩
    exact ⟨_, rfl, _, rfl, v, u, n, d, m, e, rfl, hv, hu, hz, fun H' s1 => ⟨_, _, rfl, rfl, q H' s1⟩⟩

end
end Toy
set_option maxRecDepth 100000
set_option maxHeartbeats 4000000
namespace Toy
open PySem L2
open Rat (divInt)
/-! ### numbers of the program as rationals -/
theorem gcdI_eq (t b : Int) : gcdI t b = (Int.gcd b t : Int) := by
  unfold gcdI Int.gcd
  rw [Nat.gcd_comm]
theorem low_num {t b : Int} (h : b ≠ 0) : lowT t b = (divInt t b).num := by
  rw [Rat.num_divInt]
  unfold lowT lowD
  rw [gcdI_eq]
  have hg : (0 : Int) < (Int.gcd b t : Int) := by
    rw [← gcdI_eq]; exact gcdI_pos h
  by_cases hb : 0 < b
  · rw [if_pos hb, Int.sign_eq_one_of_pos hb, Int.one_mul, Int.fdiv_eq_ediv_of_nonneg _ (by omega)]
  · have hb2 : b < 0 := by omega
    rw [if_neg hb, Int.sign_eq_neg_one_of_neg hb2, Int.neg_one_mul, ← Int.fdiv_eq_ediv_of_nonneg _ (by omega), ← Int.neg_fdiv_neg, Int.neg_neg]
theorem low_den {t b : Int} (h : b ≠ 0) : lowB t b = ((divInt t b).den : Int) := by
  rw [Rat.den_divInt, if_neg h]
  unfold lowB lowD
  rw [gcdI_eq]
  have hg : (0 : Int) < (Int.gcd b t : Int) := by
    rw [← gcdI_eq]; exact gcdI_pos h
  rw [Int.natCast_ediv]
  by_cases hb : 0 < b
  · rw [if_pos hb, Int.fdiv_eq_ediv_of_nonneg _ (by omega), Int.natAbs_of_nonneg (by omega)]
  · rw [if_neg hb, show ((b.natAbs : Nat) : Int) = -b by omega, ← Int.fdiv_eq_ediv_of_nonneg _ (by omega), ← Int.neg_fdiv_neg, Int.neg_neg]
/-- a number below 2 ^ k over one below 2 ^ k -/
def Sq (k : Nat) (q : Rat) : Prop := q.num.natAbs < 2 ^ k ∧ q.den < 2 ^ k
theorem Sq.mono {j k : Nat} {q : Rat} (h : Sq j q) (e : j ≤ k) : Sq k q := ⟨Nat.lt_of_lt_of_le h.1 (Nat.pow_le_pow_right (by decide) e), Nat.lt_of_lt_of_le h.2 (Nat.pow_le_pow_right (by decide) e)⟩
theorem Sq.n {k : Nat} {q : Rat} (h : Sq k q) (e : k ≤ 8000) : Sz q.num := (h.mono e).1
theorem Sq.d {k : Nat} {q : Rat} (h : Sq k q) (e : k ≤ 8000) : Sz (q.den : Int) := (h.mono e).2
theorem num_le (t b : Int) : (divInt t b).num.natAbs ≤ t.natAbs := by
  rw [Rat.num_divInt]
  refine Nat.le_trans (Int.natAbs_ediv_le_natAbs _ _) ?_
  rw [Int.natAbs_mul]
  rcases Int.lt_trichotomy b 0 with h | h | h
  · rw [Int.sign_eq_neg_one_of_neg h]; simp
  · subst h; simp
  · rw [Int.sign_eq_one_of_pos h]; simp
theorem den_le {t b : Int} (h : b ≠ 0) : (divInt t b).den ≤ b.natAbs := by
  rw [Rat.den_divInt, if_neg h]
  exact Nat.div_le_self _ _
theorem Sq.of {k : Nat} {t b : Int} (h : b ≠ 0) (ht : t.natAbs < 2 ^ k) (hb : b.natAbs < 2 ^ k) : Sq k (divInt t b) := ⟨Nat.lt_of_le_of_lt (num_le t b) ht, Nat.lt_of_le_of_lt (den_le h) hb⟩
theorem den_ne (q : Rat) : (q.den : Int) ≠ 0 := by have := q.den_pos; omega
theorem den_pos (q : Rat) : (0 : Int) < (q.den : Int) := by have := q.den_pos; omega
theorem q_add (p q : Rat) : divInt (p.num * q.den + q.num * p.den) (p.den * q.den) = p + q := by
  conv => rhs; rw [← Rat.num_divInt_den p, ← Rat.num_divInt_den q]
  rw [Rat.divInt_add_divInt _ _ (den_ne p) (den_ne q)]
theorem q_sub (p q : Rat) : divInt (p.num * q.den - q.num * p.den) (p.den * q.den) = p - q := by
  conv => rhs; rw [← Rat.num_divInt_den p, ← Rat.num_divInt_den q]
  rw [Rat.divInt_sub_divInt _ _ (den_ne p) (den_ne q)]
theorem q_mul (p q : Rat) : divInt (p.num * q.num) (p.den * q.den) = p * q := by
  conv => rhs; rw [← Rat.num_divInt_den p, ← Rat.num_divInt_den q]
  rw [Rat.divInt_mul_divInt]
theorem q_div {p q : Rat} : divInt (p.num * q.den) (p.den * q.num) = p / q := by
  rw [Rat.divInt_eq_div]
  conv => rhs; rw [← Rat.num_divInt_den p, ← Rat.num_divInt_den q]
  rw [Rat.divInt_eq_div, Rat.divInt_eq_div, Rat.intCast_mul, Rat.intCast_mul]
  have h1 : ((p.den : Int) : Rat) ≠ 0 := by simpa using den_ne p
  have h2 : ((q.den : Int) : Rat) ≠ 0 := by simpa using den_ne q
  grind
theorem q_neg (p : Rat) : divInt (-p.num) p.den = -p := by
  conv => rhs; rw [← Rat.num_divInt_den p]
  rw [Rat.neg_divInt]
theorem fdiv_pos (n d k : Int) (hd : 0 < d) (hk : 0 < k) : (n * k).fdiv (d * k) = n / d := by
  rw [Int.fdiv_eq_ediv_of_nonneg _ (by exact Int.le_of_lt (Int.mul_pos hd hk)), Int.mul_ediv_mul_of_pos_left _ _ hk]
theorem q_fdiv {t b : Int} (h : b ≠ 0) : t.fdiv b = (divInt t b).floor := by
  obtain ⟨m, hm, e1, e2⟩ := Rat.divInt_num_den (n := t) (n' := (divInt t b).num) (d' := (divInt t b).den) (z' := (divInt t b).den_nz) (c := (divInt t b).reduced) h rfl
  rw [Rat.floor_def]
  have hd := den_pos (divInt t b)
  generalize (divInt t b).num = n at *
  generalize ((divInt t b).den : Int) = d at *
  rw [e1, e2]
  by_cases hp : 0 < m
  · exact fdiv_pos n d m hd hp
  · rw [← Int.neg_fdiv_neg, ← Int.mul_neg, ← Int.mul_neg]
    exact fdiv_pos n d (-m) hd (by omega)
theorem q_lt (p q : Rat) : decide (p.num * q.den - q.num * p.den < 0) = decide (p < q) := decide_eq_decide.mpr ⟨fun h => (Rat.lt_iff p q).mpr (by omega), fun h => by have := (Rat.lt_iff p q).mp h; omega⟩
theorem q_le (p q : Rat) : decide (p.num * q.den - q.num * p.den ≤ 0) = decide (p ≤ q) := decide_eq_decide.mpr ⟨fun h => (Rat.le_iff p q).mpr (by omega), fun h => by have := (Rat.le_iff p q).mp h; omega⟩
theorem q_gt (p q : Rat) : decide (0 < p.num * q.den - q.num * p.den) = decide (q < p) := decide_eq_decide.mpr ⟨fun h => (Rat.lt_iff q p).mpr (by omega), fun h => by have := (Rat.lt_iff q p).mp h; omega⟩
theorem q_ge (p q : Rat) : decide (0 ≤ p.num * q.den - q.num * p.den) = decide (q ≤ p) := decide_eq_decide.mpr ⟨fun h => (Rat.le_iff q p).mpr (by omega), fun h => by have := (Rat.le_iff q p).mp h; omega⟩
theorem q_eq (p q : Rat) : (decide (p.num = q.num) && decide ((p.den : Int) = q.den)) = decide (p = q) := by
  by_cases h : p = q
  · subst h; simp
  · rw [decide_eq_false h]
    by_cases h1 : p.num = q.num
    · have h2 : (p.den : Int) ≠ q.den := fun e => h (Rat.ext h1 (by exact_mod_cast e))
      simp [h2]
    · simp [h1]
/-! ### sizes -/
theorem mul_lt {i j : Int} {a b : Nat} (ha : i.natAbs < 2 ^ a) (hb : j.natAbs < 2 ^ b) : (i * j).natAbs < 2 ^ (a + b) := wide_lt ha hb
theorem den_abs (q : Rat) : ((q.den : Int)).natAbs = q.den := Int.natAbs_natCast _
theorem add_lt {i j : Int} {a : Nat} (ha : i.natAbs < 2 ^ a) (hb : j.natAbs < 2 ^ a) : (i + j).natAbs < 2 ^ (a + 1) := by
  have := Int.natAbs_add_le i j
  rw [Nat.pow_succ]
  omega
theorem sub_lt {i j : Int} {a : Nat} (ha : i.natAbs < 2 ^ a) (hb : j.natAbs < 2 ^ a) : (i - j).natAbs < 2 ^ (a + 1) := by
  have := Int.natAbs_sub_le i j
  rw [Nat.pow_succ]
  omega
theorem Sq.dd {k : Nat} {q : Rat} (h : Sq k q) : ((q.den : Int)).natAbs < 2 ^ k := by rw [den_abs]; exact h.2
section
variable {j k : Nat} {p q : Rat}
theorem Sq.dm (a : Sq j p) (b : Sq k q) : ((p.den : Int) * q.den).natAbs < 2 ^ (j + k) := mul_lt a.dd b.dd
theorem Sq.tadd (a : Sq j p) (b : Sq k q) : (p.num * q.den + q.num * p.den).natAbs < 2 ^ (j + k + 1) := add_lt (mul_lt a.1 b.dd) (by rw [Nat.add_comm]; exact mul_lt b.1 a.dd)
theorem Sq.tsub (a : Sq j p) (b : Sq k q) : (p.num * q.den - q.num * p.den).natAbs < 2 ^ (j + k + 1) := sub_lt (mul_lt a.1 b.dd) (by rw [Nat.add_comm]; exact mul_lt b.1 a.dd)
theorem dm_ne (p q : Rat) : (p.den : Int) * q.den ≠ 0 := Int.mul_ne_zero (den_ne p) (den_ne q)
theorem Sq.add (a : Sq j p) (b : Sq k q) : Sq (j + k + 1) (p + q) := by rw [← q_add]; exact Sq.of (dm_ne p q) (a.tadd b) (Nat.lt_of_lt_of_le (a.dm b) (Nat.pow_le_pow_right (by decide) (by omega)))
theorem Sq.sub (a : Sq j p) (b : Sq k q) : Sq (j + k + 1) (p - q) := by rw [← q_sub]; exact Sq.of (dm_ne p q) (a.tsub b) (Nat.lt_of_lt_of_le (a.dm b) (Nat.pow_le_pow_right (by decide) (by omega)))
theorem Sq.mul (a : Sq j p) (b : Sq k q) : Sq (j + k) (p * q) := by rw [← q_mul]; exact Sq.of (dm_ne p q) (mul_lt a.1 b.1) (a.dm b)
theorem num_ne {q : Rat} (h : q ≠ 0) : q.num ≠ 0 := fun e => h (Rat.num_eq_zero.mp e)
theorem dn_ne (p : Rat) {q : Rat} (h : q ≠ 0) : (p.den : Int) * q.num ≠ 0 := Int.mul_ne_zero (den_ne p) (num_ne h)
theorem Sq.div (a : Sq j p) (b : Sq k q) (h : q ≠ 0) : Sq (j + k) (p / q) := by rw [← q_div]; exact Sq.of (dn_ne p h) (mul_lt a.1 b.dd) (mul_lt a.dd b.1)
theorem Sq.neg (a : Sq j p) : Sq j (-p) := by
  refine ⟨?_, a.2⟩
  show (-p.num).natAbs < _
  rw [Int.natAbs_neg]
  exact a.1
theorem Sq.abs (a : Sq j p) : Sq j p.abs := by
  unfold Rat.abs
  split
  · exact a
  · exact a.neg
theorem Sq.int {i : Int} (h : i.natAbs < 2 ^ k) (h0 : 0 < k) : Sq k (i : Rat) := ⟨by rw [Rat.num_intCast]; exact h, by rw [Rat.den_intCast]; exact Nat.one_lt_two_pow (by omega)⟩
end
end Toy
set_option maxRecDepth 100000
set_option maxHeartbeats 4000000
namespace Toy
open PySem L2
open Rat (divInt)
/-! ### what the operators of Ratio promise, in rationals -/
def RatQ (C : Addr) (H : Hp) (a : Addr) (q : Rat) : Prop := RatAt C H a q.num q.den
inductive NumQ (C : Addr) (H : Hp) : V → Rat → Prop
  | int (i : Int) : NumQ C H (.int i) (i : Rat)
  | rat {a : Addr} {q : Rat} (h : RatQ C H a q) : NumQ C H (.ref a) q
theorem RatQ.same {C : Addr} {H H' : Hp} {a : Addr} {q : Rat} (h : RatQ C H a q) (e : Same H H') : RatQ C H' a q := RatAt.same h e
theorem RatQ.but {C p : Addr} {H H' : Hp} {a : Addr} {q : Rat} (h : RatQ C H a q) (e : But p H H') (hp : a ≠ p) : RatQ C H' a q := RatAt.but h e hp
theorem NumQ.same {C : Addr} {H H' : Hp} {v : V} {q : Rat} (h : NumQ C H v q) (e : Same H H') : NumQ C H' v q := by
  cases h with
  | int => exact .int _
  | rat h => exact .rat (h.same e)
theorem NumQ.at_ {C : Addr} {H : Hp} {v : V} {q : Rat} (h : NumQ C H v q) : NumAt C H v q.num q.den := by
  cases h with
  | int i => exact .int i
  | rat h => exact .rat h
theorem RatQ.ins {C : Addr} {H : Hp} {a : Addr} {q : Rat} (h : RatQ C H a q) : ∃ dx fs, H a = some (.ins C dx fs) := let ⟨dx, h⟩ := h; ⟨dx, _, h⟩
/-- an int or an instance, as the operators' rules ask -/
theorem NumQ.ri {C : Addr} {H : Hp} {v : V} {q : Rat} (h : NumQ C H v q) : (∃ j, v = .int j) ∨ ∃ b dy gs, v = .ref b ∧ H b = some (.ins C dy gs) := by
  cases h with
  | int i => exact .inl ⟨i, rfl⟩
  | rat h => obtain ⟨dx, h⟩ := h; exact .inr ⟨_, dx, _, rfl, h⟩
theorem NumQ.cases {C : Addr} {H : Hp} {v : V} {q : Rat} (h : NumQ C H v q) : (∃ i : Int, v = .int i ∧ q = i) ∨ ∃ a, v = .ref a ∧ RatQ C H a q := by
  cases h with
  | int i => exact .inl ⟨i, rfl, rfl⟩
  | rat h => exact .inr ⟨_, rfl, h⟩
section
variable {P : Program} {w : World} {K : PySem.W.Frag} {mg : Str → Option Value} {base : Heap} {C : Addr}
theorem mkQ {H1 : Hp} {t b : Int} {Q : VK} {E : XK} {q : Rat} (hb : b ≠ 0) (hz : Sz b) (e : divInt t b = q) (k : ∀ x H', Same H1 H' → RatQ C H' x q → Q (.ref x) H') :
    ∀ x dx, H1 x = none → H1 dx = none → dx ≠ x → spRInit C [.ref x, .int t, .int b] (upd (upd H1 dx (.own x)) x (.ins C dx [])) (fun v H2 => v = .non ∧ Q (.ref x) H2) E :=
  spRInit.make hb hz fun x H' _ s r => k x H' s (by rw [low_num hb, low_den hb, e] at r; exact r)
/-- a Ratio and a number, a Ratio out -/
def spBin (C : Addr) (G : Rat → Rat → Prop) (f : Rat → Rat → Rat) : Sp := fun vs H Q _ => ∃ a u p q, vs = [.ref a, u] ∧ RatQ C H a p ∧ NumQ C H u q ∧ (Sq 3900 p ∧ Sq 3900 q) ∧ G p q ∧ ∀ x H', Same H H' → RatQ C H' x (f p q) → Q (.ref x) H'
def spUn (C : Addr) (f : Rat → Rat) : Sp := fun vs H Q _ => ∃ a p, vs = [.ref a] ∧ RatQ C H a p ∧ Sq 3900 p ∧ ∀ x H', Same H H' → RatQ C H' x (f p) → Q (.ref x) H'
abbrev GT : Rat → Rat → Prop := fun _ _ => True
theorem z4 {p : Rat} (h : Sq 3900 p) : Sz p.num ∧ Sz (p.den : Int) := ⟨h.n (by decide), h.d (by decide)⟩
theorem szd {p q : Rat} (a : Sq 3900 p) (b : Sq 3900 q) : Sz ((p.den : Int) * q.den) := Nat.lt_of_lt_of_le (a.dm b) (Nat.pow_le_pow_right (by decide) (by decide))
abbrev sAdd : Stmt := inClass (top 19) 8
theorem scAdd : FnScope ["self", "other", "top", "bottom"] ["self", "other"] (defScope sAdd) := ⟨rfl, rfl, rfl, by decide +kernel, rfl, by decide +kernel, by decide +kernel⟩
theorem ok_add {f p1 f1 f2 f3 : Addr} {fd fd1 fd2 fd3 : FuncData} (F : Fun K "__add__" "Ratio.__add__" sAdd f fd) (T_Ratio : RatT K mg C) (S_Ratio_is_number : Sta P w K mg base 2 C "is_number" p1 f1 fd1 ["value"] (spIsNum K C)) (C_parts_of : Cal P w K mg base 1 "parts_of" f2 fd2 ["number"] (spParts C)) (M_Ratio : Mak P w K mg base 2 "Ratio" C f3 fd3 ["self", "top", "bottom"] (spRInit C)) :
    FnOk P w K mg base CX0 4 f fd ["self", "other"] (spBin C GT fun p q => p + q) := by
  refine F.ok scAdd (fun vs H Q E h => ?_) (fun cdv A outer s H vs Q E hr h => ?_)
  · obtain ⟨a, u, p, q, rfl, _⟩ := h
    rfl
  · obtain ⟨a, u, p, q, rfl, hp, hq, ⟨zp, zq⟩, hG, k⟩ := h
    have nd := scAdd.nd
    refine ⟨_, pss_cons (ps_if (pt_not (pt_val (Own.pe_smeth T_Ratio.rd S_Ratio_is_number.s S_Ratio_is_number.F (hr.mono (by decide)) S_Ratio_is_number.b pass0 (Own.pe_gref (by rfl) T_Ratio.mgC) (pa_cons (pv 1) pa_nil)))) pss_never pss_nil)
      (pss_cons (ps_asg (pe_call C_parts_of.F (hr.mono (by decide)) (by rfl) C_parts_of.mgf C_parts_of.kp C_parts_of.b .nil pass0 (pa_cons (pv 1) pa_nil)) (pg_tup (by rfl) (pgs_cons (pg_name (i := 2) nd rfl (Or.inl rfl)) (pgs_cons (pg_name (i := 3) nd rfl (Or.inl rfl)) pgs_nil))))
      (pss_one (ps_ret (pe_make M_Ratio.M M_Ratio.F (hr.mono (by decide)) (by rfl) M_Ratio.mgC M_Ratio.b .nil pass0 (pa_cons (pe_op op_add (pe_op op_mulW (pe_fld (pv 0) rfl) (pv 3)) (pe_op op_mulW (pv 2) (pe_fld (pv 0) rfl))) (pa_cons (pe_op op_mulW (pe_fld (pv 0) rfl) (pv 3)) pa_nil)))))), ?_⟩
    have hv := hq.at_
    obtain ⟨dx, h0⟩ := id hp
    obtain ⟨t, b, c, ty, hb, hc, hbc⟩ := hv.info T_Ratio.toClT
    refine ⟨rfl, _, rfl, _, t, b, c, rfl, ty, hb, hc, _, rfl, iteNot hbc ?_⟩
    refine ⟨_, rfl, _, _, _, rfl, hv, fun p1 hp1 => ⟨_, _, rfl, SqT.of upd_same, rfl, _, _, rfl, _, _, rfl, rfl, ?_⟩⟩
    have s1 : Same H (upd H p1 (.tup [.int q.num, .int (q.den : Int)])) := same_new hp1
    have h1 := s1 _ _ h0
    refine ⟨_, rfl, _, C, dx, _, _, rfl, h1, T_Ratio.cl, T_Ratio.nT, ratF_top _ _, _, rfl, _, _, rfl, rfl, ((z4 zp).1.mul (z4 zq).2), _, rfl, _, rfl, _, C, dx, _, _, rfl, h1, T_Ratio.cl, T_Ratio.nB, ratF_bot _ _, _, _, rfl, rfl, ((z4 zq).1.mul (z4 zp).2), _, _, rfl, rfl, _, rfl, _, C, dx, _, _, rfl, h1, T_Ratio.cl, T_Ratio.nB, ratF_bot _ _, _, rfl, _, _, rfl, rfl, ((z4 zp).2.mul (z4 zq).2), ?_⟩
    exact mkQ (dm_ne p q) (szd zp zq) (q_add p q) fun x H' s2 r => k x H' (s1.trans s2) r
abbrev sSub : Stmt := inClass (top 19) 10
theorem scSub : FnScope ["self", "other", "top", "bottom"] ["self", "other"] (defScope sSub) := ⟨rfl, rfl, rfl, by decide +kernel, rfl, by decide +kernel, by decide +kernel⟩
theorem ok_sub {f p1 f1 f2 f3 : Addr} {fd fd1 fd2 fd3 : FuncData} (F : Fun K "__sub__" "Ratio.__sub__" sSub f fd) (T_Ratio : RatT K mg C) (S_Ratio_is_number : Sta P w K mg base 2 C "is_number" p1 f1 fd1 ["value"] (spIsNum K C)) (C_parts_of : Cal P w K mg base 1 "parts_of" f2 fd2 ["number"] (spParts C)) (M_Ratio : Mak P w K mg base 2 "Ratio" C f3 fd3 ["self", "top", "bottom"] (spRInit C)) :
    FnOk P w K mg base CX0 4 f fd ["self", "other"] (spBin C GT fun p q => p - q) := by
  refine F.ok scSub (fun vs H Q E h => ?_) (fun cdv A outer s H vs Q E hr h => ?_)
  · obtain ⟨a, u, p, q, rfl, _⟩ := h
    rfl
  · obtain ⟨a, u, p, q, rfl, hp, hq, ⟨zp, zq⟩, hG, k⟩ := h
    have nd := scSub.nd
    refine ⟨_, pss_cons (ps_if (pt_not (pt_val (Own.pe_smeth T_Ratio.rd S_Ratio_is_number.s S_Ratio_is_number.F (hr.mono (by decide)) S_Ratio_is_number.b pass0 (Own.pe_gref (by rfl) T_Ratio.mgC) (pa_cons (pv 1) pa_nil)))) pss_never pss_nil)
      (pss_cons (ps_asg (pe_call C_parts_of.F (hr.mono (by decide)) (by rfl) C_parts_of.mgf C_parts_of.kp C_parts_of.b .nil pass0 (pa_cons (pv 1) pa_nil)) (pg_tup (by rfl) (pgs_cons (pg_name (i := 2) nd rfl (Or.inl rfl)) (pgs_cons (pg_name (i := 3) nd rfl (Or.inl rfl)) pgs_nil))))
      (pss_one (ps_ret (pe_make M_Ratio.M M_Ratio.F (hr.mono (by decide)) (by rfl) M_Ratio.mgC M_Ratio.b .nil pass0 (pa_cons (pe_op op_sub (pe_op op_mulW (pe_fld (pv 0) rfl) (pv 3)) (pe_op op_mulW (pv 2) (pe_fld (pv 0) rfl))) (pa_cons (pe_op op_mulW (pe_fld (pv 0) rfl) (pv 3)) pa_nil)))))), ?_⟩
    have hv := hq.at_
    obtain ⟨dx, h0⟩ := id hp
    obtain ⟨t, b, c, ty, hb, hc, hbc⟩ := hv.info T_Ratio.toClT
    refine ⟨rfl, _, rfl, _, t, b, c, rfl, ty, hb, hc, _, rfl, iteNot hbc ?_⟩
    refine ⟨_, rfl, _, _, _, rfl, hv, fun p1 hp1 => ⟨_, _, rfl, SqT.of upd_same, rfl, _, _, rfl, _, _, rfl, rfl, ?_⟩⟩
    have s1 : Same H (upd H p1 (.tup [.int q.num, .int (q.den : Int)])) := same_new hp1
    have h1 := s1 _ _ h0
    refine ⟨_, rfl, _, C, dx, _, _, rfl, h1, T_Ratio.cl, T_Ratio.nT, ratF_top _ _, _, rfl, _, _, rfl, rfl, ((z4 zp).1.mul (z4 zq).2), _, rfl, _, rfl, _, C, dx, _, _, rfl, h1, T_Ratio.cl, T_Ratio.nB, ratF_bot _ _, _, _, rfl, rfl, ((z4 zq).1.mul (z4 zp).2), _, _, rfl, rfl, _, rfl, _, C, dx, _, _, rfl, h1, T_Ratio.cl, T_Ratio.nB, ratF_bot _ _, _, rfl, _, _, rfl, rfl, ((z4 zp).2.mul (z4 zq).2), ?_⟩
    exact mkQ (dm_ne p q) (szd zp zq) (q_sub p q) fun x H' s2 r => k x H' (s1.trans s2) r
abbrev sMul : Stmt := inClass (top 19) 12
theorem scMul : FnScope ["self", "other", "top", "bottom"] ["self", "other"] (defScope sMul) := ⟨rfl, rfl, rfl, by decide +kernel, rfl, by decide +kernel, by decide +kernel⟩
theorem ok_mul {f p1 f1 f2 f3 : Addr} {fd fd1 fd2 fd3 : FuncData} (F : Fun K "__mul__" "Ratio.__mul__" sMul f fd) (T_Ratio : RatT K mg C) (S_Ratio_is_number : Sta P w K mg base 2 C "is_number" p1 f1 fd1 ["value"] (spIsNum K C)) (C_parts_of : Cal P w K mg base 1 "parts_of" f2 fd2 ["number"] (spParts C)) (M_Ratio : Mak P w K mg base 2 "Ratio" C f3 fd3 ["self", "top", "bottom"] (spRInit C)) :
    FnOk P w K mg base CX0 4 f fd ["self", "other"] (spBin C GT fun p q => p * q) := by
  refine F.ok scMul (fun vs H Q E h => ?_) (fun cdv A outer s H vs Q E hr h => ?_)
  · obtain ⟨a, u, p, q, rfl, _⟩ := h
    rfl
  · obtain ⟨a, u, p, q, rfl, hp, hq, ⟨zp, zq⟩, hG, k⟩ := h
    have nd := scMul.nd
    refine ⟨_, pss_cons (ps_if (pt_not (pt_val (Own.pe_smeth T_Ratio.rd S_Ratio_is_number.s S_Ratio_is_number.F (hr.mono (by decide)) S_Ratio_is_number.b pass0 (Own.pe_gref (by rfl) T_Ratio.mgC) (pa_cons (pv 1) pa_nil)))) pss_never pss_nil)
      (pss_cons (ps_asg (pe_call C_parts_of.F (hr.mono (by decide)) (by rfl) C_parts_of.mgf C_parts_of.kp C_parts_of.b .nil pass0 (pa_cons (pv 1) pa_nil)) (pg_tup (by rfl) (pgs_cons (pg_name (i := 2) nd rfl (Or.inl rfl)) (pgs_cons (pg_name (i := 3) nd rfl (Or.inl rfl)) pgs_nil))))
      (pss_one (ps_ret (pe_make M_Ratio.M M_Ratio.F (hr.mono (by decide)) (by rfl) M_Ratio.mgC M_Ratio.b .nil pass0 (pa_cons (pe_op op_mulW (pe_fld (pv 0) rfl) (pv 2)) (pa_cons (pe_op op_mulW (pe_fld (pv 0) rfl) (pv 3)) pa_nil)))))), ?_⟩
    have hv := hq.at_
    obtain ⟨dx, h0⟩ := id hp
    obtain ⟨t, b, c, ty, hb, hc, hbc⟩ := hv.info T_Ratio.toClT
    refine ⟨rfl, _, rfl, _, t, b, c, rfl, ty, hb, hc, _, rfl, iteNot hbc ?_⟩
    refine ⟨_, rfl, _, _, _, rfl, hv, fun p1 hp1 => ⟨_, _, rfl, SqT.of upd_same, rfl, _, _, rfl, _, _, rfl, rfl, ?_⟩⟩
    have s1 : Same H (upd H p1 (.tup [.int q.num, .int (q.den : Int)])) := same_new hp1
    have h1 := s1 _ _ h0
    refine ⟨_, rfl, _, C, dx, _, _, rfl, h1, T_Ratio.cl, T_Ratio.nT, ratF_top _ _, _, rfl, _, _, rfl, rfl, ((z4 zp).1.mul (z4 zq).1), _, rfl, _, C, dx, _, _, rfl, h1, T_Ratio.cl, T_Ratio.nB, ratF_bot _ _, _, rfl, _, _, rfl, rfl, ((z4 zp).2.mul (z4 zq).2), ?_⟩
    exact mkQ (dm_ne p q) (szd zp zq) (q_mul p q) fun x H' s2 r => k x H' (s1.trans s2) r
end
end Toy
set_option maxRecDepth 100000
set_option maxHeartbeats 4000000
set_option exponentiation.threshold 3000
namespace Toy
open PySem L2
open Rat (divInt)
theorem q_abs (p : Rat) : divInt (if p.num < 0 then -p.num else p.num) p.den = p.abs := by
  by_cases h : p.num < 0
  · rw [if_pos h, q_neg, Rat.abs, if_neg]
    intro z
    have := Rat.num_nonneg.mpr z
    omega
  · rw [if_neg h, Rat.num_divInt_den, Rat.abs, if_pos (Rat.num_nonneg.mp (by omega))]
theorem eqvT (n m x y : Int) : PyData.eqv (.tuple [.int n, .int m]) (.tuple [.int x, .int y]) = (decide (n = x) && decide (m = y)) := by
  show (n == x && (m == y && true)) = _
  rw [Bool.and_true]
  rfl
section
variable {P : Program} {w : World} {K : PySem.W.Frag} {mg : Str → Option Value} {base : Heap} {C : Addr}
/-- facts for an operator of Ratio with a Ratio at the left -/
structure BinF (K : PySem.W.Frag) (C : Addr) (op : Operator) : Prop where
  hc : PySem.W.selfFirst K C = true
  hR : ∃ rc, PySem.W.findIn K (.ref C) (dunderR op.info.2) = some rc ∧ (rc = none ∨ ∃ g : Addr, rc = some (.ref g))
  h1 : ∃ fo, PySem.W.findIn K (.type "int") (PySem.dunder op.info.2) = some fo
  h2 : ∃ ro, PySem.W.findIn K (.type "int") (dunderR op.info.2) = some ro
  hs : PySem.W.subIn K (.type "int") (.ref C) = some false
theorem op_B {X : Cx} {CX : CXT} {k : Nat} {f : Addr} {fd : FuncData} {ps : List Str} {sp : Sp} {E : XK} {op : Operator} (B : BinF X.K C op) (F : FnOk X.prog X.w X.K X.mg X.base CX k f fd ps sp) (hr : Room k X.A)
    (hs : PySem.W.findIn X.K (.ref C) (PySem.dunder op.info.2) = some (some (.ref f))) (hf : PySem.W.isFn X.K (.ref f) = true) (hb : Binds X.K fd ps []) (hx : Passes CX X E) : OpR X (binaryOp op) (Own.rOwnB C sp E) := by
  obtain ⟨rc, hR, hp⟩ := B.hR
  obtain ⟨fo, h1⟩ := B.h1
  obtain ⟨ro, h2⟩ := B.h2
  exact Own.op_ownB F hr hs hf B.hc hR hp h1 h2 B.hs hb hx
abbrev sNeg : Stmt := inClass (top 19) 18
theorem scNeg : FnScope ["self"] ["self"] (defScope sNeg) := ⟨rfl, rfl, rfl, by decide +kernel, rfl, by decide +kernel, by decide +kernel⟩
theorem ok_neg {f f3 : Addr} {fd fd3 : FuncData} (F : Fun K "__neg__" "Ratio.__neg__" sNeg f fd) (T_Ratio : RatT K mg C) (M_Ratio : Mak P w K mg base 2 "Ratio" C f3 fd3 ["self", "top", "bottom"] (spRInit C)) :
    FnOk P w K mg base CX0 4 f fd ["self"] (spUn C fun p => -p) := by
  refine F.ok scNeg (fun vs H Q E h => ?_) (fun cdv A outer s H vs Q E hr h => ?_)
  · obtain ⟨a, p, rfl, _⟩ := h
    rfl
  · obtain ⟨a, p, rfl, hp, zp, k⟩ := h
    have nd := scNeg.nd
    refine ⟨_, pss_one (ps_ret (pe_make M_Ratio.M M_Ratio.F (hr.mono (by decide)) (by rfl) M_Ratio.mgC M_Ratio.b .nil pass0 (pa_cons (pe_un un_neg (pe_fld (pv 0) rfl)) (pa_cons (pe_fld (pv 0) rfl) pa_nil)))), ?_⟩
    obtain ⟨dx, h1⟩ := id hp
    refine ⟨_, rfl, _, C, dx, _, _, rfl, h1, T_Ratio.cl, T_Ratio.nT, ratF_top _ _, _, rfl, _, rfl, _, C, dx, _, _, rfl, h1, T_Ratio.cl, T_Ratio.nB, ratF_bot _ _, ?_⟩
    exact mkQ (den_ne p) (z4 zp).2 (q_neg p) k
abbrev sAbs : Stmt := inClass (top 19) 19
theorem scAbs : FnScope ["self"] ["self"] (defScope sAbs) := ⟨rfl, rfl, rfl, by decide +kernel, rfl, by decide +kernel, by decide +kernel⟩
theorem ok_abs {f f3 : Addr} {fd fd3 : FuncData} (F : Fun K "__abs__" "Ratio.__abs__" sAbs f fd) (T : Bl mg) (T_Ratio : RatT K mg C) (M_Ratio : Mak P w K mg base 2 "Ratio" C f3 fd3 ["self", "top", "bottom"] (spRInit C)) :
    FnOk P w K mg base CX0 4 f fd ["self"] (spUn C Rat.abs) := by
  refine F.ok scAbs (fun vs H Q E h => ?_) (fun cdv A outer s H vs Q E hr h => ?_)
  · obtain ⟨a, p, rfl, _⟩ := h
    rfl
  · obtain ⟨a, p, rfl, hp, zp, k⟩ := h
    have nd := scAbs.nd
    refine ⟨_, pss_one (ps_ret (pe_make M_Ratio.M M_Ratio.F (hr.mono (by decide)) (by rfl) M_Ratio.mgC M_Ratio.b .nil pass0 (pa_cons (pe_callB call_abs (by rfl) T.abs (by decide +kernel) (pa_cons (pe_fld (pv 0) rfl) pa_nil)) (pa_cons (pe_fld (pv 0) rfl) pa_nil)))), ?_⟩
    obtain ⟨dx, h1⟩ := id hp
    refine ⟨_, rfl, _, C, dx, _, _, rfl, h1, T_Ratio.cl, T_Ratio.nT, ratF_top _ _, _, rfl, _, rfl, _, C, dx, _, _, rfl, h1, T_Ratio.cl, T_Ratio.nB, ratF_bot _ _, ?_⟩
    exact mkQ (den_ne p) (z4 zp).2 (q_abs p) k
/-- == with a number -/
def spEqQ (C : Addr) : Sp := fun vs H Q _ => ∃ a u p q, vs = [.ref a, u] ∧ RatQ C H a p ∧ NumQ C H u q ∧ ∀ H', Same H H' → Q (.bl (decide (p = q))) H'
abbrev sEq : Stmt := inClass (top 19) 21
theorem scEq : FnScope ["self", "other"] ["self", "other"] (defScope sEq) := ⟨rfl, rfl, rfl, by decide +kernel, rfl, by decide +kernel, by decide +kernel⟩
theorem ok_eq {f p1 f1 f2 : Addr} {fd fd1 fd2 : FuncData} (F : Fun K "__eq__" "Ratio.__eq__" sEq f fd) (T_Ratio : RatT K mg C) (S_Ratio_is_number : Sta P w K mg base 2 C "is_number" p1 f1 fd1 ["value"] (spIsNum K C)) (C_parts_of : Cal P w K mg base 1 "parts_of" f2 fd2 ["number"] (spParts C)) :
    FnOk P w K mg base CX0 3 f fd ["self", "other"] (spEqQ C) := by
  refine F.ok scEq (fun vs H Q E h => ?_) (fun cdv A outer s H vs Q E hr h => ?_)
  · obtain ⟨a, u, p, q, rfl, _⟩ := h
    rfl
  · obtain ⟨a, u, p, q, rfl, hp, hq, k⟩ := h
    have nd := scEq.nd
    refine ⟨_, pss_cons (ps_if (pt_not (pt_val (Own.pe_smeth T_Ratio.rd S_Ratio_is_number.s S_Ratio_is_number.F (hr.mono (by decide)) S_Ratio_is_number.b pass0 (Own.pe_gref (by rfl) T_Ratio.mgC) (pa_cons (pv 1) pa_nil)))) (pss_one (ps_ret pe_bl)) pss_nil)
      (pss_one (ps_ret (pe_cmpR (op_eqD hr.units) (pe_call C_parts_of.F (hr.mono (by decide)) (by rfl) C_parts_of.mgf C_parts_of.kp C_parts_of.b .nil pass0 (pa_cons (pv 0) pa_nil)) (pe_call C_parts_of.F (hr.mono (by decide)) (by rfl) C_parts_of.mgf C_parts_of.kp C_parts_of.b .nil pass0 (pa_cons (pv 1) pa_nil)) (nomark _)))), ?_⟩
    obtain ⟨t, b, c, ty, hb, hc, hbc⟩ := hq.at_.info T_Ratio.toClT
    refine ⟨rfl, _, rfl, _, t, b, c, rfl, ty, hb, hc, _, rfl, iteNot hbc ?_⟩
    refine ⟨_, rfl, _, _, _, rfl, (NumQ.rat hp).at_, fun x1 hx1 => ?_⟩
    have s1 : Same H (upd H x1 (.tup [.int p.num, .int (p.den : Int)])) := same_new hx1
    refine ⟨_, rfl, _, _, _, rfl, (hq.same s1).at_, fun x2 hx2 => ?_⟩
    have s2 := same_new (o := .tup [.int q.num, .int (q.den : Int)]) hx2
    refine ⟨_, _, .tup (SqT.of (s2 _ _ upd_same)) (.cons (.int _) (.cons (.int _) .nil)), .tup (SqT.of upd_same) (.cons (.int _) (.cons (.int _) .nil)), rfl, rfl, ?_⟩
    rw [eqvT, q_eq]
    exact k _ (s1.trans s2)
/-- the whole quotient -/
def spQuo (C : Addr) : Sp := fun vs H Q _ => ∃ v u p q, vs = [v, u] ∧ NumQ C H v p ∧ NumQ C H u q ∧ (Sq 3900 p ∧ Sq 3900 q) ∧ q ≠ 0 ∧ ∀ H', Same H H' → Q (.int (p / q).floor) H'
abbrev sQuo : Stmt := top 23
theorem scQuo : FnScope ["one", "other", "top", "bottom", "other_top", "other_bottom"] ["one", "other"] (defScope sQuo) := ⟨rfl, rfl, rfl, by decide +kernel, rfl, by decide +kernel, by decide +kernel⟩
theorem ok_quo {f f2 : Addr} {fd fd2 : FuncData} (F : Fun K "_quotient" "_quotient" sQuo f fd) (C_parts_of : Cal P w K mg base 1 "parts_of" f2 fd2 ["number"] (spParts C)) :
    FnOk P w K mg base CX0 2 f fd ["one", "other"] (spQuo C) := by
  refine F.ok scQuo (fun vs H Q E h => ?_) (fun cdv A outer s H vs Q E hr h => ?_)
  · obtain ⟨v, u, p, q, rfl, _⟩ := h
    rfl
  · obtain ⟨v, u, p, q, rfl, hp, hq, ⟨zp, zq⟩, h0, k⟩ := h
    have nd := scQuo.nd
    refine ⟨_, pss_cons (ps_asg (pe_call C_parts_of.F (hr.mono (by decide)) (by rfl) C_parts_of.mgf C_parts_of.kp C_parts_of.b .nil pass0 (pa_cons (pv 0) pa_nil)) (pg_tup (by rfl) (pgs_cons (pg_name (i := 2) nd rfl (Or.inl rfl)) (pgs_cons (pg_name (i := 3) nd rfl (Or.inl rfl)) pgs_nil))))
      (pss_cons (ps_asg (pe_call C_parts_of.F (hr.mono (by decide)) (by rfl) C_parts_of.mgf C_parts_of.kp C_parts_of.b .nil pass0 (pa_cons (pv 1) pa_nil)) (pg_tup (by rfl) (pgs_cons (pg_name (i := 4) nd rfl (Or.inl rfl)) (pgs_cons (pg_name (i := 5) nd rfl (Or.inl rfl)) pgs_nil))))
      (pss_cons (ps_if (pt_cmpR op_eq (pv 4) pe_int (nomark _)) pss_never pss_nil)
      (pss_one (ps_ret (pe_op op_fdivZ (pe_op op_mulW (pv 2) (pv 5)) (pe_op op_mulW (pv 3) (pv 4))))))), ?_⟩
    refine ⟨_, rfl, _, _, _, rfl, hp.at_, fun x1 hx1 => ⟨_, _, rfl, SqT.of upd_same, rfl, _, _, rfl, _, _, rfl, rfl, ?_⟩⟩
    have s1 : Same H (upd H x1 (.tup [.int p.num, .int (p.den : Int)])) := same_new hx1
    refine ⟨_, rfl, _, _, _, rfl, (hq.same s1).at_, fun x2 hx2 => ⟨_, _, rfl, SqT.of upd_same, rfl, _, _, rfl, _, _, rfl, rfl, ?_⟩⟩
    have s2 := same_new (o := .tup [.int q.num, .int (q.den : Int)]) hx2
    refine ⟨_, rfl, rfl, _, rfl, ?_⟩
    refine ite2 (fun e => absurd e (vint_ne (num_ne h0))) (fun _ => ?_)
    have hd : (p.den : Int) * q.num ≠ 0 := dn_ne p h0
    have zd : Sz ((p.den : Int) * q.num) := Nat.lt_of_lt_of_le (mul_lt zp.dd zq.1) (Nat.pow_le_pow_right (by decide) (by decide))
    refine ⟨_, rfl, _, rfl, _, _, rfl, rfl, (z4 zp).1.mul (z4 zq).2, _, rfl, _, rfl, _, _, rfl, rfl, (z4 zp).2.mul (z4 zq).1, _, _, rfl, rfl, zd.div hd, ?_⟩
    show Q (.int ((p.num * (q.den : Int)).fdiv ((p.den : Int) * q.num))) _
    rw [q_fdiv hd, q_div]
    exact k _ (s1.trans s2)
abbrev sRAdd : Stmt := inClass (top 19) 9
theorem scRAdd : FnScope ["self", "other"] ["self", "other"] (defScope sRAdd) := ⟨rfl, rfl, rfl, by decide +kernel, rfl, by decide +kernel, by decide +kernel⟩
theorem ok_radd {f g : Addr} {fd gd : FuncData} (F : Fun K "__radd__" "Ratio.__radd__" sRAdd f fd) (B : BinF K C .Add) (O : Opr P w K mg base 4 C "__add__" g gd ["self", "other"] (spBin C GT fun p q => p + q)) :
    FnOk P w K mg base CX0 5 f fd ["self", "other"] (spBin C GT fun p q => p + q) := by
  refine F.ok scRAdd (fun vs H Q E h => ?_) (fun cdv A outer s H vs Q E hr h => ?_)
  · obtain ⟨a, u, p, q, rfl, _⟩ := h
    rfl
  · obtain ⟨a, u, p, q, rfl, hp, hq, z, g, k⟩ := h
    have nd := scRAdd.nd
    refine ⟨_, pss_one (ps_ret (pe_op (op_B B O.F (hr.mono (by decide)) O.at_ O.fn O.b pass0) (pv 0) (pv 1))), ?_⟩
    obtain ⟨dx, fs, h1⟩ := hp.ins
    exact ⟨_, rfl, _, rfl, a, dx, fs, rfl, h1, hq.ri, a, u, p, q, rfl, hp, hq, z, g, k⟩
abbrev sRMul : Stmt := inClass (top 19) 13
theorem scRMul : FnScope ["self", "other"] ["self", "other"] (defScope sRMul) := ⟨rfl, rfl, rfl, by decide +kernel, rfl, by decide +kernel, by decide +kernel⟩
theorem ok_rmul {f g : Addr} {fd gd : FuncData} (F : Fun K "__rmul__" "Ratio.__rmul__" sRMul f fd) (B : BinF K C .Mult) (O : Opr P w K mg base 4 C "__mul__" g gd ["self", "other"] (spBin C GT fun p q => p * q)) :
    FnOk P w K mg base CX0 5 f fd ["self", "other"] (spBin C GT fun p q => p * q) := by
  refine F.ok scRMul (fun vs H Q E h => ?_) (fun cdv A outer s H vs Q E hr h => ?_)
  · obtain ⟨a, u, p, q, rfl, _⟩ := h
    rfl
  · obtain ⟨a, u, p, q, rfl, hp, hq, z, g, k⟩ := h
    have nd := scRMul.nd
    refine ⟨_, pss_one (ps_ret (pe_op (op_B B O.F (hr.mono (by decide)) O.at_ O.fn O.b pass0) (pv 0) (pv 1))), ?_⟩
    obtain ⟨dx, fs, h1⟩ := hp.ins
    exact ⟨_, rfl, _, rfl, a, dx, fs, rfl, h1, hq.ri, a, u, p, q, rfl, hp, hq, z, g, k⟩
abbrev sFDiv : Stmt := inClass (top 19) 14
theorem scFDiv : FnScope ["self", "other"] ["self", "other"] (defScope sFDiv) := ⟨rfl, rfl, rfl, by decide +kernel, rfl, by decide +kernel, by decide +kernel⟩
theorem ok_fdiv {f p1 f1 f2 : Addr} {fd fd1 fd2 : FuncData} (F : Fun K "__floordiv__" "Ratio.__floordiv__" sFDiv f fd) (T_Ratio : RatT K mg C) (S_Ratio_is_number : Sta P w K mg base 2 C "is_number" p1 f1 fd1 ["value"] (spIsNum K C)) (C__quotient : Cal P w K mg base 2 "_quotient" f2 fd2 ["one", "other"] (spQuo C)) :
    FnOk P w K mg base CX0 3 f fd ["self", "other"] (spQuo C) := by
  refine F.ok scFDiv (fun vs H Q E h => ?_) (fun cdv A outer s H vs Q E hr h => ?_)
  · obtain ⟨v, u, p, q, rfl, _⟩ := h
    rfl
  · obtain ⟨v, u, p, q, rfl, hp, hq, z, h0, k⟩ := h
    have nd := scFDiv.nd
    refine ⟨_, pss_cons (ps_if (pt_not (pt_val (Own.pe_smeth T_Ratio.rd S_Ratio_is_number.s S_Ratio_is_number.F (hr.mono (by decide)) S_Ratio_is_number.b pass0 (Own.pe_gref (by rfl) T_Ratio.mgC) (pa_cons (pv 1) pa_nil)))) pss_never pss_nil)
      (pss_one (ps_ret (pe_call C__quotient.F (hr.mono (by decide)) (by rfl) C__quotient.mgf C__quotient.kp C__quotient.b .nil pass0 (pa_cons (pv 0) (pa_cons (pv 1) pa_nil))))), ?_⟩
    obtain ⟨t, b, c, ty, hb, hc, hbc⟩ := hq.at_.info T_Ratio.toClT
    refine ⟨rfl, _, rfl, _, t, b, c, rfl, ty, hb, hc, _, rfl, iteNot hbc ?_⟩
    exact ⟨_, rfl, _, rfl, v, u, p, q, rfl, hp, hq, z, h0, k⟩
/-- a number as a Ratio -/
def spOfQ (C : Addr) : Sp := fun vs H Q _ => ∃ v q, vs = [v] ∧ NumQ C H v q ∧ ∀ r H', RatQ C H' r q → Same H H' → Q (.ref r) H'
theorem gcdI_one (i : Int) : gcdI i 1 = 1 := by
  unfold gcdI
  show ((Nat.gcd i.natAbs 1 : Nat) : Int) = 1
  rw [Nat.gcd_one_right]
  rfl
theorem Sz1 : Sz 1 := by unfold Sz; decide +kernel
theorem q_int (i : Int) : divInt i 1 = (i : Rat) := by
  rw [Rat.divInt_eq_div]
  have h : ((1 : Int) : Rat) = 1 := rfl
  grind
abbrev sOf : Stmt := inClass (top 19) 3
theorem scOf : FnScope ["number"] ["number"] (defScope sOf) := ⟨rfl, rfl, rfl, by decide +kernel, rfl, by decide +kernel, by decide +kernel⟩
theorem ok_of {f f1 f2 : Addr} {fd fd1 fd2 : FuncData} {dvs : List Value} (F : Fun K "of" "Ratio.of" sOf f fd) (T : Bl mg) (T_Ratio : RatT K mg C) (C_is_int : Cal P w K mg base 1 "is_int" f1 fd1 ["value"] (spIsInt K))
    (M_Ratio : Mak P w K mg base 2 "Ratio" C f2 fd2 ["self", "top", "bottom"] (spRInit C)) (hd : Vals [V.int 1] dvs) (hb1 : Binds K fd2 ["self", "top", "bottom"] dvs) : FnOk P w K mg base CX0 4 f fd ["number"] (spOfQ C) := by
  refine F.ok scOf (fun vs H Q E h => ?_) (fun cdv A outer s H vs Q E hr h => ?_)
  · obtain ⟨v, q, rfl, _⟩ := h
    rfl
  · obtain ⟨v, q, rfl, hv, k⟩ := h
    have nd := scOf.nd
    refine ⟨_, pss_cons (ps_if (pt_val (pe_callB call_isi (by rfl) T.isinstance (by decide +kernel) (pa_cons (pv 0) (pa_cons (Own.pe_gref (by rfl) T_Ratio.mgC) pa_nil)))) (pss_one (ps_ret (pv 0))) pss_nil)
      (pss_cons (ps_if (pt_not (pt_val (pe_call C_is_int.F (hr.mono (by decide)) (by rfl) C_is_int.mgf C_is_int.kp C_is_int.b .nil pass0 (pa_cons (pv 0) pa_nil)))) pss_never pss_nil)
      (pss_one (ps_ret (pe_make M_Ratio.M M_Ratio.F (hr.mono (by decide)) (by rfl) M_Ratio.mgC hb1 hd pass0 (pa_cons (pv 0) pa_nil))))), ?_⟩
    rcases hv.cases with ⟨i, rfl, rfl⟩ | ⟨a, rfl, hR⟩
    · refine ⟨_, rfl, _, _, _, _, false, rfl, .own _, .base (.int _), T_Ratio.iK, _, rfl, iteF ?_⟩
      refine ⟨_, rfl, _, _, true, rfl, .base (.int _), isIntK_int, _, rfl, iteF ?_⟩
      exact ⟨_, rfl, mkQ (by decide) Sz1 (q_int i) fun x H' s1 hR => k x H' hR s1⟩
    · obtain ⟨dx, h⟩ := id hR
      refine ⟨_, rfl, _, _, _, _, true, rfl, .own _, T_Ratio.ty h, T_Ratio.kS, _, rfl, iteT ?_⟩
      exact ⟨_, rfl, k a H hR (Same.refl H)⟩
/-- the rest -/
def qmod (p q : Rat) : Rat := p - ((p / q).floor : Rat) * q
def spMod (C : Addr) : Sp := spBin C (fun p q => q ≠ 0 ∧ Sq 1000 p ∧ Sq 1000 q) qmod
/-- int at the left, the reflected operator -/
theorem op_R {X : Cx} {CX : CXT} {k : Nat} {f f0 : Addr} {fd : FuncData} {ps : List Str} {sp : Sp} {E : XK} {op : Operator} {id : String} {Bi : Builtin} (B : BinF X.K C op) (F : FnOk X.prog X.w X.K X.mg X.base CX k f fd ps sp) (hr : Room k X.A)
    (hs : PySem.W.findIn X.K (.ref C) (dunderR op.info.2) = some (some (.ref f))) (hf : PySem.W.isFn X.K (.ref f) = true) (hs0 : PySem.W.findIn X.K (.ref C) (PySem.dunder op.info.2) = some (some (.ref f0))) (hsub : PySem.W.subIn X.K (.ref C) (.type "int") = some false)
    (hb : Binds X.K fd ps []) (hx : Passes CX X E) (fills : fillsNumberSlot (.type "int") op.info.2 = pure true) (slot : Slot "int" (PySem.dunder op.info.2) id) (entry : entryFor table id = some Bi) (args : ∀ a b, argsOk id ⟨[a, b], []⟩)
    (dec : ∀ (b : Int) (u : Tok) (l : Addr) (C dx : Addr), Meets (Bi ⟨[.int b u, .ref l], []⟩) (fun _ R s => s.heap.get? l = some (PySem.W.instObj C dx) ∧ R (.ok (.ret .notImplemented)) s)) : OpR X (binaryOp op) (Own.rReflB C sp E) :=
  Own.op_reflB F hr hs hf hs0 B.hc hsub hb hx fills slot entry args dec
theorem floor_sz {p q : Rat} (zp : Sq 1000 p) (zq : Sq 1000 q) (h : q ≠ 0) : (p / q).floor.natAbs < 2 ^ 2001 := by
  have h1 := (zp.div zq h).1
  rw [Rat.floor_def]
  have h2 := Int.natAbs_ediv_le_natAbs (p / q).num ((p / q).den : Int)
  exact Nat.lt_of_le_of_lt h2 (Nat.lt_of_lt_of_le h1 (Nat.pow_le_pow_right (by decide) (by decide)))
abbrev sMod : Stmt := inClass (top 19) 16
theorem scMod : FnScope ["self", "other"] ["self", "other"] (defScope sMod) := ⟨rfl, rfl, rfl, by decide +kernel, rfl, by decide +kernel, by decide +kernel⟩
theorem ok_mod {f p1 f1 f2 f3 p3 f4 f5 f6 : Addr} {fd fd1 fd2 fd3 fd4 fd5 fd6 : FuncData} (F : Fun K "__mod__" "Ratio.__mod__" sMod f fd) (T_Ratio : RatT K mg C) (S_Ratio_is_number : Sta P w K mg base 2 C "is_number" p1 f1 fd1 ["value"] (spIsNum K C)) (C__quotient : Cal P w K mg base 2 "_quotient" f2 fd2 ["one", "other"] (spQuo C))
    (S_Ratio_of : Sta P w K mg base 4 C "of" p3 f3 fd3 ["number"] (spOfQ C)) (BM : BinF K C .Mult) (BS : BinF K C .Sub) (O_mul : Opr P w K mg base 4 C "__mul__" f4 fd4 ["self", "other"] (spBin C GT fun p q => p * q)) (O_rmul : Opr P w K mg base 5 C "__rmul__" f5 fd5 ["self", "other"] (spBin C GT fun p q => p * q))
    (O_sub : Opr P w K mg base 4 C "__sub__" f6 fd6 ["self", "other"] (spBin C GT fun p q => p - q)) :
    FnOk P w K mg base CX0 6 f fd ["self", "other"] (spMod C) := by
  refine F.ok scMod (fun vs H Q E h => ?_) (fun cdv A outer s H vs Q E hr h => ?_)
  · obtain ⟨v, u, p, q, rfl, _⟩ := h
    rfl
  · obtain ⟨v, u, p, q, rfl, hp, hq, z, ⟨h0, yp, yq⟩, k⟩ := h
    have nd := scMod.nd
    refine ⟨_, pss_cons (ps_if (pt_not (pt_val (Own.pe_smeth T_Ratio.rd S_Ratio_is_number.s S_Ratio_is_number.F (hr.mono (by decide)) S_Ratio_is_number.b pass0 (Own.pe_gref (by rfl) T_Ratio.mgC) (pa_cons (pv 1) pa_nil)))) pss_never pss_nil)
      (pss_one (ps_ret (pe_op (op_B BS O_sub.F (hr.mono (by decide)) O_sub.at_ O_sub.fn O_sub.b pass0) (pv 0) (pe_op (op_R BM O_rmul.F (hr.mono (by decide)) O_rmul.at_ O_rmul.fn O_mul.at_ T_Ratio.sI O_rmul.b pass0 PySem.F.fills_int_mul PySem.F.slot_int_mul PySem.F.entry_int_mul PySem.F.args_int_mul_2 Own.int_mul_dec) (pe_call C__quotient.F (hr.mono (by decide)) (by rfl) C__quotient.mgf C__quotient.kp C__quotient.b .nil pass0 (pa_cons (pv 0) (pa_cons (pv 1) pa_nil))) (Own.pe_smeth T_Ratio.rd S_Ratio_of.s S_Ratio_of.F (hr.mono (by decide)) S_Ratio_of.b pass0 (Own.pe_gref (by rfl) T_Ratio.mgC) (pa_cons (pv 1) pa_nil)))))), ?_⟩
    obtain ⟨t, b, c, ty, hb, hc, hbc⟩ := hq.at_.info T_Ratio.toClT
    refine ⟨rfl, _, rfl, _, t, b, c, rfl, ty, hb, hc, _, rfl, iteNot hbc ?_⟩
    refine ⟨_, rfl, _, rfl, _, rfl, _, _, p, q, rfl, .rat hp, hq, z, h0, fun H1 s1 => ?_⟩
    refine ⟨rfl, _, rfl, _, q, rfl, hq.same s1, fun r H2 hr2 s2 => ?_⟩
    obtain ⟨dx, fs, h1⟩ := hr2.ins
    have zf : Sq 2001 ((p / q).floor : Rat) := Sq.int (floor_sz yp yq h0) (by decide)
    refine ⟨_, r, dx, fs, rfl, rfl, h1, r, _, q, _, rfl, hr2, .int _, ⟨z.2, zf.mono (by decide)⟩, True.intro, fun x H3 s3 hx => ?_⟩
    have hp3 := hp.same (s1.trans (s2.trans s3))
    obtain ⟨dv, gs, hv1⟩ := hp3.ins
    obtain ⟨dx2, fs2, hx2⟩ := hx.ins
    refine ⟨v, dv, gs, rfl, hv1, .inr ⟨x, dx2, fs2, rfl, hx2⟩, v, _, p, _, rfl, hp3, .rat hx, ⟨z.1, (yq.mul zf).mono (by decide)⟩, True.intro, fun y H4 s4 hy => ?_⟩
    refine k y H4 (s1.trans (s2.trans (s3.trans s4))) ?_
    unfold qmod
    rw [Rat.mul_comm _ q]
    exact hy
end
end Toy
set_option maxRecDepth 100000
set_option maxHeartbeats 4000000
set_option exponentiation.threshold 3000
namespace Toy
open PySem L2
open Rat (divInt)
/-! ### comparisons, read in rationals -/
theorem q_self {q : Rat} (h : (q.den : Int) = 1) : q = (q.num : Rat) := by
  apply Rat.ext
  · rw [Rat.num_intCast]
  · rw [Rat.den_intCast]
    omega
section
variable {P : Program} {w : World} {K : PySem.W.Frag} {mg : Str → Option Value} {base : Heap} {C : Addr} {H : Hp} {a : Addr} {u : V} {p q : Rat} {Q : VK} {E : XK} {g g1 g2 : Int → Bool} {r : Bool}
theorem cmpL (T : RatT K mg C) (hp : RatQ C H a p) (hq : NumQ C H u q) (zp : Sq 3900 p) (zq : Sq 3900 q) (e : g (p.num * q.den - q.num * p.den) = r) (k : ∀ H', Same H H' → Q (.bl r) H') : Own.rOwnC K C (spCmp C g) E (.ref a) u H Q := by
  obtain ⟨dx, h⟩ := id hp
  have ty : ∃ t, TyX K H u t ∧ PySem.W.notFirst K C t = true := by
    rcases hq.cases with ⟨i, rfl, _⟩ | ⟨b, rfl, hb⟩
    · exact ⟨_, .base (.int _), T.nI⟩
    · obtain ⟨dy, h2⟩ := hb
      exact ⟨_, T.ty h2, T.nC⟩
  obtain ⟨t, t1, t2⟩ := ty
  exact ⟨a, dx, _, t, rfl, h, t1, t2, _, _, _, _, _, _, rfl, (NumQ.rat hp).at_, hq.at_, ⟨(z4 zp).1, (z4 zp).2, (z4 zq).1, (z4 zq).2⟩, fun H' s => ⟨⟨_, rfl⟩, by rw [e]; exact k H' s⟩⟩
theorem cmpB (T : RatT K mg C) (hp : RatQ C H a p) (hq : NumQ C H u q) (zp : Sq 3900 p) (zq : Sq 3900 q) (e1 : g1 (q.num * p.den - p.num * q.den) = r) (e2 : g2 (p.num * q.den - q.num * p.den) = r) (k : ∀ H', Same H H' → Q (.bl r) H') :
    Own.rOwnC K C (spCmp C g1) E u (.ref a) H Q ∨ Own.rReflC C (spCmp C g2) E u (.ref a) H Q := by
  rcases hq.cases with ⟨i, rfl, rfl⟩ | ⟨b, rfl, hb⟩
  · obtain ⟨dx, h⟩ := id hp
    exact .inr ⟨i, a, dx, _, rfl, rfl, h, _, _, _, _, _, _, rfl, (NumQ.rat hp).at_, hq.at_, ⟨(z4 zp).1, (z4 zp).2, (z4 zq).1, (z4 zq).2⟩, fun H' s => ⟨⟨_, rfl⟩, by rw [e2]; exact k H' s⟩⟩
  · exact .inl (cmpL T hb (.rat hp) zq zp e1 k)
theorem eqLq {g : Bool → Bool} (hp : RatQ C H a p) (hq : NumQ C H u q) (k : ∀ H', Same H H' → Q (.bl (g (decide (p = q)))) H') : Own.rEqL C (spEqQ C) E g (.ref a) u H Q := by
  obtain ⟨dx, h⟩ := id hp
  exact ⟨a, dx, _, rfl, h, hq.ri, a, u, p, q, rfl, hp, hq, fun H' s => ⟨_, rfl, k H' s⟩⟩
theorem eqBq {g : Bool → Bool} (hp : RatQ C H a p) (hq : NumQ C H u q) (k : ∀ H', Same H H' → Q (.bl (g (decide (p = q)))) H') : Own.rEqL C (spEqQ C) E g u (.ref a) H Q ∨ Own.rEqR C (spEqQ C) E g u (.ref a) H Q := by
  rcases hq.cases with ⟨i, rfl, rfl⟩ | ⟨b, rfl, hb⟩
  · obtain ⟨dx, h⟩ := id hp
    exact .inr ⟨i, a, dx, _, rfl, rfl, h, a, _, p, _, rfl, hp, hq, fun H' s => ⟨_, rfl, k H' s⟩⟩
  · refine .inl (eqLq hb (.rat hp) fun H' s => ?_)
    rw [show decide (q = p) = decide (p = q) from decide_eq_decide.mpr eq_comm]
    exact k H' s
theorem mk_same {H1 H' : Hp} {x dx C : Addr} (hx : H1 x = none) (hdx : H1 dx = none) (hk : ∀ c o, (upd (upd H1 dx (.own x)) x (.ins C dx [])) c = some o → c ≠ x → H' c = some o) : Same H1 H' := fun c o e =>
  hk c o (by rw [upd_ne (ne_of_none e hx), upd_ne (ne_of_none e hdx)]; exact e) (ne_of_none e hx)
theorem asQ {x : Addr} {t b : Int} (hb : b ≠ 0) (e : divInt t b = q) (h : RatAt C H x (lowT t b) (lowB t b)) : RatQ C H x q := by
  rw [low_num hb, low_den hb, e] at h
  exact h
theorem dec_sub1 (x y : Int) : decide (x - y < 0) = decide (x < y) := decide_eq_decide.mpr (by omega)
theorem dec_sub2 (x y : Int) : decide (x - y ≤ 0) = decide (x ≤ y) := decide_eq_decide.mpr (by omega)
theorem dec_sub3 (x y : Int) : decide (0 < x - y) = decide (y < x) := decide_eq_decide.mpr (by omega)
theorem dec_sub4 (x y : Int) : decide (0 ≤ x - y) = decide (y ≤ x) := decide_eq_decide.mpr (by omega)
end
end Toy
set_option maxRecDepth 100000
set_option maxHeartbeats 4000000
set_option exponentiation.threshold 3000
namespace Toy
open PySem L2
open Rat (divInt)
theorem vdec (a b : Int) : decide (V.int a = V.int b) = decide (a = b) := by
  by_cases h : a = b
  · rw [decide_eq_true h, decide_eq_true (congrArg V.int h)]
  · rw [decide_eq_false h, decide_eq_false fun e => h (V.int.inj e)]
theorem iteTb {b : Bool} {A B : Prop} (h : b = true) (x : A) : if b = true then A else B := by
  subst h
  exact iteT x
theorem iteFb {b : Bool} {A B : Prop} (h : b = false) (x : B) : if b = true then A else B := by
  subst h
  exact iteF x
theorem cm {i j : Int} (h : i.natAbs ≤ 1000000000) : CMul i j := .inl ⟨by omega, by omega⟩
theorem cmr {i j : Int} (h : j.natAbs ≤ 1000000000) : CMul i j := .inr ⟨by omega, by omega⟩
theorem Sz.divW {i j : Int} (h0 : 0 < j) (z : Sz j) : CDivW i j := wide_div h0 z (by decide) (by decide)
theorem gcd_step {x y : Int} (hx : 0 ≤ x) (hy : 0 < y) : gcdI y (x % y) = gcdI x y := by
  obtain ⟨n, rfl⟩ := Int.eq_ofNat_of_zero_le hx
  obtain ⟨m, rfl⟩ := Int.eq_ofNat_of_zero_le (show 0 ≤ y by omega)
  unfold gcdI
  have e : ((n : Int) % (m : Int)) = ((n % m : Nat) : Int) := rfl
  rw [e, Int.natAbs_natCast, Int.natAbs_natCast, Int.natAbs_natCast, Nat.gcd_comm n m, Nat.gcd_rec m n, Nat.gcd_comm m]
theorem gcd_zero {x : Int} (hx : 0 ≤ x) : gcdI x 0 = x := by
  unfold gcdI
  show ((Nat.gcd x.natAbs 0 : Nat) : Int) = x
  rw [Nat.gcd_zero_right]
  omega
section
variable {P : Program} {w : World} {K : PySem.W.Frag} {mg : Str → Option Value} {base : Heap} {C : Addr}
def spPen (K : PySem.W.Frag) : Sp := fun vs H Q _ => ∃ (a : Addr) (ns : List Int), vs = [.ref a] ∧ SqL K H a (ns.map V.int) ∧ ns.length ≤ 63 ∧ ∀ p c H', Same H H' → H p = none → Pen H' p c 0 → Q (.ref p) H'
abbrev sPen : Stmt := top 30
theorem scPe : FnScope ["_law_script"] ["_law_script"] (defScope sPen) := ⟨rfl, rfl, rfl, by decide +kernel, rfl, by decide +kernel, by decide +kernel⟩
theorem cutV_ints (ns : List Int) (lo hi : Option Int) : ∃ ms : List Int, cutV (ns.map V.int) lo hi = ms.map V.int ∧ ms.length ≤ ns.length := by
  refine ⟨(ns.drop (HT.sIx (ns.map V.int).length 0 lo)).take (HT.sIx (ns.map V.int).length (ns.map V.int).length hi - HT.sIx (ns.map V.int).length 0 lo), ?_, ?_⟩
  · unfold cutV
    rw [← List.map_drop, ← List.map_take]
  · rw [List.length_take, List.length_drop]
    omega
theorem ok_pen {f : Addr} {fd : FuncData} (F : Fun K "_law_pen" "_law_pen" sPen f fd) (T : Bl mg) : FnOk P w K mg base CX0 1 f fd ["_law_script"] (spPen K) := by
  refine F.ok scPe (fun vs H Q E h => ?_) (fun cdv A outer s H vs Q E hr h => ?_)
  · obtain ⟨a, ns, rfl, _⟩ := h
    rfl
  · obtain ⟨a, ns, rfl, hS, hl, q⟩ := h
    have nd := scPe.nd
    refine ⟨_, pss_one (ps_ret (pe_lst (pa_cons (pe_callTy call_list_of (by rfl) T.list (by decide +kernel) (pa_cons (pe_slice sl_list (pv 0) po_none (po_some pe_int)) pa_nil)) (pa_cons pe_int (pa_cons pe_int pa_nil))))), ?_⟩
    obtain ⟨ms, e, hm⟩ := cutV_ints ns none (some 63)
    refine ⟨_, rfl, _, rfl, a, _, rfl, hS, fun c1 h1 => ⟨c1, _, rfl, .inl (SqL.of upd_same), fun c2 h2 => ⟨(by decide : 3 ≤ sizeLine), fun p hp => ?_⟩⟩⟩
    have s1 : Same H (upd H c1 (.lst (cutV (ns.map V.int) none (some 63)))) := same_new h1
    have s2 := s1.trans (same_new (o := .lst (cutV (ns.map V.int) none (some 63))) h2)
    have s3 := s2.trans (same_new (o := .lst [.ref c2, .int 0, .int 0]) hp)
    refine q p c2 _ s3 (s2.free hp) ⟨ms, 0, 0, ⟨upd_same, ?_, by omega, by decide⟩, by decide⟩
    have n2 : c2 ≠ p := by
      intro e2
      rw [← e2, upd_same] at hp
      cases hp
    rw [upd_ne n2, upd_same, e]
def spPick : Sp := fun vs H Q _ => ∃ p c s xs k, vs = [.ref p, .ref s] ∧ Pen H p c k ∧ k ≤ 1000000 ∧ H s = some (.lst xs) ∧ s ≠ p ∧ 0 < xs.length ∧ xs.length ≤ 1000 ∧ ∀ v H', v ∈ xs → Pen H' p c (k + 1) → But p H H' → Q v H'
abbrev sPick : Stmt := top 32
theorem scPk : FnScope ["_law_pen_here", "_law_some_here"] ["_law_pen_here", "_law_some_here"] (defScope sPick) := ⟨rfl, rfl, rfl, by decide +kernel, rfl, by decide +kernel, by decide +kernel⟩
theorem small_i {z : Int} (h : z.natAbs ≤ 1000000000) : z.natAbs < 2 ^ 2000 := Nat.lt_of_le_of_lt h (by decide +kernel)
theorem small_len {n : Nat} (h : n ≤ 1000000000) : (n : Int).natAbs < 2 ^ 2000 := Nat.lt_of_le_of_lt (show (n : Int).natAbs ≤ 1000000000 by omega) (by decide +kernel)
theorem ok_pick {f f1 : Addr} {fd fd1 : FuncData} (F : Fun K "_law_pick" "_law_pick" sPick f fd) (T : Bl mg) (C__law_draw : Cal P w K mg base 1 "_law_draw" f1 fd1 ["_law_pen_here", "_law_many"] spDraw) : FnOk P w K mg base CX0 2 f fd ["_law_pen_here", "_law_some_here"] spPick := by
  refine F.ok scPk (fun vs H Q E h => ?_) (fun cdv A outer s H vs Q E hr h => ?_)
  · obtain ⟨p, c, l, xs, k, rfl, _⟩ := h
    rfl
  · obtain ⟨p, c, l, xs, k, rfl, hP, hk, hl, hne, h0, h1, q⟩ := h
    have nd := scPk.nd
    refine ⟨_, pss_one (ps_ret (pe_ix ix_list (pv 1) (pe_call C__law_draw.F (hr.mono (by decide)) (by rfl) C__law_draw.mgf C__law_draw.kp C__law_draw.b .nil pass0 (pa_cons (pv 0) (pa_cons (pe_callB call_len (by rfl) T.len (by decide +kernel) (pa_cons (pv 1) pa_nil)) pa_nil))) (fun _ _ => rfl))), ?_⟩
    refine ⟨_, rfl, _, rfl, _, rfl, _, _, rfl, .inl ⟨_, SqL.of hl, rfl⟩, p, c, _, k, rfl, hP, hk, by omega, small_len (by omega), fun r H' r0 r1 hP' hB => ?_⟩
    exact ⟨l, xs, r, _, rfl, rfl, SqL.of (hB _ _ hl hne), atI_in r0 r1, q _ H' (List.getElem_mem _) hP' hB⟩

theorem Pen.ne_none {H : Hp} {p c a : Addr} {k : Nat} (h : Pen H p c k) (e : H a = none) : a ≠ p := by
  obtain ⟨_, _, _, W, _⟩ := h
  exact (ne_of_none W.hp e).symm
theorem Pen.ne_cell {H : Hp} {p c a : Addr} {k : Nat} (h : Pen H p c k) (e : H a = none) : a ≠ c := by
  obtain ⟨_, _, _, W, _⟩ := h
  exact (ne_of_none W.hc e).symm
theorem Pen.put {H : Hp} {p c a : Addr} {o : HO} {k : Nat} (h : Pen H p c k) (h1 : a ≠ p) (h2 : a ≠ c) : Pen (upd H a o) p c k := by
  obtain ⟨ns, b, l, W, hk⟩ := h
  exact ⟨ns, b, l, ⟨by rw [upd_ne h1.symm]; exact W.hp, by rw [upd_ne h2.symm]; exact W.hc, W.ln, W.b0⟩, hk⟩
theorem small_t {m : Int} (h0 : 0 < m) (h : m ≤ 10 ^ 38) : m.natAbs < 2 ^ 2000 := Nat.lt_of_le_of_lt (show m.natAbs ≤ 10 ^ 38 by omega) (by decide +kernel)
/-- a drawn integer -/
def spInteger : Sp := fun vs H Q _ => ∃ p c k, vs = [.ref p] ∧ Pen H p c k ∧ k ≤ 900000 ∧ ∀ z H', z.natAbs < 10 ^ 38 → Pen H' p c (k + 3) → But p H H' → Q (.int z) H'
/-- a drawn pair, the second not 0 -/
def spPair : Sp := fun vs H Q _ => ∃ p c k, vs = [.ref p] ∧ Pen H p c k ∧ k ≤ 800000 ∧ ∀ t b x H', t.natAbs < 10 ^ 38 → b.natAbs < 10 ^ 38 → b ≠ 0 → Pen H' p c (k + 6) → But p H H' → H' x = some (.tup [.int t, .int b]) → Q (.ref x) H'
/-- lowest terms -/
def spLowest : Sp := fun vs H Q _ => ∃ t b, vs = [.int t, .int b] ∧ b ≠ 0 ∧ Sz t ∧ Sz b ∧ ∀ c, H c = none → Q (.ref c) (upd H c (.tup [.int (divInt t b).num, .int ((divInt t b).den : Int)]))
theorem low_pos {t b : Int} (h : 0 < b) : (1 * t) / gcdI t b = (divInt t b).num ∧ (1 * b) / gcdI t b = ((divInt t b).den : Int) := by
  have hg := gcdI_pos (t := t) (b := b) (by omega)
  rw [← low_num (by omega), ← low_den (by omega), Int.one_mul, Int.one_mul]
  unfold lowT lowB lowD
  rw [if_pos h, Int.fdiv_eq_ediv_of_nonneg _ (by omega), Int.fdiv_eq_ediv_of_nonneg _ (by omega)]
  exact ⟨rfl, rfl⟩
theorem low_neg {t b : Int} (h : b < 0) : (-1 * t) / gcdI t b = (divInt t b).num ∧ (-1 * b) / gcdI t b = ((divInt t b).den : Int) := by
  have hg := gcdI_pos (t := t) (b := b) (by omega)
  rw [← low_num (by omega), ← low_den (by omega)]
  unfold lowT lowB lowD
  rw [if_neg (by omega), ← Int.fdiv_eq_ediv_of_nonneg _ (by omega), ← Int.fdiv_eq_ediv_of_nonneg _ (by omega), ← Int.neg_fdiv_neg t, ← Int.neg_fdiv_neg b, Int.neg_neg, Int.neg_one_mul, Int.neg_one_mul]
  exact ⟨rfl, rfl⟩
end
end Toy
set_option maxRecDepth 100000
set_option maxHeartbeats 4000000
namespace Toy
open PySem L2
/-! ### Ratio.of, ends -/
theorem Sz0 : Sz 0 := by unfold Sz; decide +kernel
theorem NumAt.ref {C : Addr} {H : Hp} {v : V} {n d : Int} (h : NumAt C H v n d) : (∃ i, v = .int i ∧ n = i ∧ d = 1) ∨ ∃ a, v = .ref a ∧ RatAt C H a n d := by
  cases h with
  | int => exact .inl ⟨_, rfl, rfl, rfl⟩
  | rat h => exact .inr ⟨_, rfl, h⟩
theorem and2 {a b : Bool} (h : a = true) (h' : b = true) : (a && b) = true := by rw [h, h']; rfl
section
variable {P : Program} {w : World} {K : PySem.W.Frag} {mg : Str → Option Value} {base : Heap} {C CP : Addr}
def spOf (C : Addr) : Sp := fun vs H Q _ => ∃ v n d, vs = [v] ∧ NumAt C H v n d ∧ ∀ r H', RatAt C H' r n d → Same H H' → Q (.ref r) H'
theorem ok_ofN {f f1 f2 : Addr} {fd fd1 fd2 : FuncData} {dvs : List Value} (F : Fun K "of" "Ratio.of" sOf f fd) (T : Bl mg) (T_Ratio : RatT K mg C) (C_is_int : Cal P w K mg base 1 "is_int" f1 fd1 ["value"] (spIsInt K))
    (M_Ratio : Mak P w K mg base 2 "Ratio" C f2 fd2 ["self", "top", "bottom"] (spRInit C)) (hd : Vals [V.int 1] dvs) (hb1 : Binds K fd2 ["self", "top", "bottom"] dvs) : FnOk P w K mg base CX0 4 f fd ["number"] (spOf C) := by
  refine F.ok scOf (fun vs H Q E h => ?_) (fun cdv A outer s H vs Q E hr h => ?_)
  · obtain ⟨v, n, d, rfl, _⟩ := h
    rfl
  · obtain ⟨v, n, d, rfl, hv, q⟩ := h
    have nd := scOf.nd
    refine ⟨_, pss_cons (ps_if (pt_val (pe_callB call_isi (by rfl) T.isinstance (by decide +kernel) (pa_cons (pv 0) (pa_cons (Own.pe_gref (by rfl) T_Ratio.mgC) pa_nil)))) (pss_one (ps_ret (pv 0))) pss_nil)
      (pss_cons (ps_if (pt_not (pt_val (pe_call C_is_int.F (hr.mono (by decide)) (by rfl) C_is_int.mgf C_is_int.kp C_is_int.b .nil pass0 (pa_cons (pv 0) pa_nil)))) pss_never pss_nil)
      (pss_one (ps_ret (pe_make M_Ratio.M M_Ratio.F (hr.mono (by decide)) (by rfl) M_Ratio.mgC hb1 hd pass0 (pa_cons (pv 0) pa_nil))))), ?_⟩
    rcases hv.ref with ⟨i, rfl, rfl, rfl⟩ | ⟨a, rfl, hR⟩
    · refine ⟨_, rfl, _, _, _, _, false, rfl, .own _, .base (.int _), T_Ratio.iK, _, rfl, iteF ?_⟩
      refine ⟨_, rfl, _, _, true, rfl, .base (.int _), isIntK_int, _, rfl, iteF ?_⟩
      refine ⟨_, rfl, ?_⟩
      refine spRInit.make (t := n) (b := 1) (by decide) Sz1 fun x H' _ s1 hR => ?_
      rw [lowT_one (by decide) (gcdI_one n), lowB_one (by decide) (gcdI_one n)] at hR
      exact q x H' hR s1
    · obtain ⟨dx, h⟩ := id hR
      refine ⟨_, rfl, _, _, _, _, true, rfl, .own _, T_Ratio.ty h, T_Ratio.kS, _, rfl, iteT ?_⟩
      exact ⟨_, rfl, q a H hR (Same.refl H)⟩

/-- whether a number lies from its left bound on and below the right one -/
def spEnd (C : Addr) (g : Int → Int → Bool) : Sp := fun vs H Q _ => ∃ v n d, vs = [v] ∧ NumAt C H v n d ∧ 0 < d ∧ (Sz n ∧ Sz d) ∧ ∀ H', Same H H' → Q (.bl (g n d)) H'
def spNeigh (C : Addr) : Sp := fun vs H Q _ => ∃ v u a b c d, vs = [v, u] ∧ NumAt C H v a b ∧ NumAt C H u c d ∧ (Sz a ∧ Sz b ∧ Sz c ∧ Sz d) ∧ ∀ H', Same H H' → Q (.bl (decide (b * c - a * d = 1))) H'
/-! ### a piece made -/
def pieF (l r : Addr) : List (Str × V) := putF "right" (.ref r) (putF "left" (.ref l) [])
theorem lr_ne : ¬ (("left" : Str) = "right") := by decide +kernel
theorem pieF_left (l r : Addr) : (pieF l r).lookup ("left" : Str) = some (.ref l) := by
  unfold pieF
  rw [lookup_putF, if_neg lr_ne, lookup_putF, if_pos rfl]
theorem pieF_right (l r : Addr) : (pieF l r).lookup ("right" : Str) = some (.ref r) := by
  unfold pieF
  rw [lookup_putF, if_pos rfl]
theorem pieF_no (l r : Addr) {m : Str} (h1 : ¬ m = "right") (h2 : ¬ m = "left") : (pieF l r).lookup m = none := by
  unfold pieF
  rw [lookup_putF, if_neg h1, lookup_putF, if_neg h2]
  all_goals rfl
/-- the Piece (a/b, c/d) stands at x -/
def PieAt (CP C : Addr) (H : Hp) (x : Addr) (a b c d : Int) : Prop := ∃ dx l r, H x = some (.ins CP dx (pieF l r)) ∧ RatAt C H l a b ∧ RatAt C H r c d
theorem PieAt.same {H H' : Hp} {x : Addr} {a b c d : Int} (h : PieAt CP C H x a b c d) (e : Same H H') : PieAt CP C H' x a b c d := let ⟨dx, l, r, h, h1, h2⟩ := h; ⟨dx, l, r, e _ _ h, h1.same e, h2.same e⟩
structure Nbr (a b c d : Int) : Prop where
  a0 : 0 ≤ a
  ab : a < b
  c0 : 0 < c
  cd : c ≤ d
  nb : b * c - a * d = 1
  za : Sz a
  zb : Sz b
  zc : Sz c
  zd : Sz d
def spPInit (CP C : Addr) : Sp := fun vs H Q _ => ∃ x dx v u a b c d, vs = [.ref x, v, u] ∧ H x = some (.ins CP dx []) ∧ NumAt C H v a b ∧ NumAt C H u c d ∧ Nbr a b c d ∧
  ∀ H', PieAt CP C H' x a b c d → (∀ y o, H y = some o → y ≠ x → H' y = some o) → Q .non H'
theorem spPInit.make {H1 : Hp} {v u : V} {a b c d : Int} {Q : VK} {E : XK} (hv : NumAt C H1 v a b) (hu : NumAt C H1 u c d) (hn : Nbr a b c d) (q : ∀ x H', H1 x = none → Same H1 H' → PieAt CP C H' x a b c d → Q (.ref x) H') :
    ∀ x dx, H1 x = none → H1 dx = none → dx ≠ x → spPInit CP C [.ref x, v, u] (upd (upd H1 dx (.own x)) x (.ins CP dx [])) (fun v H2 => v = .non ∧ Q (.ref x) H2) E := fun x dx hx hdx hne => by
  have s1 : Same H1 (upd (upd H1 dx (.own x)) x (.ins CP dx [])) := same_two hdx hx hne
  exact ⟨x, dx, v, u, a, b, c, d, rfl, upd_same, hv.same s1, hu.same s1, hn, fun H' hR hk => ⟨rfl, q x H' hx (fun y o e => hk y o (s1 _ _ e) (ne_of_none e hx)) hR⟩⟩
/-! ### middle, and - with an int at the left -/
theorem pq_mid (n d m e : Int) (h : d + e ≠ 0) : lowT (n + m) (d + e) = (Rat.divInt (n + m) (d + e)).num := low_num h
def spMid (CP C : Addr) : Sp := fun vs H Q _ => ∃ x a b c d, vs = [.ref x] ∧ PieAt CP C H x a b c d ∧ 0 < b + d ∧ Sz (b + d) ∧ ∀ r H', Same H H' → RatQ C H' r (Rat.divInt (a + c) (b + d)) → Q (.ref r) H'
abbrev sRSub : Stmt := inClass (top 19) 11
theorem scRSub : FnScope ["self", "other"] ["self", "other"] (defScope sRSub) := ⟨rfl, rfl, rfl, by decide +kernel, rfl, by decide +kernel, by decide +kernel⟩
theorem ok_rsub {f g g2 : Addr} {fd gd gd2 : FuncData} (F : Fun K "__rsub__" "Ratio.__rsub__" sRSub f fd) (B : BinF K C .Add) (O_add : Opr P w K mg base 4 C "__add__" g gd ["self", "other"] (spBin C GT fun p q => p + q)) (O_neg : Opr P w K mg base 4 C "__neg__" g2 gd2 ["self"] (spUn C fun p => -p)) :
    FnOk P w K mg base CX0 5 f fd ["self", "other"] (spBin C GT fun p q => -p + q) := by
  refine F.ok scRSub (fun vs H Q E h => ?_) (fun cdv A outer s H vs Q E hr h => ?_)
  · obtain ⟨a, u, p, q, rfl, _⟩ := h
    rfl
  · obtain ⟨a, u, p, q, rfl, hp, hq, z, g, k⟩ := h
    have nd := scRSub.nd
    refine ⟨_, pss_one (ps_ret (pe_op (op_B B O_add.F (hr.mono (by decide)) O_add.at_ O_add.fn O_add.b pass0) (pe_un (Own.un_ownNeg O_neg.F (hr.mono (by decide)) O_neg.at_ O_neg.fn O_neg.b pass0) (pv 0)) (pv 1))), ?_⟩
    obtain ⟨dx, fs, h1⟩ := hp.ins
    refine ⟨_, rfl, a, dx, fs, rfl, h1, a, p, rfl, hp, z.1, fun x H1 s1 hx => ?_⟩
    obtain ⟨dy, gs, h2⟩ := hx.ins
    exact ⟨_, rfl, x, dy, gs, rfl, h2, (hq.same s1).ri, x, _, -p, q, rfl, hx, hq.same s1, ⟨z.1.neg, z.2⟩, True.intro, fun y H2 s2 hy => k y H2 (s1.trans s2) hy⟩
end
end Toy
set_option maxRecDepth 100000
set_option maxHeartbeats 4000000
set_option exponentiation.threshold 9000
namespace Toy
open PySem L2
open Rat (divInt)
/-! ### tones and terms -/
structure TonT (K : PySem.W.Frag) (mg : Str → Option Value) (C : Addr) : Prop extends ClT K mg C "Tone" where
  nO : NoAttr K C "octaves"
  nF : NoAttr K C "fifths"
def tonF (o k : Int) : List (Str × V) := putF "fifths" (.int k) (putF "octaves" (.int o) [])
theorem of_ne : ¬ (("octaves" : Str) = "fifths") := by decide +kernel
theorem tonF_oct (o k : Int) : (tonF o k).lookup ("octaves" : Str) = some (.int o) := by
  unfold tonF
  rw [lookup_putF, if_neg of_ne, lookup_putF, if_pos rfl]
theorem tonF_fif (o k : Int) : (tonF o k).lookup ("fifths" : Str) = some (.int k) := by
  unfold tonF
  rw [lookup_putF, if_pos rfl]
def TonAt (C : Addr) (H : Hp) (a : Addr) (o k : Int) : Prop := ∃ dx, H a = some (.ins C dx (tonF o k))
theorem TonAt.same {C : Addr} {H H' : Hp} {a : Addr} {o k : Int} (h : TonAt C H a o k) (e : Same H H') : TonAt C H' a o k := let ⟨dx, h⟩ := h; ⟨dx, e _ _ h⟩
def terF (b : Int) : List (Str × V) := putF "number" (.int b) []
theorem terF_num (b : Int) : (terF b).lookup ("number" : Str) = some (.int b) := by
  unfold terF
  rw [lookup_putF, if_pos rfl]
/-- where the parts of the class of terms stand: Term, Moving, Note, the property and its getter, the methods -/
structure TAd where
  tm : Addr
  cm : Addr
  cn : Addr
  pm : Addr
  im : Addr
  nt : Addr
  po : Addr
  mo : Addr
  mi : Addr
  eq : Addr
/-- a class of terms: Moving (m) or Note -/
structure TerC (K : PySem.W.Frag) (A : TAd) (C : Addr) (m : Bool) : Prop where
  cl : Cls K C
  nN : NoAttr K C "number"
  ty : ∀ {H : Hp} {a dx : Addr} {fs : List (Str × V)}, H a = some (.ins C dx fs) → TyX K H (.ref a) (.ref C)
  kM : PySem.W.kitOne K (.ref C) (.ref A.cm) = some m
  kT : PySem.W.kitOne K (.ref C) (.ref A.tm) = some true
  pm : PropOf K C "is_moving" A.pm A.im
  mn : Meth K C "note" A.nt
  mp : Meth K C "position" A.po
  mv : Meth K C "moved" A.mo
  mi : Meth K C "mirrored" A.mi
  eq : PySem.W.findIn K (.ref C) "__eq__" = some (some (.ref A.eq))
  ne : PySem.W.findIn K (.ref C) "__ne__" = some (some (.builtin "object.__ne__"))
  sO : PySem.W.subIn K (.ref C) (.type "object") = some true
  nI : PySem.W.notFirst K C (.type "int") = true
  nM : PySem.W.notFirst K C (.ref A.cm) = true
  nC : PySem.W.notFirst K C (.ref A.cn) = true
  cls : C = if m then A.cm else A.cn
def TerAt (C : Addr) (H : Hp) (a : Addr) (b : Int) : Prop := ∃ dx, H a = some (.ins C dx (terF b))
theorem TerAt.same {C : Addr} {H H' : Hp} {a : Addr} {b : Int} (h : TerAt C H a b) (e : Same H H') : TerAt C H' a b := let ⟨dx, h⟩ := h; ⟨dx, e _ _ h⟩
section
variable {P : Program} {w : World} {K : PySem.W.Frag} {mg : Str → Option Value} {base : Heap} {C CT : Addr} {A : TAd}
def spFromTo : Sp := fun vs H Q _ => ∃ v lo hi : Int, vs = [.int v, .int lo, .int hi] ∧ Q (.bl (decide (lo ≤ v) && decide (v ≤ hi))) H
abbrev sFromTo : Stmt := top 17
theorem scFT : FnScope ["value", "low", "high"] ["value", "low", "high"] (defScope sFromTo) := ⟨rfl, rfl, rfl, by decide +kernel, rfl, by decide +kernel, by decide +kernel⟩
theorem ok_fromto {f f1 : Addr} {fd fd1 : FuncData} (F : Fun K "is_from_to" "is_from_to" sFromTo f fd) (C_is_int : Cal P w K mg base 1 "is_int" f1 fd1 ["value"] (spIsInt K)) : FnOk P w K mg base CX0 2 f fd ["value", "low", "high"] spFromTo := by
  refine F.ok scFT (fun vs H Q E h => ?_) (fun cdv A outer s H vs Q E hr h => ?_)
  · obtain ⟨v, lo, hi, rfl, _⟩ := h
    rfl
  · obtain ⟨v, lo, hi, rfl, q⟩ := h
    have nd := scFT.nd
    refine ⟨_, pss_one (ps_ret (pe_and (pe_call C_is_int.F (hr.mono (by decide)) (by rfl) C_is_int.mgf C_is_int.kp C_is_int.b .nil pass0 (pa_cons (pv 0) pa_nil)) (pe_one (pe_chain op_le op_le (pv 1) (pv 0) (pv 2))))), ?_⟩
    refine ⟨_, rfl, _, _, true, rfl, .base (.int _), isIntK_int, _, rfl, iteT ?_⟩
    refine ⟨_, rfl, _, rfl, _, _, rfl, rfl, _, rfl, ?_⟩
    by_cases h1 : lo ≤ v
    · refine iteTb (decide_eq_true h1) ?_
      rw [decide_eq_true h1, Bool.true_and] at q
      exact ⟨_, rfl, _, _, rfl, rfl, q⟩
    · refine iteFb (decide_eq_false h1) ?_
      rw [decide_eq_false h1, Bool.false_and] at q
      exact q
def spIsFifth (C : Addr) : Sp := fun vs H Q _ => ∃ a q, vs = [.ref a] ∧ RatQ C H a q ∧ Q (.bl (decide (0 < q.num) && decide (q.num < (q.den : Int)))) H
abbrev sIsFifth : Stmt := inClass (top 19) 2
theorem scIF : FnScope ["value"] ["value"] (defScope sIsFifth) := ⟨rfl, rfl, rfl, by decide +kernel, rfl, by decide +kernel, by decide +kernel⟩
theorem ok_isfifth {f : Addr} {fd : FuncData} (F : Fun K "is_fifth" "Ratio.is_fifth" sIsFifth f fd) (T : Bl mg) (T_Ratio : RatT K mg C) : FnOk P w K mg base CX0 1 f fd ["value"] (spIsFifth C) := by
  refine F.ok scIF (fun vs H Q E h => ?_) (fun cdv A outer s H vs Q E hr h => ?_)
  · obtain ⟨a, q, rfl, _⟩ := h
    rfl
  · obtain ⟨a, q, rfl, ⟨dx, h⟩, k⟩ := h
    have nd := scIF.nd
    refine ⟨_, pss_one (ps_ret (pe_and (pe_callB call_isi (by rfl) T.isinstance (by decide +kernel) (pa_cons (pv 0) (pa_cons (Own.pe_gref (by rfl) T_Ratio.mgC) pa_nil))) (pe_one (pe_chain op_lt op_lt pe_int (pe_fld (pv 0) rfl) (pe_fld (pv 0) rfl))))), ?_⟩
    refine ⟨_, rfl, _, _, _, _, true, rfl, .own _, T_Ratio.ty h, T_Ratio.kS, _, rfl, iteT ?_⟩
    refine ⟨_, rfl, _, C, dx, _, _, rfl, h, T_Ratio.cl, T_Ratio.nT, ratF_top _ _, _, _, rfl, rfl, _, rfl, ?_⟩
    by_cases h1 : 0 < q.num
    · refine iteTb (decide_eq_true h1) ?_
      rw [decide_eq_true h1, Bool.true_and] at k
      exact ⟨_, rfl, _, C, dx, _, _, rfl, h, T_Ratio.cl, T_Ratio.nB, ratF_bot _ _, _, _, rfl, rfl, k⟩
    · refine iteFb (decide_eq_false h1) ?_
      rw [decide_eq_false h1, Bool.false_and] at k
      exact k
def spTonI (C : Addr) : Sp := fun vs H Q _ => ∃ x dx o k, vs = [.ref x, .int o, .int k] ∧ H x = some (.ins C dx []) ∧ ∀ H', TonAt C H' x o k → (∀ c o, H c = some o → c ≠ x → H' c = some o) → Q .non H'
/-- == with another Tone -/
def spTonEq (CT : Addr) : Sp := fun vs H Q _ => ∃ a b o k o' k', vs = [.ref a, .ref b] ∧ TonAt CT H a o k ∧ TonAt CT H b o' k' ∧ Q (.bl (decide (o = o') && decide (k = k'))) H
end
end Toy
set_option maxRecDepth 100000
set_option maxHeartbeats 4000000
/-! Several except clauses, with and without a name. -/
namespace Own
open PySem PySem.Spec PyProof.Rows L2
/-- an exception of the body, come down, ahead of a clause -/
structure Dn (X : Cx) (pins : List (Addr × Obj)) (a : Addr) (cls : Value) (d : Option Addr) (σ : L2.St) (H : Hp) (B : Heap) (sI s : Shared) : Prop where
  J : Inv X pins σ H sI
  nb : ∀ b o, sI.heap.get? b = some o → b ∉ frs X.stack → B.get? b = some o
  up : sI.heap.UpToSlots s.heap
  fl : HandSPX.FlyingZ B (X.env :: X.outer) a (Zc cls d) s.heap
  na : H a = none
  os : s.os = sI.os
  ag : AllBare s.gens
section
variable {X : Cx} {pins : List (Addr × Obj)} {a : Addr} {cls : Value} {d : Option Addr} {σ : L2.St} {H : Hp} {B : Heap} {sI s : Shared}
theorem Dn.inv (k : Dn X pins a cls d σ H B sI s) : Inv X pins σ H s := k.J.landed k.nb k.fl.1 k.up k.os k.ag
theorem Dn.out (k : Dn X pins a cls d σ H B sI s) : a ∉ frs (X.env :: X.outer) := fun hm => by
  obtain ⟨oe, vs, he, _, hd⟩ := k.fl.there
  obtain ⟨_, o', e', hnf⟩ := k.fl.2.2.1.mem hm
  rw [he] at e'; cases e'
  exact hnf _ hd
theorem Dn.nL (k : Dn X pins a cls d σ H B sI s) (hf : X.env.frame = some X.env.locals) : a ≠ X.env.locals := fun z => k.out (by
  rw [z]
  exact List.mem_filterMap.mpr ⟨X.env, List.mem_cons_self, hf⟩)
theorem Dn.nF (k : Dn X pins a cls d σ H B sI s) : a ∉ X.fs := fun hm => by
  obtain ⟨e, he, q⟩ := List.mem_filterMap.mp hm
  exact k.out (List.mem_filterMap.mpr ⟨e, List.mem_cons_of_mem _ he, q⟩)
/-- what the clauses hds do with an exception for which w holds -/
def Cl (X : Cx) (hds : List ExceptHandler) (w : Ends → WX) : Prop :=
  ∀ (pins : List (Addr × Obj)) (a : Addr) (cls : Value) (d : Option Addr) (σ : L2.St) (H : Hp) (B : Heap) (sI s : Shared) (D : Ends), Dn X pins a cls d σ H B sI s → w D cls d σ H →
    wpAny (model X.prog X.w) X.A (handleBy (.ref a) X.env hds) (SP X pins D) X.xe s
theorem cl_nil {Wout : WX} (hs : X.stack = X.env :: X.outer) (hf : X.env.frame = some X.env.locals) (tk : Takes X Wout) : Cl X [] fun _ => Wout := by
  intro pins a cls d σ H B sI s D k w
  refine wpAny_handleBy_nil ?_
  obtain ⟨k1, k2, k3, oe, vs, T, oT, ts', he, hz, hd, h1, hr⟩ := id k.fl
  unfold PySem.passOn
  refine wpAny_bind (wpAny_field he hd h1 ?_)
  rw [if_neg (show ¬ ((Value.ref T == Value.none) = true) from by simp)]
  have go : wpAny (model X.prog X.w) X.A (setFlight (.ref a) X.env.frame) (fun _ s2 => wpAny (model X.prog X.w) X.A (throw (.ref a) : Sem Flow) (SP X pins D) X.xe s2) X.xe s := by
    rw [hf]
    exact HandSPX.setFlight_upZ k.fl fun h2 hh up => wpAny_throw (tk _ _ ⟨a, B, sI, pins, σ, H, cls, d, rfl, k.J, k.nb, k.up.trans up, .inr (.inr (by rw [hs]; exact hh)), k.na, k.os, k.ag, w⟩)
  first
    | exact wpAny_bind (wpAny_pure (wpAny_bind go))
    | exact wpAny_bind go
/-- the clause's class is looked up and compared -/
theorem Dn.ask {x : Str} {np : Pos} {c : Value} {b : Bool} {Q : Bool → Shared → Prop} {E : Value → Shared → Prop} (k : Dn X pins a cls d σ H B sI s) (hf : X.env.frame = some X.env.locals) (hc : Names X x c) (hb : PySem.W.exmOne X.K cls c = some b) (q : Q b s) :
    wpAny (model X.prog X.w) (X.A.mark (some (.ref a))) (eval (.Name x np) X.env) (fun c s₁ => wpAny (model X.prog X.w) (X.A.mark (some (.ref a))) (excMatches (.ref a) c) Q E s₁) E s := by
  obtain ⟨oe, vs, he, hz, hd⟩ := k.fl.there
  have S := k.inv.suite he hd k.na (k.nL hf) k.nF
  have ty : PySem.W.Looks (model X.prog X.w) s.heap (typeOf (.ref a)) cls := fun A Q E s k q => wpAny_typeOf_ref (k _ _ he) (by rw [hz.1]; exact q)
  have em := PySem.W.exm_one (M := model X.prog X.w) k.inv.kIn ty hb
  obtain ⟨hg, hdb, hm | ⟨hm, hv, hnn⟩⟩ := hc
  · exact ld_glob (X := X.suite a ((a, oe) :: (X.pn ++ pins))) S hg hm (em.here q) hdb
  · exact ld_blt (X := X.suite a ((a, oe) :: (X.pn ++ pins))) S hg hm hv (em.here q) hnn hdb
theorem cl_on {x : Str} {c : Value} {ts : Addr → Value → Option Addr → TS} {b₀ : Stmt} {suite : List Stmt} {np pos : Pos} {hds : List ExceptHandler} {w : Ends → WX} (hf : X.env.frame = some X.env.locals) (hc : Names X x c)
    (hsu : ∀ (a : Addr) (oe : Obj) (cls : Value) (d : Option Addr) (pn : List (Addr × Obj)), Zc cls d oe → (∃ vs, oe.data = .fields vs) → PSs (X.suite a ((a, oe) :: pn)) (b₀ :: suite) (ts a cls d)) (r : Cl X hds w) :
    Cl X (.ExceptHandler (some (.Name x np)) none (b₀ :: suite) pos :: hds) fun D cls d σ H => ∃ b, PySem.W.exmOne X.K cls c = some b ∧ (b = true → ∀ a, H a = none → ts a cls d D σ H) ∧ (b = false → w D cls d σ H) := by
  intro pins a cls d σ H B sI s D k ⟨b, hb, yes, no⟩
  refine wpAny_handleBy_cons (codeAny_handlers_test (k.ask hf hc hb ?_)) (by intro q; cases q)
  cases b with
  | false => exact r pins a cls d σ H B sI s D k (no rfl)
  | true =>
    refine codeAny_handlers_suite (HandSPX.lands_againZ k.fl fun h2 fl2 up2 => ?_)
    have k2 : Dn X pins a cls d σ H B sI { s with heap := h2 } := ⟨k.J, k.nb, k.up.trans up2, fl2, k.na, k.os, k.ag⟩
    obtain ⟨oe, vs, he, hz, hd⟩ := fl2.there
    have S := k2.inv.suite he hd k.na (k.nL hf) k.nF
    refine wpAny_mono ((hsu a oe cls d (X.pn ++ pins) hz ⟨_, hd⟩).run [] _ σ H _ S (yes rfl a k.na)) (fun f s3 hsp => ?_) (fun _ _ z => False.elim z)
    have ok := k.J.ok
    cases f with
    | next => obtain ⟨σ3, H3, S3, q3⟩ := hsp; exact ⟨σ3, H3, S3.unsuite ok, q3⟩
    | brk => obtain ⟨σ3, H3, S3, q3⟩ := hsp; exact ⟨σ3, H3, S3.unsuite ok, q3⟩
    | cont => obtain ⟨σ3, H3, S3, q3⟩ := hsp; exact ⟨σ3, H3, S3.unsuite ok, q3⟩
    | ret u => obtain ⟨v3, σ3, H3, S3, r3, q3⟩ := hsp; exact ⟨v3, σ3, H3, S3.unsuite ok, r3, q3⟩
/-- what is wanted behind a suite whose name goes -/
def Ends.gone (D : Ends) (i : Nat) : Ends := { nx := fun σ H => D.nx (σ.set i none) H, rt := D.rt, bk := fun σ H => D.bk (σ.set i none) H, ct := fun σ H => D.ct (σ.set i none) H }
theorem cl_as {x n : Str} {c : Value} {i : Nat} {ts : Addr → Value → Option Addr → TS} {b₀ : Stmt} {suite : List Stmt} {np pos : Pos} {hds : List ExceptHandler} {w : Ends → WX} (hf : X.env.frame = some X.env.locals) (hN : X.N.Nodup) (hi : X.N[i]? = some n) (hln : X.env.kindOf n = some .local) (hc : Names X x c)
    (hsu : ∀ (a : Addr) (oe : Obj) (cls : Value) (d : Option Addr) (pn : List (Addr × Obj)), Zc cls d oe → (∃ vs, oe.data = .fields vs) → PSs (X.suite a ((a, oe) :: pn)) (b₀ :: suite) (ts a cls d)) (r : Cl X hds w) :
    Cl X (.ExceptHandler (some (.Name x np)) (some n) (b₀ :: suite) pos :: hds) fun D cls d σ H => ∃ b, PySem.W.exmOne X.K cls c = some b ∧ (b = true → σ.length = X.N.length → ∀ a, H a = none → ts a cls d (Ends.gone D i) (σ.set i (some (.ref a))) H) ∧ (b = false → w D cls d σ H) := by
  intro pins a cls d σ H B sI s D k ⟨b, hb, yes, no⟩
  refine wpAny_handleBy_cons (codeAny_handlers_test (k.ask hf hc hb ?_)) (by intro q; cases q)
  cases b with
  | false => exact r pins a cls d σ H B sI s D k (no rfl)
  | true =>
    refine codeAny_handlers_suite_as (HandSPX.lands_againZ k.fl fun h2 fl2 up2 => ?_)
    have k2 : Dn X pins a cls d σ H B sI { s with heap := h2 } := ⟨k.J, k.nb, k.up.trans up2, fl2, k.na, k.os, k.ag⟩
    obtain ⟨oe, vs, he, hz, hd⟩ := fl2.there
    have S := k2.inv.suite he hd k.na (k.nL hf) k.nF
    have ok := k.J.ok
    refine store_ok (X := X.suite a ((a, oe) :: (X.pn ++ pins))) (v := .ref a) S hN hi (.inl hln) rfl (fun s3 S3 => ?_) (.inr hln)
    refine wpAny_mono ((hsu a oe cls d (X.pn ++ pins) hz ⟨_, hd⟩).run [] s3 _ H _ S3 (yes rfl k.J.len a k.na)) (fun f s4 hsp => ?_) (fun _ _ z => False.elim z)
    have bye : ∀ {σ4 : L2.St} {H4 : Hp} {Q : Shared → Prop}, Inv (X.suite a ((a, oe) :: (X.pn ++ pins))) [] σ4 H4 s4 → (∀ s5, Inv X pins (σ4.set i none) H4 s5 → Q s5) →
        wpAny (model X.prog X.w) X.A (do bindName X.env n .none; unbindBehindTheSuite X.env n pos) (fun _ s5 => Q s5) X.xe s4 := fun {σ4 H4 Q} S4 hq => gone_ok (S4.unsuite ok) hN hi hln hq
    cases f with
    | next => obtain ⟨σ4, H4, S4, q4⟩ := hsp; exact bye S4 fun s5 J5 => ⟨_, _, J5, q4⟩
    | brk => obtain ⟨σ4, H4, S4, q4⟩ := hsp; exact bye S4 fun s5 J5 => ⟨_, _, J5, q4⟩
    | cont => obtain ⟨σ4, H4, S4, q4⟩ := hsp; exact bye S4 fun s5 J5 => ⟨_, _, J5, q4⟩
    | ret u => obtain ⟨v4, σ4, H4, S4, r4, q4⟩ := hsp; exact bye S4 fun s5 J5 => ⟨_, _, _, J5, r4, q4⟩
end
section
variable {X : Cx} {body : List Stmt} {h₀ : ExceptHandler} {hds : List ExceptHandler} {pos : Pos} {tb : WX → TS} {w : Ends → WX}
theorem ps_try_cl (hs : X.stack = X.env :: X.outer) (hf : X.env.frame = some X.env.locals)
    (hb : ∀ (W : WX) (pn : List (Addr × Obj)) (xe : Value → Shared → Prop), Takes (X.tr pn xe) W → PassesOwn (model X.prog X.w) X.A X.env xe → PSs (X.tr pn xe) body (tb W)) (hh : Cl X (h₀ :: hds) w) :
    PS X (.Try body (h₀ :: hds) [] [] pos) (fun D σ H => tb (w D) D σ H) := by
  refine ⟨fun pins s σ H D I h => ?_⟩
  have ok := I.ok
  have hfr : X.A.frames = some (X.env :: X.outer) := by rw [ok.frames, hs]
  refine wpAny_Try_except ?_
  have catch_ : Takes (X.tr (X.pn ++ pins) fun e s₁ => wpAny (model X.prog X.w) X.A (noteFrame e X.env) (fun _ s₂ => wpAny (model X.prog X.w) X.A (setFlight e none) (fun _ s₃ =>
      wpAny (model X.prog X.w) X.A (handleBy e X.env (h₀ :: hds)) (SP X pins D) X.xe s₃) X.xe s₂) X.xe s₁) (w D) := fun u s' xx => by
    obtain ⟨a, B, sI, pins', σ', H', cls, d, rfl, J', nb, up, sky, na, os, ag, ww⟩ := xx
    have sky' : Sky B (X.env :: X.outer) a (Zc cls d) X.env.locals s'.heap := by rw [← hs]; exact sky
    exact Sky.land Zc.steady hfr hf sky' fun h3 fl3 up3 => hh pins a cls d σ' H' B sI _ D ⟨J'.ofTry ok, nb, up.trans up3, fl3, na, os, ag⟩ ww
  refine wpAny_mono ((hb (w D) (X.pn ++ pins) _ catch_ PassesOwn.looking).run [] s σ H D (I.toTry _) h) (fun f s1 hsp => ?_) (fun e s1 he => he)
  cases f with
  | next => obtain ⟨σ', H', J', q⟩ := hsp; exact wpAny_execs_nil ⟨σ', H', J'.ofTry ok, q⟩
  | brk => obtain ⟨σ', H', J', q⟩ := hsp; exact ⟨σ', H', J'.ofTry ok, q⟩
  | cont => obtain ⟨σ', H', J', q⟩ := hsp; exact ⟨σ', H', J'.ofTry ok, q⟩
  | ret u => obtain ⟨v, σ', H', J', r, q⟩ := hsp; exact ⟨v, σ', H', J'.ofTry ok, r, q⟩
end
end Own
set_option maxRecDepth 100000
set_option maxHeartbeats 4000000
/-! An exception that a handler keeps in another name: what is known of it behind the handler, isinstance of it, its fields. -/
namespace Own
open PySem PySem.Spec PyProof.Rows L2
/-- an exception of this class, with this dict, stands at a -/
def KeO (cls : Value) (d : Option Addr) (a : Addr) : HO := .ext fun h => ∃ (oe : Obj) (vs : Array Value), h.get? a = some oe ∧ Zc cls d oe ∧ oe.data = .fields vs
theorem keO_ok {P : Program} {w : World} {H : Hp} {h : Heap} {a : Addr} {cls : Value} {d : Option Addr} {oe : Obj} {vs : Array Value} (e : h.get? a = some oe) (z : Zc cls d oe) (q : oe.data = .fields vs) : ObjOk P w H h a (KeO cls d a) :=
  ⟨⟨oe, vs, e, z, q⟩, ⟨oe, e⟩, fun _ _ ⟨o, us, e1, e2, e3⟩ k => ⟨o, us, k _ e1, e2, e3⟩⟩
theorem keO_at {P : Program} {w : World} {H : Hp} {h : Heap} {a : Addr} {cls : Value} {d : Option Addr} (x : ObjOk P w H h a (KeO cls d a)) : ∃ (oe : Obj) (vs : Array Value), h.get? a = some oe ∧ Zc cls d oe ∧ oe.data = .fields vs := x.1
/-- it is known from now on -/
theorem Inv.keep {X : Cx} {pins : List (Addr × Obj)} {σ : L2.St} {H : Hp} {s : Shared} {a : Addr} {cls : Value} {d : Option Addr} {oe : Obj} {vs : Array Value} (I : Inv X pins σ H s) (e : s.heap.get? a = some oe) (z : Zc cls d oe) (q : oe.data = .fields vs) (hn : H a = none)
    (h0 : X.s_0.heap.get? a = none) (hl : a ≠ X.env.locals) (hp : ∀ p ∈ X.pn ++ pins, p.1 ≠ a) : Inv X pins σ (upd H a (KeO cls d a)) s where
  ok := I.ok
  os := I.os
  bare := I.bare
  base := by
    have u := I.base
    refine ⟨u.keep, u.slot, fun b o hb h1 h2 => ?_, u.there, fun b xs hb => ?_, fun b o v hb => ?_, fun b ps hb => ?_⟩
    · have ne : b ≠ a := fun x => by rw [x, h0] at hb; cases hb
      rw [upd_ne ne]
      exact u.free b o hb h1 h2
    · have hb' := u.tups b xs hb
      rw [upd_ne (ne_of_none hb' hn)]
      exact hb'
    · have hb' := u.frzs b o v hb
      rw [upd_ne (ne_of_none hb' hn)]
      exact hb'
    · obtain ⟨more, hb'⟩ := u.tbls b ps hb
      exact ⟨more, by rw [upd_ne (ne_of_none hb' hn)]; exact hb'⟩
  loc := I.loc
  cell := I.cell
  free := by rw [upd_ne hl.symm]; exact I.free
  freeC := fun x c hc => by
    have ne : c ≠ a := fun y => by
      obtain ⟨v, hv⟩ := I.cell x c hc
      subst y
      obtain ⟨o, ho, ho2⟩ := hv
      rw [e] at ho
      cases ho
      rw [q] at ho2
      simp at ho2
    rw [upd_ne ne]
    exact I.freeC x c hc
  pin := fun p hm => by
    obtain ⟨h1, h2, h3⟩ := I.pin p hm
    exact ⟨h1, by rw [upd_ne (hp p hm)]; exact h2, h3⟩
  hok := I.hok.laidN (fun _ _ x => x) hn (keO_ok e z q)
  len := I.len
section
variable {X : Cx}
/-- what is wanted behind a suite whose name goes, and what the name held stays -/
def Ends.kept (D : Ends) (i : Nat) (a : Addr) (cls : Value) (d : Option Addr) : Ends :=
  { nx := fun σ H => D.nx (σ.set i none) (upd H a (KeO cls d a)), rt := D.rt, bk := fun σ H => D.bk (σ.set i none) H, ct := fun σ H => D.ct (σ.set i none) H }
theorem cl_keep {x n : Str} {c : Value} {i : Nat} {ts : Addr → Value → Option Addr → TS} {b₀ : Stmt} {suite : List Stmt} {np pos : Pos} {hds : List ExceptHandler} {w : Ends → WX} (hs : X.stack = X.env :: X.outer) (hf : X.env.frame = some X.env.locals) (hx : X.ex = []) (hN : X.N.Nodup) (hi : X.N[i]? = some n) (hln : X.env.kindOf n = some .local) (hc : Names X x c)
    (hsu : ∀ (a : Addr) (oe : Obj) (cls : Value) (d : Option Addr) (pn : List (Addr × Obj)), Zc cls d oe → (∃ vs, oe.data = .fields vs) → PSs (X.suite a ((a, oe) :: pn)) (b₀ :: suite) (ts a cls d)) (r : Cl X hds w) :
    Cl X (.ExceptHandler (some (.Name x np)) (some n) (b₀ :: suite) pos :: hds) fun D cls d σ H => ∃ b, PySem.W.exmOne X.K cls c = some b ∧ (b = true → σ.length = X.N.length → ∀ a, H a = none → ts a cls d (Ends.kept D i a cls d) (σ.set i (some (.ref a))) H) ∧ (b = false → w D cls d σ H) := by
  intro pins a cls d σ H B sI s D k hw
  obtain ⟨b, hb, yes, no⟩ := hw
  refine wpAny_handleBy_cons (codeAny_handlers_test (k.ask hf hc hb ?_)) (by intro q; cases q)
  cases b with
  | false => exact r pins a cls d σ H B sI s D k (no rfl)
  | true =>
    have sIa : sI.heap.get? a = none := by
      cases z : sI.heap.get? a with
      | none => rfl
      | some o =>
        have q := k.nb a o z (by rw [hs]; exact k.out)
        have q2 := k.fl.2.1
        rw [q2] at q
        cases q
    have s0a : X.s_0.heap.get? a = none := by
      cases z : X.s_0.heap.get? a with
      | none => rfl
      | some o =>
        obtain ⟨o', q⟩ := k.J.base.there a o z (by rw [hx]; exact List.not_mem_nil)
        rw [sIa] at q
        cases q
    have pna : ∀ p ∈ X.pn ++ pins, p.1 ≠ a := fun p hp y => by
      have q := (k.J.pin p hp).1
      rw [y, sIa] at q
      cases q
    refine codeAny_handlers_suite_as (HandSPX.lands_againZ k.fl fun h2 fl2 up2 => ?_)
    have k2 : Dn X pins a cls d σ H B sI { s with heap := h2 } := ⟨k.J, k.nb, k.up.trans up2, fl2, k.na, k.os, k.ag⟩
    obtain ⟨oe, vs, he, hz, hd⟩ := fl2.there
    have S := k2.inv.suite he hd k.na (k.nL hf) k.nF
    have ok := k.J.ok
    refine store_ok (X := X.suite a ((a, oe) :: (X.pn ++ pins))) (v := .ref a) S hN hi (.inl hln) rfl (fun s3 S3 => ?_) (.inr hln)
    refine wpAny_mono ((hsu a oe cls d (X.pn ++ pins) hz ⟨_, hd⟩).run [] s3 _ H _ S3 (yes rfl k.J.len a k.na)) (fun f s4 hsp => ?_) (fun _ _ z => False.elim z)
    have bye : ∀ {σ4 : L2.St} {H4 : Hp} {Q : Shared → Prop}, Inv X pins σ4 H4 s4 → (∀ s5, Inv X pins (σ4.set i none) H4 s5 → Q s5) →
        wpAny (model X.prog X.w) X.A (do bindName X.env n .none; unbindBehindTheSuite X.env n pos) (fun _ s5 => Q s5) X.xe s4 := fun {σ4 H4 Q} S4 hq => gone_ok S4 hN hi hln hq
    cases f with
    | next =>
      obtain ⟨σ4, H4, S4, q4⟩ := hsp
      obtain ⟨p1, p2, p3, _⟩ := S4.pin (a, oe) (List.mem_append_left _ List.mem_cons_self)
      exact bye (Inv.keep (S4.unsuite ok) p1 hz hd p2 s0a p3 pna) fun s5 J5 => ⟨_, _, J5, q4⟩
    | brk => obtain ⟨σ4, H4, S4, q4⟩ := hsp; exact bye (S4.unsuite ok) fun s5 J5 => ⟨_, _, J5, q4⟩
    | cont => obtain ⟨σ4, H4, S4, q4⟩ := hsp; exact bye (S4.unsuite ok) fun s5 J5 => ⟨_, _, J5, q4⟩
    | ret u => obtain ⟨v4, σ4, H4, S4, r4, q4⟩ := hsp; exact bye (S4.unsuite ok) fun s5 J5 => ⟨_, _, _, J5, r4, q4⟩
/-- what a class of exceptions must say -/
structure KxC (K : PySem.W.Frag) (D : Addr) : Prop extends XfC K D where
  ca : PySem.W.findIn K (.ref D) "__class__" = some (some (.builtin "object.__class__"))
  cn : PySem.W.specialIn K (.builtin "object.__class__") "__get__" = some (some (.builtin "getset_descriptor.__get__"))
  ct : PySem.W.takesIn K (.builtin "object.__class__") = some true
  cm : PySem.W.mroIn K D (.type "object") = some true
/-- its dict, if it has one -/
def KeD (H : Hp) (d : Option Addr) : Prop := d = none ∨ ∃ dd fs, d = some dd ∧ H dd = some (.xd fs)
theorem ke_inst {pins : List (Addr × Obj)} {σ : L2.St} {H : Hp} {s : Shared} {a D : Addr} {d : Option Addr} (I : Inv X pins σ H s) (h : H a = some (KeO (.ref D) d a)) (hd : KeD H d) : ∃ oe od, PySem.W.InstAt s.heap a oe D od := by
  obtain ⟨oe, vs, he, hz, hv⟩ := keO_at (I.hok a _ h)
  have nc : PySem.W.notCls oe = true := by unfold PySem.W.notCls; rw [hv]
  rcases hd with rfl | ⟨dd, fs, rfl, hx⟩
  · exact ⟨oe, none, he, hz.1, nc, by rw [hz.2]; trivial⟩
  · obtain ⟨mA, hns, _⟩ := I.hok dd _ hx
    obtain ⟨oD, hD, _⟩ := lookIn_ns hns
    exact ⟨oe, some oD, he, hz.1, nc, by rw [hz.2]; exact hD⟩
def rIsK (K : PySem.W.Frag) : List V → Hp → VK → Prop := fun xs H Q => ∃ (a D : Addr) (d : Option Addr) (c : V) (cv : Value) (b : Bool), xs = [.ref a, c] ∧ H a = some (KeO (.ref D) d a) ∧ KeD H d ∧ KxC K D ∧ (∀ u, RelV c u → u = cv) ∧ PySem.W.kitOne K (.ref D) cv = some b ∧ Q (.bl b) H
theorem call_isK : CallR X (.builtin "isinstance") (rIsK X.K) := by
  intro pins s σ H xs us Q I r h
  obtain ⟨a, D, d, c, cv, b, rfl, ha, hd, C, hcv, e, q⟩ := h
  cases r with
  | cons rx rr =>
    cases rr with
    | cons rt rr =>
      cases rr
      cases rx
      have ec := hcv _ rt
      subst ec
      obtain ⟨oe, od, J⟩ := ke_inst I ha hd
      have hcl : (PySem.W.clsIn X.K D).isSome = true := by
        obtain ⟨cd, hc, _⟩ := PySem.W.any_some C.hdC
        rw [hc]
        rfl
      exact PySem.W.kia_one (PySem.W.kitx_exc hcl C.ga C.gg C.exC C.ca C.cn C.ct C.cm) I.kIn J e (fun z => nomatch z) fun tk => ⟨.bl b, H, I.kept (t' := tk) fun _ _ z => z, rfl, q⟩
/-- one of its fields -/
def tKf (K : PySem.W.Frag) (f : Str) (te : TE) : TE := fun σ H Q => te σ H fun x H1 => ∃ (a D dd : Addr) (fs : List (Str × V)) (v : V), x = .ref a ∧ H1 a = some (KeO (.ref D) (some dd) a) ∧ XfC K D ∧ PySem.W.findIn K (.ref D) f = some none ∧ H1 dd = some (.xd fs) ∧ fs.lookup f = some v ∧ Q v H1
theorem pe_kf {e : Expr} {te : TE} {pos : Pos} {n : Str} (he : PE X e te) (hb : attributeBase e n X.env (eval e X.env) = eval e X.env := by rfl) : PE X (.Attribute e n pos) (tKf X.K n te) := by
  refine ⟨fun pins s σ H Q I h => ?_⟩
  refine attr_of hb (thn (he.run pins s σ H _ I h) fun u s1 hh => ?_)
  obtain ⟨x, H1, I1, rx, a, D, dd, fs, v, ex, ha, T, hno, hx, l, q⟩ := hh
  subst ex
  obtain rfl : u = Value.ref a := rx
  obtain ⟨oe, vs, he1, hz, hv⟩ := keO_at (I1.hok a _ ha)
  obtain ⟨mA, nsA, rA⟩ := I1.hok dd _ hx
  obtain ⟨oD, hD, lD⟩ := lookIn_ns nsA
  obtain ⟨uf, huf, ruf⟩ := RelO.some_of (v := v) (o := mA n) (by rw [← l]; exact rA n)
  have J : PySem.W.InstAt s1.heap a oe D (some oD) := ⟨he1, hz.1, by unfold PySem.W.notCls; rw [hv], by rw [hz.2]; exact hD⟩
  exact HandSPX.exc_get I1.kIn J T.ga T.gg T.exC (PySem.W.findObj_own T.hdC hno rfl (by rw [lD, huf])) (handed_of ruf) ⟨v, H1, I1.tok _, ruf, q⟩
end
end Own
set_option maxRecDepth 100000
set_option maxHeartbeats 4000000
/-! x(*y, e, ..): a starred argument first, others behind it. -/
namespace Own
open PySem PySem.Spec PyProof.Rows L2 StX
theorem args_sf {M : Model} {A : Around} {E : Value → Shared → Prop} {s : Shared} {f : Value} {x : Sem Value} {y : Bool × Sem Value} {rest : List (Bool × Sem Value)} {Q : Args → Shared → Prop}
    (h : wpAny M A (spliced ((true, x) :: y :: rest)) (fun vs s' => Q ⟨vs, []⟩ s') E s) : wpAny M A (evalArgs f true ((true, x) :: y :: rest) []) Q E s := by
  unfold evalArgs
  show wpAny M A (spliced ((true, x) :: y :: rest) >>= _) Q E s
  refine wpAny_bind (wpAny_mono h (fun vs s' q => ?_) fun _ _ x => x)
  exact wpAny_holding (wpAny_bind (wpAny_pure (wpAny_bind (wpAny_pure (wpAny_pure q)))))
section
variable {X : Cx} {CX : CXT} {k : Nat} {f : Addr} {sp : Sp} {E : XK} {x : Str} {e e2 : Expr} {es : List Expr} {te : TE} {t : TA} {p sp_ pos : Pos}
theorem pe_callSF (F : FnR X.prog X.w X.K X.mg X.base CX k f sp) (hr : Room k X.A) (hk : PySem.W.keepIn X.K (.ref f) = true) (hg : Gl X x) (hm : X.mg x = some (.ref f)) (hx : Passes CX X E) (he : PE X e te) (ha : PA X (e2 :: es) t) (hd : (x == ("__debug__" : Str)) = false := by decide)
    (hst : starEach (.Starred e sp_ :: e2 :: es) X.env = (true, eval e X.env) :: (false, eval e2 X.env) :: starEach es X.env := by rfl) (hs2 : starEach (.Starred e sp_ :: e2 :: es) X.env = (true, eval e X.env) :: starEach (e2 :: es) X.env := by rfl) :
    PE X (.Call (.Name x p) (.Starred e sp_ :: e2 :: es) [] pos) (fun σ H Q => te σ H fun y H1 => ∃ a xs, y = V.ref a ∧ (SqT X.K H1 a xs ∨ SqL X.K H1 a xs) ∧ t σ H1 fun ys H2 => sp (xs ++ ys) H2 Q E) := by
  refine ⟨fun pins s σ H Q I h => ?_⟩
  refine wpAny_Call_Name_kw (ld_glob I hg hm ?_ hd)
  have go : wpAny (model X.prog X.w) X.A (spliced (backTo pos (starEach (.Starred e sp_ :: e2 :: es) X.env))) (fun vs s1 => X.K.In s1.heap ∧ wpAny (model X.prog X.w) X.A (call (.ref f) ([] ++ vs)) (EP X pins σ Q) X.xe s1) X.xe s := by
    refine PySem.W.items_star (thn (he.run pins s σ H _ I h) fun v s1 z => ?_) hs2
    obtain ⟨y, H1, I1, ry, a, xs, ey, hxs, q⟩ := z
    subst ey
    obtain rfl : v = Value.ref a := ry
    refine star_any I1 hxs fun us s2 I2 rv => ?_
    refine thn (ha.run pos pins s2 σ H1 _ I2 q) fun ws s3 z => ?_
    obtain ⟨vs, H3, I3, r3, q3⟩ := z
    exact ⟨I3.kIn, wpAny_call (run_fnR F hr hx I3 (rv.append r3) q3)⟩
  rw [hst] at go ⊢
  exact PySem.W.ks_call rfl (PySem.W.keeps_K hk) (args_sf go)
end
/-! f(k = v, ..) with keywords alone -/
def tCallK0 (n : Nat) (sp : Sp) (gV : List V → List V → List V) (E : XK) (tk : TA) : TE := fun σ H Q => tk σ H fun zs H1 => zs.length = n ∧ sp (gV [] zs) H1 Q E
section
variable {X : Cx} {CX : CXT} {k : Nat} {f : Addr} {fd : FuncData} {sp : Sp} {E : XK} {x : Str} {p pos : Pos} {ps ks : List Str} {kws : List Keyword} {tk : TA} {g : List Value → List Value → List Value} {gV : List V → List V → List V}
theorem pe_callK0 (F : FnOk X.prog X.w X.K X.mg X.base CX k f fd ps sp) (hr : Room k X.A) (hg : Gl X x) (hm : X.mg x = some (.ref f)) (hk : PySem.W.keepIn X.K (.ref f) = true) (hb : KBn X.K fd ps 0 ks g gV) (hx : Passes CX X E) (hkw : PK X kws tk)
    (hall : (backToKw pos (keywordEach kws X.env)).all (·.1.isSome) = true := by rfl) (hks : (backToKw pos (keywordEach kws X.env)).filterMap (·.1) = ks := by rfl)
    (hdb : (x == ("__debug__" : Str)) = false := by decide) (hpl : ((backTo pos (starEach [] X.env)).any (·.1) || (backToKw pos (keywordEach kws X.env)).any (·.1.isNone)) = false := by rfl) :
    PE X (.Call (.Name x p) [] kws pos) (tCallK0 ks.length sp gV E tk) := by
  refine ⟨fun pins s σ H Q I h => ?_⟩
  refine wpAny_Call_Name_kw (ld_glob I hg hm ?_ hdb)
  refine PySem.W.callWith_KW0 (first := []) (h₀ := X.base) I.ok.mod.kin hk hall (thn (hkw.run pos pins s σ H _ I h) fun ws s2 ⟨zs, H2, I2, rz, hl, q2⟩ => ⟨I2.kIn, ?_⟩) hpl
  rw [hks]
  exact run_fnN (us := []) (vs := []) F hr hb hx I2 .nil rz rfl hl q2
end
end Own
set_option maxRecDepth 100000
set_option maxHeartbeats 4000000
/-! Promises of defs that are called where no object is being shown (for repr), and the end of such a law, with tables of code objects. -/
namespace Own
open PySem PySem.Spec PyProof.Rows L2
structure FnG (P : Program) (w : World) (K : PySem.W.Frag) (mg : Str → Option Value) (base : Heap) (CX : CXT) (k : Nat) (f : Addr) (fd : FuncData) (ps : List Str) (sp : Sp) : Prop where
  len : ∀ vs H Q E, sp vs H Q E → vs.length = ps.length
  run : ∀ (A : Around) (outer : List Env) (s : Shared) (H : Hp) (args : Args) (us : List Value) (vs : List V) (Q : VK) (E : XK), A.guards = some [] → Room k A → Env0 P w K mg base A outer s H → BindsTo s fd args (ps.zip us) → Vals vs us →
    sp vs H Q E → codeAny (model P w) A (.call (.ref f) args) (CR CX outer P w H s Q E) s
section
variable {P : Program} {w : World} {K : PySem.W.Frag} {mg : Str → Option Value} {base : Heap} {x qual : Str} {st : Stmt} {f c : Addr} {fd : FuncData} {N ps : List Str} {k : Nat} {sp : Sp}
theorem okG (F : Fun K x qual st f fd) (S : FnScope N ps (defScope st)) (len : ∀ vs H Q E, sp vs H Q E → vs.length = ps.length)
    (hbody : ∀ (cdv : Value) (A : Around) (outer : List Env) (s : Shared) (H : Hp) (vs : List V) (Q : VK) (E : XK), A.guards = some [] → Room k (A.deeper (envOfC qual (defScope st) s.heap.objs.size f cdv)) → sp vs H Q E →
      ∃ t, PSs (cxOf CX0 P w K mg base N qual (defScope st) f cdv A outer s H E).nox (defBody st) t ∧ t { nx := fun _ H' => Q .non H', rt := Q } (start N vs) H) : FnG P w K mg base CX0 (k + 1) f fd ps sp := by
  obtain ⟨oc, od, kV, doc, pm, an, cdv, ct, osl, rfl, lk, hcd⟩ := F.ex
  refine ⟨len, fun A outer s H args us vs Q E hg hr e0 hb r hsp => LamX.run_ofS lk hcd S hr e0 hb r (len _ _ _ _ hsp) fun hr2 => ?_⟩
  obtain ⟨t, h, q⟩ := hbody cdv A outer s H vs Q E hg hr2 hsp
  exact ⟨t, h.nox, q⟩
/-- its code object is known -/
theorem okC (F : Fun K x qual st f fd) (hc : fd.code = .ref c) (S : FnScope N ps (defScope st)) (len : ∀ vs H Q E, sp vs H Q E → vs.length = ps.length)
    (hbody : ∀ (A : Around) (outer : List Env) (s : Shared) (H : Hp) (vs : List V) (Q : VK) (E : XK), Room k (A.deeper (envOfC qual (defScope st) s.heap.objs.size f (.ref c))) → sp vs H Q E →
      ∃ t, PSs (cxOf CX0 P w K mg base N qual (defScope st) f (.ref c) A outer s H E).nox (defBody st) t ∧ t { nx := fun _ H' => Q .non H', rt := Q } (start N vs) H) : FnOk P w K mg base CX0 (k + 1) f fd ps sp := by
  obtain ⟨oc, od, kV, doc, pm, an, cdv, ct, osl, rfl, lk, hcd⟩ := F.ex
  obtain rfl : cdv = .ref c := hc
  refine fn_of lk hcd S len fun A outer s H vs Q E hr hsp => ?_
  obtain ⟨t, h, q⟩ := hbody A outer s H vs Q E hr hsp
  exact ⟨t, h.nox, q⟩
end
section
variable {X : Cx} {CX : CXT} {k : Nat} {f : Addr} {fd : FuncData} {ps : List Str} {sp : Sp} {E : XK} {x : Str} {e : Expr} {es : List Expr} {t : TA} {p pos : Pos}
theorem run_fnG {pins : List (Addr × Obj)} {σ : L2.St} {H : Hp} {s : Shared} {Q : VK} {us : List Value} {vs : List V} (F : FnG X.prog X.w X.K X.mg X.base CX k f fd ps sp) (hg : X.A.guards = some []) (hr : Room k X.A) (hb : Binds X.K fd ps []) (hx : Passes CX X E)
    (I : Inv X pins σ H s) (r : Vals vs us) (h : sp vs H Q E) : wpAny (model X.prog X.w) X.A (call (.ref f) us) (EP X pins σ Q) X.xe s := by
  have hl : us.length = ps.length := by rw [← r.length]; exact F.len _ _ _ _ h
  have hb2 : BindsTo s fd ⟨us, []⟩ (ps.zip us) := by
    have := hb s us I.kIn (by rw [List.append_nil]; exact hl)
    rwa [List.append_nil] at this
  refine wpAny_call (codeAny_mono (F.run X.A X.stack s H ⟨us, []⟩ us vs Q E hg hr I.env0 hb2 r h) fun r s' hq => ?_)
  match r, hq with
  | .error e, hq => exact hx pins σ H s e s' I hq
  | .ok (.ret u), hq => exact I.after hq
  | .ok .next, hq => exact False.elim hq
  | .ok .brk, hq => exact False.elim hq
  | .ok .cont, hq => exact False.elim hq
theorem pe_callG (F : FnG X.prog X.w X.K X.mg X.base CX k f fd ps sp) (hg : X.A.guards = some []) (hr : Room k X.A) (hn : Gl X x) (hm : X.mg x = some (.ref f)) (hk : PySem.W.keepIn X.K (.ref f) = true) (hb : Binds X.K fd ps []) (hx : Passes CX X E)
    (ha : PA X (e :: es) t) (hdb : (x == ("__debug__" : Str)) = false := by decide) (he : starEach (e :: es) X.env = (false, eval e X.env) :: starEach es X.env := by rfl) (hpl : (backTo pos (starEach es X.env)).any (·.1) = false := by rfl) :
    PE X (.Call (.Name x p) (e :: es) [] pos) (fun σ H Q => t σ H fun vs H1 => sp vs H1 Q E) := by
  refine ⟨fun pins s σ H Q I h => wpAny_Call_Name_kw (ld_glob I hn hm ?_ hdb)⟩
  refine PySem.W.callWith_K (h₀ := X.base) I.ok.mod.kin hk (thn (ha.run pos pins s σ H _ I h) fun us s1 z => ?_) he hpl
  obtain ⟨vs, H1, I1, r, q⟩ := z
  exact ⟨I1.kIn, run_fnG F hg hr hb hx I1 r q⟩
/-- repr of data -/
def rRepr (K : PySem.W.Frag) : List V → Hp → VK → Prop := fun xs H Q => ∃ a d, xs = [.ref a] ∧ Dp K H (.ref a) d ∧ d.showable = true ∧ d.hasDict = false ∧ d.depth ≤ 60 ∧ d.shown.length ≤ sizeLine ∧ Q (.str d.shown) H
theorem call_repr (hg : X.A.guards = some []) (hu : X.A.units + 64 < cLine) : CallR X (.builtin "repr") (rRepr X.K) := by
  intro pins s σ H xs us Q I r h
  obtain ⟨a, d, rfl, hd, h1, h2, h3, h4, q⟩ := h
  obtain ⟨u, rfl, ru⟩ := vals1 r
  obtain rfl : u = Value.ref a := ru
  obtain ⟨as, rd⟩ := Dp.reads I d _ _ hd rfl
  exact repr_of_reads' rd h1 (fun e => by rw [h2] at e; cases e) hg (by omega) (fun _ _ e => e) (fun h' u tk hk => ⟨.str d.shown, H, I.kept hk, ⟨u, rfl⟩, q⟩) h4
end

/-! ### the end -/
/-- what is tracked at the law's entry: the tables, and the script unless it is the module's own -/
structure Ent (P : Program) (w : World) (K : PySem.W.Frag) (a : Addr) (cs : List (Addr × Addr)) (h : Heap) (ns : List Int) (H : Hp) : Prop where
  tab : ∀ p ∈ cs, H p.2 = some (.tbl #[])
  scr : SqL K H a (ns.map V.int)
  ok : HOk P w H h
  out : ∀ b u, H b = some u → K.lookup b = none
  only : ∀ b u, H b = some u → (u = .tbl #[] ∧ b ∈ cs.map (·.2)) ∨ (∃ xs o, u = .frz o (.lst xs) ∧ b = a)
theorem ent {P : Program} {w : World} {K : PySem.W.Frag} {a : Addr} {cs : List (Addr × Addr)} {h : Heap} {vs : List Value} {ns : List Int} (KX : K.In h) (hT : ∀ p ∈ cs, h.get? p.2 = some { cls := .none, data := .fields #[] }) (nT : ∀ p ∈ cs, K.lookup p.2 = none)
    (ha : h.get? a = some { cls := .type "list", data := .seq vs.toArray }) (hi : IntsAre vs ns) (hl : ns.length ≤ sizeLine) : ∃ H, Ent P w K a cs h ns H := by
  have rv := vals_ints hi
  have inT : ∀ b, b ∈ cs.map (·.2) → h.get? b = some { cls := .none, data := .fields #[] } ∧ K.lookup b = none := fun b m => by
    obtain ⟨p, hp, rfl⟩ := List.mem_map.mp m
    exact ⟨hT p hp, nT p hp⟩
  have aT : a ∉ cs.map (·.2) := fun m => by
    have z := (inT a m).1
    rw [ha] at z
    exact nomatch congrArg Obj.cls (Option.some.inj z)
  have hm : ∀ p ∈ cs, p.2 ∈ cs.map (·.2) := fun p hp => List.mem_map_of_mem hp
  by_cases hk : K.lookup a = none
  · refine ⟨fun b => if b ∈ cs.map (·.2) then some (.tbl #[]) else if b = a then some (.frz { cls := .type "list", data := .seq vs.toArray } (.lst (ns.map V.int))) else none,
      fun p hp => if_pos (hm p hp), .inl (.inr ⟨{ cls := .type "list", data := .seq vs.toArray }, ?_⟩), fun b u e => ?_, fun b u e => ?_, fun b u e => ?_⟩
    · show (if a ∈ cs.map (·.2) then _ else _) = _
      rw [if_neg aT, if_pos rfl]
    · by_cases m : b ∈ cs.map (·.2)
      · rw [if_pos m] at e
        cases e
        exact (inT b m).1
      · rw [if_neg m] at e
        by_cases eb : b = a
        · rw [if_pos eb] at e
          cases e
          subst eb
          exact ⟨ha, by rw [List.length_map]; exact hl, vs, _, rv, ha⟩
        · rw [if_neg eb] at e
          cases e
    · by_cases m : b ∈ cs.map (·.2)
      · exact (inT b m).2
      · rw [if_neg m] at e
        by_cases eb : b = a
        · rw [eb]; exact hk
        · rw [if_neg eb] at e
          cases e
    · by_cases m : b ∈ cs.map (·.2)
      · rw [if_pos m] at e
        cases e
        exact .inl ⟨rfl, m⟩
      · rw [if_neg m] at e
        by_cases eb : b = a
        · rw [if_pos eb] at e
          cases e
          exact .inr ⟨_, _, rfl, eb⟩
        · rw [if_neg eb] at e
          cases e
  · obtain ⟨o, ho⟩ := Option.ne_none_iff_exists'.mp hk
    have e0 := KX a o ho
    rw [ha] at e0
    cases e0
    refine ⟨fun b => if b ∈ cs.map (·.2) then some (.tbl #[]) else none, fun p hp => if_pos (hm p hp), .inr ⟨_, vs.toArray, _, ho, rfl, rfl, rfl, by rw [List.size_toArray, hi.length]; exact hl, by simpa using rv⟩, fun b u e => ?_, fun b u e => ?_, fun b u e => ?_⟩
    · by_cases m : b ∈ cs.map (·.2)
      · rw [if_pos m] at e
        cases e
        exact (inT b m).1
      · rw [if_neg m] at e
        cases e
    · by_cases m : b ∈ cs.map (·.2)
      · exact (inT b m).2
      · rw [if_neg m] at e
        cases e
    · by_cases m : b ∈ cs.map (·.2)
      · rw [if_pos m] at e
        cases e
        exact .inl ⟨rfl, m⟩
      · rw [if_neg m] at e
        cases e
end Own
set_option maxRecDepth 100000
set_option maxHeartbeats 4000000
/-! str(x), f"{x}" and x in y by own methods; repr of any plain value. -/
namespace Own
open PySem PySem.Spec PyProof.Rows L2
section
variable {X : Cx} {CX : CXT} {k : Nat} {C f : Addr} {fd : FuncData} {ps : List Str} {sp : Sp} {E : XK}
/-- str of an instance whose class has __str__ -/
def rStr (C : Addr) (sp : Sp) (E : XK) : List V → Hp → VK → Prop := fun xs H Q => ∃ a dx fs, xs = [.ref a] ∧ H a = some (.ins C dx fs) ∧ sp [.ref a] H (fun v H' => (∃ y, v = .str y) ∧ Q v H') E
theorem call_ownStr (F : FnOk X.prog X.w X.K X.mg X.base CX k f fd ps sp) (hr : Room (k + 2) X.A) (hs : PySem.W.findIn X.K (.ref C) "__str__" = some (some (.ref f))) (hf : PySem.W.isFn X.K (.ref f) = true) (hb : Binds X.K fd ps []) (hx : Passes CX X E) :
    CallR X (.type "str") (rStr C sp E) := by
  intro pins s σ H xs us Q I r h
  obtain ⟨a, dx, fs, rfl, ha, hsp⟩ := h
  obtain ⟨u, rfl, ru⟩ := vals1 r
  obtain rfl : u = Value.ref a := ru
  obtain ⟨mA, J, _⟩ := ins_get I.hok ha
  obtain ⟨od, J, _⟩ := J.look
  have hr2 : Room k X.A.in1.in1 := (Room.in1 (k := k + 1) hr).in1
  refine PySem.W.kso_call hr2.units0 I.kIn J hs hf (wpAny_mono (run_fnA F hr2 rfl hb hx I (vs := [.ref a]) (.cons rfl .nil) hsp) (fun w s' q => ?_) fun _ _ e => e)
  obtain ⟨v', H', I', rv, ⟨y, rfl⟩, q⟩ := q
  obtain ⟨t, rfl⟩ := rv
  exact ⟨.str y, H', I', ⟨t, rfl⟩, q⟩
/-- f"{x}" of such an instance -/
def tFmtO (C : Addr) (sp : Sp) (E : XK) (te : TE) : TE := fun σ H Q => te σ H fun x H1 => ∃ a dx fs, x = .ref a ∧ H1 a = some (.ins C dx fs) ∧ sp [.ref a] H1 (fun v H' => (∃ y, v = .str y) ∧ Q v H') E
theorem pe_fmtO {e : Expr} {te : TE} {pos : Pos} (he : PE X e te) (F : FnOk X.prog X.w X.K X.mg X.base CX k f fd ps sp) (hr : Room (k + 1) X.A) (hs : PySem.W.findIn X.K (.ref C) "__str__" = some (some (.ref f))) (hf : PySem.W.isFn X.K (.ref f) = true)
    (hfm : PySem.W.findIn X.K (.ref C) "__format__" = some (some (.builtin "object.__format__"))) (hm : PySem.W.mroIn X.K C (.type "object") = some true) (hb : Binds X.K fd ps []) (hx : Passes CX X E) : PE X (.FormattedValue e (-1) none pos) (tFmtO C sp E te) := by
  refine ⟨fun pins s σ H Q I h => ?_⟩
  refine wpAny_FormattedValue_plain (thn (he.run pins s σ H _ I h) fun v s1 hv => ?_)
  obtain ⟨x, H1, I1, r1, a, dx, fs, rfl, ha, hsp⟩ := hv
  obtain rfl : v = Value.ref a := r1
  obtain ⟨mA, J, _⟩ := ins_get I1.hok ha
  obtain ⟨od, J, _⟩ := J.look
  have hr1 : Room k X.A.in1 := hr.in1
  refine PySem.W.kfo_fieldS hr1.units0 I1.kIn J hfm hm hs hf (wpAny_mono (run_fnA F hr1 rfl hb hx (I1.tok _) (vs := [.ref a]) (.cons rfl .nil) hsp) (fun w s' q => ?_) fun _ _ e => e)
  obtain ⟨v', H', I', rv, ⟨y, rfl⟩, q⟩ := q
  obtain ⟨t, rfl⟩ := rv
  exact ⟨.str y, H', I', ⟨t, rfl⟩, q⟩
/-- x in y, y an instance whose class has __contains__ -/
def rIn (C : Addr) (sp : Sp) (E : XK) : R2 := fun x y H Q => ∃ a dx fs, y = .ref a ∧ H a = some (.ins C dx fs) ∧ sp [y, x] H (fun v H' => ∃ b, v = .bl b ∧ Q (.bl b) H') E
theorem op_inOwn (F : FnOk X.prog X.w X.K X.mg X.base CX k f fd ps sp) (hr : Room k X.A) (hs : PySem.W.findIn X.K (.ref C) "__contains__" = some (some (.ref f))) (hf : PySem.W.isFn X.K (.ref f) = true) (hb : Binds X.K fd ps []) (hx : Passes CX X E) :
    OpR X (compareOp .In) (rIn C sp E) := by
  intro pins s σ H x y u v Q I rx ry h
  obtain ⟨a, dx, fs, rfl, ha, hsp⟩ := h
  obtain rfl : v = Value.ref a := ry
  obtain ⟨mA, J, _⟩ := ins_get I.hok ha
  obtain ⟨od, J, _⟩ := J.look
  have KX := I.kIn
  have hty := beq_iff_eq.mp hf
  show wpAny _ _ (do return Value.bool (← contains (.ref a) u)) _ _ _
  refine wpAny_bind ?_
  unfold contains
  refine wpAny_holding ?_
  show wpAny _ _ (do if (← specialOf (.ref a) "__contains__") == some .none then _ else _) _ _ _
  refine wpAny_bind (wpAny_bind (J.type.here ((PySem.W.looks_findIn KX hs).here ?_)))
  have hne : ((some (Value.ref f) : Option Value) == some Value.none) = false := rfl
  simp only [hne, Bool.false_eq_true, if_false]
  unfold callSpecialUnlessNone?
  refine wpAny_bind (wpAny_bind (wpAny_bind (J.type.here ((PySem.W.looks_findIn KX hs).here ?_))))
  dsimp only
  refine wpAny_holding (wpAny_bind ((PySem.W.bind_fn KX _ hty).here ?_))
  have hne2 : (Value.ref f == Value.none) = false := rfl
  simp only [hne2, Bool.false_eq_true, if_false]
  have r2 : Vals [V.ref a, x] [Value.ref a, u] := .cons rfl (.cons rx .nil)
  refine wpAny_bind (wpAny_mono (run_fn F hr hb .nil hx I r2 hsp) (fun w s' q => ?_) fun _ _ e => e)
  obtain ⟨v', H', I', rv, b, rfl, q⟩ := q
  obtain rfl : w = Value.bool b := rv
  refine wpAny_pure ?_
  show wpAny _ _ (truthy (.bool b)) _ _ _
  exact wpAny_pure (wpAny_pure ⟨.bl b, H', I', rfl, q⟩)
end
/-- what repr shows of a plain value -/
inductive ReprOf (K : PySem.W.Frag) (H : Hp) : V → Str → Prop
  | non : ReprOf K H .non "None"
  | bl (b : Bool) : ReprOf K H (.bl b) (if b then "True" else "False")
  | int (i : Int) (h : i.natAbs.log2 < 1920) : ReprOf K H (.int i) (toString i : String)
  | str (x : Str) (h : (reprText x).length ≤ sizeLine) : ReprOf K H (.str x) (reprText x)
  | dat {a : Addr} {d : PyData} (h : Dp K H (.ref a) d) (h1 : d.showable = true) (h2 : d.hasDict = false) (h3 : d.depth ≤ 60) (h4 : d.shown.length ≤ sizeLine) : ReprOf K H (.ref a) d.shown
  | dct {a : Addr} (h : H a = some (.dK [])) : ReprOf K H (.ref a) (PyData.dict []).shown
def rReprA (K : PySem.W.Frag) : List V → Hp → VK → Prop := fun xs H Q => ∃ v t, xs = [v] ∧ ReprOf K H v t ∧ Q (.str t) H
section
variable {X : Cx}
theorem call_reprA (hg : X.A.guards = some []) (hu : X.A.units + 64 < cLine) : CallR X (.builtin "repr") (rReprA X.K) := by
  intro pins s σ H xs us Q I r h
  obtain ⟨v, t, rfl, hv, q⟩ := h
  obtain ⟨u, rfl, ru⟩ := vals1 r
  cases hv with
  | non =>
    obtain rfl : u = Value.none := ru
    exact PySem.P.repr_of_none ⟨.str _, H, I.tok _, ⟨_, rfl⟩, q⟩
  | bl b =>
    obtain rfl : u = Value.bool b := ru
    exact PySem.P.repr_of_bool ⟨.str _, H, I.tok _, ⟨_, rfl⟩, q⟩
  | int i h =>
    obtain ⟨tk, rfl⟩ := ru
    exact PySem.P.repr_of_int h ⟨.str _, H, I.tok _, ⟨_, rfl⟩, q⟩
  | str x h =>
    obtain ⟨tk, rfl⟩ := ru
    exact PySem.P.repr_of_str (h := ⟨.str _, H, I.tok _, ⟨_, rfl⟩, q⟩) (hsz := h)
  | dat h h1 h2 h3 h4 =>
    rename_i a d
    obtain rfl : u = Value.ref a := ru
    obtain ⟨as, rd⟩ := Dp.reads I d _ _ h rfl
    exact repr_of_reads' rd h1 (fun e => by rw [h2] at e; cases e) hg (by omega) (fun _ _ e => e) (fun h' u tk hk => ⟨.str d.shown, H, I.kept hk, ⟨u, rfl⟩, q⟩) h4
  | dct h =>
    rename_i a
    obtain rfl : u = Value.ref a := ru
    obtain ⟨_, hsm, vs, hkv, o, es, ep, e1, e2, e3, _, e5, _⟩ := dk_of I.hok h
    cases hkv
    have e6 : es.toList = [] := by
      cases hl : es.toList with
      | nil => rfl
      | cons x r => rw [hl] at e5; cases e5
    have rd : Reads s.heap (.ref a) (.dict []) (a :: [] ++ []) := Reads.dict e1 e2.1 e3 (by rw [e6]; exact .nil) (by rw [e6]; exact .nil)
    have hn : sysModules ∉ (a :: [] ++ [] : List Addr) := fun m => by
      rcases List.mem_cons.mp m with e | e
      · rw [e] at hsm
        simp at hsm
      · cases e
    exact repr_of_reads' rd (by rfl) (fun _ => hn) hg (by have : (PyData.dict []).depth ≤ 60 := by decide +kernel
                                                          omega) (fun _ _ e => e) (fun h' u tk hk => ⟨.str (PyData.dict []).shown, H, I.kept hk, ⟨u, rfl⟩, q⟩) (by decide +kernel)
end
end Own
set_option maxRecDepth 100000
set_option maxHeartbeats 4000000
/-! for x in range(i, j), however great i and j are. -/
namespace Own
open PySem PySem.Spec PyProof.Rows L2
theorem turn_long {P : Program} {w : World} {K : PySem.W.Frag} {tg : Expr} (b0 : Addr) (lo : Int) (n : Nat) : Turn P w K tg (Itr lo n) [b0] b0 (fun i h => IsLongIter h b0 (lo + (i : Nat) * 1) ((n : Int) - (i : Nat)) 1) where
  mem := List.mem_cons_self
  obj := fun i h st b hb => by
    obtain rfl : b = b0 := by simpa using hb
    exact ⟨_, st, fun v z => by
      have zz : Data.fields _ = Data.cell v := z
      cases zz⟩
  keep := fun _ _ _ st k => k b0 List.mem_cons_self _ st
  item := by
    intro X eP ew eK calm i pins s σ H E I fp st lt
    subst eP ew eK
    obtain ⟨q0, q1, q2, q3, q4, q5⟩ := fp b0 List.mem_cons_self
    have W := Walks.longrange (prog := X.prog) (w := X.w) (I.ok.hd calm) b0 lo 1 n
    refine W.item i s _ _ lt st fun v h' tk hv st2 kk => ?_
    obtain ⟨t, rfl⟩ := hv
    have I2 : Inv X pins σ H { s with heap := h', toks := tk } := I.turned (fun b o hb e => kk b o (by simpa using hb) e) q0 q1 q3 q4 q5
    refine ⟨_, rfl, go_of (s := { s with heap := h', toks := tk }) (n := "longrange_iterator") st2 rfl rfl (by decide) ⟨.int (lo + i), H, I2, ⟨t, by rw [Int.mul_one]⟩, ⟨rfl, rfl⟩, st2, fun b hb => (fp b hb).1⟩⟩
  done := by
    intro X eP ew eK calm i pins s σ H E I fp st ge
    subst eP ew eK
    obtain ⟨q0, q1, q2, q3, q4, q5⟩ := fp b0 List.mem_cons_self
    exact wpAny_pyNext_long_end (I.ok.hd calm) st (by have : n ≤ i := ge; omega) fun h' eb => ⟨rfl, I.turned (t' := s.toks) (fun b o hb e => eb b o hb e) q0 q1 q3 q4 q5⟩
  self := fun _ _ _ _ _ st h => wpAny_pyIter_longiter st h
section
variable {X : Cx} {tg : Expr}
def iRngW (ta : TA) : TI := fun σ H R => ta σ H fun vs H1 => ∃ i j : Int, vs = [.int i, .int j] ∧ R (Itr i (j - i).toNat) H1
theorem wide_it {pins : List (Addr × Obj)} {σ : L2.St} {H1 : Hp} {s1 : Shared} {R : It → Hp → Prop} {E : Value → Shared → Prop} {lo hi : Int} {ta tb tc : Tok} {tk : Nat} (I1 : Inv X pins σ H1 s1) (q : R (Itr lo (hi - lo).toNat) H1) :
    wpAny (model X.prog X.w) X.A (pyIter (.ref s1.heap.objs.size)) (PIE X pins σ tg R) E { s1 with heap := s1.heap.push { cls := .type "range", data := .fields #[.int lo ta, .int hi tb, .int 1 tc] }, toks := tk } := by
  have e2 : (((hi - lo).toNat : Nat) : Int) - ((0 : Nat) : Int) = Builtin.Range.rangeSize lo hi 1 := by rw [rangeSize_one]; split <;> omega
  have e1 : lo + ((0 : Nat) : Int) * 1 = lo := by simp
  have I2 : Inv X pins σ H1 { s1 with heap := s1.heap.push { cls := .type "range", data := .fields #[.int lo ta, .int hi tb, .int 1 tc] }, toks := tk } := I1.kept (t' := tk) fun b o e => Heap.get?_push_of_some _ e
  cases sm : Builtin.Range.small lo hi 1 with
  | true =>
    refine wpAny_pyIter_range (IsRange.new ..) sm ?_
    refine ⟨_, [_], _, _, H1, rfl, I2.kept (t' := tk) fun b o e => Heap.get?_push_of_some _ e, turn_range _ lo (hi - lo).toNat, ?_, fun b hb => ?_, q⟩
    · show IsRangeIter _ _ (lo + ((0 : Nat) : Int) * 1) ((((hi - lo).toNat : Nat) : Int) - ((0 : Nat) : Int)) 1
      rw [e1, e2]
      exact Heap.get?_push_size _ rfl
    · obtain rfl := List.mem_singleton.mp hb
      exact I2.fpOk (Nat.le_refl _) (I2.hok.fresh (Nat.le_refl _))
  | false =>
    refine wpAny_pyIter_longrange (IsRange.new ..) sm ?_
    refine ⟨_, [_], _, _, H1, rfl, I2.kept (t' := tk) fun b o e => Heap.get?_push_of_some _ e, turn_long _ lo (hi - lo).toNat, ?_, fun b hb => ?_, q⟩
    · show IsLongIter _ _ (lo + ((0 : Nat) : Int) * 1) ((((hi - lo).toNat : Nat) : Int) - ((0 : Nat) : Int)) 1
      rw [e1, e2]
      exact Heap.get?_push_size _ rfl
    · obtain rfl := List.mem_singleton.mp hb
      exact I2.fpOk (Nat.le_refl _) (I2.hok.fresh (Nat.le_refl _))
theorem pi_rangeW {a b : Expr} {ta : TA} {p pos : Pos} (hg : Gl X "range") (hm : X.mg "range" = none) (ha : PA X [a, b] ta) (h1 : starEach [a, b] X.env = [(false, eval a X.env), (false, eval b X.env)] := by rfl) (h2 : starEach [b] X.env = [(false, eval b X.env)] := by rfl) :
    PI X tg (.Call (.Name "range" p) [a, b] [] pos) (iRngW ta) := by
  refine ⟨fun pins s σ H R I hw => ?_⟩
  refine Call_ (ld_blt I hg hm boot_range (PyProof.Rows.callWith_type1 (thn (ha.run pos pins s σ H _ I hw) fun us s1 z => ?_) (by rw [h1, h2]) (by rw [h2]; rfl)))
  obtain ⟨vs, H1, I1, rv, lo, hi, rfl, q⟩ := z
  cases rv with
  | cons ra rr =>
    cases rr with
    | cons rb rr =>
      cases rr
      obtain ⟨ta', rfl⟩ := ra
      obtain ⟨tb', rfl⟩ := rb
      exact call_range_2 (wide_it I1 q)
end
end Own
/-! Arithmetic of fractions strictly inside a piece whose ends are neighbours. -/
namespace PieM
/-- p/q stands strictly between a/b and c/d -/
def Ins (a b c d p q : Int) : Prop := a * q < p * b ∧ p * d < c * q
structure Nb (a b c d : Int) : Prop where
  a0 : 0 ≤ a
  ab : a < b
  c0 : 0 < c
  cd : c ≤ d
  nb : b * c - a * d = 1
variable {a b c d : Int}
theorem spot (h : Nb a b c d) (p q : Int) : (c * q - p * d) * b + (p * b - a * q) * d = q := by
  have := h.nb
  have e : (c * q - p * d) * b + (p * b - a * q) * d = q * (b * c - a * d) := by grind
  rw [e, this, Int.mul_one]
theorem reach (h : Nb a b c d) {p q : Int} (i : Ins a b c d p q) : b + d ≤ q := by
  have e := spot h p q
  have hb : 0 < b := by have := h.a0; have := h.ab; omega
  have hd : 0 < d := by have := h.c0; have := h.cd; omega
  have u : 1 ≤ c * q - p * d := by have := i.2; omega
  have v : 1 ≤ p * b - a * q := by have := i.1; omega
  have x : 1 * b ≤ (c * q - p * d) * b := Int.mul_le_mul_of_nonneg_right u (by omega)
  have y : 1 * d ≤ (p * b - a * q) * d := Int.mul_le_mul_of_nonneg_right v (by omega)
  omega
/-- the least top with this bottom that comes behind the left end -/
def top (a b q : Int) : Int := a * q / b + 1
theorem top_gt (h : Nb a b c d) (q : Int) : a * q < top a b q * b := by
  have hb : 0 < b := by have := h.a0; have := h.ab; omega
  unfold top
  exact Int.lt_ediv_add_one_mul_self _ hb
theorem top_le (h : Nb a b c d) {p q : Int} (i : a * q < p * b) : top a b q ≤ p := by
  have hb : 0 < b := by have := h.a0; have := h.ab; omega
  unfold top
  have := Int.ediv_lt_of_lt_mul hb i
  omega
theorem ins_top (h : Nb a b c d) {p q : Int} (i : Ins a b c d p q) : Ins a b c d (top a b q) q := by
  have hd : 0 < d := by have := h.c0; have := h.cd; omega
  refine ⟨top_gt h q, ?_⟩
  have x : top a b q * d ≤ p * d := Int.mul_le_mul_of_nonneg_right (top_le h i.1) (by omega)
  have := i.2
  omega
theorem ins_pos (h : Nb a b c d) {p q : Int} (i : Ins a b c d p q) : 0 < p ∧ p < q := by
  have hb : 0 < b := by have := h.a0; have := h.ab; omega
  have hd : 0 < d := by have := h.c0; have := h.cd; omega
  have hq := reach h i
  have aq : 0 ≤ a * q := Int.mul_nonneg h.a0 (by omega)
  have p0 : 0 < p * b := by have := i.1; omega
  have pp : 0 < p := Int.pos_of_mul_pos_left p0 hb
  have cq : c * q ≤ d * q := Int.mul_le_mul_of_nonneg_right h.cd (by omega)
  have pd : p * d < q * d := by have := i.2; rw [Int.mul_comm q d]; omega
  exact ⟨pp, Int.lt_of_mul_lt_mul_right pd (by omega)⟩
theorem ins_div (h : Nb a b c d) {g p q : Int} (hg : 0 < g) (i : Ins a b c d (g * p) (g * q)) : Ins a b c d p q := by
  refine ⟨?_, ?_⟩
  · have := i.1
    rw [show a * (g * q) = g * (a * q) by grind, show g * p * b = g * (p * b) by grind] at this
    exact Int.lt_of_mul_lt_mul_left this (by omega)
  · have := i.2
    rw [show c * (g * q) = g * (c * q) by grind, show g * p * d = g * (p * d) by grind] at this
    exact Int.lt_of_mul_lt_mul_left this (by omega)
/-- no divisor of n from q0 on, below q, has a fraction inside -/
def Free (a b c d n q : Int) : Prop := ∀ r, b + d ≤ r → r < q → n % r = 0 → ¬ (top a b r * d < c * r)
theorem Free.none (h : Nb a b c d) {n q : Int} (f : Free a b c d n q) {r p : Int} (hr : r < q) (hn : n % r = 0) : ¬ Ins a b c d p r := fun i =>
  f r (reach h i) hr hn (ins_top h i).2
/-- the first fraction found has no common divisor -/
theorem first_cop (h : Nb a b c d) {n q : Int} (f : Free a b c d n q) (hn : n % q = 0) (t : top a b q * d < c * q) : Int.gcd (top a b q) q = 1 := by
  have i : Ins a b c d (top a b q) q := ⟨top_gt h q, t⟩
  have hq := reach h i
  have hb : 0 < b := by have := h.a0; have := h.ab; omega
  have hd : 0 < d := by have := h.c0; have := h.cd; omega
  generalize top a b q = p at i
  have gp : (Int.gcd p q : Int) ∣ p := Int.gcd_dvd_left ..
  have gq : (Int.gcd p q : Int) ∣ q := Int.gcd_dvd_right ..
  obtain ⟨p', hp'⟩ := gp
  obtain ⟨q', hq'⟩ := gq
  have g0 : 0 < (Int.gcd p q : Int) := by
    have : Int.gcd p q ≠ 0 := fun e => by
      have := (Int.gcd_eq_zero_iff.mp e).2
      omega
    omega
  generalize Int.gcd p q = g at hp' hq' g0 ⊢
  rw [hp', hq'] at i
  have i' := ins_div h g0 i
  have q0 := reach h i'
  by_cases e : g = 1
  · exact e
  · exfalso
    have g2 : 2 ≤ (g : Int) := by omega
    have lt : q' < q := by
      rw [hq']
      have : 2 * q' ≤ (g : Int) * q' := Int.mul_le_mul_of_nonneg_right g2 (by omega)
      omega
    have dv : n % q' = 0 := by
      have : q ∣ n := Int.dvd_of_emod_eq_zero hn
      have : q' ∣ n := Int.dvd_trans ⟨(g : Int), by rw [hq']; grind⟩ this
      exact Int.emod_eq_zero_of_dvd this
    exact (f.none h lt dv) i'
/-- where n meets 0 at no fraction inside, the octaves are the same all over -/
theorem floor_same (h : Nb a b c d) {n : Int} (n0 : n ≠ 0) (f : Free a b c d n ((n.natAbs : Int) + 1)) {p q : Int} (i : Ins a b c d p q) : n * p / q = n * (a + c) / (b + d) := by
  have hb : 0 < b := by have := h.a0; have := h.ab; omega
  have hd : 0 < d := by have := h.c0; have := h.cd; omega
  have hq := reach h i
  have im : Ins a b c d (a + c) (b + d) := by
    have := h.nb
    refine ⟨?_, ?_⟩
    · have : a * (b + d) = a * b + a * d := Int.mul_add ..
      have : (a + c) * b = a * b + b * c := by grind
      omega
    · have : (a + c) * d = a * d + c * d := Int.add_mul ..
      have : c * (b + d) = b * c + c * d := by grind
      omega
  have key : ∀ k x y u v : Int, 0 < y → 0 < v → Ins a b c d x y → Ins a b c d u v → n * x < k * y → k * v ≤ n * u → False := fun k x y u v y0 v0 i1 i2 l1 l2 => by
    have dv : n % (n.natAbs : Int) = 0 := Int.emod_eq_zero_of_dvd (Int.natAbs_dvd.mpr (Int.dvd_refl n))
    rcases Int.lt_or_gt_of_ne n0 with hn | hn
    · refine f.none h (r := -n) (p := -k) (by omega) (by rw [show (n.natAbs : Int) = -n by omega] at dv; exact dv) ⟨?_, ?_⟩
      · have e1 : a * v * (-n) < u * b * (-n) := Int.mul_lt_mul_of_pos_right i2.1 (by omega)
        have e2 : k * v * b ≤ n * u * b := Int.mul_le_mul_of_nonneg_right l2 (by omega)
        have e3 : a * (-n) * v < (-k) * b * v := by
          rw [show a * (-n) * v = a * v * (-n) by grind, show (-k) * b * v = -(k * v * b) by grind]
          have : u * b * (-n) = -(n * u * b) := by grind
          omega
        exact Int.lt_of_mul_lt_mul_right e3 (by omega)
      · have e1 : x * d * (-n) < c * y * (-n) := Int.mul_lt_mul_of_pos_right i1.2 (by omega)
        have e2 : n * x * d < k * y * d := Int.mul_lt_mul_of_pos_right l1 hd
        have e3 : (-k) * d * y < c * (-n) * y := by
          rw [show (-k) * d * y = -(k * y * d) by grind, show c * (-n) * y = c * y * (-n) by grind]
          have : x * d * (-n) = -(n * x * d) := by grind
          omega
        exact Int.lt_of_mul_lt_mul_right e3 (by omega)
    · refine f.none h (r := n) (p := k) (by omega) (Int.emod_self ..) ⟨?_, ?_⟩
      · have e1 : a * y * n < x * b * n := Int.mul_lt_mul_of_pos_right i1.1 hn
        have e2 : n * x * b < k * y * b := Int.mul_lt_mul_of_pos_right l1 hb
        have e3 : a * n * y < k * b * y := by
          rw [show a * n * y = a * y * n by grind, show k * b * y = k * y * b by grind]
          have : x * b * n = n * x * b := by grind
          omega
        exact Int.lt_of_mul_lt_mul_right e3 (by omega)
      · have e1 : u * d * n < c * v * n := Int.mul_lt_mul_of_pos_right i2.2 hn
        have e2 : k * v * d ≤ n * u * d := Int.mul_le_mul_of_nonneg_right l2 (by omega)
        have e3 : k * d * v < c * n * v := by
          rw [show k * d * v = k * v * d by grind, show c * n * v = c * v * n by grind]
          have : u * d * n = n * u * d := by grind
          omega
        exact Int.lt_of_mul_lt_mul_right e3 (by omega)
  have q0 : 0 < q := by omega
  have r0 : 0 < b + d := by omega
  generalize hk : n * (a + c) / (b + d) = k
  have k1 : k * (b + d) ≤ n * (a + c) := by rw [← hk]; exact Int.ediv_mul_le _ (by omega)
  have k2 : n * (a + c) < (k + 1) * (b + d) := by rw [← hk]; exact Int.lt_ediv_add_one_mul_self _ r0
  have lo : k ≤ n * p / q := Int.le_ediv_of_mul_le q0 (Int.not_lt.mp fun l => key k p q (a + c) (b + d) q0 r0 i im l k1)
  have hi : n * p / q < k + 1 := Int.ediv_lt_of_lt_mul q0 (Int.not_le.mp fun l => key (k + 1) (a + c) (b + d) p q r0 q0 im i k2 l)
  omega
end PieM
set_option maxRecDepth 100000
set_option maxHeartbeats 4000000
set_option exponentiation.threshold 9000
namespace Toy
open PySem L2
open Rat (divInt)
section
variable {P : Program} {w : World} {K : PySem.W.Frag} {mg : Str → Option Value} {base : Heap} {C CP CT CBN CBP CM pR fR fM : Addr}
def spReach (CP C : Addr) : Sp := fun vs H Q _ => ∃ x a b c d, vs = [.ref x] ∧ PieAt CP C H x a b c d ∧ Q (.int (b + d)) H
/-- a number and a piece: the first fraction at which the number's note meets another, if there is one -/
def spMet (CP C : Addr) : Sp := fun vs H Q _ => ∃ n p a b c d, vs = [.int n, .ref p] ∧ PieAt CP C H p a b c d ∧ Nbr a b c d ∧ (-96 ≤ n ∧ n ≤ 96) ∧
  (∀ H', Same H H' → PieM.Free a b c d n ((n.natAbs : Int) + 1) → Q .non H') ∧ (∀ q x H', Same H H' → b + d ≤ q → q ≤ (n.natAbs : Int) → n % q = 0 → PieM.Free a b c d n q → PieM.top a b q * d < c * q → RatQ C H' x (divInt (PieM.top a b q) q) → Q (.ref x) H')
end
end Toy
set_option maxRecDepth 100000
set_option maxHeartbeats 4000000
set_option exponentiation.threshold 9000
namespace Toy
open PySem PySem.Spec PyProof.Rows L2
open Rat (divInt)
structure ErT (K : PySem.W.Frag) (mg : Str → Option Value) (x fld : Str) (C fI : Addr) : Prop where
  o : OexC K C
  mgC : mg x = some (.ref C)
  ini : PySem.W.findIn K (.ref C) "__init__" = some (some (.ref fI))
  tyI : PySem.W.typeIn K (.ref fI) = some (.type "function")
  no : PySem.W.findIn K (.ref C) fld = some none
  xf : XfC K C
def spErI (C : Addr) (fld : Str) : Sp := fun vs H Q _ => ∃ a v, vs = [.ref a, v] ∧ H a = some (exo a C none) ∧ ∀ d, H d = none → d ≠ a → Q .non (upd (upd H d (exd d [(fld, v)])) a (exo a C (some d)))
theorem erI_go {H1 : Hp} {a C : Addr} {fld : Str} {v : V} {Q : XK} {E : XK} (ha : H1 a = none) (k : ∀ d H2, H1 d = none → Same H1 H2 → H2 d = some (.xd [(fld, v)]) → Q (.ref C) (some d) H2) :
    spErI C fld [.ref a, v] (upd H1 a (exo a C none)) (fun v H2 => v = .non ∧ ∃ (d : Addr) (fs : List (Str × V)), H2 a = some (exo a C (some d)) ∧ H2 d = some (exd d fs) ∧ H1 d = none ∧ Q (.ref C) (some d) (upd (del H2 a) d (.xd fs))) E := by
  refine ⟨a, v, rfl, upd_same, fun d hd hne => ?_⟩
  rw [upd_ne hne] at hd
  refine ⟨rfl, d, [(fld, v)], upd_same, by rw [upd_ne hne, upd_same], hd, k d _ hd (fun b o h => ?_) upd_same⟩
  have nd := ne_of_none h hd
  have na := ne_of_none h ha
  rw [upd_ne nd, del_ne na, upd_ne na, upd_ne nd, upd_ne na]
  exact h
/-- three fields -/
def spErM (C : Addr) : Sp := fun vs H Q _ => ∃ a u v w', vs = [.ref a, u, v, w'] ∧ H a = some (exo a C none) ∧ ∀ d H', H d = none → d ≠ a → H' a = some (exo a C (some d)) → H' d = some (exd d [("at", w'), ("other", v), ("one", u)]) → (∀ b o, H b = some o → b ≠ a → H' b = some o) → Q .non H'
theorem erM_go {H1 : Hp} {a C : Addr} {u v w' : V} {Q : XK} {E : XK} (ha : H1 a = none) (k : ∀ d H2, H1 d = none → Same H1 H2 → H2 d = some (.xd [("at", w'), ("other", v), ("one", u)]) → Q (.ref C) (some d) H2) :
    spErM C [.ref a, u, v, w'] (upd H1 a (exo a C none)) (fun v H2 => v = .non ∧ ∃ (d : Addr) (fs : List (Str × V)), H2 a = some (exo a C (some d)) ∧ H2 d = some (exd d fs) ∧ H1 d = none ∧ Q (.ref C) (some d) (upd (del H2 a) d (.xd fs))) E := by
  refine ⟨a, u, v, w', rfl, upd_same, fun d H' hd hne h1 h2 h3 => ?_⟩
  rw [upd_ne hne] at hd
  refine ⟨rfl, d, _, h1, h2, hd, k d _ hd (fun b o h => ?_) upd_same⟩
  have nd := ne_of_none h hd
  have na := ne_of_none h ha
  rw [upd_ne nd, del_ne na]
  exact h3 b o (by rw [upd_ne na]; exact h) na
section
variable {P : Program} {w : World} {K : PySem.W.Frag} {mg : Str → Option Value} {base : Heap} {C CP CT CBN CBP CM pR fR fM : Addr}
abbrev sBNI : Stmt := inClass (top 8) 0
theorem scBNI : FnScope ["self", "value"] ["self", "value"] (defScope sBNI) := ⟨rfl, rfl, rfl, by decide +kernel, rfl, by decide +kernel, by decide +kernel⟩
theorem ok_BNI {f : Addr} {fd : FuncData} (F : Fun K "__init__" "BadNumber.__init__" sBNI f fd) (TB : ErT K mg "BadNumber" "value" CBN f) : FnOk P w K mg base CX0 1 f fd ["self", "value"] (spErI CBN "value") := by
  refine F.ok scBNI (fun vs H Q E h => ?_) (fun cdv A outer s H vs Q E hr h => ?_)
  · obtain ⟨a, v, rfl, _⟩ := h
    rfl
  · obtain ⟨a, v, rfl, ha, k⟩ := h
    refine ⟨_, (pss_one (ps_ost (pv 0) (pv 1))), ?_⟩
    exact ⟨_, rfl, _, rfl, a, CBN, rfl, TB.o, TB.no, .inl ⟨ha, fun dx h n => k dx h n⟩⟩
/-- a number's tone where no note meets -/
def spRise (CP C CT : Addr) : Sp := fun vs H Q _ => ∃ n p a b c d, vs = [.int n, .ref p] ∧ PieAt CP C H p a b c d ∧ Nbr a b c d ∧ (Sz (a + c) ∧ Sz (b + d)) ∧ (-96 ≤ n ∧ n ≤ 96) ∧ n ≠ 0 ∧ ∀ x H', Same H H' → TonAt CT H' x (-(n * (a + c) / (b + d))) n → Q (.ref x) H'
def oct (n a b c d : Int) : Int := if n = 0 then 0 else -(n * (a + c) / (b + d))
/-- where no note meets, a tone; else Meets -/
def spPos (CP C CT CM : Addr) : Sp := fun vs H Q E => ∃ n p a b c d, vs = [.int n, .ref p] ∧ PieAt CP C H p a b c d ∧ Nbr a b c d ∧ (Sz (a + c) ∧ Sz (b + d)) ∧ (-96 ≤ n ∧ n ≤ 96) ∧
  (∀ x H', Same H H' → PieM.Free a b c d n ((n.natAbs : Int) + 1) → TonAt CT H' x (oct n a b c d) n → Q (.ref x) H') ∧
  (∀ q x dd H', Same H H' → b + d ≤ q → q ≤ (n.natAbs : Int) → n % q = 0 → PieM.Free a b c d n q → PieM.top a b q * d < c * q → RatQ C H' x (divInt (PieM.top a b q) q) → H' dd = some (.xd [("at", .ref x), ("other", .int (max 0 n)), ("one", .int (min 0 n))]) → E (.ref CM) (some dd) H')
end
end Toy
set_option maxRecDepth 100000
set_option maxHeartbeats 4000000
/-! for i, x in enumerate(a tuple). -/
namespace Own
open PySem PySem.Spec PyProof.Rows L2
theorem draws_tup {prog : Program} {w : World} {A : Around} (calm : A.handled = none) (it l : Addr) (ne : l ≠ it) (xs : Array Value) :
    Draws prog w A it [it, l] xs.size (fun i v => xs[i]? = some v) (fun i h => h.IsTupleIter it l i ∧ h.IsTuple l xs) where
  live := fun _ _ z => by
    obtain ⟨⟨o, ho, _⟩, _⟩ := z
    exact ⟨o, ho⟩
  frame := fun _ _ _ z kp => by
    obtain ⟨⟨o, ho, r⟩, ⟨o2, ho2, r2⟩⟩ := z
    exact ⟨⟨o, kp it (by simp) o ho, r⟩, ⟨o2, kp l (by simp) o2 ho2, r2⟩⟩
  item := fun i s Q E lt z k => RZ.nextOf_tuple_item z.1 z.2 (x := xs[i]) (by simp [lt]) fun h' z' sb => k _ h' s.toks (by simp [lt]) ⟨z', z.2.extBut sb.extBut ne⟩ sb
  done := fun s Q E z k => RZ.nextOf_tuple_end calm z.1 z.2 (by simp) k
theorem draws_end {prog : Program} {w : World} {A : Around} (calm : A.handled = none) (it l : Addr) (xs : Array Value) (n : Nat) (hx : xs[n]? = none) :
    Draws prog w A it [it, l] n (fun _ _ => True) (fun i h => i = n ∧ h.IsTupleIter it l n ∧ h.IsTuple l xs) where
  live := fun _ _ z => by
    obtain ⟨_, ⟨o, ho, _⟩, _⟩ := z
    exact ⟨o, ho⟩
  frame := fun _ _ _ z kp => by
    obtain ⟨e, ⟨o, ho, r⟩, ⟨o2, ho2, r2⟩⟩ := z
    exact ⟨e, ⟨o, kp it (by simp) o ho, r⟩, ⟨o2, kp l (by simp) o2 ho2, r2⟩⟩
  item := fun i s Q E lt z _ => absurd z.1 (Nat.ne_of_lt lt)
  done := fun s Q E z k => RZ.nextOf_tuple_end calm z.2.1 z.2.2 hx k
set_option maxHeartbeats 1000000 in
theorem meets_enum1 {v : Value} {o : Obj} {HB : Heap → Prop} (B : Begins v o HB) :
    Meets (Builtin.«enumerate.__new__» ⟨[.type "enumerate", v], []⟩) (fun _ R z => HB z.heap ∧
      R (.ok (.ret (.ref (z.heap.push o).objs.size))) { z with heap := (z.heap.push o).push { cls := .type "enumerate", data := .fields #[.none, .bool false, .ref z.heap.objs.size, rawInt 0, .none, .none] } }) :=
  .of_wp fun prog w A R z q => by
    obtain ⟨zh, zg, zd, zt, zo⟩ := z
    obtain ⟨qB, q⟩ := q
    have subE := sub_enumerate
    have qi : ∀ {A' : Around} {E : Value → Shared → Prop} {Q : Value → Shared → Prop}, Q (.ref zh.objs.size) ⟨zh.push o, zg, zd, zt, zo⟩ → wpAny (model prog w) A' (pyIter v) Q E ⟨zh, zg, zd, zt, zo⟩ := fun k => B.iter prog w _ _ ⟨zh, zg, zd, zt, zo⟩ _ qB k
    wp_walk using qi
    refine wpAny_stack_any fun st => wpAny_pure ?_
    split
    · rename_i c _ _ _ _ _
      cases (c == Value.type "enumerate") <;> (wp_walk using qi; exact ⟨_, rfl, q⟩)
    · wp_walk using qi
      exact ⟨_, rfl, q⟩
theorem enum1_begins {prog : Program} {w : World} {A : Around} {E : Value → Shared → Prop} {s : Shared} {v : Value} {o : Obj} {HB : Heap → Prop} {Q : Value → Shared → Prop} (B : Begins v o HB) (hB : HB s.heap)
    (k : ∀ h', IsEnum h' (s.heap.objs.size + 1) s.heap.objs.size 0 .none → h'.get? s.heap.objs.size = some o → h'.objs.size = s.heap.objs.size + 2 → (∀ b o, s.heap.get? b = some o → h'.get? b = some o) → Q (.ref (s.heap.objs.size + 1)) { s with heap := h' }) :
    wpAny (model prog w) A (call (.type "enumerate") [v]) Q E s := by
  refine callType_new F.called_enumerate (by decide) (F.typeCall_enumerate_1 _) (F.newCall_enumerate_1 _) (fun obj => F.args_object_init_2 obj _) F.entry_enumerate_new (meets_enum1 B) ⟨hB, ?_⟩
  have sz : (s.heap.push o).objs.size = s.heap.objs.size + 1 := Heap.size_push ..
  have en : IsEnum ((s.heap.push o).push { cls := .type "enumerate", data := .fields #[.none, .bool false, .ref s.heap.objs.size, rawInt 0, .none, .none] }) (s.heap.objs.size + 1) s.heap.objs.size 0 .none := by
    rw [← sz]
    exact Heap.get?_push_size (s.heap.push o) rfl
  show _ ∧ _
  rw [sz]
  refine ⟨⟨_, en, rfl⟩, k _ en (Heap.get?_push_of_some _ (Heap.get?_push_size _ B.free)) ?_ fun b ob q => Heap.get?_push_of_some _ (Heap.get?_push_of_some _ q)⟩
  rw [Heap.size_push, sz]
/-- the tuple at a as it stands at each turn, each item in a new pair -/
def IteT (K : PySem.W.Frag) (a : Addr) : It :=
  ⟨fun i H => ∃ (xs : List V) (x : V), SqT K H a xs ∧ xs[i]? = some x, fun i H v H' => ∃ T x, v = .ref T ∧ H T = none ∧ H' = upd H T (.tup [.int (i : Nat), x]) ∧ ∀ xs, SqT K H a xs → xs[i]? = some x, fun i H => ∃ xs : List V, SqT K H a xs ∧ xs.length ≤ i⟩
theorem turn_enumT {P : Program} {w : World} {K : PySem.W.Frag} {elts : List Expr} {kk : Nat} {tpos : Pos} (a e it : Addr) (nt : a ≠ it) (ne0 : a ≠ e) :
    Turn P w K (.Tuple elts kk tpos) (IteT K a) [e, it] e (fun i h => (∃ old, IsEnum h e it ((i : Nat) : Int) old) ∧ h.IsTupleIter it a i ∧ e ≠ it) where
  mem := by simp
  obj := fun i h st b hb => by
    obtain ⟨⟨old, en⟩, ⟨o, ho, hc, hd⟩, _⟩ := st
    rcases List.mem_cons.mp hb with rfl | hb
    · exact ⟨_, en, fun v q => nomatch q⟩
    · obtain rfl := List.mem_singleton.mp hb
      exact ⟨o, ho, fun v q => by rw [hd] at q; cases q⟩
  keep := fun i h h' st k => by
    obtain ⟨⟨old, en⟩, ⟨o, ho, r⟩, hne⟩ := st
    exact ⟨⟨old, k e (by simp) _ en⟩, ⟨o, k it (by simp) _ ho, r⟩, hne⟩
  item := by
    intro X eP ew eK calm i pins s σ H E I fp st go
    subst eP ew eK
    obtain ⟨⟨old, en⟩, ti, hne⟩ := st
    obtain ⟨xs, x, hq, hx⟩ := go
    obtain ⟨its, rv, tp, hz⟩ := I.tuple hq
    obtain ⟨u, hu, ru⟩ := rv.get hx
    have le : e < s.heap.objs.size := Heap.lt_size en
    have li : it < s.heap.objs.size := by
      obtain ⟨_, q, _⟩ := id ti
      exact Heap.lt_size q
    have lt : i < its.toArray.size := by
      have := (List.getElem?_eq_some_iff.mp (show its[i]? = some u by simpa using hu)).1
      simpa using this
    have D := draws_tup (prog := X.prog) (w := X.w) (A := X.A.in1) (I.ok.hd calm) it a nt its.toArray
    refine wpAny_pyNext_enum_itemD D en ⟨ti, tp⟩ lt hne (by simp [hne, Ne.symm ne0]) fun y h' tk hy ho st' hT hsz kk => ?_
    have ey : y = u := by
      rw [show its.toArray[i]? = some u by simpa using hu] at hy
      exact (Option.some.inj hy).symm
    subst ey
    refine ⟨_, rfl, wpAny_letOwnedTupleGo_enum (s := { s with heap := h', toks := tk + 1 }) ho fun h'' en' sb => ?_⟩
    have hT2 : h''.get? s.heap.objs.size = some { cls := .type "tuple", data := .seq #[.int i tk, y] } := (sb.2 _ (Nat.ne_of_gt le)).trans hT
    have new : ObjOk X.prog X.w (upd H s.heap.objs.size (.tup [.int (i : Nat), x])) h'' s.heap.objs.size (.tup [.int (i : Nat), x]) := ⟨by show 2 ≤ sizeLine; decide, [.int i tk, y], .cons ⟨_, rfl⟩ (.cons ru .nil), ⟨_, hT2, rfl, _, rfl⟩⟩
    have I1 : Inv X pins σ (upd H s.heap.objs.size (.tup [.int (i : Nat), x])) { s with heap := h'', toks := tk + 1 } :=
      I.turnedNew (t' := tk + 1) (ch := [e, it]) (fun b ob hb q => (sb.2 b fun z => hb (by simp [z])).trans (kk b ob (fun z => hb (by simp [z])) (fun z => hb (by simp [z])) q)) fp (Nat.le_refl _) new
    refine ⟨.ref s.heap.objs.size, _, I1, rfl, ⟨_, x, rfl, I.hok.fresh (Nat.le_refl _), rfl, fun ys hy => by rw [I.tuple_inj hy hq]; exact hx⟩, ⟨⟨y, ?_⟩, ?_, hne⟩, fun b hb => ?_⟩
    · rw [show ((i + 1 : Nat) : Int) = (i : Int) + 1 by omega]
      exact en'
    · obtain ⟨o, ho, r⟩ := st'.1
      exact ⟨o, (sb.2 it (Ne.symm hne)).trans ho, r⟩
    · have hb' : b < s.heap.objs.size := by
        rcases List.mem_cons.mp hb with rfl | hb
        · exact le
        · obtain rfl := List.mem_singleton.mp hb
          exact li
      rw [upd_ne (Nat.ne_of_lt hb')]
      exact (fp b hb).1
  done := by
    intro X eP ew eK calm i pins s σ H E I fp st stp
    subst eP ew eK
    obtain ⟨⟨old, en⟩, ti, hne⟩ := st
    obtain ⟨xs, hq, hx⟩ := stp
    obtain ⟨its, rv, tp, hz⟩ := I.tuple hq
    obtain ⟨f0, f1, f2, f3, f4, f5⟩ := fp it (by simp)
    have hl := rv.length
    refine wpAny_pyNext_enum_endD (draws_end (A := X.A.in1) (I.ok.hd calm) it a its.toArray i (by simp; omega)) en ⟨rfl, ti, tp⟩ fun h' eb => ⟨rfl, I.turned (t' := s.toks) (fun b o hb q => eb b o hb q) f0 f1 f3 f4 f5⟩
  self := fun A i s Q E st h => by
    obtain ⟨⟨_, en⟩, _⟩ := st
    exact wpAny_pyIter_enum en h
def iEnumT (K : PySem.W.Frag) (ta : TA) : TI := fun σ H R => ta σ H fun vs H1 => ∃ a xs, vs = [.ref a] ∧ SqT K H1 a xs ∧ R (IteT K a) H1
theorem pi_enumT {X : Cx} {e : Expr} {ta : TA} {p pos tpos : Pos} {elts : List Expr} {kk : Nat} (hg : Gl X "enumerate") (hm : X.mg "enumerate" = none) (ha : PA X [e] ta) (hs : starEach [e] X.env = [(false, eval e X.env)] := by rfl) :
    PI X (.Tuple elts kk tpos) (.Call (.Name "enumerate" p) [e] [] pos) (iEnumT X.K ta) := by
  refine ⟨fun pins s σ H R I z => ?_⟩
  refine Call_ (ld_blt I hg hm boot_enumerate (PyProof.Rows.callWith_type1 (thn (ha.run pos pins s σ H _ I z) fun us s1 q0 => ?_) hs rfl))
  obtain ⟨vs, H1, I1, r1, a, xs, rfl, hq, q⟩ := q0
  obtain ⟨u, rfl, r⟩ : ∃ u, us = [u] ∧ RelV (V.ref a) u := by
    cases r1 with
    | cons r rr =>
      cases rr
      exact ⟨_, rfl, r⟩
  obtain rfl : u = .ref a := by cases r; rfl
  obtain ⟨its, rv, tp, hz⟩ := I1.tuple hq
  have la : a < s1.heap.objs.size := by
    obtain ⟨_, q, _⟩ := id tp
    exact Heap.lt_size q
  refine enum1_begins (begins_tuple a its.toArray) tp fun h' en h0 sz kp => wpAny_pyIter_enum en ?_
  have I2 : Inv X pins σ H1 { s1 with heap := h' } := I1.kept (t' := s1.toks) kp
  refine ⟨s1.heap.objs.size + 1, [s1.heap.objs.size + 1, s1.heap.objs.size], _, _, H1, rfl, I2, turn_enumT a (s1.heap.objs.size + 1) s1.heap.objs.size (Nat.ne_of_lt la) (Nat.ne_of_lt (Nat.lt_succ_of_lt la)), ⟨⟨.none, en⟩, ⟨_, h0, rfl, rfl⟩, Nat.succ_ne_self _⟩, fun b hb => ?_, q⟩
  have le : s1.heap.objs.size ≤ b := by
    rcases List.mem_cons.mp hb with rfl | hb
    · exact Nat.le_succ _
    · exact Nat.le_of_eq (List.mem_singleton.mp hb).symm
  exact I1.fpOk le (I1.hok.fresh le)
theorem walk_enumT {K : PySem.W.Frag} {a : Addr} {xs : List V} : Walk (IteT K a) xs.length (fun H => SqT K H a xs) (YPair (fun i => some (.int (i : Nat))) (fun i => xs[i]?)) := by
  refine ⟨fun i _ lt q => ⟨xs, xs[i], q, by simp [lt]⟩, fun _ q => ⟨xs, q, Nat.le_refl _⟩, fun i H v H' _ q y => ?_⟩
  obtain ⟨T, x, h1, h2, h3, h4⟩ := y
  exact ⟨T, .int (i : Nat), x, h1, h2, h3, rfl, h4 xs q⟩
end Own
set_option maxRecDepth 100000
set_option maxHeartbeats 4000000
/-! Rules for the inside of a comprehension: stated with K. -/
namespace Own
open PySem PySem.Spec PyProof.Rows L2
section
variable {X : Cx} {K : PySem.W.Frag}
theorem call_isiK (h : X.K = K) : CallR X (.builtin "isinstance") (rIsi K) := h ▸ call_isi
theorem pe_fldK {e : Expr} {f : Str} {ta : TE} {pos : Pos} (h : X.K = K) (he : PE X e ta) (hb : attributeBase e f X.env (eval e X.env) = eval e X.env) : PE X (.Attribute e f pos) (tFld K ta f) := h ▸ pe_fld he hb
theorem ix_tupK (h : X.K = K) : IxR X (rIxT K) := h ▸ ix_tup
theorem ix_listK (h : X.K = K) : IxR X (rIxL K) := h ▸ ix_list
/-- t[lo:hi]: it stands somewhere, new or the tuple itself -/
def rSlS : V → Option Int → Option Int → Hp → VK → Prop := fun x lo hi H Q => ∃ a xs, x = .ref a ∧ H a = some (.tup xs) ∧ ∀ p H', Same H H' → H' p = some (.tup (cutV xs lo hi)) → Q (.ref p) H'
theorem sl_tupS : SlR X rSlS := by
  intro pins s σ H x v vl vu lo hi sl Q I rx hs pl pu h
  obtain ⟨a, xs, rfl, hx, q⟩ := h
  refine sl_tupA pins s σ H _ v vl vu lo hi sl Q I rx hs pl pu ⟨a, xs, rfl, SqT.of hx, fun z => q a H (Same.refl _) ?_, fun _ p hp => q p _ (fun b o e => ?_) upd_same⟩
  · unfold cutV
    rw [z.1, z.2, List.drop_zero, Nat.sub_zero, List.take_length]
    exact hx
  · rw [upd_ne (ne_of_none e hp)]
    exact e
end
end Own
set_option maxRecDepth 100000
set_option maxHeartbeats 4000000
/-! A dict comprehension over what walks. -/
namespace Own
open PySem PySem.Spec PyProof.Rows L2
/-- a dict comprehension over it: Pv by the turn and the heap (the new dict at D within) -/
theorem dc_it {J : It} {n : Nat} {G : Hp → Prop} {Y : Nat → Hp → V → Hp → Prop} (w : Walk J n G Y) {g : TG} {tt : TT} {tk tv : TE} {vs : List Nat} {σ : L2.St} {H1 : Hp} {D : Addr} {Qd : Hp → Prop} (Pv : Nat → Hp → Prop) (h0 : Pv 0 (upd H1 D (.dK []))) (hG : ∀ i H, i ≤ n → Pv i H → G H)
    (hs : ∀ i x H H', i < n → Pv i H → Y i H x H' → g x (wipe σ vs) H' fun σ2 H2 => wipe σ2 vs = wipe σ vs ∧ tt σ2 H2 fun b H3 =>
      if b = true then tk σ2 H3 fun y H4 => tv σ2 H4 fun z H5 => ∃ kvs k, y = kV k ∧ H5 D = some (.dK kvs) ∧ kvs.length < sizeLine ∧ Pv (i + 1) (upd H5 D (.dK (putK kvs k z))) else Pv (i + 1) H3) (hd : ∀ H, Pv n H → Qd H) :
    ∃ W : Nat → Nat → Hp → Prop, (∃ m, W 0 m (upd H1 D (.dK []))) ∧ ∀ i m H, W i m H →
      (J.stop i H ∧ Qd H) ∨ (J.go i H ∧ ∃ Nx : Hp → Prop, (∀ H', Nx H' → ∃ m', m' < m ∧ W (i + 1) m' H') ∧ ∀ x H', J.yld i H x H' → g x (wipe σ vs) H' fun σ2 H2 => wipe σ2 vs = wipe σ vs ∧ tt σ2 H2 fun b H3 =>
        if b = true then tk σ2 H3 fun y H4 => tv σ2 H4 fun z H5 => ∃ kvs k, y = kV k ∧ H5 D = some (.dK kvs) ∧ kvs.length < sizeLine ∧ Nx (upd H5 D (.dK (putK kvs k z))) else Nx H3) := by
  refine ⟨fun i m H => m = n - i ∧ i ≤ n ∧ Pv i H, ⟨n, by simp, Nat.zero_le _, h0⟩, ?_⟩
  rintro i m H ⟨rfl, hi, p⟩
  have q := hG i H hi p
  by_cases hlt : i < n
  · exact .inr ⟨w.goes i H hlt q, Pv (i + 1), fun H' p' => ⟨n - (i + 1), by omega, rfl, hlt, p'⟩, fun x H' y => hs i x H H' hlt p (w.yields i H x H' hlt q y)⟩
  · have e : i = n := by omega
    subst e
    exact .inl ⟨w.stops H q, hd H p⟩
theorem putK_any {kvs : List (Key × V)} {k : Key} {v : V} {p : Key × V} (h : p ∈ putK kvs k v) : p.1 = k ∨ ∃ q ∈ kvs, q.1 = p.1 := by
  unfold putK at h
  split at h
  · obtain ⟨q, hq, e⟩ := List.mem_map.mp h
    split at e
    · subst e
      rename_i c
      exact .inl c
    · subst e
      exact .inr ⟨q, hq, rfl⟩
  · rcases List.mem_append.mp h with h | h
    · exact .inr ⟨p, h, rfl⟩
    · rw [List.mem_singleton] at h
      rw [h]
      exact .inl rfl
theorem putK_ne {kvs : List (Key × V)} {k : Key} {v : V} : putK kvs k v ≠ [] := by
  unfold putK
  split
  · rename_i h
    intro e
    have := List.map_eq_nil_iff.mp e
    rw [this] at h
    cases h
  · simp
theorem putK_len {kvs : List (Key × V)} {k : Key} {v : V} : (putK kvs k v).length ≤ kvs.length + 1 := by
  unfold putK
  split
  · rw [List.length_map]
    omega
  · simp
section
variable {X : Cx}
/-- name = {..: ..} on one line, the name a local -/
theorem ps_setDc {i : Nat} {y : Str} {py : Pos} {kx vx tg iter : Expr} {ifs : List Expr} {scope : Scope} {own : List (Str × Nat)} {pos spos : Pos} {wi : TI} {g : TG} {tt : TT} {tk tv : TE} (hc : X.calm = true) (hN : X.N.Nodup) (hy : X.N[i]? = some y) (hyl : X.env.scope.names.lookup y = some .local)
    (hsw : swapsWith (.DictComp kx vx [⟨tg, iter, ifs, 0⟩] scope pos) (some (.Name y py)) spos.line X.env = pure true) (hi : PI X tg iter wi) (ok : BlkOk X.N X.env.scope scope own)
    (hg : ∀ (s : Shared) (H : Hp) (C : Addr) (cl : List (Str × Addr)) (fp : List Addr), PG (X.blk s H scope (compEnvC scope cl C X.env) fp) tg g) (ht : ∀ (s : Shared) (H : Hp) (C : Addr) (cl : List (Str × Addr)) (fp : List Addr), PTs (X.blk s H scope (compEnvC scope cl C X.env) fp) ifs tt)
    (hk : ∀ (s : Shared) (H : Hp) (C : Addr) (cl : List (Str × Addr)) (fp : List Addr), PE (X.blk s H scope (compEnvC scope cl C X.env) fp) kx tk)
    (he : ∀ (s : Shared) (H : Hp) (C : Addr) (cl : List (Str × Addr)) (fp : List Addr), PE (X.blk s H scope (compEnvC scope cl C X.env) fp) vx tv) (hs : ∀ x, foldedSetIterable iter X.env x = pure x := by intro _; rfl) :
    PS X (.Assign [.Name y py] (.DictComp kx vx [⟨tg, iter, ifs, 0⟩] scope pos) spos) (tAsg (tDc wi g tt tk tv (own.map (·.2))) (gName i)) := by
  refine ⟨fun pins s σ H D I h => ?_⟩
  rw [exec_Assign_Name_used _ _ _ _ hsw]
  refine wpAny_bind (wpAny_standAt (wpAny_bind ?_))
  show wpAny _ X.A (do let _ ← comprehension (.DictComp kx vx [⟨tg, iter, ifs, 0⟩] scope pos) scope X.env (firstIterPos [⟨tg, iter, ifs, 0⟩] pos) newDict false (eval iter X.env) (some (assign (.Name y py) X.env))) _ _ s
  have h : tDc wi g tt tk tv (own.map (·.2)) σ H (fun x H1 => gName i x σ H1 D.nx) := h
  refine wpAny_bind (thn (dc_core (Qf := fun _ s' => SP X pins D .next s') hc hN I hi ok hg ht hk he hs h fun L C s' m H' I' q hn f => ?_) fun _ s' hq => wpAny_pure (wpAny_pure hq))
  show wpAny _ _ (assign (.Name y py) X.env (.ref L)) _ _ _
  refine wpAny_assign_Name (store_ok2 (v := V.ref L) I' hN hy (.inl hyl) rfl (fun s2 I2 ⟨a, sb, ha⟩ => ?_) (.inr hyl))
  obtain ⟨f0, f1, f2, f3, f4, f5⟩ := f
  have haC : C ≠ a := by
    rcases ha with z | z
    · rw [z]; exact f1
    · exact fun e => f4 y a z e.symm
  refine ⟨m, hn.sameBut sb haC, fun h3 sb3 => ?_⟩
  exact ⟨_, H', I2.turned (t' := s2.toks) (fun b o hb e => (sb3.2 b hb).trans e) f0 f1 f3 f4 f5, q⟩
theorem sw_trueD {kx vx : Expr} {gs : List Comprehension} {scope : Scope} {pos py : Pos} {y : Str} {l : Nat} {env : Env} (hk : env.scope.kind = .function) (hy : env.scope.names.lookup y = some .local) (hl : (py.line == pos.line) = true)
    (ha : (scope.names.any fun (n, k) => n == y && (k == .local || k == .cell)) = false) : swapsWith (.DictComp kx vx gs scope pos) (some (.Name y py)) l env = pure true := by
  have ky : env.kindOf y = some .local := hy
  have hb : env.blockKind = .function := by unfold Env.blockKind; rw [hk]; rfl
  unfold swapsWith
  simp only [hb, ky, ha, Expr.pos, hl]
  rfl
end
end Own
set_option linter.all false
set_option maxRecDepth 100000
set_option maxHeartbeats 4000000
/-! == of two tuples whose elements have an own ==: both ends. -/
namespace GB
open PySem PySem.SeqAt
open AutoSeq1 (wpAny_loadPart')
open MeetsSeq MeetsSeq2 MeetsSeq3 SeqRoads2
section
variable {prog : Program} {w : World} {A : Around} {R : Result → Shared → Prop}
theorem tuple_eqB (l b : Addr) (items items2 : Array Value) (n n2 : Nat) (dd dd2 : Option Addr) (sl sl2 : Array (Option Value)) (hsz : items.size = items2.size) (c : Nat → Bool) (I : Nat → Shared → Prop)
    (turn : ∀ i (h1 : i < items.size) (h2 : i < items2.size) s, I i s → wpAny (model prog w) A.in1 (eqBool items[i] items2[i]) (fun r s' => r = c i ∧ I (i + 1) s') (fun e s' => R (.error e) s') s)
    (out : ∀ i s, i < items.size → c i = false → I (i + 1) s → R (.ok (.ret (.bool false))) s)
    (fin : ∀ s, (∀ i, i < items.size → c i = true) → I items.size s → R (.ok (.ret (.bool true))) s) {s : Shared} (hl1 : s.heap.get? l = some { cls := .type "tuple", dict := dd, data := .seq items n, slots := sl }) (hb1 : s.heap.get? b = some { cls := .type "tuple", dict := dd2, data := .seq items2 n2, slots := sl2 }) (h : I 0 s) :
    wpAny (model prog w) A.in1 (Builtin.«tuple.__eq__» ⟨[.ref l, .ref b], []⟩) (GQ.FinOf prog w A R) (fun e s' => R (.error e) s') s := by
  have f2 := AutoSeq1.sub_tuple_tuple
  have hZ : (items.toList.zip items2.toList).length = items.size := by simp [hsz]
  have h0 := h
  obtain ⟨hp, g, d, tk, os⟩ := s
  wp_walk using wpAny_loadPart' hl1, wpAny_loadPart' hb1, wpAny_forIn_list _ (fun rest b s' => b.1 = none ∧ ∃ i, rest = (items.toList.zip items2.toList).drop i ∧ i ≤ items.size ∧ (∀ j, j < i → c j = true) ∧ I i s') _
  case turn =>
    rintro ⟨y, x⟩ rest b s' ⟨hb', i, hz, hi, hc, hI⟩
    have hlt : i < (items.toList.zip items2.toList).length := by
      rcases Nat.lt_or_ge i (items.toList.zip items2.toList).length with h' | h'
      · exact h'
      · rw [List.drop_of_length_le h'] at hz; cases hz
    have h1 : i < items.size := hZ ▸ hlt
    have h2 : i < items2.size := hsz ▸ h1
    rw [List.drop_eq_getElem_cons hlt] at hz
    injection hz with hyx hrest
    have hy : y = items[i] := by have := congrArg Prod.fst hyx; simpa using this
    have hx : x = items2[i] := by have := congrArg Prod.snd hyx; simpa using this
    subst hy hx
    refine wpAny_bind (wpAny_mono (turn i h1 h2 s' hI) (fun r s2 q2 => ?_) fun _ _ x => x)
    obtain ⟨hr, q2⟩ := q2
    cases e : c i with
    | true =>
      rw [e] at hr
      subst hr
      wp_walk
      exact ⟨rfl, i + 1, hrest, h1, (fun j hj => by
        rcases Nat.lt_succ_iff_lt_or_eq.mp hj with h | h
        · exact hc j h
        · rw [h]; exact e), q2⟩
    | false =>
      rw [e] at hr
      subst hr
      have hR := out i s2 h1 e q2
      wp_walk
      exact hR
  case fin =>
    rintro ⟨b1, b2⟩ s' ⟨hb', i, hz, hi, hc, hI⟩
    simp only at hb'
    subst hb'
    have hge : items.size ≤ i := by
      rcases Nat.lt_or_ge i (items.toList.zip items2.toList).length with h' | h'
      · rw [List.drop_eq_getElem_cons h'] at hz; cases hz
      · exact hZ ▸ h'
    have hi' : i = items.size := by omega
    have hR : R (.ok (.ret (.bool true))) s' := fin s' (hi' ▸ hc) (hi' ▸ hI)
    wp_walk
    first
      | exact ⟨_, rfl, by simpa [Builtin.Tuple.tupleCompareSizes, hsz] using hR⟩
      | simpa [Builtin.Tuple.tupleCompareSizes, hsz] using hR
  case h =>
    exact ⟨rfl, 0, rfl, Nat.zero_le _, (fun j hj => absurd hj (Nat.not_lt_zero j)), h0⟩
end
section
variable {prog : Program} {w : World} {A : Around} {E : Value → Shared → Prop} {s : Shared}
theorem rc_tupB {l b : Addr} {items items2 : Array Value} {Q : Value → Shared → Prop} (hsz : items.size = items2.size) (hu : A.units < cLine) (c : Nat → Bool) (I : Nat → Shared → Prop)
    (hl : s.heap.IsTuple l items) (hb : s.heap.IsTuple b items2)
    (turn : ∀ i (h1 : i < items.size) (h2 : i < items2.size) s, I i s → wpAny (model prog w) A.in1 (eqBool items[i] items2[i]) (fun r s' => r = c i ∧ I (i + 1) s') E s)
    (out : ∀ i s, i < items.size → c i = false → I (i + 1) s → Q (.bool false) s)
    (fin : ∀ s, (∀ i, i < items.size → c i = true) → I items.size s → Q (.bool true) s) (h : I 0 s) : wpAny (model prog w) A (richCompare .Eq (.ref l) (.ref b)) Q E s := by
  obtain ⟨⟨cls, dd, data, sl⟩, ho, hc, n, hd⟩ := id hl
  obtain ⟨⟨cls2, dd2, data2, sl2⟩, ho2, hc2, n2, hd2⟩ := id hb
  simp only at hc hd hc2 hd2
  subst hc hd hc2 hd2
  refine wpAny_richCompare_same_room (op := .Eq) ⟨_, ho, rfl⟩ ⟨_, ho2, rfl⟩ F.slot_tuple_eq (GQ.call_here F.slot_tuple_eq ⟨_, ho, rfl⟩ F.entry_tuple_eq (F.args_tuple_eq_2 _ _) ?_) hu
  exact tuple_eqB (R := wants (fun v s' => v ≠ .notImplemented ∧ Q v s') E) l b items items2 n n2 dd dd2 sl sl2 hsz c I turn (fun i s' h1 h2 q => ⟨(fun x => nomatch x), out i s' h1 h2 q⟩) (fun s' hc q => ⟨(fun x => nomatch x), fin s' hc q⟩) ho ho2 h
end
end GB
namespace GB
open PySem PySem.SeqAt
open AutoSeq1 (wpAny_loadPart')
open MeetsSeq MeetsSeq2 MeetsSeq3 SeqRoads2
section
variable {prog : Program} {w : World} {A : Around} {R : Result → Shared → Prop}
theorem ne_loop (l b : Addr) (N : Nat) (I : Nat → Shared → Prop) (hl : GQ.ListI prog w A (fun e s' => R (.error e) s') l b N I)
    (fin : ∀ s, I N s → R (.ok (.ret (.bool false))) s) (k : Nat) :
    ∀ i : Nat, N - i = k → i ≤ N → ∀ s, I i s →
      wpAny (model prog w) A.in1 (Builtin.«list.__eq__.loop» ⟨[.ref l, .ref b, rawInt i, rawInt 3], []⟩) (GQ.FinOf prog w A R) (fun e s' => R (.error e) s') s := by
  induction k with
  | zero =>
    intro i hk hi s h
    obtain ⟨items, items2, n, n2, hl1, hb1, hs1, hs2, _⟩ := hl _ _ h
    have hi' : i = N := by omega
    have hR : R (.ok (.ret (.bool false))) s := fin s (hi' ▸ h)
    obtain ⟨hp, g, d, tk, os⟩ := s
    wp_walk using wpAny_loadPart' hl1, wpAny_loadPart' hb1
    have hi1 : items[((i : Nat) : Int).toNat]? = none := by simp; omega
    have hi2 : items2[((i : Nat) : Int).toNat]? = none := by simp; omega
    rw [hi1, hi2]
    wp_walk using wpAny_loadPart' hl1, wpAny_loadPart' hb1
    show R (.ok (.ret (.bool (items.size != items2.size)))) _
    rw [hs1, hs2]
    simpa using hR
  | succ k ih =>
    intro i hk hi s h
    obtain ⟨items, items2, n, n2, hl1, hb1, hs1, hs2, turn⟩ := hl _ _ h
    have hlt : i < items.size := by omega
    have hlt2 : i < items2.size := by omega
    have ht := turn hlt hlt2
    obtain ⟨hp, g, d, tk, os⟩ := s
    wp_walk using wpAny_loadPart' hl1, wpAny_loadPart' hb1
    have hi1 : items[((i : Nat) : Int).toNat]? = some items[i] := by simp [hlt]
    have hi2 : items2[((i : Nat) : Int).toNat]? = some items2[i] := by simp [hlt2]
    have hc : ((i : Int) + 1) = ((i + 1 : Nat) : Int) := by omega
    rw [hi1, hi2]
    refine wpAny_bind (wpAny_mono ht (fun r s2 h2 => ?_) fun _ _ x => x)
    obtain ⟨hr, h2⟩ := h2
    subst hr
    have hrec := ih (i + 1) (by omega) (by omega) s2 h2
    obtain ⟨hp2, g2, d2, tk2, os2⟩ := s2
    wp_walk
    rw [hc]
    exact ⟨plainId_quiet plain_eq_loop _, codeAny_builtin entry_eq_loop (by
      rw [Around.under_plainId plain_eq_loop _]
      exact hrec)⟩
theorem list_ne (l b : Addr) (N : Nat) (I : Nat → Shared → Prop) (hl : GQ.ListI prog w A (fun e s' => R (.error e) s') l b N I)
    (fin : ∀ s, I N s → R (.ok (.ret (.bool false))) s) {s : Shared} (h : I 0 s) :
    wpAny (model prog w) A.in1 (Builtin.«list.__ne__» ⟨[.ref l, .ref b], []⟩) (GQ.FinOf prog w A R) (fun e s' => R (.error e) s') s := by
  obtain ⟨items, items2, n, n2, hl1, hb1, hs1, hs2, _⟩ := hl _ _ h
  have hrec := ne_loop (A := A) (R := R) l b N I hl fin _ 0 rfl (Nat.zero_le _) s h
  obtain ⟨hp, g, d, tk, os⟩ := s
  have f3 := AutoSeq1.sub_list_list
  have hne : ¬ (items.size != items2.size) = true := by simp [hs1, hs2]
  wp_walk using wpAny_loadPart' hl1, wpAny_loadPart' hb1
  exact ⟨plainId_quiet plain_eq_loop _, codeAny_builtin entry_eq_loop (by
    rw [Around.under_plainId plain_eq_loop _]
    exact hrec)⟩
end
section
variable {prog : Program} {w : World} {A : Around} {E : Value → Shared → Prop} {s : Shared}
theorem rc_listNe {l b : Addr} {N : Nat} {Q : Value → Shared → Prop} (hu : A.units < cLine) (I : Nat → Shared → Prop) (hl : GQ.ListI prog w A E l b N I)
    (fin : ∀ s, I N s → Q (.bool false) s) (h : I 0 s) : wpAny (model prog w) A (richCompare .NotEq (.ref l) (.ref b)) Q E s := by
  obtain ⟨items, items2, n, n2, hl1, hb1, _, _, _⟩ := hl _ _ h
  refine wpAny_richCompare_same_room (op := .NotEq) ⟨_, hl1, rfl⟩ ⟨_, hb1, rfl⟩ F.slot_list_ne (GQ.call_here F.slot_list_ne ⟨_, hl1, rfl⟩ F.entry_list_ne (F.args_list_ne_2 _ _) ?_) hu
  exact list_ne (R := wants (fun v s' => v ≠ .notImplemented ∧ Q v s') E) l b N I hl (fun s' q => ⟨(fun x => nomatch x), fin s' q⟩) h
end
end GB
namespace Own
open PySem PySem.Spec PyProof.Rows L2
/-- == gives b for what D b says, and only makes objects -/
def EqB (X : Cx) (n : Nat) (D : Bool → Eqv) : Prop :=
  ∀ (c : Bool) (A : Around) (pins : List (Addr × Obj)) (s : Shared) (σ : L2.St) (H : Hp) (x y : V) (u v : Value), Sub X n A → Inv X pins σ H s → RelV x u → RelV y v → D c x y H →
    wpAny (model X.prog X.w) A (eqBool u v) (fun r s' => r = c ∧ ∃ H', Inv X pins σ H' s' ∧ Ext H H') X.xe s
section
variable {X : Cx} {n m : Nat} {D : Bool → Eqv}
theorem EqB.mono (h : EqB X n D) (hn : n ≤ m) : EqB X m D := fun c A pins s σ H x y u v sb => h c A pins s σ H x y u v (sb.mono hn)
/-- instances of the class at C with the text's own ==, whose promise tells the answer -/
def DInsB (C : Addr) (R : Bool → Addr → Addr → Hp → Prop) : Bool → Eqv := fun c x y H => ∃ a b dx dy fs gs, x = .ref a ∧ y = .ref b ∧ H a = some (.ins C dx fs) ∧ H b = some (.ins C dy gs) ∧ R c a b H
theorem eqB_ins {CX : CXT} {C f : Addr} {fd : FuncData} {ps : List Str} {R : Bool → Addr → Addr → Hp → Prop} {sp : Sp} {E : XK} (F : FnOk X.prog X.w X.K X.mg X.base CX n f fd ps sp)
    (hsp : ∀ c a b H, R c a b H → ∀ Q : VK, (∀ H', Ext H H' → Q (.bl c) H') → sp [.ref a, .ref b] H Q E) (self : ∀ c a H, R c a a H → c = true)
    (hs : PySem.W.findIn X.K (.ref C) "__eq__" = some (some (.ref f))) (hf : PySem.W.isFn X.K (.ref f) = true) (hb : Binds X.K fd ps []) (hx : Passes CX X E) : EqB X n (DInsB C R) := by
  intro c A pins s σ H x y u v sb I rx ry d
  obtain ⟨a, b, dx, dy, fs, gs, rfl, rfl, ha, hb', hr⟩ := d
  cases rx
  cases ry
  by_cases hab : a = b
  · subst hab
    rw [self c a H hr]
    exact SeqAt.EqAt.same (A := A) (s := s) (.ref a) X.prog X.w X.xe _ ⟨rfl, H, I, Ext.rfl'⟩
  refine GQ.eqBool_refG hab ?_
  obtain ⟨mA, J, _⟩ := ins_get I.hok ha
  obtain ⟨mB, J', _⟩ := ins_get I.hok hb'
  obtain ⟨od, J, _⟩ := J.look
  obtain ⟨od', J', _⟩ := J'.look
  obtain ⟨m, hF⟩ := I.fr
  refine PySem.W.cmp_K (op := .Eq) (tb := .ref C) sb.room.units0 hF I.ok.mod.kin J J'.type (by simp [PySem.W.notFirst]) hs hf ?_
  have hsp := hsp c a b H hr (fun v H' => v = .bl c ∧ Ext H H') (fun H' e => ⟨rfl, e⟩)
  have e0 : Env0 X.prog X.w X.K X.mg X.base A X.stack s H := by
    have e := I.env0
    exact ⟨by rw [sb.fr]; exact e.frames, e.mod, e.bs, e.bsz, e.funs, e.frf, e.hok, e.bare⟩
  have hl := F.len _ _ _ _ hsp
  have r2 : Vals [V.ref a, V.ref b] [Value.ref a, Value.ref b] := .cons rfl (.cons rfl .nil)
  refine wpAny_call (codeAny_mono (F.run A X.stack s H ⟨[.ref a, .ref b], []⟩ [.ref a, .ref b] [.ref a, .ref b] _ E sb.room e0 (by
    have := hb s [.ref a, .ref b] I.kIn (by simpa using hl)
    simpa using this) r2 hsp) fun r s' hq => ?_)
  cases r with
  | error e => exact hx pins σ H s e s' I hq
  | ok fl =>
    cases fl with
    | ret w =>
      obtain ⟨z, H', I', rz, ez, ex⟩ := I.after hq
      subst ez
      cases rz
      exact ⟨c, rfl, rfl, H', I', ex⟩
    | next => exact False.elim hq
    | brk => exact False.elim hq
    | cont => exact False.elim hq
/-- x == y, two tuples of one length: true where all pairs are equal -/
def rEqT (K : PySem.W.Frag) (D : Bool → Eqv) : R2 := fun x y H Q => ∃ (a b : Addr) (xs ys : List V) (c : Nat → Bool), x = .ref a ∧ y = .ref b ∧ SqT K H a xs ∧ SqT K H b ys ∧ xs.length = ys.length ∧
  (∀ (i : Nat) p q, xs[i]? = some p → ys[i]? = some q → ∀ H', Ext H H' → D (c i) p q H') ∧ ∀ r H', Ext H H' → (r = true → ∀ i, i < xs.length → c i = true) → (r = false → ∃ i, i < xs.length ∧ c i = false) → Q (.bl r) H'
theorem op_eqT (h : EqB X n D) (hr : Room (n + 1) X.A) : OpR X (compareOp .Eq) (rEqT X.K D) := by
  intro pins s σ H x y v u Q I rx ry hq
  obtain ⟨a, b, xs, ys, c, rfl, rfl, ha, hb, hl, hD, q⟩ := hq
  cases rx
  cases ry
  show wpAny (model X.prog X.w) X.A (richCompare .Eq (.ref a) (.ref b)) (EP X pins σ Q) X.xe s
  obtain ⟨its, r, e, z⟩ := I.tuple ha
  obtain ⟨its2, r2, e2, z2⟩ := I.tuple hb
  have sz1 : its.toArray.size = xs.length := by rw [List.size_toArray, r.length]
  have hsz : its.toArray.size = its2.toArray.size := by rw [List.size_toArray, List.size_toArray, ← r.length, ← r2.length]; exact hl
  have sb : Sub X (n + 1) X.A := ⟨hr, rfl⟩
  refine GB.rc_tupB hsz sb.room.units0 c (fun _ s' => LoopI X pins σ H s') e e2 (fun i h1 h2 s' l => ?_) (fun i s' h1 h2 l => ?_) (fun s' hc l => ?_) ⟨H, I, Ext.rfl'⟩
  · obtain ⟨H1, I1, e1⟩ := l
    have g1 : its[i]? = some its.toArray[i] := by
      have h1' : i < its.length := by simpa using h1
      rw [List.getElem?_eq_getElem h1'] <;> simp
    have g2 : its2[i]? = some its2.toArray[i] := by
      have h2' : i < its2.length := by simpa using h2
      rw [List.getElem?_eq_getElem h2'] <;> simp
    have k1 : i < xs.length := by rw [r.length]; simpa using h1
    have k2 : i < ys.length := by rw [r2.length]; simpa using h2
    obtain ⟨u, hu, ru⟩ := r.get (List.getElem?_eq_getElem k1)
    obtain ⟨v, hv, rv⟩ := r2.get (List.getElem?_eq_getElem k2)
    rw [g1] at hu
    rw [g2] at hv
    rw [Option.some.inj hu, Option.some.inj hv]
    refine wpAny_mono (h (c i) X.A.in1 pins s' σ H1 _ _ u v sb.in1 I1 ru rv (hD i _ _ (List.getElem?_eq_getElem k1) (List.getElem?_eq_getElem k2) H1 e1)) (fun r s2 q => ?_) fun _ _ x => x
    obtain ⟨hr, H2, I2, e2⟩ := q
    exact ⟨hr, H2, I2, e1.trans e2⟩
  · obtain ⟨H1, I1, e1⟩ := l
    exact ⟨.bl false, H1, I1, rfl, q false H1 e1 (fun z => nomatch z) fun _ => ⟨i, by rw [← sz1]; exact h1, h2⟩⟩
  · obtain ⟨H1, I1, e1⟩ := l
    exact ⟨.bl true, H1, I1, rfl, q true H1 e1 (fun _ i hi => hc i (by rw [sz1]; exact hi)) fun z => nomatch z⟩
/-- x != y, two lists whose pairs are equal: False -/
def rNeG (D : Eqv) : R2 := fun x y H Q => DList D x y H ∧ ∀ H', Ext H H' → Q (.bl false) H'
theorem op_neG {D : Eqv} (hD : Mon D) (h : EqG X n D) (hr : Room (n + 1) X.A) : OpR X (compareOp .NotEq) (rNeG D) := by
  intro pins s σ H x y v u Q I rx ry hq
  obtain ⟨⟨a, b, xs, ys, rfl, rfl, ha, hb, p⟩, q⟩ := hq
  cases rx
  cases ry
  have sb : Sub X (n + 1) X.A := ⟨hr, rfl⟩
  show wpAny (model X.prog X.w) X.A (richCompare .NotEq (.ref a) (.ref b)) (EP X pins σ Q) X.xe s
  refine GB.rc_listNe (N := xs.length) sb.room.units0 (fun _ s' => LoopI X pins σ H s') (fun i s' q => ?_) (fun s' l => ?_) ⟨H, I, Ext.rfl'⟩
  · obtain ⟨H1, I1, e1⟩ := id q
    obtain ⟨z, its, k, r, e⟩ := I1.hok a _ (e1 _ _ ha)
    obtain ⟨z2, its2, k2, r2, e2⟩ := I1.hok b _ (e1 _ _ hb)
    refine ⟨its.toArray, its2.toArray, k, k2, e, e2, by rw [List.size_toArray, ← r.length], by rw [List.size_toArray, ← r2.length, ← p.1], fun h1 h2 => ?_⟩
    exact turnG hD h sb p r r2 i h1 h2 s' q
  · obtain ⟨H1, I1, e1⟩ := l
    exact ⟨.bl false, H1, I1, rfl, q H1 e1⟩
/-- the same object -/
def DSame : Eqv := fun x y _ => ∃ a, x = .ref a ∧ y = .ref a
theorem mon_same : Mon DSame := fun _ _ _ _ _ d => d
theorem eqG_same : EqG X 0 DSame := by
  intro A pins s σ H x y u v sb I rx ry d
  obtain ⟨a, rfl, rfl⟩ := d
  cases rx
  cases ry
  exact SeqAt.EqAt.same (A := A) (s := s) (.ref a) X.prog X.w X.xe _ ⟨rfl, H, I, Ext.rfl'⟩
end
end Own
set_option linter.all false
set_option maxRecDepth 100000
set_option maxHeartbeats 4000000
/-! == of instances of classes that share one own ==. -/
namespace Own
open PySem PySem.Spec PyProof.Rows L2
section
variable {X : Cx} {n : Nat}
/-- instances whose classes have the own == at f -/
def DInsX (K : PySem.W.Frag) (f : Addr) (R : Bool → Addr → Addr → Hp → Prop) : Bool → Eqv := fun c x y H => ∃ a b C D dx dy fs gs, x = .ref a ∧ y = .ref b ∧ H a = some (.ins C dx fs) ∧ H b = some (.ins D dy gs) ∧ PySem.W.findIn K (.ref C) "__eq__" = some (some (.ref f)) ∧ PySem.W.notFirst K C (.ref D) = true ∧ R c a b H
theorem eqB_insX {CX : CXT} {f : Addr} {fd : FuncData} {ps : List Str} {R : Bool → Addr → Addr → Hp → Prop} {sp : Sp} {E : XK} (F : FnOk X.prog X.w X.K X.mg X.base CX n f fd ps sp)
    (hsp : ∀ c a b H, R c a b H → ∀ Q : VK, (∀ H', Ext H H' → Q (.bl c) H') → sp [.ref a, .ref b] H Q E) (self : ∀ c a H, R c a a H → c = true)
    (hf : PySem.W.isFn X.K (.ref f) = true) (hb : Binds X.K fd ps []) (hx : Passes CX X E) : EqB X n (DInsX X.K f R) := by
  intro c A pins s σ H x y u v sb I rx ry d
  obtain ⟨a, b, C, D, dx, dy, fs, gs, rfl, rfl, ha, hb', hs, hn, hr⟩ := d
  cases rx
  cases ry
  by_cases hab : a = b
  · subst hab
    rw [self c a H hr]
    exact SeqAt.EqAt.same (A := A) (s := s) (.ref a) X.prog X.w X.xe _ ⟨rfl, H, I, Ext.rfl'⟩
  refine GQ.eqBool_refG hab ?_
  obtain ⟨mA, J, _⟩ := ins_get I.hok ha
  obtain ⟨mB, J', _⟩ := ins_get I.hok hb'
  obtain ⟨od, J, _⟩ := J.look
  obtain ⟨od', J', _⟩ := J'.look
  obtain ⟨m, hF⟩ := I.fr
  refine PySem.W.cmp_K (op := .Eq) (tb := .ref D) sb.room.units0 hF I.ok.mod.kin J J'.type hn hs hf ?_
  have hsp := hsp c a b H hr (fun v H' => v = .bl c ∧ Ext H H') (fun H' e => ⟨rfl, e⟩)
  have e0 : Env0 X.prog X.w X.K X.mg X.base A X.stack s H := by
    have e := I.env0
    exact ⟨by rw [sb.fr]; exact e.frames, e.mod, e.bs, e.bsz, e.funs, e.frf, e.hok, e.bare⟩
  have hl := F.len _ _ _ _ hsp
  have r2 : Vals [V.ref a, V.ref b] [Value.ref a, Value.ref b] := .cons rfl (.cons rfl .nil)
  refine wpAny_call (codeAny_mono (F.run A X.stack s H ⟨[.ref a, .ref b], []⟩ [.ref a, .ref b] [.ref a, .ref b] _ E sb.room e0 (by
    have := hb s [.ref a, .ref b] I.kIn (by simpa using hl)
    simpa using this) r2 hsp) fun r s' hq => ?_)
  cases r with
  | error e => exact hx pins σ H s e s' I hq
  | ok fl =>
    cases fl with
    | ret w =>
      obtain ⟨z, H', I', rz, ez, ex⟩ := I.after hq
      subst ez
      cases rz
      exact ⟨c, rfl, rfl, H', I', ex⟩
    | next => exact False.elim hq
    | brk => exact False.elim hq
    | cont => exact False.elim hq
/-- an operator, read in one of several ways -/
theorem op_any {B : Type} {op : Value → Value → Sem Value} {r : B → R2} (h : ∀ b, OpR X op (r b)) : OpR X op (fun x y H Q => ∃ b, r b x y H Q) := by
  intro pins s σ H x y v u Q I rx ry hq
  obtain ⟨b, hq⟩ := hq
  exact h b pins s σ H x y v u Q I rx ry hq
/-- what is equal, as HandS has it -/
theorem EqB.eqG {D : Bool → Eqv} (h : EqB X n D) : EqG X n (D true) := by
  intro A pins s σ H x y u v sb I rx ry d
  refine wpAny_mono (h true A pins s σ H x y u v sb I rx ry d) (fun r s' q => ?_) fun _ _ e => e
  obtain ⟨hr, H', I', e⟩ := q
  exact ⟨hr, H', I', e⟩
end
end Own
set_option linter.all false
/-! dictionaries whose keys are numbers; lists in the order of a key -/
namespace Own
open PySem PySem.Spec PyProof.Rows L2
/-- the keys are these numbers, in this order -/
def KeysI (kvs : List (Key × V)) (L : List Int) : Prop := kvs.map (·.1) = L.map Sum.inl
theorem KeysI.nil : KeysI [] [] := rfl
theorem KeysI.length {kvs : List (Key × V)} {L : List Int} (h : KeysI kvs L) : kvs.length = L.length := by
  have := congrArg List.length h
  simpa using this
theorem KeysI.mem {kvs : List (Key × V)} {L : List Int} (h : KeysI kvs L) (z : Int) : (∃ p ∈ kvs, p.1 = Sum.inl z) ↔ z ∈ L := by
  have e : (Sum.inl z : Key) ∈ kvs.map (·.1) ↔ (Sum.inl z : Key) ∈ L.map Sum.inl := by rw [h]
  constructor
  · rintro ⟨p, hp, e1⟩
    have := e.mp (List.mem_map.mpr ⟨p, hp, e1⟩)
    obtain ⟨y, hy, e2⟩ := List.mem_map.mp this
    cases e2
    exact hy
  · intro hz
    obtain ⟨p, hp, e1⟩ := List.mem_map.mp (e.mpr (List.mem_map.mpr ⟨z, hz, rfl⟩))
    exact ⟨p, hp, e1⟩
theorem KeysI.at {kvs : List (Key × V)} {L : List Int} (h : KeysI kvs L) {i : Nat} {k : Key} {v : V} (e : kvs[i]? = some (k, v)) : ∃ z, L[i]? = some z ∧ k = .inl z := by
  have e1 : (kvs.map (·.1))[i]? = some k := by rw [List.getElem?_map, e]; rfl
  rw [h, List.getElem?_map] at e1
  cases e2 : L[i]? with
  | none => rw [e2] at e1; cases e1
  | some z => rw [e2] at e1; cases e1; exact ⟨z, rfl, rfl⟩
theorem KeysI.put {kvs : List (Key × V)} {L : List Int} (h : KeysI kvs L) (z : Int) (v : V) : KeysI (putK kvs (.inl z) v) (if z ∈ L then L else L ++ [z]) := by
  have m := h.mem z
  unfold KeysI at h ⊢
  unfold putK
  by_cases hz : z ∈ L
  · obtain ⟨p, hp, e⟩ := m.mpr hz
    rw [if_pos hz, if_pos (List.any_eq_true.mpr ⟨p, hp, decide_eq_true e⟩), ← h, List.map_map]
    refine List.map_congr_left fun q hq => ?_
    show (if q.1 = Sum.inl z then (q.1, v) else q).1 = q.1
    split <;> rfl
  · rw [if_neg hz, if_neg (fun a => hz (m.mp (let ⟨p, hp, e⟩ := List.any_eq_true.mp a; ⟨p, hp, of_decide_eq_true e⟩))), List.map_append, List.map_append, h]
    rfl
theorem nodup_put {L : List Int} (h : L.Nodup) (z : Int) : (if z ∈ L then L else L ++ [z]).Nodup := by
  by_cases hz : z ∈ L
  · rw [if_pos hz]; exact h
  · rw [if_neg hz]
    refine List.nodup_append.mpr ⟨h, by simp, fun a ha b hb e => ?_⟩
    rw [List.mem_singleton] at hb
    exact hz (by rw [← hb, ← e]; exact ha)
theorem mem_put {L : List Int} (z y : Int) : y ∈ (if z ∈ L then L else L ++ [z]) ↔ y ∈ L ∨ y = z := by
  by_cases hz : z ∈ L
  · rw [if_pos hz]
    exact ⟨.inl, fun h => h.elim id fun e => e ▸ hz⟩
  · rw [if_neg hz, List.mem_append, List.mem_singleton]
theorem mem_take {xs : List Int} {i : Nat} (hi : i < xs.length) (y : Int) : y ∈ xs.take (i + 1) ↔ y ∈ xs.take i ∨ y = xs[i] := by
  rw [← List.take_append_getElem hi, List.mem_append, List.mem_singleton]
theorem sorted_lt {xs zs : List Int} (p : xs.Perm zs) (s : xs.Pairwise (· ≤ ·)) (n : zs.Nodup) : xs.Pairwise (· < ·) :=
  (s.and (p.nodup_iff.mpr n)).imp fun ⟨a, b⟩ => by omega
/-- the numbers of ns in the order of their keys -/
def OrdBy (key : Int → Int) (ns L : List Int) : Prop := (L.map key).Pairwise (· < ·) ∧ ∀ z, z ∈ L ↔ z ∈ ns
theorem lt_unique : ∀ {xs ys : List Int}, xs.Pairwise (· < ·) → ys.Pairwise (· < ·) → (∀ z, z ∈ xs ↔ z ∈ ys) → xs = ys
  | [], [], _, _, _ => rfl
  | [], y :: ys, _, _, h => absurd ((h y).mpr List.mem_cons_self) (by simp)
  | x :: xs, [], _, _, h => absurd ((h x).mp List.mem_cons_self) (by simp)
  | x :: xs, y :: ys, h1, h2, h => by
    have a1 := List.pairwise_cons.mp h1
    have a2 := List.pairwise_cons.mp h2
    have e : x = y := by
      rcases List.mem_cons.mp ((h x).mp List.mem_cons_self) with e | hx
      · exact e
      · rcases List.mem_cons.mp ((h y).mpr List.mem_cons_self) with e | hy
        · exact e.symm
        · have := a1.1 _ hy
          have := a2.1 _ hx
          omega
    subst e
    rw [lt_unique a1.2 a2.2 fun z => ⟨fun hz => ?_, fun hz => ?_⟩]
    · rcases List.mem_cons.mp ((h z).mp (List.mem_cons_of_mem _ hz)) with e | h'
      · have := a1.1 _ hz; omega
      · exact h'
    · rcases List.mem_cons.mp ((h z).mpr (List.mem_cons_of_mem _ hz)) with e | h'
      · have := a2.1 _ hz; omega
      · exact h'
theorem map_inj_on {key : Int → Int} : ∀ {xs ys : List Int}, xs.map key = ys.map key → (∀ x ∈ xs, ∀ y ∈ ys, key x = key y → x = y) → xs = ys
  | [], [], _, _ => rfl
  | [], y :: ys, h, _ => by cases h
  | x :: xs, [], h, _ => by cases h
  | x :: xs, y :: ys, h, hi => by
    rw [List.map_cons, List.map_cons] at h
    injection h with e1 e2
    rw [hi x List.mem_cons_self y List.mem_cons_self e1, map_inj_on e2 fun a ha b hb => hi a (List.mem_cons_of_mem _ ha) b (List.mem_cons_of_mem _ hb)]
theorem OrdBy.inj {key : Int → Int} {ns L : List Int} (h : OrdBy key ns L) : ∀ x ∈ L, ∀ y ∈ L, key x = key y → x = y := by
  intro x hx y hy e
  obtain ⟨i, hi, rfl⟩ := List.mem_iff_getElem.mp hx
  obtain ⟨j, hj, rfl⟩ := List.mem_iff_getElem.mp hy
  have p := List.pairwise_iff_getElem.mp h.1
  rcases Nat.lt_trichotomy i j with l | l | l
  · have := p i j (by simpa using hi) (by simpa using hj) l
    simp only [List.getElem_map] at this
    omega
  · subst l; rfl
  · have := p j i (by simpa using hj) (by simpa using hi) l
    simp only [List.getElem_map] at this
    omega
theorem OrdBy.unique {key : Int → Int} {ns L L' : List Int} (h : OrdBy key ns L) (h' : OrdBy key ns L') : L = L' := by
  have m : L.map key = L'.map key := lt_unique h.1 h'.1 fun z => by
    constructor
    · intro hz
      obtain ⟨x, hx, e⟩ := List.mem_map.mp hz
      exact List.mem_map.mpr ⟨x, (h'.2 x).mpr ((h.2 x).mp hx), e⟩
    · intro hz
      obtain ⟨x, hx, e⟩ := List.mem_map.mp hz
      exact List.mem_map.mpr ⟨x, (h.2 x).mpr ((h'.2 x).mp hx), e⟩
  exact map_inj_on m fun x hx y hy e => h.inj x hx y ((h.2 y).mpr ((h'.2 y).mp hy)) e
theorem OrdBy.congr {key : Int → Int} {ns ms L : List Int} (h : OrdBy key ns L) (e : ∀ z, z ∈ ns ↔ z ∈ ms) : OrdBy key ms L := ⟨h.1, fun z => (h.2 z).trans (e z)⟩
theorem OrdBy.nodup {key : Int → Int} {ns L : List Int} (h : OrdBy key ns L) : L.Nodup := by
  have : (L.map key).Nodup := h.1.imp fun a => by omega
  exact (List.pairwise_map.mp this).imp fun a e => a (by rw [e])
/-- t + u: it stands somewhere -/
def rCatS (K : PySem.W.Frag) : R2 := fun x y H Q => ∃ a b xs ys, x = .ref a ∧ y = .ref b ∧ H a = some (.tup xs) ∧ H b = some (.tup ys) ∧ xs.length + ys.length ≤ sizeLine ∧ ∀ p H', Same H H' → H' p = some (.tup (xs ++ ys)) → Q (.ref p) H'
theorem op_catS {X : Cx} : OpR X (binaryOp .Add) (rCatS X.K) := by
  intro pins s σ H x y v u Q I rx ry h
  obtain ⟨a, b, xs, ys, rfl, rfl, ha, hb, hz, q⟩ := h
  refine L2.op_catA pins s σ H _ _ v u Q I rx ry ⟨a, b, xs, ys, rfl, rfl, SqT.of ha, SqT.of hb, hz, fun z => q b H (Same.refl _) (by rw [z]; exact hb), fun _ z => q a H (Same.refl _) (by rw [z, List.append_nil]; exact ha), fun _ _ p hp => q p _ (fun b o e => by rw [upd_ne (fun z => by rw [z, hp] at e; cases e)]; exact e) upd_same⟩
theorem walk_zipT {K : PySem.W.Frag} {a b : Addr} {xs ys : List V} {n : Nat} (hn : n = min xs.length ys.length) : Walk (RZ.ItzT K a b) n (fun H => SqT K H a xs ∧ SqT K H b ys) (YPair (fun i => xs[i]?) (fun i => ys[i]?)) := by
  subst hn
  refine ⟨fun i _ hi q => ?_, fun _ q => ⟨xs, ys, q.1, q.2, by omega⟩, fun i H v H' _ q y => ?_⟩
  · have h1 : i < xs.length := by omega
    have h2 : i < ys.length := by omega
    exact ⟨xs, ys, xs[i], ys[i], q.1, q.2, by simp [h1], by simp [h2]⟩
  · obtain ⟨T, x, z, h1, h2, h3, h4, h5⟩ := y
    exact ⟨T, x, z, h1, h2, h3, h4 xs q.1, h5 ys q.2⟩
/-- the list from the second item on, the first behind it -/
theorem rot_cut (x : V) (r : List V) : cutV (x :: r) (some 1) none ++ cutV (x :: r) none (some 1) = r ++ [x] := by
  simp [cutV, HT.sIx]
end Own
set_option linter.all false
set_option maxRecDepth 100000
set_option maxHeartbeats 4000000
/-! an instance made with a star: C(*y), C(e, .., *y); by a positional promise of its __init__. -/
namespace Own
open PySem PySem.Spec PyProof.Rows L2 StX
section
variable {X : Cx} {CX : CXT} {k i : Nat} {f C : Addr} {sp : Sp} {E : XK} {x : Str} {e : Expr} {es : List Expr} {te : TE} {t : TA} {p sp_ pos : Pos}
theorem pe_makeRS2 (M : Mk X.K C f) (F : FnR X.prog X.w X.K X.mg X.base CX k f sp) (hr : Room (k + 1) X.A) (hg : Gl X x) (hm : X.mg x = some (.ref C)) (hx : Passes CX X E) (ha : PA X (e :: es) t) (hdb : (x == ("__debug__" : Str)) = false := by decide)
    (he : starEach (e :: es) X.env = (false, eval e X.env) :: starEach es X.env := by rfl) (hst : (backTo pos (starEach es X.env)).any (·.1) = true := by rfl) : PE X (.Call (.Name x p) (e :: es) [] pos) (tMakeR C sp E t) := by
  refine ⟨fun pins s σ H Q I h => ?_⟩
  refine wpAny_Call_Name_kw (ld_glob I hg hm ?_ hdb)
  refine PySem.W.callWith_S2 (h₀ := X.base) I.ok.mod.kin M.kp (thn (ha.run pos pins s σ H _ I h) fun us s1 ⟨vs, H1, I1, r, q⟩ => ⟨I1.kIn, ?_⟩) he hst
  exact run_makeR M F hr hx I1 r q
/-- C(*y) -/
def tMakeS (K : PySem.W.Frag) (C : Addr) (sp : Sp) (E : XK) (te : TE) : TE := fun σ H Q => te σ H fun y H1 => ∃ a xs, y = V.ref a ∧ (SqT K H1 a xs ∨ SqL K H1 a xs) ∧ ∀ x dx, H1 x = Option.none → H1 dx = Option.none → dx ≠ x →
  sp (V.ref x :: xs) (upd (upd H1 dx (.own x)) x (.ins C dx [])) (fun v H2 => v = .non ∧ Q (.ref x) H2) E
theorem pe_makeRS1 (M : Mk X.K C f) (F : FnR X.prog X.w X.K X.mg X.base CX k f sp) (hr : Room (k + 1) X.A) (hg : Gl X x) (hm : X.mg x = some (.ref C)) (hx : Passes CX X E) (he : PE X e te) (hdb : (x == ("__debug__" : Str)) = false := by decide)
    (hst : starEach [.Starred e sp_] X.env = [(true, eval e X.env)] := by rfl) : PE X (.Call (.Name x p) [.Starred e sp_] [] pos) (tMakeS X.K C sp E te) := by
  refine ⟨fun pins s σ H Q I h => ?_⟩
  refine wpAny_Call_Name_kw (ld_glob I hg hm ?_ hdb)
  refine PySem.W.callWith_S (h₀ := X.base) I.ok.mod.kin M.kp (thn (he.run pins s σ H _ I h) fun v s1 ⟨y, H1, I1, ry, a, xs, ey, hxs, q⟩ => ?_) hst
  subst ey
  obtain rfl : v = Value.ref a := ry
  exact star_any I1 hxs fun us s2 I2 rv => ⟨I2.kIn, run_makeR M F hr hx I2 rv q⟩
/-- C() -/
theorem pe_makeR0 (M : Mk X.K C f) (F : FnR X.prog X.w X.K X.mg X.base CX k f sp) (hr : Room (k + 1) X.A) (hg : Gl X x) (hm : X.mg x = some (.ref C)) (hx : Passes CX X E) (hdb : (x == ("__debug__" : Str)) = false := by decide) :
    PE X (.Call (.Name x p) [] [] pos) (tMakeR C sp E tNil) := by
  refine ⟨fun pins s σ H Q I h => ?_⟩
  refine wpAny_Call_Name_kw (ld_glob I hg hm ?_ hdb)
  refine PySem.W.callWith_K0 I.kIn M.kp ?_
  exact run_makeR M F hr hx I .nil h
end
end Own
set_option maxRecDepth 100000
set_option maxHeartbeats 4000000
set_option exponentiation.threshold 9000
namespace Toy
open PySem L2
open Rat (divInt)
structure ScaT (K : PySem.W.Frag) (mg : Str → Option Value) (C : Addr) : Prop extends ClT K mg C "Scale" where
  nN : NoAttr K C "_numbers"
/-- the most notes of a scale -/
def Most (K : PySem.W.Frag) (C : Addr) : Prop := ∃ mc u, ClX.CRead K C mc ∧ ClX.CVal K C mc "MOST" (.int 16) u
def scaF (o : Addr) : List (Str × V) := putF "_numbers" (.ref o) []
theorem scaF_num (o : Addr) : (scaF o).lookup ("_numbers" : Str) = some (.ref o) := by
  unfold scaF
  rw [lookup_putF, if_pos rfl]
/-- the scale of the numbers ns stands at x -/
def ScaAt (CS : Addr) (H : Hp) (x : Addr) (ns : List Int) : Prop := ∃ dx o, H x = some (.ins CS dx (scaF o)) ∧ H o = some (.tup (ns.map V.int))
theorem ScaAt.same {CS : Addr} {H H' : Hp} {x : Addr} {ns : List Int} (h : ScaAt CS H x ns) (e : Same H H') : ScaAt CS H' x ns := let ⟨dx, o, h, h1⟩ := h; ⟨dx, o, e _ _ h, e _ _ h1⟩
/-- what a scale may hold -/
structure ScaOk (ns : List Int) : Prop where
  nd : ns.Nodup
  bd : ∀ z ∈ ns, -12 ≤ z ∧ z ≤ 12
  ln : ns.length ≤ 16
/-- x in o, of ints -/
theorem mem_ints {z : Int} {ns : List Int} : V.int z ∈ ns.map V.int ↔ z ∈ ns := by
  constructor
  · intro h
    obtain ⟨y, hy, e⟩ := List.mem_map.mp h
    injection e with e
    rw [← e]
    exact hy
  · exact fun h => List.mem_map.mpr ⟨z, h, rfl⟩
theorem ints_flat (ns : List Int) : (ns.map V.int).all flatV = true := List.all_eq_true.mpr fun y hy => by
  obtain ⟨i, _, rfl⟩ := List.mem_map.mp hy
  rfl
theorem inV_ints (z : Int) (ns : List Int) : inV (.int z) (ns.map V.int) = decide (z ∈ ns) := by
  unfold inV
  rw [Bool.eq_iff_iff, List.any_eq_true, decide_eq_true_iff]
  constructor
  · rintro ⟨y, hy, e⟩
    obtain ⟨i, hi, rfl⟩ := List.mem_map.mp hy
    have : i = z := by simpa [eqV] using e
    rw [← this]
    exact hi
  · intro h
    exact ⟨.int z, List.mem_map.mpr ⟨z, h, rfl⟩, by simp [eqV]⟩
theorem cut_to (ns : List Int) {k : Nat} (h : k ≤ ns.length) : cutV (ns.map V.int) none (some (k : Int)) = (ns.take k).map V.int := by
  unfold cutV
  rw [List.length_map, HT.sIx_nat, List.map_take, Nat.min_eq_left h]
  rfl
theorem cut_from (ns : List Int) (k : Nat) : cutV (ns.map V.int) (some (k : Int)) none = (ns.drop k).map V.int := by
  unfold cutV
  rw [List.length_map, HT.sIx_nat, List.map_drop]
  show List.take (ns.length - min k ns.length) _ = _
  rcases Nat.le_total k ns.length with h | h
  · rw [Nat.min_eq_left h]
    exact List.take_of_length_le (by rw [List.length_drop, List.length_map]; exact Nat.le_refl _)
  · rw [Nat.min_eq_right h, List.drop_eq_nil_of_le (by rw [List.length_map]; exact Nat.le_refl _), List.drop_eq_nil_of_le (by rw [List.length_map]; exact h)]
    exact List.take_nil
section
variable {P : Program} {w : World} {K : PySem.W.Frag} {mg : Str → Option Value} {base : Heap} {C CP CR CS : Addr}
def spNote : Sp := fun vs H Q _ => ∃ n : Int, vs = [.int n] ∧ Q (.bl (decide (-12 ≤ n) && decide (n ≤ 12))) H
abbrev sNote : Stmt := top 26
theorem scNote : FnScope ["value"] ["value"] (defScope sNote) := ⟨rfl, rfl, rfl, by decide +kernel, rfl, by decide +kernel, by decide +kernel⟩
theorem ok_note {f f1 : Addr} {fd fd1 : FuncData} (F : Fun K "_is_note" "_is_note" sNote f fd) (C_is_from_to : Cal P w K mg base 2 "is_from_to" f1 fd1 ["value", "low", "high"] spFromTo) : FnOk P w K mg base CX0 3 f fd ["value"] spNote := by
  refine F.ok scNote (fun vs H Q E h => ?_) (fun cdv A outer s H vs Q E hr h => ?_)
  · obtain ⟨n, rfl, _⟩ := h
    rfl
  · obtain ⟨n, rfl, q⟩ := h
    have nd := scNote.nd
    refine ⟨_, pss_one (ps_ret (pe_call C_is_from_to.F (hr.mono (by decide)) (by rfl) C_is_from_to.mgf C_is_from_to.kp C_is_from_to.b .nil pass0 (pa_cons (pv 0) (pa_cons (pe_un un_neg pe_int) (pa_cons pe_int pa_nil))))), ?_⟩
    exact ⟨_, rfl, 12, rfl, _, _, _, rfl, q⟩
def spScaI (CS : Addr) : Sp := fun vs H Q _ => ∃ (x dx s : Addr) (ns : List Int), vs = [.ref x, .ref s] ∧ H x = some (.ins CS dx []) ∧ H s = some (.tup (ns.map V.int)) ∧ ScaOk ns ∧ ∀ H', ScaAt CS H' x ns → (∀ c o, H c = some o → c ≠ x → H' c = some o) → Q .non H'
abbrev sScaI : Stmt := inClass (top 25) 1
theorem scScaI : FnScope ["self", "numbers", "at", "number"] ["self", "numbers"] (defScope sScaI) := ⟨rfl, rfl, rfl, by decide +kernel, rfl, by decide +kernel, by decide +kernel⟩
def spScaC (CS : Addr) : Sp := fun vs H Q E => ∃ ws rest, vs = ws ++ rest ∧ ws.length = 1 ∧ rest.length ≤ sizeLine ∧ ∀ p, H p = none → spScaI CS (ws ++ [V.ref p]) (upd H p (.tup rest)) Q E
theorem ok_scai {f f1 : Addr} {fd fd1 : FuncData} (F : Fun K "__init__" "Scale.__init__" sScaI f fd) (T : Bl mg) (zen : mg "enumerate" = none) (T_Scale : ScaT K mg CS) (mst : Most K CS) (C__is_note : Cal P w K mg base 3 "_is_note" f1 fd1 ["value"] spNote) :
    FnR P w K mg base CX0 4 f (spScaC CS) := by
  obtain ⟨oc, od, kV, doc, pm, an, cdv, ct, osl, rfl, lk, hcd⟩ := F.ex
  refine StX.fn_star (ps := ["self"]) (pv := "numbers") (sp := spScaI CS) lk hcd scScaI StX.cxUp_none (fun us rest hl => match us, rest, hl with | [_], [], _ => rfl | [_], _ :: _, _ => rfl) fun Ar outer s0 H vs Q E hr h => ?_
  obtain ⟨x, dx, s, ns, rfl, hx, hs, ok, q⟩ := h
  have nd := scScaI.nd
  refine ⟨_, pss_cons (ps_for (passes_of rfl) rfl (Own.pi_enumT (by rfl) zen (pa_cons (pv 1) pa_nil)) (pg_tup (by rfl) (pgs_cons (pg_name (i := 2) nd rfl (Or.inl rfl)) (pgs_cons (pg_name (i := 3) nd rfl (Or.inl rfl)) pgs_nil))) (pss_one (ps_if (PW.pt (pw_or (pt_not (pt_val (pe_call C__is_note.F (hr.mono (by decide)) (by rfl) C__is_note.mgf C__is_note.kp C__is_note.b .nil pass0 (pa_cons (pv 3) pa_nil)))) (pw_or1 (pt_cmpR op_in_seq (pv 3) (pe_slice Own.sl_tupS (pv 1) po_none (po_some (pv 2))) (by rfl))))) pss_never pss_nil)))
      (pss_cons (ps_if (pt_cmpR op_gt (pe_callB call_len (by rfl) T.len (by decide +kernel) (pa_cons (pv 1) pa_nil)) (ClX.pe_cval (Own.pe_gref (by rfl) T_Scale.mgC)) (nomark _)) pss_never pss_nil)
      (pss_one (ps_fld (pv 0) (pv 1) rfl))), ?_⟩
  have nl : (ns.map V.int).length = ns.length := List.length_map _
  refine ⟨_, rfl, s, _, rfl, SqT.of hs, ?_⟩
  refine for_it (Own.walk_enumT (K := K) (a := s) (xs := ns.map V.int)) (fun i σ H' => ∃ v3 v4, σ = [some (.ref x), some (.ref s), v3, v4] ∧ Same H H') ⟨_, _, rfl, Same.refl _⟩ (fun i σ H' _ h => ?_) ?_ ?_
  · obtain ⟨_, _, _, hS⟩ := h
    exact SqT.of (hS _ _ hs)
  · rintro i y σ H1 H2 hi ⟨v3, v4, rfl, hS⟩ ⟨T1, u1, x1, rfl, hT1, rfl, eu, hx1⟩
    cases eu
    rw [nl] at hi
    have hx1 : (ns.map V.int)[i]? = some x1 := hx1
    rw [List.getElem?_map, List.getElem?_eq_getElem hi] at hx1
    cases hx1
    have sT : Same H1 (upd H1 T1 (.tup [.int (i : Nat), .int ns[i]])) := same_new hT1
    refine ⟨T1, _, rfl, SqT.of upd_same, rfl, _, _, rfl, _, _, rfl, rfl, ?_⟩
    have hb := ok.bd _ (List.getElem_mem hi)
    refine ⟨_, rfl, ns[i], rfl, _, rfl, iteFb (by rw [decide_eq_true hb.1, decide_eq_true hb.2]; rfl) ?_⟩
    refine ⟨_, rfl, _, rfl, _, rfl, (i : Int), rfl, s, _, rfl, sT _ _ (hS _ _ hs), fun t H3 s3 ht => ?_⟩
    rw [cut_to ns (by omega)] at ht
    refine ⟨t, _, rfl, .inr (SqT.of ht), rfl, ints_flat _, _, rfl, iteFb ?_ ⟨_, _, rfl, (hS.trans sT).trans s3⟩⟩
    show inV _ _ = false
    rw [inV_ints]
    refine decide_eq_false fun h => ?_
    obtain ⟨j, hj, e⟩ := List.mem_iff_getElem.mp h
    rw [List.length_take] at hj
    rw [List.getElem_take] at e
    have := (List.getElem_inj ok.nd).mp e
    omega
  · rintro σ H1 ⟨v3, v4, rfl, hS⟩
    obtain ⟨mc, u, m1, m2⟩ := mst
    have hx1 := hS _ _ hx
    have hs1 := hS _ _ hs
    have h16 := ok.ln
    refine ⟨_, rfl, _, _, rfl, .inr ⟨_, SqT.of hs1, rfl⟩, CS, mc, .int 16, u, rfl, m1, m2, _, _, rfl, rfl, _, rfl, iteFb (decide_eq_false (by rw [nl]; omega)) ?_⟩
    refine ⟨_, rfl, _, rfl, x, CS, dx, _, rfl, hx1, T_Scale.cl, T_Scale.nN, (by decide : 0 < 1000), ?_⟩
    have hsx : s ≠ x := ne_of hs hx (by intro z; cases z)
    refine q _ ⟨dx, s, upd_same, by rw [upd_ne hsx]; exact hs1⟩ fun c o hc n => ?_
    rw [upd_ne n]
    exact hS _ _ hc
end
end Toy
set_option maxRecDepth 100000
set_option maxHeartbeats 4000000
set_option exponentiation.threshold 9000
namespace Toy
open PySem L2
open Rat (divInt)
section
variable {P : Program} {w : World} {K : PySem.W.Frag} {mg : Str → Option Value} {base : Heap} {C CP CR CS : Addr}
theorem app_ints (xs ys : List Int) : xs.map V.int ++ ys.map V.int = (xs ++ ys).map V.int := (List.map_append ..).symm
/-- the numbers of a scale set anew -/
theorem ScaAt.put {H H' : Hp} {x dx o t : Addr} {ms : List Int} (hx : H x = some (.ins CS dx (scaF o))) (s : Same H H') (ht : H' t = some (.tup (ms.map V.int))) : (putF "_numbers" (.ref t) (scaF o) = scaF t) ∧ ScaAt CS (upd H' x (.ins CS dx (scaF t))) x ms ∧ But x H (upd H' x (.ins CS dx (scaF t))) := by
  have hx' := s _ _ hx
  have n : t ≠ x := ne_of ht hx' (by intro z; cases z)
  refine ⟨?_, ⟨dx, t, upd_same, by rw [upd_ne n]; exact ht⟩, fun y u hy hn => by rw [upd_ne hn]; exact s _ _ hy⟩
  unfold scaF
  simp [putF]
def spDrop (CS : Addr) : Sp := fun vs H Q _ => ∃ (x : Addr) (k : Nat) (ns : List Int), vs = [.ref x, .int k] ∧ ScaAt CS H x ns ∧ k < ns.length ∧ ns.length ≤ 16 ∧ ∀ v H', But x H H' → ScaAt CS H' x (ns.take k ++ ns.drop (k + 1)) → Q (.int v) H'
abbrev sDrop : Stmt := inClass (top 25) 5
theorem scDrop : FnScope ["self", "k", "dropped"] ["self", "k"] (defScope sDrop) := ⟨rfl, rfl, rfl, by decide +kernel, rfl, by decide +kernel, by decide +kernel⟩
theorem ok_drop {f f1 : Addr} {fd fd1 : FuncData} (F : Fun K "drop" "Scale.drop" sDrop f fd) (T : Bl mg) (T_Scale : ScaT K mg CS) (C_is_from_to : Cal P w K mg base 2 "is_from_to" f1 fd1 ["value", "low", "high"] spFromTo) : FnOk P w K mg base CX0 3 f fd ["self", "k"] (spDrop CS) := by
  refine F.ok scDrop (fun vs H Q E h => ?_) (fun cdv A outer s H vs Q E hr h => ?_)
  · obtain ⟨x, k, ns, rfl, _⟩ := h
    rfl
  · obtain ⟨x, k, ns, rfl, ⟨dx, o, hx, ho⟩, hk, n16, q⟩ := h
    have nd := scDrop.nd
    refine ⟨_, pss_cons (ps_if (pt_not (pt_val (pe_call C_is_from_to.F (hr.mono (by decide)) (by rfl) C_is_from_to.mgf C_is_from_to.kp C_is_from_to.b .nil pass0 (pa_cons (pv 1) (pa_cons pe_int (pa_cons (pe_op op_sub (pe_callB call_len (by rfl) T.len (by decide +kernel) (pa_cons (pe_fld (pv 0) rfl) pa_nil)) pe_int) pa_nil)))))) pss_never pss_nil)
      (pss_cons (ps_set (i := 2) nd rfl (Or.inl rfl) (pe_ix ix_tup (pe_fld (pv 0) rfl) (pv 1) (fun _ _ => rfl)))
      (pss_cons (ps_fld (pv 0) (pe_op Own.op_catS (pe_slice Own.sl_tupS (pe_fld (pv 0) rfl) po_none (po_some (pv 1))) (pe_slice Own.sl_tupS (pe_fld (pv 0) rfl) (po_some (pe_op op_add (pv 1) pe_int)) po_none)) rfl)
      (pss_one (ps_ret (pv 2))))), ?_⟩
    have nl : (ns.map V.int).length = ns.length := List.length_map _
    have e16 : (32 : Nat) < sizeLine := by decide
    refine ⟨_, rfl, _, rfl, _, CS, dx, _, _, rfl, hx, T_Scale.cl, T_Scale.nN, scaF_num _, _, _, rfl, .inr ⟨_, SqT.of ho, rfl⟩, _, _, rfl, rfl, ?_⟩
    rw [nl]
    refine ⟨(k : Int), 0, (ns.length : Int) - 1, rfl, _, rfl, iteNot (and2 (decide_eq_true (by omega)) (decide_eq_true (by omega))) ?_⟩
    refine ⟨_, rfl, _, CS, dx, _, _, rfl, hx, T_Scale.cl, T_Scale.nN, scaF_num _, _, rfl, o, _, _, .int ns[k], rfl, rfl, SqT.of ho, atI_nat (by rw [List.getElem?_map, List.getElem?_eq_getElem hk]; rfl), ?_⟩
    refine ⟨_, rfl, _, CS, dx, _, _, rfl, hx, T_Scale.cl, T_Scale.nN, scaF_num _, _, rfl, (k : Int), rfl, o, _, rfl, ho, fun t1 H1 s1 h1 => ?_⟩
    rw [cut_to ns (by omega)] at h1
    refine ⟨_, rfl, _, CS, dx, _, _, rfl, s1 _ _ hx, T_Scale.cl, T_Scale.nN, scaF_num _, _, rfl, _, _, rfl, rfl, _, rfl, o, _, rfl, s1 _ _ ho, fun t2 H2 s2 h2 => ?_⟩
    have h2 : H2 t2 = some (.tup (cutV (ns.map V.int) (some ((k + 1 : Nat) : Int)) none)) := h2
    rw [cut_from] at h2
    refine ⟨t1, t2, _, _, rfl, rfl, s2 _ _ h1, h2, by rw [List.length_map, List.length_map, List.length_take, List.length_drop]; omega, fun t3 H3 s3 h3 => ?_⟩
    rw [app_ints] at h3
    have s13 := s1.trans (s2.trans s3)
    obtain ⟨e, g1, g2⟩ := ScaAt.put hx s13 h3
    refine ⟨_, rfl, x, CS, dx, _, rfl, s13 _ _ hx, T_Scale.cl, T_Scale.nN, (by decide : 1 < 1000), ?_⟩
    rw [e]
    exact ⟨_, rfl, q _ _ g2 g1⟩
def spPut (CS : Addr) : Sp := fun vs H Q _ => ∃ (x : Addr) (n : Int) (ns : List Int), vs = [.ref x, .int n] ∧ ScaAt CS H x ns ∧ (-12 ≤ n ∧ n ≤ 12) ∧ n ∉ ns ∧ ns.length < 16 ∧ ∀ H', But x H H' → ScaAt CS H' x (ns ++ [n]) → Q .non H'
abbrev sPut : Stmt := inClass (top 25) 6
theorem scPut : FnScope ["self", "number"] ["self", "number"] (defScope sPut) := ⟨rfl, rfl, rfl, by decide +kernel, rfl, by decide +kernel, by decide +kernel⟩
theorem ok_put {f f1 : Addr} {fd fd1 : FuncData} (F : Fun K "put" "Scale.put" sPut f fd) (T : Bl mg) (T_Scale : ScaT K mg CS) (mst : Most K CS) (C__is_note : Cal P w K mg base 3 "_is_note" f1 fd1 ["value"] spNote) : FnOk P w K mg base CX0 4 f fd ["self", "number"] (spPut CS) := by
  refine F.ok scPut (fun vs H Q E h => ?_) (fun cdv A outer s H vs Q E hr h => ?_)
  · obtain ⟨x, n, ns, rfl, _⟩ := h
    rfl
  · obtain ⟨x, n, ns, rfl, ⟨dx, o, hx, ho⟩, hb, hn, n16, q⟩ := h
    have nd := scPut.nd
    refine ⟨_, pss_cons (ps_if (PW.pt (pw_or (pt_not (pt_val (pe_call C__is_note.F (hr.mono (by decide)) (by rfl) C__is_note.mgf C__is_note.kp C__is_note.b .nil pass0 (pa_cons (pv 1) pa_nil)))) (pw_or1 (pt_cmpR op_in_seq (pv 1) (pe_fld (pv 0) rfl) (by rfl))))) pss_never pss_nil)
      (pss_cons (ps_if (pt_cmpR op_eq (pe_callB call_len (by rfl) T.len (by decide +kernel) (pa_cons (pe_fld (pv 0) rfl) pa_nil)) (ClX.pe_cval (Own.pe_gref (by rfl) T_Scale.mgC)) (nomark _)) pss_never pss_nil)
      (pss_one (ps_fld (pv 0) (pe_op Own.op_catS (pe_fld (pv 0) rfl) (pe_tup (pa_cons (pv 1) pa_nil))) rfl))), ?_⟩
    have nl : (ns.map V.int).length = ns.length := List.length_map _
    have e16 : (32 : Nat) < sizeLine := by decide
    obtain ⟨mc, u, m1, m2⟩ := mst
    refine ⟨_, rfl, n, rfl, _, rfl, iteFb (by rw [decide_eq_true hb.1, decide_eq_true hb.2]; rfl) ?_⟩
    refine ⟨_, rfl, _, rfl, _, CS, dx, _, _, rfl, hx, T_Scale.cl, T_Scale.nN, scaF_num _, o, _, rfl, .inr (SqT.of ho), rfl, ints_flat _, _, rfl, iteFb (by show inV _ _ = false; rw [inV_ints]; exact decide_eq_false hn) ?_⟩
    refine ⟨_, rfl, _, CS, dx, _, _, rfl, hx, T_Scale.cl, T_Scale.nN, scaF_num _, _, _, rfl, .inr ⟨_, SqT.of ho, rfl⟩, CS, mc, .int 16, u, rfl, m1, m2, rfl, _, rfl, iteFb (decide_eq_false (by rw [nl]; intro z; injection z with z; omega)) ?_⟩
    refine ⟨_, rfl, _, CS, dx, _, _, rfl, hx, T_Scale.cl, T_Scale.nN, scaF_num _, _, rfl, (by decide : 1 ≤ sizeLine), fun t1 ht1 => ?_⟩
    have s1 := same_new (o := HO.tup [.int n]) ht1
    refine ⟨o, t1, _, _, rfl, rfl, s1 _ _ ho, upd_same, by rw [nl]; show ns.length + 1 ≤ sizeLine; omega, fun t3 H3 s3 h3 => ?_⟩
    have h3 : H3 t3 = some (.tup ((ns ++ [n]).map V.int)) := by rw [List.map_append]; exact h3
    have s13 := s1.trans s3
    obtain ⟨e, g1, g2⟩ := ScaAt.put hx s13 h3
    refine ⟨_, rfl, x, CS, dx, _, rfl, s13 _ _ hx, T_Scale.cl, T_Scale.nN, (by decide : 1 < 1000), ?_⟩
    rw [e]
    exact q _ g2 g1
def spSet (CS : Addr) : Sp := fun vs H Q _ => ∃ (x : Addr) (k : Nat) (n : Int) (ns : List Int), vs = [.ref x, .int k, .int n] ∧ ScaAt CS H x ns ∧ k < ns.length ∧ ns.length ≤ 16 ∧ (-12 ≤ n ∧ n ≤ 12) ∧ n ∉ ns ∧ ∀ H', But x H H' → ScaAt CS H' x (ns.take k ++ [n] ++ ns.drop (k + 1)) → Q .non H'
abbrev sSet : Stmt := inClass (top 25) 19
theorem scSet : FnScope ["self", "at", "worth", "others"] ["self", "at", "worth"] (defScope sSet) := ⟨rfl, rfl, rfl, by decide +kernel, rfl, by decide +kernel, by decide +kernel⟩
theorem ok_set {f f1 f2 : Addr} {fd fd1 fd2 : FuncData} (F : Fun K "__setitem__" "Scale.__setitem__" sSet f fd) (T : Bl mg) (T_Scale : ScaT K mg CS) (C_is_from_to : Cal P w K mg base 2 "is_from_to" f1 fd1 ["value", "low", "high"] spFromTo) (C__is_note : Cal P w K mg base 3 "_is_note" f2 fd2 ["value"] spNote) : FnOk P w K mg base CX0 4 f fd ["self", "at", "worth"] (spSet CS) := by
  refine F.ok scSet (fun vs H Q E h => ?_) (fun cdv A outer s H vs Q E hr h => ?_)
  · obtain ⟨x, k, n, ns, rfl, _⟩ := h
    rfl
  · obtain ⟨x, k, n, ns, rfl, ⟨dx, o, hx, ho⟩, hk, n16, hb, hn, q⟩ := h
    have nd := scSet.nd
    refine ⟨_, pss_cons (ps_if (pt_not (pt_val (pe_call C_is_from_to.F (hr.mono (by decide)) (by rfl) C_is_from_to.mgf C_is_from_to.kp C_is_from_to.b .nil pass0 (pa_cons (pv 1) (pa_cons pe_int (pa_cons (pe_op op_sub (pe_callB call_len (by rfl) T.len (by decide +kernel) (pa_cons (pe_fld (pv 0) rfl) pa_nil)) pe_int) pa_nil)))))) pss_never pss_nil)
      (pss_cons (ps_set (i := 3) nd rfl (Or.inl rfl) (pe_op Own.op_catS (pe_slice Own.sl_tupS (pe_fld (pv 0) rfl) po_none (po_some (pv 1))) (pe_slice Own.sl_tupS (pe_fld (pv 0) rfl) (po_some (pe_op op_add (pv 1) pe_int)) po_none)))
      (pss_cons (ps_if (PW.pt (pw_or (pt_not (pt_val (pe_call C__is_note.F (hr.mono (by decide)) (by rfl) C__is_note.mgf C__is_note.kp C__is_note.b .nil pass0 (pa_cons (pv 2) pa_nil)))) (pw_or1 (pt_cmpR op_in_seq (pv 2) (pv 3) (by rfl))))) pss_never pss_nil)
      (pss_one (ps_fld (pv 0) (pe_op Own.op_catS (pe_op Own.op_catS (pe_slice Own.sl_tupS (pe_fld (pv 0) rfl) po_none (po_some (pv 1))) (pe_tup (pa_cons (pv 2) pa_nil))) (pe_slice Own.sl_tupS (pe_fld (pv 0) rfl) (po_some (pe_op op_add (pv 1) pe_int)) po_none)) rfl)))), ?_⟩
    have nl : (ns.map V.int).length = ns.length := List.length_map _
    have e16 : (64 : Nat) < sizeLine := by decide
    refine ⟨_, rfl, _, rfl, _, CS, dx, _, _, rfl, hx, T_Scale.cl, T_Scale.nN, scaF_num _, _, _, rfl, .inr ⟨_, SqT.of ho, rfl⟩, _, _, rfl, rfl, ?_⟩
    rw [nl]
    refine ⟨(k : Int), 0, (ns.length : Int) - 1, rfl, _, rfl, iteNot (and2 (decide_eq_true (by omega)) (decide_eq_true (by omega))) ?_⟩
    refine ⟨_, rfl, _, CS, dx, _, _, rfl, hx, T_Scale.cl, T_Scale.nN, scaF_num _, _, rfl, (k : Int), rfl, o, _, rfl, ho, fun t1 H1 s1 h1 => ?_⟩
    rw [cut_to ns (by omega)] at h1
    refine ⟨_, rfl, _, CS, dx, _, _, rfl, s1 _ _ hx, T_Scale.cl, T_Scale.nN, scaF_num _, _, rfl, _, _, rfl, rfl, _, rfl, o, _, rfl, s1 _ _ ho, fun t2 H2 s2 h2 => ?_⟩
    have h2 : H2 t2 = some (.tup (cutV (ns.map V.int) (some ((k + 1 : Nat) : Int)) none)) := h2
    rw [cut_from] at h2
    refine ⟨t1, t2, _, _, rfl, rfl, s2 _ _ h1, h2, by rw [List.length_map, List.length_map, List.length_take, List.length_drop]; omega, fun t3 H3 s3 h3 => ?_⟩
    rw [app_ints] at h3
    have s13 := s1.trans (s2.trans s3)
    refine ⟨_, rfl, n, rfl, _, rfl, iteFb (by rw [decide_eq_true hb.1, decide_eq_true hb.2]; rfl) ?_⟩
    refine ⟨_, rfl, _, rfl, t3, _, rfl, .inr (SqT.of h3), rfl, ints_flat _, _, rfl, iteFb (by
      show inV _ _ = false
      rw [inV_ints]
      refine decide_eq_false fun h => ?_
      rcases List.mem_append.mp h with h | h
      · exact hn (List.mem_of_mem_take h)
      · exact hn (List.mem_of_mem_drop h)) ?_⟩
    have hx3 := s13 _ _ hx
    have ho3 := s13 _ _ ho
    refine ⟨_, rfl, _, CS, dx, _, _, rfl, hx3, T_Scale.cl, T_Scale.nN, scaF_num _, _, rfl, (k : Int), rfl, o, _, rfl, ho3, fun t4 H4 s4 h4 => ?_⟩
    rw [cut_to ns (by omega)] at h4
    refine ⟨_, rfl, (by decide : 1 ≤ sizeLine), fun t5 ht5 => ?_⟩
    have s5 := same_new (o := HO.tup [.int n]) ht5
    refine ⟨t4, t5, _, _, rfl, rfl, s5 _ _ h4, upd_same, by rw [List.length_map, List.length_take]; show _ + 1 ≤ sizeLine; omega, fun t6 H6 s6 h6 => ?_⟩
    have h6 : H6 t6 = some (.tup ((ns.take k ++ [n]).map V.int)) := by rw [List.map_append]; exact h6
    have s36 := s4.trans (s5.trans s6)
    refine ⟨_, rfl, _, CS, dx, _, _, rfl, s36 _ _ hx3, T_Scale.cl, T_Scale.nN, scaF_num _, _, rfl, _, _, rfl, rfl, _, rfl, o, _, rfl, s36 _ _ ho3, fun t7 H7 s7 h7 => ?_⟩
    have h7 : H7 t7 = some (.tup (cutV (ns.map V.int) (some ((k + 1 : Nat) : Int)) none)) := h7
    rw [cut_from] at h7
    refine ⟨t6, t7, _, _, rfl, rfl, s7 _ _ h6, h7, by rw [List.length_map, List.length_map, List.length_append, List.length_take, List.length_drop, List.length_singleton]; omega, fun t8 H8 s8 h8 => ?_⟩
    rw [app_ints] at h8
    have s18 := s13.trans (s36.trans (s7.trans s8))
    obtain ⟨e, g1, g2⟩ := ScaAt.put hx s18 h8
    refine ⟨_, rfl, x, CS, dx, _, rfl, s18 _ _ hx, T_Scale.cl, T_Scale.nN, (by decide : 1 < 1000), ?_⟩
    rw [e]
    exact q _ g2 g1
end
end Toy
set_option maxRecDepth 100000
set_option maxHeartbeats 4000000
set_option exponentiation.threshold 9000
namespace Toy
open PySem L2
open Rat (divInt)
section
variable {P : Program} {w : World} {K : PySem.W.Frag} {mg : Str → Option Value} {base : Heap} {C CP CR CS : Addr}
def spRaised : Sp := fun vs H Q _ => ∃ (o : Addr) (m : Int) (ns : List Int), vs = [.ref o, .int m] ∧ H o = some (.tup (ns.map V.int)) ∧ ns.length ≤ 16 ∧ (∀ z ∈ ns, -12 ≤ z + m ∧ z + m ≤ 12) ∧ ∀ t H', Same H H' → H' t = some (.tup ((ns.map (· + m)).map V.int)) → Q (.ref t) H'
abbrev sRaised : Stmt := top 27
theorem scRaised : FnScope ["numbers", "more", "number", "raised"] ["numbers", "more"] (defScope sRaised) := ⟨rfl, rfl, rfl, by decide +kernel, rfl, by decide +kernel, by decide +kernel⟩
theorem ok_raised {f f1 f2 : Addr} {fd fd1 fd2 : FuncData} (F : Fun K "_raised" "_raised" sRaised f fd) (T : Bl mg) (zt : mg "tuple" = none) (C_is_int : Cal P w K mg base 1 "is_int" f1 fd1 ["value"] (spIsInt K)) (C__is_note : Cal P w K mg base 3 "_is_note" f2 fd2 ["value"] spNote) : FnOk P w K mg base CX0 4 f fd ["numbers", "more"] spRaised := by
  refine F.ok scRaised (fun vs H Q E h => ?_) (fun cdv A outer s H vs Q E hr h => ?_)
  · obtain ⟨o, m, ns, rfl, _⟩ := h
    rfl
  · obtain ⟨o, m, ns, rfl, ho, n16, hb, q⟩ := h
    have nd := scRaised.nd
    refine ⟨_, pss_cons (ps_if (pt_not (pt_val (pe_call C_is_int.F (hr.mono (by decide)) (by rfl) C_is_int.mgf C_is_int.kp C_is_int.b .nil pass0 (pa_cons (pv 1) pa_nil)))) pss_never pss_nil)
      (pss_cons (ps_set (i := 3) nd rfl (Or.inl rfl) (pe_callTy call_tuple_of (by rfl) zt (by decide +kernel) (pa_cons (pe_lc (own := [("number", 2)]) (g := gName 2) (tt := tYes) rfl nd (pi_tup (pv 0)) (blkOk_by (N := ["numbers", "more", "number", "raised"]) (sc := defScope (top 27)) (by decide +kernel)) (fun _ _ _ _ _ => pg_name (i := 2) nd rfl (Or.inl rfl)) (fun _ _ _ _ _ => pts_nil) (fun _ _ _ _ _ => (pe_op op_add (pv 2) (pv 1)))) pa_nil)))
      (pss_cons (ps_for PassesOwn.never rfl (pi_tup (pv 3)) (pg_name (i := 2) nd rfl (Or.inl rfl)) (pss_one (ps_if (pt_not (pt_val (pe_call C__is_note.F (hr.mono (by decide)) (by rfl) C__is_note.mgf C__is_note.kp C__is_note.b .nil pass0 (pa_cons (pv 2) pa_nil)))) pss_never pss_nil)))
      (pss_one (ps_ret (pv 3))))), ?_⟩
    have nl : (ns.map V.int).length = ns.length := List.length_map _
    have e16 : (64 : Nat) < sizeLine := by decide
    refine ⟨_, rfl, .int m, _, true, rfl, .base (.int _), isIntK_int, _, rfl, iteF ?_⟩
    refine ⟨_, rfl, o, rfl, ⟨_, SqT.of ho⟩, fun D hD => ?_⟩
    refine lc_it (walk_tup (K := K) (a := o) (xs := ns.map V.int)) (fun j H' => H' D = some (.lst (((ns.map (· + m)).take j).map V.int)) ∧ Same H H') ⟨upd_same, same_new hD⟩ (fun j H' _ h => SqT.of (h.2 _ _ ho)) ?_ ?_
    · rintro j y H1 H2 hj ⟨hg, sg⟩ ⟨rfl, hy⟩
      rw [nl] at hj
      rw [List.getElem?_map, List.getElem?_eq_getElem hj] at hy
      cases hy
      refine ⟨rfl, _, rfl, _, rfl, _, _, rfl, rfl, _, hg, by rw [List.length_map, List.length_take, List.length_map]; omega, ?_, fun z u e' => ?_⟩
      · rw [upd_same, List.take_add_one, List.getElem?_map, List.getElem?_eq_getElem hj, List.map_append]
        rfl
      · rw [upd_ne (fun z => by rw [z, hD] at e'; cases e')]
        exact sg _ _ e'
    rintro H1 ⟨hg, sg⟩
    rw [nl, show ns.length = (ns.map (· + m)).length by rw [List.length_map], List.take_length] at hg
    refine ⟨D, _, rfl, .inl ⟨SqL.of hg, fun t ht => ?_⟩⟩
    have s2 := same_new (o := HO.tup ((ns.map (· + m)).map V.int)) ht
    have ht2 : (upd H1 t (HO.tup ((ns.map (· + m)).map V.int))) t = _ := upd_same
    generalize upd H1 t (HO.tup ((ns.map (· + m)).map V.int)) = H2 at *
    refine ⟨_, rfl, t, rfl, ⟨_, SqT.of ht2⟩, ?_⟩
    refine for_it (walk_tup (K := K) (a := t) (xs := (ns.map (· + m)).map V.int)) (fun i σ H' => ∃ v2, σ = [some (.ref o), some (.int m), v2, some (.ref t)] ∧ H' = H2) ⟨_, rfl, rfl⟩ (fun i σ H' _ h => ?_) ?_ ?_
    · obtain ⟨_, _, rfl⟩ := h
      exact SqT.of ht2
    · rintro i y σ H3 H4 hi ⟨v2, rfl, rfl⟩ ⟨rfl, hy⟩
      obtain ⟨z, hz, rfl⟩ := List.mem_map.mp (List.mem_of_getElem? hy)
      obtain ⟨z0, hz0, rfl⟩ := List.mem_map.mp hz
      have hb1 := hb z0 hz0
      exact ⟨_, rfl, _, rfl, _, rfl, iteNot (and2 (decide_eq_true hb1.1) (decide_eq_true hb1.2)) ⟨_, rfl, rfl⟩⟩
    rintro σ H3 ⟨v2, rfl, rfl⟩
    exact ⟨_, rfl, q t _ (sg.trans s2) ht2⟩
def spIAdd (CS : Addr) : Sp := fun vs H Q _ => ∃ (x : Addr) (m : Int) (ns : List Int), vs = [.ref x, .int m] ∧ ScaAt CS H x ns ∧ ns.length ≤ 16 ∧ (∀ z ∈ ns, -12 ≤ z + m ∧ z + m ≤ 12) ∧ ∀ H', But x H H' → ScaAt CS H' x (ns.map (· + m)) → Q (.ref x) H'
abbrev sIAdd : Stmt := inClass (top 25) 20
theorem scIAdd : FnScope ["self", "other"] ["self", "other"] (defScope sIAdd) := ⟨rfl, rfl, rfl, by decide +kernel, rfl, by decide +kernel, by decide +kernel⟩
theorem ok_iadd {f f1 : Addr} {fd fd1 : FuncData} (F : Fun K "__iadd__" "Scale.__iadd__" sIAdd f fd) (T_Scale : ScaT K mg CS) (C__raised : Cal P w K mg base 4 "_raised" f1 fd1 ["numbers", "more"] spRaised) : FnOk P w K mg base CX0 5 f fd ["self", "other"] (spIAdd CS) := by
  refine F.ok scIAdd (fun vs H Q E h => ?_) (fun cdv A outer s H vs Q E hr h => ?_)
  · obtain ⟨x, m, ns, rfl, _⟩ := h
    rfl
  · obtain ⟨x, m, ns, rfl, ⟨dx, o, hx, ho⟩, n16, hb, q⟩ := h
    have nd := scIAdd.nd
    refine ⟨_, pss_cons (ps_fld (pv 0) (pe_call C__raised.F (hr.mono (by decide)) (by rfl) C__raised.mgf C__raised.kp C__raised.b .nil pass0 (pa_cons (pe_fld (pv 0) rfl) (pa_cons (pv 1) pa_nil))) rfl)
      (pss_one (ps_ret (pv 0))), ?_⟩
    refine ⟨_, rfl, _, CS, dx, _, _, rfl, hx, T_Scale.cl, T_Scale.nN, scaF_num _, _, rfl, o, m, ns, rfl, ho, n16, hb, fun t H1 s1 ht => ?_⟩
    obtain ⟨e, g1, g2⟩ := ScaAt.put hx s1 ht
    refine ⟨_, rfl, x, CS, dx, _, rfl, s1 _ _ hx, T_Scale.cl, T_Scale.nN, (by decide : 1 < 1000), ?_⟩
    rw [e]
    exact ⟨_, rfl, q _ g2 g1⟩
def spNums (CS : Addr) : Sp := fun vs H Q _ => ∃ (x : Addr) (ns : List Int), vs = [.ref x] ∧ ScaAt CS H x ns ∧ ∀ o, H o = some (.tup (ns.map V.int)) → Q (.ref o) H
abbrev sNums : Stmt := inClass (top 25) 3
theorem scNums : FnScope ["self"] ["self"] (defScope sNums) := ⟨rfl, rfl, rfl, by decide +kernel, rfl, by decide +kernel, by decide +kernel⟩
theorem ok_nums {f : Addr} {fd : FuncData} (F : Fun K "numbers" "Scale.numbers" sNums f fd) (T_Scale : ScaT K mg CS) : FnOk P w K mg base CX0 1 f fd ["self"] (spNums CS) := by
  refine F.ok scNums (fun vs H Q E h => ?_) (fun cdv A outer s H vs Q E hr h => ?_)
  · obtain ⟨x, ns, rfl, _⟩ := h
    rfl
  · obtain ⟨x, ns, rfl, ⟨dx, o, hx, ho⟩, q⟩ := h
    refine ⟨_, pss_one (ps_ret (pe_fld (pv 0) rfl)), ?_⟩
    exact ⟨_, rfl, _, CS, dx, _, _, rfl, hx, T_Scale.cl, T_Scale.nN, scaF_num _, q o ho⟩
end
end Toy
set_option linter.all false
set_option maxRecDepth 100000
set_option maxHeartbeats 4000000
/-! a method of a builtin type, in a comprehension (K given). -/
namespace Own
open PySem PySem.Spec PyProof.Rows L2
theorem pe_bmK {X : Cx} {K : PySem.W.Frag} {T : String} {name : Str} {id : String} {r : V → List V → Hp → VK → Prop} {o e : Expr} {es : List Expr} {to : TE} {t : TA} {apos cpos : Pos} (h : X.K = K) (pa : PlainAttrs T) (slot : Slot T name id) (hty : typeOf (.builtin id) = pure (.type "method_descriptor")) (hm : MtR X id r) (ho : PE X o to) (ha : PA X (e :: es) t)
    (hbase : attributeBase o name X.env (eval o X.env) = eval o X.env := by rfl)
    (hfew : ((backTo cpos (starEach (e :: es) X.env)).all (fun x => !x.1) && (backToKw cpos (keywordEach [] X.env)).all (fun x => x.1.isSome)
      && decide ((e :: es).length + ([] : List Keyword).length + (if ([] : List Keyword).isEmpty then 0 else 1) < 30)) = true := by rfl)
    (hline : (apos.endLine == cpos.line) = true := by rfl) (hs : starEach (e :: es) X.env = (false, eval e X.env) :: starEach es X.env := by rfl) (hplain : (backTo cpos (starEach es X.env)).any (·.1) = false := by rfl) :
    PE X (.Call (.Attribute o name apos) (e :: es) [] cpos) (tBM K T r to t) := by
  subst h
  exact pe_bm pa slot hty hm ho ha hbase hfew hline hs hplain
theorem call_lenK {X : Cx} {K : PySem.W.Frag} (h : X.K = K) : CallR X (.builtin "len") (fun xs H Q => ∃ x n, xs = [x] ∧ LenV K x H n ∧ Q (.int (n : Nat)) H) := by
  subst h
  exact call_len
end Own
set_option maxRecDepth 100000
set_option maxHeartbeats 4000000
set_option exponentiation.threshold 9000
namespace Toy
open PySem L2
open Rat (divInt)
theorem rgV_ints (a b : Int) : rgV a b = ((List.range (b - a).toNat).map fun i => a + (i : Nat)).map V.int := by
  unfold rgV
  rw [List.map_map]
  rfl
theorem rg_nodup (a b : Int) : ((List.range (b - a).toNat).map fun i => a + (i : Nat)).Nodup := by
  refine List.pairwise_map.mpr (List.nodup_range.imp fun {x y} h e => h ?_)
  omega
theorem erase_perm : ∀ (l : List Int) (i : Nat) (h : i < l.length), (l[i] :: l.eraseIdx i).Perm l
  | [], _, h => absurd h (by simp)
  | x :: r, 0, _ => List.Perm.refl _
  | x :: r, i + 1, h => by
    have h2 : i < r.length := by simpa using h
    show (r[i] :: x :: r.eraseIdx i).Perm (x :: r)
    exact (List.Perm.swap x r[i] (r.eraseIdx i)).trans ((erase_perm r i h2).cons x)
theorem erase_map : ∀ (l : List Int) (i : Nat), (l.map V.int).eraseIdx i = (l.eraseIdx i).map V.int
  | [], _ => rfl
  | x :: r, 0 => rfl
  | x :: r, i + 1 => by
    show V.int x :: (r.map V.int).eraseIdx i = V.int x :: (r.eraseIdx i).map V.int
    rw [erase_map r i]
section
variable {P : Program} {w : World} {K : PySem.W.Frag} {mg : Str → Option Value} {base : Heap} {C CP CR CS CT CM CBP : Addr}
/-- some numbers drawn, each once -/
def spSome : Sp := fun vs H Q _ => ∃ (p cc : Addr) (k m : Nat) (b : Int), vs = [.ref p, .int m, .int b] ∧ Pen H p cc k ∧ k ≤ 900000 ∧ (0 < b ∧ b ≤ 12) ∧ m ≤ 16 ∧ (m : Int) ≤ 2 * b + 1 ∧ ∀ (l : Addr) (ns : List Int) H', Pen H' p cc (k + m) → But p H H' → H' l = some (.lst (ns.map V.int)) → l ≠ p → ns.Nodup → (∀ z ∈ ns, -b ≤ z ∧ z ≤ b) → ns.length = m → Q (.ref l) H'
abbrev sSome : Stmt := top 33
theorem scSome : FnScope ["_law_pen_here", "_law_many", "_law_most", "_law_left", "_law_turn"] ["_law_pen_here", "_law_many", "_law_most"] (defScope sSome) := ⟨rfl, rfl, rfl, by decide +kernel, rfl, by decide +kernel, by decide +kernel⟩
theorem ok_some {f f1 : Addr} {fd fd1 : FuncData} (F : Fun K "_law_some" "_law_some" sSome f fd) (T : Bl mg) (C__law_draw : Cal P w K mg base 1 "_law_draw" f1 fd1 ["_law_pen_here", "_law_many"] spDraw) : FnOk P w K mg base CX0 2 f fd ["_law_pen_here", "_law_many", "_law_most"] spSome := by
  refine F.ok scSome (fun vs H Q E h => ?_) (fun cdv A outer s H vs Q E hr h => ?_)
  · obtain ⟨p, cc, k, m, b, rfl, _⟩ := h
    rfl
  · obtain ⟨p, cc, k, m, b, rfl, hP, hk, ⟨b0, b12⟩, m16, mb, q⟩ := h
    have nd := scSome.nd
    refine ⟨_, pss_cons (ps_set (i := 3) nd rfl (Or.inr rfl) (pe_listRg rfl (by rfl) T.list (prg_2 (by rfl) T.range (pe_op op_sub pe_int (pv 2)) (pe_op op_add (pv 2) pe_int))))
      (pss_one (ps_ret (pe_lc (own := [("_law_turn", 4)]) (g := gName 4) (tt := tYes) rfl nd (pi_range1 (by rfl) T.range (pa_cons (pv 1) pa_nil)) (blkOk_by (N := ["_law_pen_here", "_law_many", "_law_most", "_law_left", "_law_turn"]) (sc := defScope (top 33)) (by decide +kernel)) (fun _ _ _ _ _ => pg_name (i := 4) nd rfl (Or.inl rfl)) (fun _ _ _ _ _ => pts_nil) (fun _ _ _ _ _ => (Own.pe_bmK (K := K) rfl PySem.F.plainAttrs_list PySem.F.slot_list_pop PySem.F.type_list_pop mt_popAt (pv 3) (pa_cons (pe_call C__law_draw.F (hr.mono (by decide)) (by rfl) C__law_draw.mgf C__law_draw.kp C__law_draw.b .nil pass0 (pa_cons (pv 0) (pa_cons (pe_callB (Own.call_lenK (K := K) rfl) (by rfl) T.len (by decide +kernel) (pa_cons (pv 3) pa_nil)) pa_nil))) pa_nil)))))), ?_⟩
    have e60 : (60 : Nat) < sizeLine := by decide
    refine ⟨_, rfl, _, _, rfl, rfl, _, rfl, _, _, rfl, rfl, ?_⟩
    refine ⟨_, _, rfl, rfl, ⟨by omega, by omega, by omega, by omega, by omega⟩, fun L hL => ?_⟩
    rw [rgV_ints]
    have s1 := same_new (o := HO.lst (((List.range (b + 1 - (0 - b)).toNat).map fun i => 0 - b + (i : Nat)).map V.int)) hL
    have hL1 : (upd H L (HO.lst (((List.range (b + 1 - (0 - b)).toNat).map fun i => 0 - b + (i : Nat)).map V.int))) L = _ := upd_same
    have P1 := hP.same s1
    have nL : L ≠ p := hP.ne_none hL
    generalize upd H L (HO.lst (((List.range (b + 1 - (0 - b)).toNat).map fun i => 0 - b + (i : Nat)).map V.int)) = H1 at *
    have hnd := rg_nodup (0 - b) (b + 1)
    have hbd : ∀ z ∈ (List.range (b + 1 - (0 - b)).toNat).map (fun i => 0 - b + ((i : Nat) : Int)), -b ≤ z ∧ z ≤ b := fun z hz => by
      obtain ⟨i, hi, rfl⟩ := List.mem_map.mp hz
      rw [List.mem_range] at hi
      omega
    have hln : ((List.range (b + 1 - (0 - b)).toNat).map (fun i => 0 - b + ((i : Nat) : Int))).length = (2 * b + 1).toNat := by
      rw [List.length_map, List.length_range]
      omega
    generalize (List.range (b + 1 - (0 - b)).toNat).map (fun i => 0 - b + ((i : Nat) : Int)) = R0 at *
    have cD : ∀ {y : Addr} {u : HO}, H y = some u → y ≠ L := fun h z => by rw [z, hL] at h; cases h
    refine ⟨_, rfl, (m : Int), rfl, by omega, by omega, fun D hD => ?_⟩
    have nDL : D ≠ L := fun z => by rw [z, hL1] at hD; cases hD
    have nD : D ≠ p := P1.ne_none hD
    have sD := same_new (o := HO.lst []) hD
    refine lc_range (lo := 0) (n := (m : Int).toNat) (fun i H' => ∃ ns left : List Int, H' D = some (.lst (ns.map V.int)) ∧ H' L = some (.lst (left.map V.int)) ∧ (ns ++ left).Nodup ∧ (∀ z ∈ ns ++ left, -b ≤ z ∧ z ≤ b) ∧ ns.length = i ∧ left.length = (2 * b + 1).toNat - i ∧ Pen H' p cc (k + i) ∧ But p H H') ⟨[], R0, upd_same, sD _ _ hL1, hnd, hbd, rfl, hln, P1.same sD, But.same (s1.trans sD)⟩ ?_ ?_
    · rintro i H2 hi ⟨ns, left, hd, hl, nd', bd, nl, ll, P2, B2⟩
      have hll : 0 < left.length := by omega
      have nml : (left.map V.int).length = left.length := List.length_map _
      refine ⟨rfl, _, rfl, .inl ⟨rfl, _, SqL.of hl⟩, _, rfl, _, rfl, _, left.length, rfl, .inl ⟨_, SqL.of hl, nml.symm⟩, p, cc, (left.length : Int), k + i, rfl, P2, by omega, by omega, small_len (by omega), fun r H3 r0 r1 P3 B3 => ?_⟩
      have hl3 := B3 _ _ hl nL
      have hd3 := B3 _ _ hd nD
      have hk3 : r.toNat < left.length := by omega
      refine ⟨L, left.map V.int, r, r.toNat, .int left[r.toNat], rfl, rfl, hl3, by omega, by omega, ?_, by rw [List.getElem?_map, List.getElem?_eq_getElem hk3]; rfl, ?_⟩
      · unfold seqIndex?
        rw [if_neg (show ¬ r < 0 by omega), nml]
        have : (decide (0 ≤ r) && decide (r < (left.length : Int))) = true := by simp; omega
        simp only [this, if_true]
      · have pm : (ns ++ [left[r.toNat]]) ++ left.eraseIdx r.toNat |>.Perm (ns ++ left) := by
          rw [List.append_assoc]
          exact (erase_perm left r.toNat hk3).append_left ns
        refine ⟨_, by rw [upd_ne nDL]; exact hd3, by rw [List.length_map, nl]; omega, ns ++ [left[r.toNat]], left.eraseIdx r.toNat, by rw [upd_same, List.map_append]; rfl, by rw [upd_ne (Ne.symm nDL), upd_same, erase_map], pm.nodup_iff.mpr nd', fun z hz => bd z (pm.mem_iff.mp hz), by rw [List.length_append, nl]; rfl, by rw [List.length_eraseIdx_of_lt hk3]; omega, ?_, fun y u hy hn => ?_⟩
        · exact (Pen.put (Pen.put P3 nL (hP.ne_cell hL)) nD (P1.ne_cell hD)).mono (by omega)
        · have y1 : y ≠ D := fun z => by have := s1 _ _ hy; rw [z, hD] at this; cases this
          rw [upd_ne y1, upd_ne (cD hy)]
          exact B3 _ _ (B2 _ _ hy hn) hn
    rintro H2 ⟨ns, left, hd, hl, nd', bd, nl, ll, P2, B2⟩
    exact q D ns H2 (P2.mono (by omega)) B2 hd nD (List.nodup_append.mp nd').1 (fun z hz => bd z (List.mem_append_left _ hz)) (by omega)
end
end Toy
set_option maxRecDepth 100000
set_option maxHeartbeats 4000000
set_option exponentiation.threshold 9000
namespace Toy
open PySem L2
open Rat (divInt)
theorem ScaOk.sub {ns ms : List Int} (h : ScaOk ns) (s : List.Sublist ms ns) : ScaOk ms := ⟨h.nd.sublist s, fun z hz => h.bd z (s.subset hz), Nat.le_trans s.length_le h.ln⟩
theorem scaF_no {n : Str} (o : Addr) (h : ¬ (n = ("_numbers" : Str))) : (scaF o).lookup n = none := by
  unfold scaF
  rw [lookup_putF, if_neg h]
  rfl
theorem none_of {H H' : Hp} {x : Addr} (s : Same H H') (h : H' x = none) : H x = none := by
  cases e : H x with
  | none => rfl
  | some o => rw [s _ _ e] at h; cases h
section
variable {P : Program} {w : World} {K : PySem.W.Frag} {mg : Str → Option Value} {base : Heap} {C CP CR CS CT CM CBP : Addr}
/-- a scale made of ints that stand in a row -/
theorem spScaC.make {H : Hp} {ns : List Int} {Q : VK} (ok : ScaOk ns) (q : ∀ x H', Same H H' → ScaAt CS H' x ns → Q (.ref x) H') :
    ∀ x dx, H x = none → H dx = none → dx ≠ x → spScaC CS (.ref x :: ns.map V.int) (upd (upd H dx (.own x)) x (.ins CS dx [])) (fun v H2 => v = .non ∧ Q (.ref x) H2) E0 := fun x dx hx hdx hn => by
  have n16 := ok.ln
  refine ⟨[.ref x], ns.map V.int, rfl, rfl, Nat.le_trans (by rw [List.length_map]; exact n16) (by decide : 16 ≤ sizeLine), fun p hp => ?_⟩
  have g1 := same_two (o := .own x) (u := .ins CS dx []) hdx hx hn
  have g2 := same_new (o := .tup (ns.map V.int)) hp
  have hxp : x ≠ p := fun z => by rw [← z, upd_same] at hp; cases hp
  refine ⟨x, dx, p, ns, rfl, by rw [upd_ne hxp]; exact upd_same, upd_same, ok, fun H' ha keep => ⟨rfl, q x H' (fun y u e => keep y u ((g1.trans g2) _ _ e) (ne_of_none e hx)) ha⟩⟩
def spScl (CS : Addr) : Sp := fun vs H Q _ => ∃ (l : Addr) (ns : List Int), vs = [.ref l] ∧ H l = some (.lst (ns.map V.int)) ∧ ScaOk ns ∧ ∀ x H', Same H H' → ScaAt CS H' x ns → Q (.ref x) H'
abbrev sScl : Stmt := top 34
theorem scScl : FnScope ["_law_row", "_law_ahead", "_law_found", "_law_one"] ["_law_row"] (defScope sScl) := ⟨rfl, rfl, rfl, by decide +kernel, rfl, by decide +kernel, by decide +kernel⟩
theorem ok_scl {f f2 fI : Addr} {fd fd2 : FuncData} (F : Fun K "_law_scaled" "_law_scaled" sScl f fd) (T : Bl mg) (T_Scale : ScaT K mg CS) (MK_Scale : Mk K CS fI) (FR_Scale : FnR P w K mg base CX0 4 fI (spScaC CS)) (D_Scale_put : Dot P w K mg base 4 CS "put" f2 fd2 ["self", "number"] (spPut CS)) : FnOk P w K mg base CX0 6 f fd ["_law_row"] (spScl CS) := by
  refine F.ok scScl (fun vs H Q E h => ?_) (fun cdv A outer s H vs Q E hr h => ?_)
  · obtain ⟨l, ns, rfl, _⟩ := h
    rfl
  · obtain ⟨l, ns, rfl, hl, ok, q⟩ := h
    have nd := scScl.nd
    refine ⟨_, pss_cons (ps_set (i := 1) nd rfl (Or.inl rfl) (pe_slice sl_list (pv 0) po_none (po_some pe_int)))
      (pss_cons (ps_set (i := 2) nd rfl (Or.inl rfl) (Own.pe_makeR0 MK_Scale FR_Scale (hr.mono (by decide)) (by rfl) T_Scale.mgC pass0))
      (C8.pss_cut (ps_if (pt_cmpR op_eq (pe_callB call_len (by rfl) T.len (by decide +kernel) (pa_cons (pv 1) pa_nil)) pe_int (nomark _)) (pss_one (ps_set (i := 2) nd rfl (Or.inl rfl) (StX.pe_makeR MK_Scale FR_Scale (hr.mono (by decide)) (by rfl) T_Scale.mgC pass0 (pa_cons (pe_ix ix_list (pv 1) pe_int (fun _ _ => rfl)) pa_nil)))) pss_nil)
      (C8.pss_cut (ps_if (pt_cmpR op_eq (pe_callB call_len (by rfl) T.len (by decide +kernel) (pa_cons (pv 1) pa_nil)) pe_int (nomark _)) (pss_one (ps_set (i := 2) nd rfl (Or.inl rfl) (StX.pe_makeR MK_Scale FR_Scale (hr.mono (by decide)) (by rfl) T_Scale.mgC pass0 (pa_cons (pe_ix ix_list (pv 1) pe_int (fun _ _ => rfl)) (pa_cons (pe_ix ix_list (pv 1) pe_int (fun _ _ => rfl)) pa_nil))))) pss_nil)
      (C8.pss_cut (ps_if (pt_cmpR op_eq (pe_callB call_len (by rfl) T.len (by decide +kernel) (pa_cons (pv 1) pa_nil)) pe_int (nomark _)) (pss_one (ps_set (i := 2) nd rfl (Or.inl rfl) (StX.pe_makeR MK_Scale FR_Scale (hr.mono (by decide)) (by rfl) T_Scale.mgC pass0 (pa_cons (pe_ix ix_list (pv 1) pe_int (fun _ _ => rfl)) (pa_cons (pe_ix ix_list (pv 1) pe_int (fun _ _ => rfl)) (pa_cons (pe_ix ix_list (pv 1) pe_int (fun _ _ => rfl)) pa_nil)))))) pss_nil)
      (pss_cons (ps_for PassesOwn.never rfl (pi_list (pe_slice sl_list (pv 0) (po_some pe_int) po_none)) (pg_name (i := 3) nd rfl (Or.inl rfl)) (pss_one (ps_expr (pe_meth (pv 2) T_Scale.cl D_Scale_put.m D_Scale_put.F (hr.mono (by decide)) D_Scale_put.b .nil pass0 (pa_cons (pv 3) pa_nil)))))
      (pss_one (ps_ret (pv 2)))))))), ?_⟩
    have e60 : (60 : Nat) < sizeLine := by decide
    refine ⟨_, rfl, 3, rfl, l, _, rfl, SqL.of hl, fun l1 hl1 => ?_⟩
    have c3 : cutV (ns.map V.int) none (some 3) = (ns.take 3).map V.int := by
      unfold cutV
      show ((ns.map V.int).drop 0).take (HT.sIx _ _ (some ((3 : Nat) : Int)) - 0) = _
      rw [HT.sIx_nat, List.length_map, List.drop_zero, Nat.sub_zero, ← List.map_take]
      congr 1
      rcases Nat.le_total 3 ns.length with h | h
      · rw [Nat.min_eq_left h]
      · rw [Nat.min_eq_right h, List.take_of_length_le (Nat.le_refl _), List.take_of_length_le h]
    have s1 := same_new (o := HO.lst (cutV (ns.map V.int) none (some 3))) hl1
    have h1 : (upd H l1 (HO.lst (cutV (ns.map V.int) none (some 3)))) l1 = _ := upd_same
    generalize upd H l1 (HO.lst (cutV (ns.map V.int) none (some 3))) = H1 at *
    rw [c3] at h1
    obtain ⟨ah, hah⟩ : ∃ ah, ah = ns.take 3 := ⟨_, rfl⟩
    rw [← hah] at h1
    have oka : ScaOk ah := by rw [hah]; exact ok.sub (List.take_sublist 3 ns)
    have ahl : ah.length ≤ 3 := by rw [hah, List.length_take]; omega
    have aml : (ah.map V.int).length = ah.length := List.length_map _
    intro x0 dx0 hx0 hdx0 hn0
    refine ⟨[.ref x0], ([] : List Int).map V.int, rfl, rfl, Nat.le_trans (by rw [List.length_map]; simp) (by decide : 16 ≤ sizeLine), fun pq1 hpq1 => ?_⟩
    have ga1 := same_two (o := .own x0) (u := .ins CS dx0 []) hdx0 hx0 hn0
    have gb1 := same_new (o := .tup (([] : List Int).map V.int)) hpq1
    have hxp1 : x0 ≠ pq1 := fun z => by rw [← z, upd_same] at hpq1; cases hpq1
    refine ⟨x0, dx0, pq1, [], rfl, by rw [upd_ne hxp1]; exact upd_same, upd_same, ⟨List.nodup_nil, (fun z h => nomatch h), by decide⟩, fun H2 hx kq1 => ⟨rfl, ?_⟩⟩
    have s2 : Same _ H2 := fun y u e => kq1 y u ((ga1.trans gb1) _ _ e) (ne_of_none e hx0)
    have stp : ∀ (x : Addr) (H' : Hp), Same H1 H' → H' l1 = some (.lst (ah.map V.int)) := fun x H' s => s _ _ h1
    refine ⟨fun σ' H' => ∃ x, σ' = [some (.ref l), some (.ref l1), some (.ref x), none] ∧ Same H1 H' ∧ H1 x = none ∧ (ah.length ≤ 1 → ScaAt CS H' x ah), ?_, ?_⟩
    · refine ⟨_, rfl, _, ah.length, rfl, .inl ⟨_, SqL.of (s2 _ _ h1), aml.symm⟩, rfl, _, rfl, ?_⟩
      by_cases a1 : ah.length = 1
      · obtain ⟨z, hz⟩ := List.length_eq_one_iff.mp a1
        refine iteTb (by rw [a1]; rfl) ?_
        refine ⟨_, rfl, l1, _, _, .int z, rfl, rfl, SqL.of (s2 _ _ h1), by rw [hz]; rfl, ?_⟩
        intro x3 dx3 hx3 hdx3 hn3
        refine ⟨[.ref x3], ([z] : List Int).map V.int, rfl, rfl, Nat.le_trans (by rw [List.length_map]; simp) (by decide : 16 ≤ sizeLine), fun pq2 hpq2 => ?_⟩
        have ga2 := same_two (o := .own x3) (u := .ins CS dx3 []) hdx3 hx3 hn3
        have gb2 := same_new (o := .tup (([z] : List Int).map V.int)) hpq2
        have hxp2 : x3 ≠ pq2 := fun z => by rw [← z, upd_same] at hpq2; cases hpq2
        refine ⟨x3, dx3, pq2, [z], rfl, by rw [upd_ne hxp2]; exact upd_same, upd_same, (by rw [← hz]; exact oka), fun H3 hx kq2 => ⟨rfl, ?_⟩⟩
        have s3 : Same _ H3 := fun y u e => kq2 y u ((ga2.trans gb2) _ _ e) (ne_of_none e hx3)
        exact ⟨x3, rfl, s2.trans s3, none_of s2 hx3, fun _ => by rw [hz]; exact hx⟩
      · refine iteFb (by rw [vdec]; exact decide_eq_false (by omega)) ⟨x0, rfl, s2, hx0, fun h => ?_⟩
        have : ah = [] := List.length_eq_zero_iff.mp (by omega)
        rw [this]
        exact hx
    rintro σ' H3 ⟨x3, rfl, s3, n3, k3⟩
    refine ⟨fun σ' H' => ∃ x, σ' = [some (.ref l), some (.ref l1), some (.ref x), none] ∧ Same H1 H' ∧ H1 x = none ∧ (ah.length ≤ 2 → ScaAt CS H' x ah), ?_, ?_⟩
    · refine ⟨_, rfl, _, ah.length, rfl, .inl ⟨_, SqL.of (s3 _ _ h1), aml.symm⟩, rfl, _, rfl, ?_⟩
      by_cases a2 : ah.length = 2
      · obtain ⟨z, w', hz⟩ : ∃ z w', ah = [z, w'] := by
          match ah, a2 with
          | [z, w'], _ => exact ⟨z, w', rfl⟩
        refine iteTb (by rw [a2]; rfl) ?_
        refine ⟨_, rfl, l1, _, _, .int z, rfl, rfl, SqL.of (s3 _ _ h1), by rw [hz]; rfl, _, rfl, l1, _, _, .int w', rfl, rfl, SqL.of (s3 _ _ h1), by rw [hz]; rfl, ?_⟩
        intro x4 dx4 hx4 hdx4 hn4
        refine ⟨[.ref x4], ([z, w'] : List Int).map V.int, rfl, rfl, Nat.le_trans (by rw [List.length_map]; simp) (by decide : 16 ≤ sizeLine), fun pq3 hpq3 => ?_⟩
        have ga3 := same_two (o := .own x4) (u := .ins CS dx4 []) hdx4 hx4 hn4
        have gb3 := same_new (o := .tup (([z, w'] : List Int).map V.int)) hpq3
        have hxp3 : x4 ≠ pq3 := fun z => by rw [← z, upd_same] at hpq3; cases hpq3
        refine ⟨x4, dx4, pq3, [z, w'], rfl, by rw [upd_ne hxp3]; exact upd_same, upd_same, (by rw [← hz]; exact oka), fun H4 hx kq3 => ⟨rfl, ?_⟩⟩
        have s4 : Same _ H4 := fun y u e => kq3 y u ((ga3.trans gb3) _ _ e) (ne_of_none e hx4)
        exact ⟨x4, rfl, s3.trans s4, none_of s3 hx4, fun _ => by rw [hz]; exact hx⟩
      · exact iteFb (by rw [vdec]; exact decide_eq_false (by omega)) ⟨x3, rfl, s3, n3, fun h => k3 (by omega)⟩
    rintro σ' H4 ⟨x4, rfl, s4, n4, k4⟩
    refine ⟨fun σ' H' => ∃ x, σ' = [some (.ref l), some (.ref l1), some (.ref x), none] ∧ Same H1 H' ∧ H1 x = none ∧ ScaAt CS H' x ah, ?_, ?_⟩
    · refine ⟨_, rfl, _, ah.length, rfl, .inl ⟨_, SqL.of (s4 _ _ h1), aml.symm⟩, rfl, _, rfl, ?_⟩
      by_cases a3 : ah.length = 3
      · obtain ⟨z, w', v', hz⟩ : ∃ z w' v', ah = [z, w', v'] := by
          match ah, a3 with
          | [z, w', v'], _ => exact ⟨z, w', v', rfl⟩
        refine iteTb (by rw [a3]; rfl) ?_
        refine ⟨_, rfl, l1, _, _, .int z, rfl, rfl, SqL.of (s4 _ _ h1), by rw [hz]; rfl, _, rfl, l1, _, _, .int w', rfl, rfl, SqL.of (s4 _ _ h1), by rw [hz]; rfl, _, rfl, l1, _, _, .int v', rfl, rfl, SqL.of (s4 _ _ h1), by rw [hz]; rfl, ?_⟩
        intro x5 dx5 hx5 hdx5 hn5
        refine ⟨[.ref x5], ([z, w', v'] : List Int).map V.int, rfl, rfl, Nat.le_trans (by rw [List.length_map]; simp) (by decide : 16 ≤ sizeLine), fun pq hpq => ?_⟩
        have ga := same_two (o := .own x5) (u := .ins CS dx5 []) hdx5 hx5 hn5
        have gb := same_new (o := .tup (([z, w', v'] : List Int).map V.int)) hpq
        have hxp : x5 ≠ pq := fun z => by rw [← z, upd_same] at hpq; cases hpq
        refine ⟨x5, dx5, pq, [z, w', v'], rfl, by rw [upd_ne hxp]; exact upd_same, upd_same, by rw [← hz]; exact oka, fun H5 hx kq => ⟨rfl, ?_⟩⟩
        have s5 : Same _ H5 := fun y u e => kq y u ((ga.trans gb) _ _ e) (ne_of_none e hx5)
        exact ⟨x5, rfl, s4.trans s5, none_of s4 hx5, by rw [hz]; exact hx⟩
      · exact iteFb (by rw [vdec]; exact decide_eq_false (by omega)) ⟨x4, rfl, s4, n4, k4 (by omega)⟩
    rintro σ' H5 ⟨x, rfl, s5, n5, ha5⟩
    have hl5 := s5 _ _ (s1 _ _ hl)
    refine ⟨_, rfl, 3, rfl, l, _, rfl, SqL.of hl5, fun l2 hl2 => ?_⟩
    have e3 : cutV (ns.map V.int) (some 3) none = (ns.drop 3).map V.int := cut_from ns 3
    have s6 := same_new (o := HO.lst (cutV (ns.map V.int) (some 3) none)) hl2
    have h6 : (upd H5 l2 (HO.lst (cutV (ns.map V.int) (some 3) none))) l2 = _ := upd_same
    generalize upd H5 l2 (HO.lst (cutV (ns.map V.int) (some 3) none)) = H6 at *
    rw [e3] at h6
    have ha6 := ha5.same s6
    have nx2 : l2 ≠ x := fun z => by
      obtain ⟨dx, o, g, _⟩ := ha6
      rw [z, g] at h6
      cases h6
    have dl : ((ns.drop 3).map V.int).length = ns.length - 3 := by rw [List.length_map, List.length_drop]
    refine ⟨l2, rfl, ⟨_, SqL.of h6⟩, ?_⟩
    have n16 := ok.ln
    have al3 : ah.length ≤ ns.length := by rw [hah, List.length_take]; omega
    refine for_it (walk_list (K := K) (a := l2) (xs := (ns.drop 3).map V.int)) (fun i σ H' => ∃ y3, σ = [some (.ref l), some (.ref l1), some (.ref x), y3] ∧ ScaAt CS H' x (ah ++ (ns.drop 3).take i) ∧ But x H6 H') ⟨_, rfl, by rw [List.take_zero, List.append_nil]; exact ha6, But.refl⟩ (fun i σ H' _ h => ?_) ?_ ?_
    · obtain ⟨_, _, _, B⟩ := h
      exact SqL.of (B _ _ h6 nx2)
    · rintro i y σ H7 H8 hi ⟨y3, rfl, ha7, B7⟩ ⟨rfl, hy⟩
      rw [dl] at hi
      have hj : 3 + i < ns.length := by omega
      rw [List.getElem?_map, List.getElem?_drop, List.getElem?_eq_getElem hj] at hy
      cases hy
      have hb := ok.bd _ (List.getElem_mem hj)
      have pre : ah ++ (ns.drop 3).take i = ns.take (3 + i) := by rw [hah, List.take_add]
      have e4 : ah ++ (ns.drop 3).take i ++ [ns[3 + i]] = ah ++ (ns.drop 3).take (i + 1) := by
        rw [List.append_assoc, List.take_add_one, List.getElem?_drop, List.getElem?_eq_getElem hj]
        rfl
      have nm : ns[3 + i] ∉ ah ++ (ns.drop 3).take i := fun h => by
        rw [pre] at h
        obtain ⟨j, hj2, e⟩ := List.mem_iff_getElem.mp h
        rw [List.length_take] at hj2
        rw [List.getElem_take] at e
        have := (List.getElem_inj ok.nd).mp e
        omega
      obtain ⟨dx, o, g1, g2⟩ := id ha7
      refine ⟨_, rfl, x, dx, _, rfl, g1, scaF_no _ (by decide +kernel), _, rfl, x, ns[3 + i], _, rfl, ha7, hb, nm, by rw [pre, List.length_take]; omega, fun H9 B9 h9 => ?_⟩
      rw [e4] at h9
      exact ⟨_, rfl, h9, B7.trans B9⟩
    rintro σ H7 ⟨y3, rfl, ha7, B7⟩
    rw [dl, ← List.length_drop, List.take_length, hah, List.take_append_drop] at ha7
    refine ⟨_, rfl, q x H7 (fun y u e => B7 y u (s6 _ _ (s5 _ _ (s1 _ _ e))) (fun z => ?_)) ha7⟩
    have := s1 _ _ e
    rw [z, n5] at this
    cases this
end
end Toy
set_option maxRecDepth 100000
set_option maxHeartbeats 4000000
set_option exponentiation.threshold 9000
namespace Toy
open PySem L2
open Rat (divInt)
open TL (tl len_tl mk_tl ext_tl tl_append tl_ofString joinL tl_join join_eq split_join)
/-! a number's text, and what is read of a word -/
abbrev txt (i : Int) : Str := Str.ofString (toString i)
def figs (w : Str) : Str := if Txt.startswith w "-" then cutS w (some 1) none else w
def okW (w : Str) : Bool := decide ((figs w).length ≤ 2) && (Txt.isascii (figs w) && (Txt.isdigit (figs w) && !(decide ((tl (figs w)).head? = some 48) && decide (w ≠ "0"))))
theorem txt_ok : ∀ n : Fin 25, okW (txt ((n.val : Int) - 12)) = true ∧ PySem.intText? (txt ((n.val : Int) - 12)) = some ((n.val : Int) - 12) := by decide +kernel
theorem dig_lt : ∀ c : Fin 128, Unicode.isDigit c.val = true → 48 ≤ c.val ∧ c.val ≤ 57 := by decide +kernel
theorem txt_at {i : Int} (h : -12 ≤ i ∧ i ≤ 12) : okW (txt i) = true ∧ PySem.intText? (txt i) = some i := by
  have e := txt_ok ⟨(i + 12).toNat, by omega⟩
  have e2 : (((i + 12).toNat : Nat) : Int) - 12 = i := by omega
  simp only [e2] at e
  exact e
/-- what is read of a word is right -/
def chkW (L : List Nat) : Bool := match PySem.intText? ⟨L.toArray⟩ with
  | some n => decide (n.natAbs ≤ 99) && (!(decide (-12 ≤ n) && decide (n ≤ 12)) || decide ((⟨L.toArray⟩ : Str) = txt n) || !okW ⟨L.toArray⟩)
  | none => !okW ⟨L.toArray⟩
theorem chk1 : ∀ a : Fin 10, chkW [48 + a.val] = true ∧ chkW [45, 48 + a.val] = true := by decide +kernel
theorem chk2 : ∀ a b : Fin 10, chkW [48 + a.val, 48 + b.val] = true ∧ chkW [45, 48 + a.val, 48 + b.val] = true := by decide +kernel
theorem sw_dash (w : Str) : Txt.startswith w "-" = decide ((tl w).head? = some 45) := by
  obtain ⟨⟨l⟩⟩ := w
  cases l with
  | nil => decide +kernel
  | cons c r =>
    unfold Txt.startswith
    have e1 : Builtin.Str.subAt ⟨⟨c :: r⟩⟩ "-" 0 = decide (c = 45) := by
      rw [PySem.StrLaws.subAt_eq]
      show (List.take 1 (c :: r) == [45]) = _
      by_cases h : c = 45 <;> simp [h]
    rw [e1]
    show (decide (0 + 1 ≤ (c :: r).length) && decide (c = 45)) = decide (some c = some 45)
    simp
theorem okW_read {w : Str} (h : okW w = true) : ∃ n, PySem.intText? w = some n ∧ n.natAbs ≤ 99 ∧ w.length ≤ 3 ∧ ((-12 ≤ n ∧ n ≤ 12) → w = txt n) := by
  have fin : chkW (tl w) = true → w.length ≤ 3 → ∃ n, PySem.intText? w = some n ∧ n.natAbs ≤ 99 ∧ w.length ≤ 3 ∧ ((-12 ≤ n ∧ n ≤ 12) → w = txt n) := fun c l => by
    unfold chkW at c
    rw [mk_tl] at c
    split at c
    · rename_i n e
      rw [h] at c
      simp only [Bool.and_eq_true, decide_eq_true_iff, Bool.or_eq_true, Bool.not_eq_true', Bool.not_true, Bool.false_eq_true, or_false] at c
      refine ⟨n, e, c.1, l, fun b => ?_⟩
      rcases c.2 with c | c
      · rw [decide_eq_true b.1, decide_eq_true b.2] at c
        cases c
      · exact c
    · rw [h] at c
      cases c
  have dg : ∀ c ∈ tl (figs w), 48 ≤ c ∧ c ≤ 57 := fun c hc => by
    unfold okW at h
    simp only [Bool.and_eq_true] at h
    obtain ⟨_, h2, h3, _⟩ := h
    unfold Txt.isascii at h2
    unfold Txt.isdigit at h3
    simp only [Bool.and_eq_true] at h3
    have a2 := Array.all_eq_true_iff_forall_mem.mp h2 c (Array.mem_toList_iff.mp hc)
    have a3 := Array.all_eq_true_iff_forall_mem.mp h3.2 c (Array.mem_toList_iff.mp hc)
    exact dig_lt ⟨c, by simpa using a2⟩ a3
  have ln : (tl (figs w)).length ≤ 2 ∧ 0 < (tl (figs w)).length := by
    unfold okW at h
    simp only [Bool.and_eq_true] at h
    obtain ⟨h1, _, h3, _⟩ := h
    unfold Txt.isdigit at h3
    simp only [Bool.and_eq_true] at h3
    rw [len_tl] at h1 h3
    exact ⟨of_decide_eq_true h1, by simpa using h3.1⟩
  have d10 : ∀ c : Nat, 48 ≤ c ∧ c ≤ 57 → ∃ a : Fin 10, c = 48 + a.val := fun c hc => ⟨⟨c - 48, by omega⟩, by show c = 48 + (c - 48); omega⟩
  by_cases s : (tl w).head? = some 45
  · obtain ⟨cs, hcs⟩ : ∃ cs, tl w = 45 :: cs := by
      cases e : tl w with
      | nil => rw [e] at s; cases s
      | cons c r => rw [e] at s; injection s with s; exact ⟨r, by rw [s]⟩
    have ef : tl (figs w) = cs := by
      unfold figs
      rw [sw_dash, decide_eq_true s, if_pos rfl]
      have wl : w.length = cs.length + 1 := by rw [len_tl, hcs]; rfl
      show ((tl w).drop (HT.sIx w.length 0 (some ((1 : Nat) : Int)))).take _ = cs
      rw [HT.sIx_nat, wl, Nat.min_eq_left (by omega), hcs]
      show List.take (cs.length + 1 - 1) cs = cs
      rw [Nat.add_sub_cancel]
      exact List.take_length
    rw [ef] at dg ln
    match cs, ln, dg, hcs with
    | [], ln, _, _ => exact absurd ln.2 (by simp)
    | [a], _, dg, hcs =>
      obtain ⟨x, hx⟩ := d10 a (dg a (by simp))
      exact fin (by rw [hcs, hx]; exact (chk1 x).2) (by rw [len_tl, hcs]; exact Nat.le_of_ble_eq_true rfl)
    | [a, b], _, dg, hcs =>
      obtain ⟨x, hx⟩ := d10 a (dg a (by simp))
      obtain ⟨y, hy⟩ := d10 b (dg b (by simp))
      exact fin (by rw [hcs, hx, hy]; exact (chk2 x y).2) (by rw [len_tl, hcs]; exact Nat.le_of_ble_eq_true rfl)
    | _ :: _ :: _ :: _, ln, _, _ => have := ln.1; simp at this
  · have ef : figs w = w := by
      unfold figs
      rw [sw_dash, decide_eq_false s]
      rfl
    rw [ef] at dg ln
    match hcs : tl w, ln, dg with
    | [], ln, _ => exact absurd ln.2 (by simp)
    | [a], _, dg =>
      obtain ⟨x, hx⟩ := d10 a (dg a (by simp))
      exact fin (by rw [hcs, hx]; exact (chk1 x).1) (by rw [len_tl, hcs]; exact Nat.le_of_ble_eq_true rfl)
    | [a, b], _, dg =>
      obtain ⟨x, hx⟩ := d10 a (dg a (by simp))
      obtain ⟨y, hy⟩ := d10 b (dg b (by simp))
      exact fin (by rw [hcs, hx, hy]; exact (chk2 x y).1) (by rw [len_tl, hcs]; exact Nat.le_of_ble_eq_true rfl)
    | _ :: _ :: _ :: _, ln, _ => have := ln.1; simp at this
/-- what a word is read as -/
def ReadAs (w : Str) (r : Option Int) : Prop := (∀ n, -12 ≤ n → n ≤ 12 → (r = some n ↔ w = txt n)) ∧ ∀ n, r = some n → n.natAbs ≤ 99
theorem ReadAs.none {w : Str} (h : okW w = false) : ReadAs w none := ⟨fun n h1 h2 => ⟨(fun e => nomatch e), fun e => by rw [e, (txt_at ⟨h1, h2⟩).1] at h; cases h⟩, fun n e => nomatch e⟩
theorem ReadAs.some {w : Str} {n : Int} (h : okW w = true) (e : PySem.intText? w = some n) : ReadAs w (some n) := by
  obtain ⟨m, e2, l, _, r⟩ := okW_read h
  rw [e] at e2
  cases e2
  refine ⟨fun k h1 h2 => ⟨fun g => ?_, fun g => ?_⟩, fun k g => by cases g; exact l⟩
  · cases g
    exact r ⟨h1, h2⟩
  · rw [g, (txt_at ⟨h1, h2⟩).2] at e
    exact e.symm
section
variable {P : Program} {w : World} {K : PySem.W.Frag} {mg : Str → Option Value} {base : Heap} {C CP CR CS CT CM CBP : Addr}
def rV : Option Int → V
  | none => .non
  | some n => .int n
def spIntIn : Sp := fun vs H Q _ => ∃ word : Str, vs = [.str word, .int 2] ∧ word.length ≤ 100000 ∧ ∀ r, ReadAs word r → Q (rV r) H
abbrev sIntIn : Stmt := top 16
theorem scIntIn : FnScope ["word", "most", "figures"] ["word", "most"] (defScope sIntIn) := ⟨rfl, rfl, rfl, by decide +kernel, rfl, by decide +kernel, by decide +kernel⟩
theorem ok_intin {f : Addr} {fd : FuncData} (F : Fun K "integer_in" "integer_in" sIntIn f fd) (T : Bl mg) : FnOk P w K mg base CX0 1 f fd ["word", "most"] spIntIn := by
  refine F.ok scIntIn (fun vs H Q E h => ?_) (fun cdv A outer s H vs Q E hr h => ?_)
  · obtain ⟨word, rfl, _⟩ := h
    rfl
  · obtain ⟨word, rfl, wl, q⟩ := h
    have nd := scIntIn.nd
    refine ⟨_, pss_cons (ps_set (i := 2) nd rfl (Or.inl rfl) (pe_ifExp (pt_val (pe_m1 PySem.F.slot_str_startswith PySem.F.type_str_startswith mt_startswith (pv 0) pe_str)) (pe_slice sl_str (pv 0) (po_some pe_int) po_none) (pv 0)))
      (pss_cons (ps_if (PW.pt (pw_or (pt_cmpR op_gt (pe_callB call_len (by rfl) T.len (by decide +kernel) (pa_cons (pv 2) pa_nil)) (pv 1) (nomark _)) (pw_or (pt_not (pt_val (pe_m0 PySem.F.slot_str_isascii PySem.F.type_str_isascii mt_isascii (pv 2)))) (pw_or1 (pt_not (pt_val (pe_m0 PySem.F.slot_str_isdigit PySem.F.type_str_isdigit mt_isdigit (pv 2)))))))) (pss_one (ps_ret pe_non)) pss_nil)
      (pss_cons (ps_if (PW.pt (pw_and (pt_cmpR op_eq (pe_ix ix_str (pv 2) pe_int (fun _ _ => rfl)) pe_str (nomark _)) (pw_and1 (pt_cmpR op_ne (pv 0) pe_str (nomark _))))) (pss_one (ps_ret pe_non)) pss_nil)
      (pss_one (ps_ret (pe_callTy call_int_str (by rfl) T.int (by decide +kernel) (pa_cons (pv 0) pa_nil)))))), ?_⟩
    have fl : (figs word).length ≤ word.length := by
      unfold figs
      split
      · exact cutS_length ..
      · exact Nat.le_refl _
    have sz : (100000 : Nat) ≤ sizeLine := by rw [sizeLine_eq]; decide
    refine ⟨_, rfl, ⟨_, rfl⟩, _, _, rfl, rfl, _, rfl, ?_⟩
    have ef : figs word = if Txt.startswith word "-" then cutS word (some 1) none else word := rfl
    cases hs : Txt.startswith word "-"
    · have ef : figs word = word := by rw [ef, hs]; rfl
      refine iteFb rfl ⟨.str (figs word), by rw [ef]; rfl, ?_⟩
      clear ef hs
      refine ⟨_, rfl, .str (figs word), (figs word).length, rfl, ⟨by omega, rfl⟩, _, rfl, _, _, rfl, rfl, _, rfl, ?_⟩
      by_cases h1 : 2 < (figs word).length
      · refine iteTb (decide_eq_true (by omega)) ?_
        exact q none (.none (by unfold okW; rw [decide_eq_false (by omega)]; rfl))
      refine iteFb (decide_eq_false (by omega)) ?_
      refine ⟨_, rfl, ⟨_, rfl⟩, _, rfl, rfl, trivial, _, rfl, ?_⟩
      by_cases h2 : Txt.isascii (figs word) = true
      case neg =>
        have h2 : Txt.isascii (figs word) = false := by simpa using h2
        rw [h2]
        exact iteT (q none (.none (by unfold okW; rw [h2]; simp)))
      rw [h2]
      refine iteF ?_
      refine ⟨_, rfl, ⟨_, rfl⟩, _, rfl, rfl, trivial, _, rfl, ?_⟩
      by_cases h3 : Txt.isdigit (figs word) = true
      case neg =>
        have h3 : Txt.isdigit (figs word) = false := by simpa using h3
        rw [h3]
        exact iteT (q none (.none (by unfold okW; rw [h3]; simp)))
      rw [h3]
      refine iteF ?_
      obtain ⟨c, r, hc⟩ : ∃ c r, tl (figs word) = c :: r := by
        cases e : tl (figs word) with
        | nil =>
          unfold Txt.isdigit at h3
          rw [len_tl, e] at h3
          simp at h3
        | cons c r => exact ⟨c, r, rfl⟩
      try unfold tNext
      refine ⟨_, rfl, figs word, 0, c, rfl, rfl, by omega, by show atI (tl (figs word)) 0 = _; rw [hc]; exact atI_nat (j := 0) rfl, rfl, _, rfl, ?_⟩
      have okd : (decide ((tl (figs word)).head? = some 48) && decide (word ≠ "0")) = false → ∃ n, okW word = true ∧ PySem.intText? word = some n ∧ word.length ≤ 3 := fun e => by
        have o : okW word = true := by
          unfold okW
          rw [h2, h3, e, decide_eq_true (by omega)]
          rfl
        obtain ⟨n, e1, _, e3, _⟩ := okW_read o
        exact ⟨n, o, e1, e3⟩
      by_cases h4 : c = 48
      · refine iteTb (decide_eq_true (by rw [h4]; rfl)) ?_
        refine ⟨_, rfl, rfl, _, rfl, ?_⟩
        by_cases h5 : word = "0"
        · refine iteFb (by rw [decide_eq_true (by rw [h5])]; rfl) ?_
          obtain ⟨n, o, e1, e3⟩ := okd (by rw [decide_eq_false (p := word ≠ "0") (fun z => z h5)]; simp)
          exact ⟨_, rfl, word, n, rfl, e1, by omega, q (some n) (.some o e1)⟩
        · refine iteTb (by rw [decide_eq_false (fun z => h5 (by injection z))]; rfl) ?_
          exact q none (.none (by unfold okW; rw [hc, h4, decide_eq_true h5]; simp))
      · refine iteFb (decide_eq_false (fun z => h4 (by injection z with z; injection z with z; injection z with z; injection z with z))) ?_
        obtain ⟨n, o, e1, e3⟩ := okd (by rw [hc, decide_eq_false (fun z => h4 (by injection z))]; simp)
        exact ⟨_, rfl, word, n, rfl, e1, by omega, q (some n) (.some o e1)⟩
    · have ef : figs word = cutS word (some 1) none := by rw [ef, hs]; rfl
      refine iteTb rfl ⟨_, rfl, 1, rfl, word, rfl, by omega, ?_⟩
      rw [← ef]
      clear ef hs
      refine ⟨_, rfl, .str (figs word), (figs word).length, rfl, ⟨by omega, rfl⟩, _, rfl, _, _, rfl, rfl, _, rfl, ?_⟩
      by_cases h1 : 2 < (figs word).length
      · refine iteTb (decide_eq_true (by omega)) ?_
        exact q none (.none (by unfold okW; rw [decide_eq_false (by omega)]; rfl))
      refine iteFb (decide_eq_false (by omega)) ?_
      refine ⟨_, rfl, ⟨_, rfl⟩, _, rfl, rfl, trivial, _, rfl, ?_⟩
      by_cases h2 : Txt.isascii (figs word) = true
      case neg =>
        have h2 : Txt.isascii (figs word) = false := by simpa using h2
        rw [h2]
        exact iteT (q none (.none (by unfold okW; rw [h2]; simp)))
      rw [h2]
      refine iteF ?_
      refine ⟨_, rfl, ⟨_, rfl⟩, _, rfl, rfl, trivial, _, rfl, ?_⟩
      by_cases h3 : Txt.isdigit (figs word) = true
      case neg =>
        have h3 : Txt.isdigit (figs word) = false := by simpa using h3
        rw [h3]
        exact iteT (q none (.none (by unfold okW; rw [h3]; simp)))
      rw [h3]
      refine iteF ?_
      obtain ⟨c, r, hc⟩ : ∃ c r, tl (figs word) = c :: r := by
        cases e : tl (figs word) with
        | nil =>
          unfold Txt.isdigit at h3
          rw [len_tl, e] at h3
          simp at h3
        | cons c r => exact ⟨c, r, rfl⟩
      try unfold tNext
      refine ⟨_, rfl, figs word, 0, c, rfl, rfl, by omega, by show atI (tl (figs word)) 0 = _; rw [hc]; exact atI_nat (j := 0) rfl, rfl, _, rfl, ?_⟩
      have okd : (decide ((tl (figs word)).head? = some 48) && decide (word ≠ "0")) = false → ∃ n, okW word = true ∧ PySem.intText? word = some n ∧ word.length ≤ 3 := fun e => by
        have o : okW word = true := by
          unfold okW
          rw [h2, h3, e, decide_eq_true (by omega)]
          rfl
        obtain ⟨n, e1, _, e3, _⟩ := okW_read o
        exact ⟨n, o, e1, e3⟩
      by_cases h4 : c = 48
      · refine iteTb (decide_eq_true (by rw [h4]; rfl)) ?_
        refine ⟨_, rfl, rfl, _, rfl, ?_⟩
        by_cases h5 : word = "0"
        · refine iteFb (by rw [decide_eq_true (by rw [h5])]; rfl) ?_
          obtain ⟨n, o, e1, e3⟩ := okd (by rw [decide_eq_false (p := word ≠ "0") (fun z => z h5)]; simp)
          exact ⟨_, rfl, word, n, rfl, e1, by omega, q (some n) (.some o e1)⟩
        · refine iteTb (by rw [decide_eq_false (fun z => h5 (by injection z))]; rfl) ?_
          exact q none (.none (by unfold okW; rw [hc, h4, decide_eq_true h5]; simp))
      · refine iteFb (decide_eq_false (fun z => h4 (by injection z with z; injection z with z; injection z with z; injection z with z))) ?_
        obtain ⟨n, o, e1, e3⟩ := okd (by rw [hc, decide_eq_false (fun z => h4 (by injection z))]; simp)
        exact ⟨_, rfl, word, n, rfl, e1, by omega, q (some n) (.some o e1)⟩
end
end Toy
set_option linter.all false
set_option maxRecDepth 100000
set_option maxHeartbeats 4000000
/-! cls() and cls(*y), cls a local name that holds a class; C.m(k = v, ..), m a classmethod; text times number. -/
namespace Own
open PySem PySem.Spec PyProof.Rows L2 StX
section
variable {X : Cx} {CX : CXT} {k i : Nat} {f C : Addr} {sp : Sp} {E : XK} {x : Str} {e : Expr} {te : TE} {p sp_ pos : Pos}
/-- cls() -/
def tMakeL0 (i : Nat) (C : Addr) (sp : Sp) (E : XK) : TE := fun σ H Q => σ[i]? = some (some (.ref C)) ∧ tMakeR C sp E tNil σ H Q
theorem pe_makeL0 (M : Mk X.K C f) (F : FnR X.prog X.w X.K X.mg X.base CX k f sp) (hr : Room (k + 1) X.A) (hx : Passes CX X E) (hN : X.N[i]? = some x) (hv : Vis X.env.scope x)
    (hd : (x == ("__debug__" : Str)) = false := by decide) (hcd : (x == ("__classdict__" : Str)) = false := by decide) : PE X (.Call (.Name x p) [] [] pos) (tMakeL0 i C sp E) := by
  refine ⟨fun pins s σ H Q I h => ?_⟩
  obtain ⟨hs, h⟩ := h
  refine wpAny_Call_Name_kw (thn ((pe_var (pos := p) (i := i) hN hv hd hcd).run pins s σ H (fun v H1 => v = .ref C ∧ H1 = H) I ⟨.ref C, hs, rfl, rfl⟩) fun u s1 ⟨v, H1, I1, r1, ev, eH⟩ => ?_)
  subst ev
  rw [eH] at I1
  cases r1
  refine PySem.W.callWith_K0 I1.kIn M.kp ?_
  exact run_makeR M F hr hx I1 .nil h
/-- cls(*y) -/
def tMakeLS (K : PySem.W.Frag) (i : Nat) (C : Addr) (sp : Sp) (E : XK) (te : TE) : TE := fun σ H Q => σ[i]? = some (some (.ref C)) ∧ tMakeS K C sp E te σ H Q
theorem pe_makeLS1 (M : Mk X.K C f) (F : FnR X.prog X.w X.K X.mg X.base CX k f sp) (hr : Room (k + 1) X.A) (hx : Passes CX X E) (hN : X.N[i]? = some x) (hv : Vis X.env.scope x) (he : PE X e te)
    (hd : (x == ("__debug__" : Str)) = false := by decide) (hcd : (x == ("__classdict__" : Str)) = false := by decide)
    (hst : starEach [.Starred e sp_] X.env = [(true, eval e X.env)] := by rfl) : PE X (.Call (.Name x p) [.Starred e sp_] [] pos) (tMakeLS X.K i C sp E te) := by
  refine ⟨fun pins s σ H Q I h => ?_⟩
  obtain ⟨hs, h⟩ := h
  refine wpAny_Call_Name_kw (thn ((pe_var (pos := p) (i := i) hN hv hd hcd).run pins s σ H (fun v H1 => v = .ref C ∧ H1 = H) I ⟨.ref C, hs, rfl, rfl⟩) fun u s1 ⟨v, H1, I1, r1, ev, eH⟩ => ?_)
  subst ev
  rw [eH] at I1
  cases r1
  refine PySem.W.callWith_S (h₀ := X.base) I.ok.mod.kin M.kp (thn (he.run pins s1 σ H _ I1 h) fun v s2 ⟨y, H2, I2, ry, a, xs, ey, hxs, q⟩ => ?_) hst
  subst ey
  obtain rfl : v = Value.ref a := ry
  exact star_any I2 hxs fun us s3 I3 rv => ⟨I3.kIn, run_makeR M F hr hx I3 rv q⟩
end
/-- text times number -/
theorem op_mul_str {X : Cx} : OpR X (binaryOp .Mult) (fun x y H Q => ∃ (a : Str) (n : Int), x = .str a ∧ y = .int n ∧ PySem.MulOk a n ∧ Q (.str (Txt.mul a n)) H) := by
  intro pins s σ H x y v u Q I rx ry h
  obtain ⟨a, n, rfl, rfl, ok, q⟩ := h
  obtain ⟨t, rfl⟩ := rx
  obtain ⟨t', rfl⟩ := ry
  exact PySem.SB.mul ok fun t' k => ⟨.str (Txt.mul a n), H, I.tok _, ⟨_, rfl⟩, q⟩
section
variable {X : Cx} {CX : CXT} {k : Nat} {C p g : Addr} {mc : Value} {sp : Sp} {E : XK} {o : Expr} {m : Str} {pos apos : Pos} {ta : TE} {tk : TA} {pl : Sem Bool} {fd : FuncData} {ps ks : List Str} {kws : List Keyword} {gf : List Value → List Value → List Value} {gV : List V → List V → List V}
/-- C.m(k = v, ..), m a classmethod -/
def tCMethK0 (C : Addr) (n : Nat) (sp : Sp) (gV : List V → List V → List V) (E : XK) (ta : TE) (tk : TA) : TE := fun σ H Q => ta σ H fun x H1 => x = .ref C ∧ tk σ H1 fun zs H2 => zs.length = n ∧ sp (gV [.ref C] zs) H2 Q E
theorem pe_cmethK0 (he : PE X o ta) (r : ClX.CRead X.K C mc) (c : ClX.CMet X.K C mc m p g) (F : FnOk X.prog X.w X.K X.mg X.base CX k g fd ps sp) (hr : Room k X.A) (hb : KBn X.K fd ps 1 ks gf gV) (hx : Passes CX X E) (hkw : PK X kws tk)
    (hall : (backToKw pos (keywordEach kws X.env)).all (·.1.isSome) = true := by rfl) (hks : (backToKw pos (keywordEach kws X.env)).filterMap (·.1) = ks := by rfl)
    (hpl : ((backTo pos (starEach [] X.env)).any (·.1) || (backToKw pos (keywordEach kws X.env)).any (·.1.isNone)) = false := by rfl)
    (ht : eval (.Call (.Attribute o m apos) [] kws pos) X.env = (do
      let ov ← eval o X.env
      standAt apos.atName
      let (f, first) ← holding [ov] (getMethod ov m pl)
      callWith pos f first (backTo pos (starEach [] X.env)) (backToKw pos (keywordEach kws X.env))) := by rfl) :
    PE X (.Call (.Attribute o m apos) [] kws pos) (tCMethK0 C ks.length sp gV E ta tk) := by
  refine ⟨fun pins s σ H Q I h => ?_⟩
  refine PySem.W.methodCall_KW (pl := pl) (thn (he.run pins s σ H _ I h) fun u s1 ⟨x, H1, I1, rx, ex, q⟩ => ?_) ht
  subst ex
  obtain rfl : u = Value.ref C := rx
  refine ClX.getmethcm_ok I1 r c fun s2 I2 => ?_
  refine PySem.W.callWith_of (P := PySem.W.MethP X.K s1.heap.objs.size g (.ref C)) hpl (PySem.W.keeps_M c.fi) (evalArgs_kw2_nil hall (thn (hkw.run pos _ s2 σ H1 _ I2 q) fun ws s3 ⟨zs, H2, I3, rz, hl, q2⟩ => ⟨⟨ClX.pin_at I3, I3.kIn⟩, ?_⟩))
  rw [hks]
  have r2 := hb.rel (vs := [.ref C]) (us := [.ref C]) (.cons rfl .nil) rz
  have z : wpAny (model X.prog X.w) X.A (call (.ref s1.heap.objs.size) [] (ks.zip ws)) (EP X ((s1.heap.objs.size, PySem.W.methodObj (.ref g) (.ref C)) :: pins) σ Q) X.xe s3 := by
    refine wpAny_call (PySem.W.method_call (ClX.pin_at I3) ?_)
    refine codeAny_mono (F.run X.A X.stack s3 H2 ⟨[.ref C], ks.zip ws⟩ (gf [.ref C] ws) (gV [.ref C] zs) Q E hr I3.env0 (hb.to s3 [.ref C] ws I3.kIn rfl (rz.length.symm.trans hl)) r2 q2) fun r s' hq => ?_
    cases r with
    | error e => exact hx _ σ H2 s3 e s' I3 hq
    | ok fl =>
      cases fl with
      | ret u => exact I3.after hq
      | next => exact False.elim hq
      | brk => exact False.elim hq
      | cont => exact False.elim hq
  exact thn z fun _ _ y => ClX.unpinE y
end
end Own
set_option maxRecDepth 100000
set_option maxHeartbeats 4000000
set_option exponentiation.threshold 9000
namespace Toy
open PySem L2
open Rat (divInt)
open TL (tl len_tl mk_tl ext_tl tl_append tl_ofString joinL tl_join join_eq split_join)
/-! what is read of a text -/
def lowers : List Int := (List.range 25).map fun k : Nat => (k : Int) - 12
theorem mem_lowers {z : Int} : z ∈ lowers ↔ -12 ≤ z ∧ z ≤ 12 := by
  unfold lowers
  rw [List.mem_map]
  constructor
  · rintro ⟨k, hk, rfl⟩
    rw [List.mem_range] at hk
    omega
  · intro h
    exact ⟨(z + 12).toNat, by rw [List.mem_range]; omega, by omega⟩
/-- the number that a word is -/
def numW (w : Str) : Option Int := lowers.find? fun n => decide (w = txt n)
theorem txt_inj {i j : Int} (hi : -12 ≤ i ∧ i ≤ 12) (hj : -12 ≤ j ∧ j ≤ 12) (e : txt i = txt j) : i = j := by
  have a := (txt_at hi).2
  rw [e, (txt_at hj).2] at a
  exact (Option.some.inj a).symm
theorem numW_iff {w : Str} {n : Int} : numW w = some n ↔ (-12 ≤ n ∧ n ≤ 12) ∧ w = txt n := by
  unfold numW
  constructor
  · intro h
    have h1 := List.mem_of_find?_eq_some h
    have h2 := List.find?_some h
    exact ⟨mem_lowers.mp h1, of_decide_eq_true h2⟩
  · rintro ⟨hb, e⟩
    cases h : lowers.find? fun n => decide (w = txt n) with
    | none => exact absurd (decide_eq_true e) (List.find?_eq_none.mp h n (mem_lowers.mpr hb))
    | some m =>
      have h1 := mem_lowers.mp (List.mem_of_find?_eq_some h)
      have h2 : w = txt m := of_decide_eq_true (List.find?_some (p := fun n => decide (w = txt n)) h)
      rw [txt_inj h1 hb (h2.symm.trans e)]
def scanW : List Str → List Int → Sum Nat (List Int)
  | [], f => .inr f
  | w :: ws, f => match numW w with
    | none => .inl f.length
    | some n => if n ∈ f ∨ 16 ≤ f.length then .inl f.length else scanW ws (f ++ [n])
/-- a text read: the word that is refused, or the numbers -/
def readT (t : Str) : Sum Nat (List Int) := if t = "-" then .inr [] else scanW (Txt.split t " ") []
theorem joinL_len (S : List Nat) : ∀ (l : List (List Nat)) (p : List Nat), p ∈ l → p.length ≤ (joinL S l).length
  | [], p, h => nomatch h
  | [q], p, h => by
    cases List.mem_singleton.mp h
    exact Nat.le_refl _
  | q :: r :: rs, p, h => by
    show p.length ≤ (q ++ (S ++ joinL S (r :: rs))).length
    rw [List.length_append, List.length_append]
    rcases List.mem_cons.mp h with rfl | h
    · omega
    · have := joinL_len S (r :: rs) p h
      omega
theorem split_len {t w y : Str} (h : w ∈ Txt.split t y) : w.length ≤ t.length := by
  have e := PySem.StrLaws.join_split t y
  have l := joinL_len (tl y) ((Txt.split t y).map tl) (tl w) (List.mem_map_of_mem h)
  rw [← tl_join, e] at l
  rw [len_tl, len_tl]
  exact l
/-- a part of what a scale may hold, one more -/
theorem ScaOk.push {f : List Int} {n : Int} (h : ScaOk f) (hn : n ∉ f) (hb : -12 ≤ n ∧ n ≤ 12) (hl : ¬ 16 ≤ f.length) : ScaOk (f ++ [n]) :=
  ⟨List.nodup_append.mpr ⟨h.nd, by simp, fun a ha b hb e => by rw [List.mem_singleton.mp hb] at e; rw [e] at ha; exact hn ha⟩,
   fun z hz => by rcases List.mem_append.mp hz with hz | hz; exact h.bd z hz; rw [List.mem_singleton.mp hz]; exact hb, by rw [List.length_append]; simp; omega⟩
theorem ScaOk.nil : ScaOk [] := ⟨by simp, by simp, by simp⟩
/-- two fields -/
def spErT2 (C : Addr) : Sp := fun vs H Q _ => ∃ a u v, vs = [.ref a, u, v] ∧ H a = some (exo a C none) ∧ ∀ d H', H d = none → d ≠ a → H' a = some (exo a C (some d)) → H' d = some (exd d [("word", v), ("line", u)]) → (∀ b o, H b = some o → b ≠ a → H' b = some o) → Q .non H'
theorem erT2_go {H1 : Hp} {a C : Addr} {u v : V} {Q : XK} {E : XK} (ha : H1 a = none) (k : ∀ d H2, H1 d = none → Same H1 H2 → H2 d = some (.xd [("word", v), ("line", u)]) → Q (.ref C) (some d) H2) :
    spErT2 C [.ref a, u, v] (upd H1 a (exo a C none)) (fun v H2 => v = .non ∧ ∃ (d : Addr) (fs : List (Str × V)), H2 a = some (exo a C (some d)) ∧ H2 d = some (exd d fs) ∧ H1 d = none ∧ Q (.ref C) (some d) (upd (del H2 a) d (.xd fs))) E := by
  refine ⟨a, u, v, rfl, upd_same, fun d H' hd hne h1 h2 h3 => ?_⟩
  rw [upd_ne hne] at hd
  refine ⟨rfl, d, _, h1, h2, hd, k d _ hd (fun b o h => ?_) upd_same⟩
  have nd := ne_of_none h hd
  have na := ne_of_none h ha
  rw [upd_ne nd, del_ne na]
  exact h3 b o (by rw [upd_ne na]; exact h) na
section
variable {P : Program} {w : World} {K : PySem.W.Frag} {mg : Str → Option Value} {base : Heap} {C CP CR CS CT CBT : Addr}
theorem spScaC.makeN {H : Hp} {ns : List Int} {Q : VK} (ok : ScaOk ns) (q : ∀ x H', H x = none → Same H H' → ScaAt CS H' x ns → Q (.ref x) H') :
    ∀ x dx, H x = none → H dx = none → dx ≠ x → spScaC CS (.ref x :: ns.map V.int) (upd (upd H dx (.own x)) x (.ins CS dx [])) (fun v H2 => v = .non ∧ Q (.ref x) H2) E0 := fun x dx hx hdx hn => by
  have n16 := ok.ln
  refine ⟨[.ref x], ns.map V.int, rfl, rfl, Nat.le_trans (by rw [List.length_map]; exact n16) (by decide : 16 ≤ sizeLine), fun p hp => ?_⟩
  have g1 := same_two (o := .own x) (u := .ins CS dx []) hdx hx hn
  have g2 := same_new (o := .tup (ns.map V.int)) hp
  have hxp : x ≠ p := fun z => by rw [← z, upd_same] at hp; cases hp
  refine ⟨x, dx, p, ns, rfl, by rw [upd_ne hxp]; exact upd_same, upd_same, ok, fun H' ha keep => ⟨rfl, q x H' hx (fun y u e => keep y u ((g1.trans g2) _ _ e) (ne_of_none e hx)) ha⟩⟩
abbrev sBTI : Stmt := inClass (top 10) 0
theorem scBTI : FnScope ["self", "line", "word"] ["self", "line", "word"] (defScope sBTI) := ⟨rfl, rfl, rfl, by decide +kernel, rfl, by decide +kernel, by decide +kernel⟩
theorem ok_BTI {f : Addr} {fd : FuncData} (F : Fun K "__init__" "BadText.__init__" sBTI f fd) (TM : ErT K mg "BadText" "line" CBT f) (n2 : PySem.W.findIn K (.ref CBT) "word" = some none) : FnOk P w K mg base CX0 1 f fd ["self", "line", "word"] (spErT2 CBT) := by
  refine F.ok scBTI (fun vs H Q E h => ?_) (fun cdv A outer s H vs Q E hr h => ?_)
  · obtain ⟨a, u, v, rfl, _⟩ := h
    rfl
  · obtain ⟨a, u, v, rfl, ha, k⟩ := h
    refine ⟨_, (pss_cons (ps_ost (pv 0) (pv 1)) (pss_one (ps_ost (pv 0) (pv 2)))), ?_⟩
    refine ⟨_, rfl, _, rfl, a, CBT, rfl, TM.o, TM.no, .inl ⟨ha, fun d hd hn => ?_⟩⟩
    refine ⟨_, rfl, _, rfl, a, CBT, rfl, TM.o, n2, .inr ⟨d, [("line", u)], upd_same, by rw [upd_ne hn]; exact upd_same, (by decide : 1 ≤ 900), ?_⟩⟩
    refine k d _ hd hn (by rw [upd_ne hn.symm]; exact upd_same) upd_same fun b o hb hne => ?_
    have nd := ne_of_none hb hd
    repeat first | rw [upd_ne nd] | rw [upd_ne hne]
    exact hb
/-- v read -/
def ReadV (K : PySem.W.Frag) (H : Hp) (v : V) (r : Sum Nat (List Int)) : Prop := (∃ t : Str, v = .str t ∧ t.length ≤ 100000 ∧ r = readT t) ∨ ∃ t, TyX K H v t ∧ PySem.W.kitOne K t (.type "str") = some false ∧ r = .inl 0
/-- a scale read; refused -/
def spRead (K : PySem.W.Frag) (CS CBT : Addr) : Sp := fun vs H Q E => ∃ (v : V) (r : Sum Nat (List Int)), vs = [.ref CS, v] ∧ ReadV K H v r ∧ (∀ ns x H', r = .inr ns → ScaOk ns → H x = none → Same H H' → ScaAt CS H' x ns → Q (.ref x) H') ∧
  ∀ (k : Nat) dd H', r = .inl k → Same H H' → H' dd = some (.xd [("word", .int k), ("line", .int 0)]) → E (.ref CBT) (some dd) H'
abbrev sRead : Stmt := inClass (top 25) 2
theorem scRead : FnScope ["cls", "text", "numbers", "at", "word", "number"] ["cls", "text"] (defScope sRead) := ⟨rfl, rfl, rfl, by decide +kernel, rfl, by decide +kernel, by decide +kernel⟩
theorem ok_read {f f1 f2 fI f9 : Addr} {fd fd1 fd2 fd9 : FuncData} (F : Fun K "read" "Scale.read" sRead f fd) (T : Bl mg) (zs : mg "str" = none) (zen : mg "enumerate" = none) (T_Scale : ScaT K mg CS) (mst : Most K CS) (MK_Scale : Mk K CS fI) (FR_Scale : FnR P w K mg base CX0 4 fI (spScaC CS))
    (C_integer_in : Cal P w K mg base 1 "integer_in" f1 fd1 ["word", "most"] spIntIn) (C__is_note : Cal P w K mg base 3 "_is_note" f2 fd2 ["value"] spNote)
    (TB : ErT K mg "BadText" "line" CBT f9) (FB : FnOk P w K mg base CX0 1 f9 fd9 ["self", "line", "word"] (spErT2 CBT)) (bB : Binds K fd9 ["self", "line", "word"] []) : FnOk P w K mg base (L2.CX P w) 6 f fd ["cls", "text"] (spRead K CS CBT) := by
  refine F.okX scRead (fun vs H Q E h => ?_) (fun cdv A outer s H vs Q E hr h => ?_)
  · obtain ⟨v, r, rfl, _⟩ := h
    rfl
  · obtain ⟨v, r, rfl, rv, q0, q1⟩ := h
    have nd := scRead.nd
    rcases rv with ⟨t, rfl, tl1, rfl⟩ | ⟨t, ty, no, rfl⟩
    · refine ⟨_, pss_cons (ps_if (pt_not (pt_val (pe_callB call_isi (by rfl) T.isinstance (by decide +kernel) (pa_cons (pv 1) (pa_cons (pe_bltn (v := .ty "str") (u := .type "str") (by rfl) zs (by decide +kernel) rfl) pa_nil))))) (pss_one ps_never) pss_nil)
      (pss_cons (ps_if (pt_cmpR op_eq (pv 1) pe_str (nomark _)) (pss_one (ps_ret (Own.pe_makeL0 (i := 0) MK_Scale FR_Scale (hr.mono (by decide)) pass0 rfl (Or.inl rfl)))) pss_nil)
      (pss_cons (ps_set (i := 2) nd rfl (Or.inl rfl) (pe_lst pa_nil))
      (pss_cons (ps_for (passes_of rfl) rfl (pi_enum (by rfl) zen (pa_cons (pe_split (pv 1) pe_str) pa_nil)) (pg_tup (by rfl) (pgs_cons (pg_name (i := 3) nd rfl (Or.inl rfl)) (pgs_cons (pg_name (i := 4) nd rfl (Or.inl rfl)) pgs_nil))) (pss_cons (ps_set (i := 5) nd rfl (Or.inl rfl) (pe_call C_integer_in.F (hr.mono (by decide)) (by rfl) C_integer_in.mgf C_integer_in.kp C_integer_in.b .nil pass0 (pa_cons (pv 4) (pa_cons pe_int pa_nil))))
      (pss_cons (ps_if (PW.pt (pw_or (pt_cmpR op_isN (pv 5) pe_non (nomark _)) (pw_or (pt_not (pt_val (pe_call C__is_note.F (hr.mono (by decide)) (by rfl) C__is_note.mgf C__is_note.kp C__is_note.b .nil pass0 (pa_cons (pv 5) pa_nil)))) (pw_or (pt_cmpR op_in_seq (pv 5) (pv 2) (by rfl)) (pw_or1 (pt_cmpR op_eq (pv 3) (ClX.pe_cval (Own.pe_gref (by rfl) T_Scale.mgC)) (nomark _))))))) (pss_one (ps_raise (by rfl) (takes_of rfl rfl rfl rfl) (pmk_oex TB.o TB.ini TB.tyI FB (hr.mono (by decide)) bB .nil pass0 (by rfl) TB.mgC (pa_cons pe_int (pa_cons (pv 3) pa_nil))))) pss_nil)
      (pss_one (ps_expr (pe_bm PySem.F.plainAttrs_list PySem.F.slot_list_append PySem.F.type_list_append mt_append (pv 2) (pa_cons (pv 5) pa_nil)))))))
      (pss_one (ps_ret (Own.pe_makeLS1 (i := 0) MK_Scale FR_Scale (hr.mono (by decide)) pass0 rfl (Or.inl rfl) (pv 2))))))), ?_⟩
      refine ⟨_, rfl, _, _, _, _, true, rfl, .ty _, .base (.str _), rfl, _, rfl, iteF ?_⟩
      refine ⟨_, rfl, rfl, _, rfl, ?_⟩
      by_cases hd : t = "-"
      · refine iteTb (decide_eq_true (by rw [hd])) ?_
        refine ⟨rfl, spScaC.makeN (ns := []) ScaOk.nil fun x H' hn s ha => q0 [] x H' ?_ .nil hn s ha⟩
        unfold readT
        rw [if_pos hd]
      refine iteFb (decide_eq_false (fun z => hd (by injection z))) ?_
      have er : readT t = scanW (Txt.split t " ") [] := by unfold readT; rw [if_neg hd]
      have wl : ∀ w ∈ Txt.split t " ", w.length ≤ 100000 := fun w hw => Nat.le_trans (split_len hw) tl1
      refine ⟨by decide, fun L hL => ?_⟩
      have sL := same_new (o := HO.lst []) hL
      have hL1 : (upd H L (HO.lst [])) L = some (.lst (([] : List Int).map V.int)) := upd_same
      generalize upd H L (HO.lst []) = H1 at *
      have s1 : (100002 : Nat) ≤ sizeLine := by decide
      refine ⟨_, rfl, ⟨_, rfl⟩, t, " ", rfl, rfl, rfl, by omega, fun W hW => ?_⟩
      generalize Txt.split t " " = Ws at *
      have nWL : W ≠ L := fun z => by rw [z, hL1] at hW; cases hW
      have sW := same_new (o := HO.lst (Ws.map V.str)) hW
      have hW1 : (upd H1 W (HO.lst (Ws.map V.str))) W = _ := upd_same
      have hL2 := sW _ _ hL1
      generalize upd H1 W (HO.lst (Ws.map V.str)) = H2 at *
      have nl : (Ws.map V.str).length = Ws.length := List.length_map _
      refine ⟨W, _, rfl, SqL.of hW1, ?_⟩
      refine for_it (walk_enum (K := K) (a := W) (xs := Ws.map V.str)) (fun i σ H' => ∃ v3 v4 v5 f, σ = [some (.ref CS), some (.str t), some (.ref L), v3, v4, v5] ∧ H' L = some (.lst (f.map V.int)) ∧ But L H2 H' ∧ scanW (Ws.drop i) f = readT t ∧ f.length = i ∧ ScaOk f) ⟨_, _, _, [], rfl, hL2, But.refl, by rw [er]; rfl, rfl, .nil⟩ (fun i σ H' _ h => ?_) ?_ ?_
      · obtain ⟨_, _, _, _, _, _, hB, _⟩ := h
        exact SqL.of (hB _ _ hW1 nWL)
      · rintro i y σ H3 H4 hi ⟨v3, v4, v5, f, rfl, hf, hB, hs, fl, fo⟩ ⟨T1, u1, x1, rfl, hT1, rfl, eu, hx1⟩
        cases eu
        rw [nl] at hi
        have hx1 : (Ws.map V.str)[i]? = some x1 := hx1
        rw [List.getElem?_map, List.getElem?_eq_getElem hi] at hx1
        cases hx1
        rw [List.drop_eq_getElem_cons hi] at hs
        have hwl := wl _ (List.getElem_mem hi)
        generalize Ws[i] = word at *
        have sT : Same H3 (upd H3 T1 (.tup [.int (i : Nat), .str word])) := same_new hT1
        have all : Same H (upd H3 T1 (.tup [.int (i : Nat), .str word])) := fun b o hb => sT _ _ (hB _ _ (sW _ _ (sL _ _ hb)) (ne_of_none hb hL))
        have hf4 := sT _ _ hf
        have hB4 : But L H2 (upd H3 T1 (.tup [.int (i : Nat), .str word])) := hB.trans (But.same sT)
        refine ⟨T1, _, rfl, SqT.of upd_same, rfl, _, _, rfl, _, _, rfl, rfl, ?_⟩
        generalize upd H3 T1 (.tup [.int (i : Nat), .str word]) = H4 at *
        refine ⟨_, rfl, word, rfl, hwl, fun r hr => ?_⟩
        unfold scanW at hs
        refine ⟨_, rfl, rfl, _, rfl, ?_⟩
        cases r with
        | none =>
          have hn : numW word = none := by
            cases e : numW word with
            | none => rfl
            | some m =>
              obtain ⟨⟨b1, b2⟩, em⟩ := numW_iff.mp e
              cases (hr.1 m b1 b2).mpr em
          rw [hn] at hs
          refine iteTb (decide_eq_true rfl) ?_
          exact ⟨_, rfl, (show 2 ≤ 1000 by decide), fun a ha => erT2_go ha fun d H5 _ s hd => q1 i d H5 (by rw [← hs, ← fl]) (all.trans s) hd⟩
        | some n =>
          refine iteFb (decide_eq_false (fun z => nomatch z)) ?_
          refine ⟨_, rfl, n, rfl, _, rfl, ?_⟩
          by_cases hb : -12 ≤ n ∧ n ≤ 12
          case neg =>
            have hn : numW word = none := by
              cases e : numW word with
              | none => rfl
              | some m =>
                obtain ⟨⟨b1, b2⟩, em⟩ := numW_iff.mp e
                have := (hr.1 m b1 b2).mpr em
                injection this with this
                exact absurd ⟨this ▸ b1, this ▸ b2⟩ hb
            rw [hn] at hs
            refine iteTb (by rw [Bool.not_eq_true', Bool.and_eq_false_iff]; by_cases h1 : -12 ≤ n; exact .inr (decide_eq_false fun h2 => hb ⟨h1, h2⟩); exact .inl (decide_eq_false h1)) ?_
            exact ⟨_, rfl, (show 2 ≤ 1000 by decide), fun a ha => erT2_go ha fun d H5 _ s hd => q1 i d H5 (by rw [← hs, ← fl]) (all.trans s) hd⟩
          have hn : numW word = some n := numW_iff.mpr ⟨hb, (hr.1 n hb.1 hb.2).mp rfl⟩
          rw [hn] at hs
          refine iteFb (by rw [decide_eq_true hb.1, decide_eq_true hb.2]; rfl) ?_
          refine ⟨_, rfl, _, rfl, L, _, rfl, .inl (SqL.of hf4), rfl, ints_flat _, _, rfl, ?_⟩
          by_cases hm : n ∈ f
          · refine iteTb (by show inV (.int n) _ = true; rw [inV_ints]; exact decide_eq_true hm) ?_
            replace hs : Sum.inl f.length = readT t := by rw [← hs]; exact (if_pos (.inl hm)).symm
            exact ⟨_, rfl, (show 2 ≤ 1000 by decide), fun a ha => erT2_go ha fun d H5 _ s hd => q1 i d H5 (by rw [← hs, ← fl]) (all.trans s) hd⟩
          refine iteFb (by show inV (.int n) _ = false; rw [inV_ints]; exact decide_eq_false hm) ?_
          obtain ⟨mc, u, m1, m2⟩ := mst
          refine ⟨_, rfl, CS, mc, .int 16, u, rfl, m1, m2, rfl, _, rfl, ?_⟩
          have f16 := fo.ln
          by_cases h16 : i = 16
          · refine iteTb (decide_eq_true (by rw [h16]; rfl)) ?_
            replace hs : Sum.inl f.length = readT t := by rw [← hs]; exact (if_pos (.inr (by omega))).symm
            exact ⟨_, rfl, (show 2 ≤ 1000 by decide), fun a ha => erT2_go ha fun d H5 _ s hd => q1 i d H5 (by rw [← hs, ← fl]) (all.trans s) hd⟩
          refine iteFb (decide_eq_false (fun z => h16 (by injection z with z; omega))) ?_
          replace hs : scanW (Ws.drop (i + 1)) (f ++ [n]) = readT t := by rw [← hs]; exact (if_neg (by rintro (h | h); exact hm h; omega)).symm
          refine ⟨_, rfl, .inl ⟨rfl, _, SqL.of hf4⟩, _, rfl, L, _, _, rfl, rfl, hf4, by rw [List.length_map]; exact Nat.lt_of_lt_of_le (by omega) (by decide : 60 ≤ sizeLine), ?_⟩
          exact ⟨_, _, _, f ++ [n], rfl, by rw [upd_same, List.map_append]; rfl, hB4.upd, hs, by rw [List.length_append, fl]; rfl, fo.push hm hb (by omega)⟩
      · rintro σ H3 ⟨v3, v4, v5, f, rfl, hf, hB, hs, fl, fo⟩
        rw [nl] at hs
        rw [List.drop_length] at hs
        have all : Same H H3 := fun b o hb => hB _ _ (sW _ _ (sL _ _ hb)) (ne_of_none hb hL)
        exact ⟨rfl, _, rfl, L, _, rfl, .inr (SqL.of hf), spScaC.makeN fo fun x H' hn s ha => q0 f x H' hs.symm fo (none_of all hn) (all.trans s) ha⟩
    · refine ⟨_, pss_cons (ps_if (pt_not (pt_val (pe_callB call_isi (by rfl) T.isinstance (by decide +kernel) (pa_cons (pv 1) (pa_cons (pe_bltn (v := .ty "str") (u := .type "str") (by rfl) zs (by decide +kernel) rfl) pa_nil))))) (pss_one (ps_raise (by rfl) (takes_of rfl rfl rfl rfl) (pmk_oex TB.o TB.ini TB.tyI FB (hr.mono (by decide)) bB .nil pass0 (by rfl) TB.mgC (pa_cons pe_int (pa_cons pe_int pa_nil))))) pss_nil) pss_never, ?_⟩
      refine ⟨_, rfl, _, _, t, _, false, rfl, .ty _, ty, no, _, rfl, iteT ?_⟩
      exact ⟨by decide, fun a ha => erT2_go ha fun d H2 _ s hd => q1 0 d H2 rfl s hd⟩
end
end Toy
set_option maxRecDepth 100000
set_option maxHeartbeats 4000000
set_option exponentiation.threshold 9000
namespace Toy
open PySem L2
open Rat (divInt)
open TL (tl len_tl mk_tl ext_tl tl_append tl_ofString joinL tl_join join_eq split_join)
/-- the text of a scale -/
def textN (ns : List Int) : Str := if ns = [] then "-" else Txt.join " " (ns.map txt)
theorem eqvAllInts : ∀ ns ms : List Int, PyData.eqvAll (ns.map PyData.int) (ms.map PyData.int) = decide (ns = ms)
  | [], [] => rfl
  | [], _ :: _ => rfl
  | _ :: _, [] => rfl
  | n :: ns, m :: ms => by
    have ih := eqvAllInts ns ms
    simp only [List.map_cons, PyData.eqvAll, PyData.eqv, ih]
    rw [Bool.eq_iff_iff]
    simp
theorem eqvTupInts (ns ms : List Int) : PyData.eqv (.tuple (ns.map PyData.int)) (.tuple (ms.map PyData.int)) = decide (ns = ms) := by
  rw [← eqvAllInts]
  unfold PyData.eqv
  rfl
theorem shTupInts (ns : List Int) : SeqAt.shaped (.tuple (ns.map PyData.int)) = true := by
  have := PySem.W.ke_shaped_ints ns
  unfold SeqAt.shaped at this ⊢
  exact this
theorem small_tx (i : Int) (h : -12 ≤ i ∧ i ≤ 12) : i.natAbs.log2 < 1920 := Nat.lt_of_le_of_lt (Nat.log2_le_self _) (by omega)
theorem txt_len {i : Int} (h : -12 ≤ i ∧ i ≤ 12) : (txt i).length ≤ 3 := by
  obtain ⟨_, _, _, l, _⟩ := okW_read (txt_at h).1
  exact l
theorem sum_len : ∀ (ns : List Int), (∀ z ∈ ns, -12 ≤ z ∧ z ≤ 12) → ((ns.map txt).map (·.length)).sum ≤ 3 * ns.length
  | [], _ => Nat.le_refl _
  | n :: r, h => by
    have a := txt_len (h n List.mem_cons_self)
    have b := sum_len r fun z hz => h z (List.mem_cons_of_mem _ hz)
    simp only [List.map_cons, List.sum_cons, List.length_cons]
    omega
/-- of a list of numbers their texts -/
theorem txt_take {ns : List Int} {j : Nat} (hj : j < ns.length) : ((ns.map txt).take (j + 1)).map V.str = ((ns.map txt).take j).map V.str ++ [.str (txt ns[j])] := by
  rw [List.take_add_one, List.getElem?_map, List.getElem?_eq_getElem hj, List.map_append]
  rfl
section
variable {P : Program} {w : World} {K : PySem.W.Frag} {mg : Str → Option Value} {base : Heap} {C CP CR CS CT CBT : Addr}
def spStr (CS : Addr) : Sp := fun vs H Q _ => ∃ (x : Addr) (ns : List Int), vs = [.ref x] ∧ ScaAt CS H x ns ∧ ScaOk ns ∧ ∀ H', Same H H' → Q (.str (textN ns)) H'
abbrev sStr : Stmt := inClass (top 25) 24
theorem scStr : FnScope ["self", "number"] ["self"] (defScope sStr) := ⟨rfl, rfl, rfl, by decide +kernel, rfl, by decide +kernel, by decide +kernel⟩
theorem ok_str {f : Addr} {fd : FuncData} (F : Fun K "__str__" "Scale.__str__" sStr f fd) (T : Bl mg) (zs : mg "str" = none) (T_Scale : ScaT K mg CS) : FnOk P w K mg base CX0 1 f fd ["self"] (spStr CS) := by
  refine F.ok scStr (fun vs H Q E h => ?_) (fun cdv A outer s H vs Q E hr h => ?_)
  · obtain ⟨x, ns, rfl, _⟩ := h
    rfl
  · obtain ⟨x, ns, rfl, ha, ok, q⟩ := h
    have nd := scStr.nd
    refine ⟨_, pss_cons (ps_if (pt_cmpR op_eq (pe_callB call_len (by rfl) T.len (by decide +kernel) (pa_cons (pe_fld (pv 0) rfl) pa_nil)) pe_int (nomark _)) (pss_one (ps_ret pe_str)) pss_nil)
      (pss_one (ps_ret (pe_join pe_str (pe_lc (own := [("number", 1)]) (g := gName 1) (tt := tYes) rfl nd (pi_tup (pe_fld (pv 0) rfl)) (blkOk_by (N := ["self", "number"]) (sc := defScope (inClass (top 25) 24)) (by decide +kernel)) (fun _ _ _ _ _ => pg_name (i := 1) nd rfl (Or.inl rfl)) (fun _ _ _ _ _ => pts_nil) (fun _ _ _ _ _ => (pe_callTy call_str_int (by rfl) zs (by decide +kernel) (pa_cons (pv 1) pa_nil))))))), ?_⟩
    have nl : (ns.map V.int).length = ns.length := List.length_map _
    have e16 : (64 : Nat) < sizeLine := by decide
    have n16 := ok.ln
    obtain ⟨dx, o, hx, ho⟩ := ha
    refine ⟨_, rfl, _, CS, dx, _, _, rfl, hx, T_Scale.cl, T_Scale.nN, scaF_num _, _, _, rfl, .inr ⟨_, SqT.of ho, rfl⟩, rfl, _, rfl, ?_⟩
    rw [nl]
    by_cases h0 : ns = []
    · refine iteTb (decide_eq_true (by rw [h0]; rfl)) ?_
      have := q H (Same.refl _)
      unfold textN at this
      rw [if_pos h0] at this
      exact this
    refine iteFb (decide_eq_false (fun z => h0 (List.length_eq_zero_iff.mp (by injection z with z; omega)))) ?_
    refine ⟨⟨_, rfl⟩, _, rfl, _, CS, dx, _, _, rfl, hx, T_Scale.cl, T_Scale.nN, scaF_num _, o, rfl, ⟨_, SqT.of ho⟩, fun D hD => ?_⟩
    refine lc_it (walk_tup (K := K) (a := o) (xs := ns.map V.int)) (fun j H' => H' D = some (.lst (((ns.map txt).take j).map V.str)) ∧ Same H H') ⟨upd_same, same_new hD⟩ (fun j H' _ h => SqT.of (h.2 _ _ ho)) ?_ ?_
    · rintro j y H1 H2 hj ⟨hg, sg⟩ ⟨rfl, hy⟩
      rw [nl] at hj
      rw [List.getElem?_map, List.getElem?_eq_getElem hj] at hy
      cases hy
      have hb := ok.bd _ (List.getElem_mem hj)
      refine ⟨rfl, _, rfl, ns[j], rfl, small_tx ns[j] hb, _, hg, by rw [List.length_map, List.length_take, List.length_map]; omega, ?_, fun z u e' => ?_⟩
      · rw [upd_same, txt_take hj]
      · rw [upd_ne (fun z => by rw [z, hD] at e'; cases e')]
        exact sg _ _ e'
    rintro H1 ⟨hg, sg⟩
    rw [nl, show ns.length = (ns.map txt).length by rw [List.length_map], List.take_length] at hg
    refine ⟨" ", D, ns.map txt, rfl, rfl, .inl (SqL.of hg), ?_, ?_⟩
    · have := sum_len ns ok.bd
      rw [List.length_map]
      show _ + ns.length * 1 ≤ _
      omega
    · have := q H1 sg
      unfold textN at this
      rw [if_neg h0] at this
      exact this
def spSEq (CS : Addr) : Sp := fun vs H Q _ => ∃ (x y : Addr) (ns ms : List Int), vs = [.ref x, .ref y] ∧ ScaAt CS H x ns ∧ ScaAt CS H y ms ∧ ns.length ≤ 16 ∧ ms.length ≤ 16 ∧ Q (.bl (decide (ns = ms))) H
abbrev sSEq : Stmt := inClass (top 25) 23
theorem scSEq : FnScope ["self", "other"] ["self", "other"] (defScope sSEq) := ⟨rfl, rfl, rfl, by decide +kernel, rfl, by decide +kernel, by decide +kernel⟩
theorem ok_seq {f : Addr} {fd : FuncData} (F : Fun K "__eq__" "Scale.__eq__" sSEq f fd) (T : Bl mg) (T_Scale : ScaT K mg CS) : FnOk P w K mg base CX0 1 f fd ["self", "other"] (spSEq CS) := by
  refine F.ok scSEq (fun vs H Q E h => ?_) (fun cdv A outer s H vs Q E hr h => ?_)
  · obtain ⟨x, y, ns, ms, rfl, _⟩ := h
    rfl
  · obtain ⟨x, y, ns, ms, rfl, ⟨dx, o, hx, ho⟩, ⟨dy, p, hy, hp⟩, n16, m16, q⟩ := h
    have nd := scSEq.nd
    refine ⟨_, pss_cons (ps_if (pt_not (pt_val (pe_callB call_isi (by rfl) T.isinstance (by decide +kernel) (pa_cons (pv 1) (pa_cons (Own.pe_gref (by rfl) T_Scale.mgC) pa_nil))))) (pss_one (ps_ret pe_bl)) pss_nil)
      (pss_one (ps_ret (pe_cmpR (op_eqD hr.units) (pe_fld (pv 0) rfl) (pe_fld (pv 1) rfl) (nomark _)))), ?_⟩
    refine ⟨_, rfl, _, _, _, _, true, rfl, .own _, T_Scale.ty hy, T_Scale.kS, _, rfl, iteF ?_⟩
    refine ⟨_, rfl, _, CS, dx, _, _, rfl, hx, T_Scale.cl, T_Scale.nN, scaF_num _, _, rfl, _, CS, dy, _, _, rfl, hy, T_Scale.cl, T_Scale.nN, scaF_num _, ?_⟩
    refine ⟨.tuple (ns.map PyData.int), .tuple (ms.map PyData.int), .tup (SqT.of ho) (dpInts ns), .tup (SqT.of hp) (dpInts ms), shTupInts ns, shTupInts ms, ?_⟩
    rw [eqvTupInts]
    exact q
end
end Toy
set_option maxRecDepth 100000
set_option maxHeartbeats 4000000
namespace Own
open PySem PySem.Spec PyProof.Rows L2
open LamX (TabB)
section
variable {P : Program} {w : World} {K : PySem.W.Frag} {a : Addr} {cs : List (Addr × Addr)} {h : Heap} {vs : List Value} {ns : List Int} {H : Hp}
theorem Ent.none (T : Ent P w K a cs h ns H) (ha : h.get? a = some { cls := .type "list", data := .seq vs.toArray }) {b : Addr} {o : Obj} (e : h.get? b = some o) (h1 : ∀ vs n, o.data ≠ .seq vs n) (h2 : o.data ≠ .fields #[]) : H b = none := by
  cases q : H b with
  | none => rfl
  | some u =>
    rcases T.only b u q with ⟨rfl, _⟩ | ⟨_, _, _, rfl⟩
    · have z : h.get? b = some { cls := .none, data := .fields #[] } := T.ok b _ q
      rw [e] at z
      cases z
      exact absurd rfl h2
    · rw [ha] at e
      cases e
      exact absurd rfl (h1 _ _)
theorem Ent.dict (T : Ent P w K a cs h ns H) (ha : h.get? a = some { cls := .type "list", data := .seq vs.toArray }) {b : Addr} {o : Obj} {es : Array DictEntry} {n : Nat} (e : h.get? b = some o) (d : o.data = .dict es n) : H b = .none := T.none ha e (fun vs n z => nomatch d.symm.trans z) fun z => nomatch d.symm.trans z
theorem Ent.nsp (T : Ent P w K a cs h ns H) (ha : h.get? a = some { cls := .type "list", data := .seq vs.toArray }) {b : Addr} {m : Str → Option Value} (x : h.Ns b m) : (hidT h H).Ns b m := by
  obtain ⟨o, es, n, e, d, r⟩ := x
  exact ⟨o, es, n, hidT_get e (T.dict ha e d), d, r⟩
theorem Ent.kin (T : Ent P w K a cs h ns H) (KX : K.In h) : K.In (hidT h H) := fun b o e => hidT_get (KX b o e) (by
  cases q : H b with
  | none => rfl
  | some u => rw [T.out b u q] at e; cases e)
theorem Ent.tabB (T : Ent P w K a cs h ns H) (ha : h.get? a = some { cls := .type "list", data := .seq vs.toArray }) {mg : Str → Option Value} (hg : h.Ns mainGlobals mg) {c p : Addr} (hP : h.get? p = some { cls := .none, data := .fields #[] }) (C : PySem.W.CodeHd h c p)
    (hbm : ∃ (bm : Addr) (ob : Obj), mg "__builtins__" = some (.ref bm) ∧ bm ≠ builtinsNs ∧ h.get? bm = some ob ∧ ob.cls = .type "module" ∧ ob.dict = some builtinsNs ∧ ob.data = .plain) : TabB (hidT h H) mg c p := by
  obtain ⟨og, es, n, eg, dg, _⟩ := hg
  refine ⟨?_, ?_, fun z => ?_⟩
  · obtain ⟨o, us, file, tf, flags, tg, inF, text, tt, e, r1, r2, r3, r⟩ := C
    refine ⟨o, us, file, tf, flags, tg, inF, text, tt, hidT_get e (T.none ha e (fun _ _ z => nomatch r2.symm.trans z) fun z => ?_), r1, r2, r3, r⟩
    have z2 := r2.symm.trans z
    cases z2
    simp at r3
  · obtain ⟨bm, ob, b1, b2, b3, b4, b5, b6⟩ := hbm
    refine ⟨bm, ob, b1, b2, fun z => ?_, fun z => ?_, hidT_get b3 (T.none ha b3 (fun _ _ z => nomatch b6.symm.trans z) fun z => nomatch b6.symm.trans z), b4, b5, b6⟩
    · rw [z, eg] at b3
      cases b3
      exact nomatch dg.symm.trans b6
    · rw [z, hP] at b3
      cases b3
      exact nomatch b6
  · rw [z, hP] at eg
    cases eg
    exact nomatch dg
/-- from the law's promise, at the heap behind the top -/
theorem law_callG {mg mb : Str → Option Value} {k : Nat} {fa : Addr} {fd : FuncData} {x : Str} {sp : Sp} {s : Shared} (KX : K.In s.heap) (hg : s.heap.Ns mainGlobals mg) (hb : s.heap.Ns builtinsNs mb) (hbb : ∀ x : Str, x ≠ "__name__" → mb x = bootBuiltins x) (hlim : s.heap.NoLimit)
    (hgn : s.gens = #[]) (hT : ∀ p ∈ cs, s.heap.get? p.2 = some { cls := .none, data := .fields #[] }) (nT : ∀ p ∈ cs, K.lookup p.2 = none) (C : ∀ p ∈ cs, PySem.W.CodeHd s.heap p.1 p.2)
    (hbm : ∃ (bm : Addr) (ob : Obj), mg "__builtins__" = some (.ref bm) ∧ bm ≠ builtinsNs ∧ s.heap.get? bm = some ob ∧ ob.cls = .type "module" ∧ ob.dict = some builtinsNs ∧ ob.data = .plain)
    (ha : s.heap.get? a = some { cls := .type "list", data := .seq vs.toArray }) (hi : IntsAre vs ns) (hl : ns.length ≤ sizeLine) (hr : Room k callerA)
    (F : ∀ base : Heap, K.In base → base.Ns mainGlobals mg → (∀ p ∈ cs, TabB base mg p.1 p.2) → FnG P w K mg base CX0 k fa fd [x] sp) (hbind : ∀ (s : Shared) (u : Value), BindsTo s fd ⟨[u], []⟩ [(x, u)])
    (hsp : ∀ H : Hp, (∀ p ∈ cs, H p.2 = some (.tbl #[])) → SqL K H a (ns.map V.int) → sp [.ref a] H (fun v _ => v = .bl true) fun _ _ _ => False) :
    codeAny (model P w) callerA (.call (.ref fa) ⟨[.ref a], []⟩) (fun r s' => r = .ok (.ret (.bool true)) ∧ OldK s.heap s'.heap ∧ s'.os = s.os ∧ AllBare s'.gens) s := by
  obtain ⟨H, T⟩ := ent (P := P) (w := w) KX hT nT ha hi hl
  have KB := T.kin KX
  have GB := T.nsp ha hg
  have TB : ∀ p ∈ cs, TabB (hidT s.heap H) mg p.1 p.2 := fun p hp => T.tabB ha hg (hT p hp) (C p hp) hbm
  have M : L2.Mod K mg (hidT s.heap H) := ⟨KB, GB, ⟨mb, T.nsp ha hb, hbb⟩, by obtain ⟨mc, q1, q2⟩ := hlim; exact ⟨mc, T.nsp ha q1, q2⟩⟩
  have e0 : Env0 P w K mg (hidT s.heap H) callerA [] s H := { frames := rfl, mod := M, bs := fun b o e => of_hidT e, bsz := Nat.le_of_eq (hidT_size _ _), funs := trivial, frf := fun b m => absurd (show b ∈ ([] : List Addr) from m) List.not_mem_nil, hok := T.ok, bare := .of_eq hgn }
  refine codeAny_mono ((F _ KB GB TB).run callerA [] s H ⟨[.ref a], []⟩ [.ref a] [.ref a] _ _ rfl hr e0 (hbind s (.ref a)) (.cons rfl .nil) (hsp H T.tab T.scr)) fun r s' q => ?_
  match r, q with
  | .error e, q => exact False.elim q
  | .ok .next, q => exact False.elim q
  | .ok .brk, q => exact False.elim q
  | .ok .cont, q => exact False.elim q
  | .ok (.ret u), q =>
    obtain ⟨v, H', os, bare, un, ok', rv, qv⟩ := q
    obtain rfl : v = .bl true := qv
    obtain rfl : u = Value.bool true := rv
    have old : ∀ b o, s.heap.get? b = some o → (s'.heap.get? b = some o ∧ b ∉ cs.map (·.2)) ∨ (∃ p ∈ cs, p.2 = b ∧ o = { cls := .none, data := .fields #[] } ∧ ∃ more : Array Value, s'.heap.get? b = some { cls := .none, data := .fields more }) := fun b o e => by
      by_cases m : b ∈ cs.map (·.2)
      · obtain ⟨p, hp, rfl⟩ := List.mem_map.mp m
        obtain ⟨more, z⟩ := un.tbls p.2 #[] (T.tab p hp)
        rw [hT p hp] at e
        cases e
        exact .inr ⟨p, hp, rfl, rfl, _, ok' p.2 _ z⟩
      · refine .inl ⟨?_, m⟩
        cases q : H b with
        | none => exact un.keep b o e q (fun z => nomatch (show b ∈ ([] : List Addr) from z)) (fun z => nomatch (show b ∈ ([] : List Addr) from z))
        | some u =>
          rcases T.only b u q with ⟨_, m2⟩ | ⟨xs, ob, rfl, rfl⟩
          · exact absurd m2 m
          · have z1 := (T.ok _ _ q).1
            have z2 := (ok' _ _ (un.frzs _ ob _ q)).1
            rw [e] at z1
            cases z1
            exact z2
    refine ⟨rfl, ⟨fun b o e => ?_, fun b o e => ?_⟩, os, bare⟩
    · rcases old b o e with ⟨z, _⟩ | ⟨p, hp, rfl, rfl, more, z⟩
      · exact .inl z
      · exact .inr (.inl ⟨((C p hp).tab (hT p hp)).isCodeTable, rfl, #[], more, rfl, by rw [Array.empty_append]; exact z⟩)
    · rcases old b o e with ⟨z, _⟩ | ⟨p, hp, rfl, rfl, more, z⟩
      · exact ⟨_, z⟩
      · exact ⟨_, z⟩
end
/-- what is known of the law at the head's heap h; tabs: code objects and tables of the defs that make lambdas -/
structure LawG (l : PySem.W.OpenLaw) (w : World) (K : PySem.W.Frag) (k n : Nat) (x : Str) (mg : Str → Option Value) (fa : Addr) (h : Heap) (tabs : List (Addr × Addr)) : Prop where
  at_ : ∀ p ∈ tabs, PySem.W.CodeHd h p.1 p.2 ∧ h.get? p.2 = some (PySem.W.tabObj #[])
  out : ∀ p ∈ tabs, K.lookup p.2 = none
  pr : ∃ (fd : FuncData) (sp : Sp), (∀ (s : Shared) (u : Value), BindsTo s fd ⟨[u], []⟩ [(x, u)]) ∧
    (∀ (H : Hp) (a : Addr) (ns : List Int), ns.length ≤ n → (∀ p ∈ tabs, H p.2 = some (.tbl #[])) → SqL K H a (ns.map V.int) → sp [.ref a] H (fun v _ => v = .bl true) fun _ _ _ => False) ∧
    ∀ base : Heap, K.In base → base.Ns mainGlobals mg → (∀ p ∈ tabs, TabB base mg p.1 p.2) → FnG l.prog w K mg base CX0 k fa fd [x] sp
theorem walk_ofG {l : PySem.W.OpenLaw} {n k : Nat} {q : Program} {loose : List Str} {XP : (Str → Option Value) → Heap → Prop} {YP : World → Heap → Prop} {d : DefRec} {K : Params → PySem.W.Frag} {x : Str}
    (hn : l.most = some n) (hn2 : n ≤ sizeLine) (hdf : d.params.defaults = []) (hr : Room k callerA) (hY : ∀ (w : World) (h : Heap), YP w h → (K w.params).In h)
    (F : ∀ (w : World) (mg : Str → Option Value) (fa : Addr) (h : Heap), YP w h → (K w.params).In h → h.Ns mainGlobals mg → mg d.name = some (.ref fa) → ∃ tabs, LawG l w (K w.params) k n x mg fa h tabs) :
    PySem.W.WalkO q loose XP YP l.row.toRowW d [] (fun f vs => PySem.call f vs) := by
  refine Att.attach_call hn hdf fun w s₀ s₁ mg mb fa o pm cd doc a vs ns G Y ho hd hcd hmg hobj hints hlen hg => ?_
  have KX := hY w _ Y
  obtain ⟨tabs, L⟩ := F w mg fa _ Y KX G.T.g hmg
  obtain ⟨fd, sp, hb, hsp, hF⟩ := L.pr
  exact law_callG KX G.T.g G.T.b G.T.builtins G.T.nolimit hg (fun p hp => (L.at_ p hp).2) L.out (fun p hp => (L.at_ p hp).1) G.T.bmain hobj hints (Nat.le_trans hlen hn2) hr hF hb fun H h1 h2 => hsp H a ns hlen h1 h2
end Own
set_option maxRecDepth 100000
set_option maxHeartbeats 4000000
/-! xs[lo:hi:st] of a list; len(x) by an own __len__. -/
namespace Own
open PySem PySem.Spec PyProof.Rows L2
/-- the items at these places -/
def atAll {α : Type} (xs : List α) (ix : List Nat) : List α := ix.filterMap fun i => xs[i]?
theorem atAll_vals {xs : List V} {us : List Value} (r : Vals xs us) : ∀ ix : List Nat, Vals (atAll xs ix) (atAll us ix)
  | [] => .nil
  | i :: ix => by
    have h := atAll_vals r ix
    cases e : xs[i]? with
    | none =>
      have e2 := r.none_of e
      have a1 : atAll xs (i :: ix) = atAll xs ix := List.filterMap_cons_none e
      have a2 : atAll us (i :: ix) = atAll us ix := List.filterMap_cons_none e2
      rw [a1, a2]
      exact h
    | some x =>
      obtain ⟨u, e2, ru⟩ := r.get e
      have a1 : atAll xs (i :: ix) = x :: atAll xs ix := List.filterMap_cons_some e
      have a2 : atAll us (i :: ix) = u :: atAll us ix := List.filterMap_cons_some e2
      rw [a1, a2]
      exact .cons ru h
/-- the places of a slice -/
def slIx (n : Nat) (lo hi st : Option Int) : List Nat := sliceRange (sliceBounds lo hi st n).1 (sliceBounds lo hi st n).2.1 (sliceBounds lo hi st n).2.2
def tSt (K : PySem.W.Frag) (te : TE) (tl th ts : TO) : TE := fun σ H Q => te σ H fun x H1 => tl σ H1 fun l H2 => th σ H2 fun u H3 => ts σ H3 fun c H4 =>
  ∃ a xs, x = .ref a ∧ SqL K H4 a xs ∧ c ≠ some 0 ∧ (slIx xs.length l u c).length ≤ sizeLine ∧ ∀ p, H4 p = none → Q (.ref p) (upd H4 p (.lst (atAll xs (slIx xs.length l u c))))
section
variable {X : Cx} {e : Expr} {te : TE} {lo hi : Option Expr} {tl th ts : TO} {pos p2 : Pos}
theorem pe_step {ste : Expr} (he : PE X e te) (hl : PO X lo tl) (hu : PO X hi th) (hs : PO X (some ste) ts) : PE X (.Subscript e (.Slice lo hi (some ste) p2) pos) (tSt X.K te tl th ts) := by
  refine ⟨fun pins s σ H Q I h => ?_⟩
  refine Subscript_ (thn (he.run pins s σ H _ I h) fun v s1 hv => ?_)
  obtain ⟨x, H1, I1, r1, q1⟩ := hv
  refine wpAny_Slice (thn (hl.run pins s1 σ H1 _ I1 q1) fun vl s2 h2 => ?_)
  obtain ⟨l, H2, I2, pl, q2⟩ := h2
  refine thn (hu.run pins s2 σ H2 _ I2 q2) fun vu s3 h3 => ?_
  obtain ⟨u, H3, I3, pu, q3⟩ := h3
  refine thn (hs.run pins s3 σ H3 _ I3 q3) fun vs s4 h4 => ?_
  obtain ⟨c, H4, I4, pc, a, xs, rfl, hx, hc, hz, q⟩ := h4
  obtain rfl : v = Value.ref a := r1
  have I5 : Inv X pins σ H4 { s4 with heap := s4.heap.push { cls := .type "slice", data := .fields #[vl, vu, vs] } } := I4.kept (t' := s4.toks) fun b ob q => Heap.get?_push_of_some _ q
  generalize hs5 : ({ s4 with heap := s4.heap.push { cls := .type "slice", data := .fields #[vl, vu, vs] } } : Shared) = s5 at I5
  have hsl : s5.heap.IsSliceOf s4.heap.objs.size vl vu vs := by rw [← hs5]; exact Heap.IsSliceOf.new ..
  obtain ⟨its, r, ht, hzz⟩ := I5.list hx
  have hlen := r.length
  refine tail_any (ops := [.ref a, .ref s4.heap.objs.size]) ht.isList.typeIs slot_list_getitem.lookup ?_ (by with_unfolding_all rfl)
  refine wpAny_getItem_list_slice ht.isList hsl pl pu pc hc ?_ (by rw [List.size_toArray]; omega)
  have e : slicePick its.toArray l u c = (atAll its (slIx xs.length l u c)).toArray := by
    show (List.filterMap (fun i => its.toArray[i]?) (slIx its.toArray.size l u c)).toArray = _
    rw [List.size_toArray, ← hlen]
    congr 1
    unfold atAll
    congr 1
    funext i
    exact List.getElem?_toArray ..
  rw [e]
  refine ⟨.ref s5.heap.objs.size, _, I5.laid (t' := s5.toks) (o := .lst (atAll xs (slIx xs.length l u c))) (fun b ob q => Heap.get?_push_of_some _ q) (Nat.le_refl _) ?_, rfl, q _ (I5.hok.fresh (Nat.le_refl _))⟩
  exact ⟨Nat.le_trans (List.length_filterMap_le ..) hz, _, 0, atAll_vals r _, Heap.get?_push_size _ rfl⟩
/-- every second item from the first on -/
def evens {α : Type} : List α → List α
  | [] => []
  | [x] => [x]
  | x :: _ :: r => x :: evens r
theorem evens_len {α : Type} : ∀ xs : List α, (evens xs).length = (xs.length + 1) / 2
  | [] => by simp [evens]
  | [_] => by simp [evens]
  | _ :: _ :: r => by
    show (evens r).length + 1 = (r.length + 1 + 1 + 1) / 2
    rw [evens_len r]
    omega
theorem ix_even (n : Nat) : slIx n none none (some 2) = (List.range ((n + 1) / 2)).map fun k => 2 * k := by
  have h1 : sliceBounds none none (some 2) n = (0, (n : Int), 2) := rfl
  unfold slIx
  rw [h1]
  show sliceRange 0 (n : Int) 2 = _
  unfold sliceRange
  have e : (if (2 : Int) > 0 then (if (0 : Int) < (n : Int) then ((n : Int) - 0 + 2 - 1) / 2 else 0) else (if (0 : Int) > (n : Int) then ((0 : Int) - n - 2 - 1) / (-2) else 0)) = (((n + 1) / 2 : Nat) : Int) := by
    rw [if_pos (by decide)]
    by_cases h : (0 : Int) < (n : Int)
    · rw [if_pos h]; omega
    · rw [if_neg h]; omega
  simp only [e, Int.toNat_natCast]
  apply List.map_congr_left
  intro k _
  omega
theorem at_even {α : Type} : ∀ xs : List α, atAll xs ((List.range ((xs.length + 1) / 2)).map fun k => 2 * k) = evens xs
  | [] => by simp [atAll, evens]
  | [x] => by
    have e : (([x] : List α).length + 1) / 2 = 1 := by simp
    rw [e]
    rfl
  | x :: y :: r => by
    have h := at_even r
    have e : (r.length + 1 + 1 + 1) / 2 = (r.length + 1) / 2 + 1 := by omega
    show atAll (x :: y :: r) ((List.range ((r.length + 1 + 1 + 1) / 2)).map fun k => 2 * k) = x :: evens r
    rw [e, List.range_succ_eq_map, List.map_cons, List.map_map, ← h]
    have a1 : ∀ L : List Nat, atAll (x :: y :: r) (2 * 0 :: L) = x :: atAll (x :: y :: r) L := fun L => List.filterMap_cons_some rfl
    rw [a1]
    congr 1
    unfold atAll
    rw [List.filterMap_map, List.filterMap_map]
    congr 1
theorem st_even {α : Type} (xs : List α) : atAll xs (slIx xs.length none none (some 2)) = evens xs := by rw [ix_even, at_even]
theorem st_even_len (n : Nat) : (slIx n none none (some 2)).length ≤ n := by
  rw [ix_even, List.length_map, List.length_range]
  omega
end
section
variable {X : Cx} {CX : CXT} {k : Nat} {C f : Addr} {fd : FuncData} {ps : List Str} {sp : Sp} {E : XK}
/-- len of an instance whose class has __len__ -/
def rLenO (C : Addr) (sp : Sp) (E : XK) : List V → Hp → VK → Prop := fun xs H Q => ∃ a dx fs, xs = [.ref a] ∧ H a = some (.ins C dx fs) ∧ sp [.ref a] H (fun v H' => ∃ n : Nat, v = .int n ∧ n < 2 ^ 62 ∧ Q v H') E
theorem call_ownLen (F : FnOk X.prog X.w X.K X.mg X.base CX k f fd ps sp) (hr : Room (k + 1) X.A) (hs : PySem.W.findIn X.K (.ref C) "__len__" = some (some (.ref f))) (hf : PySem.W.isFn X.K (.ref f) = true) (hb : Binds X.K fd ps []) (hx : Passes CX X E) :
    CallR X (.builtin "len") (rLenO C sp E) := by
  intro pins s σ H xs us Q I r h
  obtain ⟨a, dx, fs, rfl, ha, hsp⟩ := h
  obtain ⟨u, rfl, ru⟩ := vals1 r
  obtain rfl : u = Value.ref a := ru
  obtain ⟨mA, J, _⟩ := ins_get I.hok ha
  obtain ⟨od, J, _⟩ := J.look
  refine Calls.call_function_entry kind_len plain_len entry_len (args_len1 _) ?_
  unfold Builtin.«len»
  refine wpAny_bind (m := oneArg "len" _) (wpAny_pure (wpAny_bind (m := callSpecial? (.ref a) (Str.ofString "__len__")) ?_))
  refine PySem.W.special_fn I.kIn J hs (beq_iff_eq.mp hf) (wpAny_mono (run_fnA F hr.in1 rfl hb hx I (vs := [.ref a]) (.cons rfl .nil) hsp) (fun w s' q => ?_) fun _ _ e => e)
  obtain ⟨v', H', I', rv, n, rfl, hn, q⟩ := q
  obtain ⟨t, rfl⟩ := rv
  refine wpAny_bind (wpAny_holding (wpAny_pure (wpAny_bind (wpAny_letGo ?_))))
  have n0 : ¬ ((n : Int) < 0) := by omega
  have n1 : ¬ ((n : Int) ≥ 2 ^ 63) := by omega
  simp only [if_neg n0, if_neg n1]
  first
    | exact wpAny_bind (wpAny_mkInt (wpAny_pure ⟨_, rfl, .int n, H', I'.tok _, ⟨_, rfl⟩, q⟩))
    | (show wpAny _ _ (if (n : Int) < 0 then _ else _) _ _ _
       rw [if_neg n0]
       show wpAny _ _ (if (n : Int) ≥ 2 ^ 63 then _ else _) _ _ _
       rw [if_neg n1]
       exact wpAny_bind (wpAny_mkInt (wpAny_pure ⟨_, rfl, .int n, H', I'.tok _, ⟨_, rfl⟩, q⟩)))
end
end Own
set_option maxRecDepth 100000
set_option maxHeartbeats 4000000
/-! x != y by an own __eq__: any right side; ~x by an own __invert__. -/
namespace Own
open PySem PySem.Spec PyProof.Rows L2
open AutoSeq1 (wpAny_loadPart')
/-- the left one is an instance with its own __eq__, and no own __ne__ -/
def rOwnN (K : PySem.W.Frag) (C : Addr) (sp : Sp) (E : XK) : R2 := fun x y H Q => ∃ a dx fs t, x = .ref a ∧ H a = some (.ins C dx fs) ∧ TyX K H y t ∧ PySem.W.notFirst K C t = true ∧ sp [x, y] H (fun v H' => ∃ b, v = .bl b ∧ Q (.bl (!b)) H') E
section
variable {X : Cx} {CX : CXT} {k : Nat} {C f : Addr} {fd : FuncData} {ps : List Str} {sp : Sp} {E : XK} {K : PySem.W.Frag}
theorem op_neK (e : X.K = K) (F : FnOk X.prog X.w K X.mg X.base CX k f fd ps sp) (hr : Room (k + 1) X.A) (hs : PySem.W.findIn K (.ref C) "__eq__" = some (some (.ref f))) (hn : PySem.W.findIn K (.ref C) "__ne__" = some (some (.builtin "object.__ne__")))
    (hO : PySem.W.subIn K (.ref C) (.type "object") = some true) (hf : PySem.W.isFn K (.ref f) = true) (hb : Binds K fd ps []) (hx : Passes CX X E) : OpR X (compareOp .NotEq) (rOwnN K C sp E) := by
  subst e
  intro pins s σ H x y u v Q I rx ry h
  obtain ⟨a, dx, fs, t0, rfl, ha, ty, nf, hsp⟩ := h
  cases rx
  have one := try_ne F hr hs hn hO hf hb hx I ha ry hsp
  obtain ⟨mA, J, _⟩ := ins_get I.hok ha
  obtain ⟨od, J, _⟩ := J.look
  have KX := I.kIn
  have go : ∀ t : Value, PySem.W.Looks (model X.prog X.w) s.heap (typeOf v) t → PySem.W.notFirst X.K C t = true → wpAny (model X.prog X.w) X.A (richCompare .NotEq (.ref a) v) (EP X pins σ Q) X.xe s := fun t hT hn => by
    unfold richCompare
    simp only [oneThing_ref, cmpInfo_NotEq]
    refine wpAny_holding (wpAny_bind (wpAny_cRoomFor hr.units0 ?_))
    refine wpAny_bind (J.type.here (wpAny_bind (hT.here ?_)))
    split
    · rename_i q
      have e : PySem.W.subIn X.K t (.ref C) = some false := by
        rcases Bool.or_eq_true_iff.mp hn with e | e
        · rw [beq_iff_eq.mp e] at q; simp at q
        · exact beq_iff_eq.mp e
      refine wpAny_bind ((PySem.W.looks_subIn KX e).here ?_)
      simp only [Bool.false_eq_true, if_false]
      refine wpAny_bind (wpAny_mono one (fun r s' z => ?_) fun _ _ e => e)
      obtain ⟨v, rfl, hq⟩ := z
      exact wpAny_pure hq
    · refine wpAny_bind (wpAny_pure ?_)
      simp only [Bool.false_eq_true, if_false]
      refine wpAny_bind (wpAny_mono one (fun r s' z => ?_) fun _ _ e => e)
      obtain ⟨v, rfl, hq⟩ := z
      exact wpAny_pure hq
  show wpAny (model X.prog X.w) X.A (richCompare .NotEq (.ref a) v) (EP X pins σ Q) X.xe s
  obtain ⟨Pk, Z, pk, _⟩ := kit_of I ry ty
  exact go t0 (Z.ty _ _ I.kIn pk) nf
theorem op_ownK {op : CmpOp} (e : X.K = K) (F : FnOk X.prog X.w K X.mg X.base CX k f fd ps sp) (hr : Room k X.A) (hs : PySem.W.findIn K (.ref C) (cmpInfo op).2.1 = some (some (.ref f))) (hf : PySem.W.isFn K (.ref f) = true) (hb : Binds K fd ps []) (hx : Passes CX X E)
    (hop : ∀ a b, compareOp op a b = richCompare op a b := by intros; rfl) : OpR X (compareOp op) (rOwnC K C sp E) := by
  subst e
  exact op_ownC F hr hs hf hb hx hop
theorem un_ownInv (F : FnOk X.prog X.w X.K X.mg X.base CX k f fd ps sp) (hr : Room k X.A) (hs : PySem.W.findIn X.K (.ref C) "__invert__" = some (some (.ref f))) (hf : PySem.W.isFn X.K (.ref f) = true) (hb : Binds X.K fd ps []) (hx : Passes CX X E) :
    UnR X (unaryOp .Invert) (rNeg C sp E) := by
  intro pins s σ H x v Q I rx h
  obtain ⟨a, dx, fs, rfl, ha, hsp⟩ := h
  cases rx
  obtain ⟨mA, J, _⟩ := ins_get I.hok ha
  obtain ⟨od, J, _⟩ := J.look
  obtain ⟨m, hF⟩ := I.fr
  exact PySem.W.ksp_inv hF I.ok.mod.kin J hs hf (run_fn F hr hb .nil hx I (vs := [.ref a]) (.cons rfl .nil) hsp)
end
/-- a static method called with nothing -/
def tSM0 (C : Addr) (sp : Sp) (E : XK) (ta : TE) : TE := fun σ H Q => ta σ H fun x H1 => x = .ref C ∧ sp [] H1 Q E
section
variable {X : Cx} {CX : CXT} {k : Nat} {C p f : Addr} {sp : Sp} {E : XK} {o : Expr} {m : Str} {pos apos : Pos} {ta : TE} {pl : Sem Bool} {fd : FuncData} {ps : List Str} {mc : Value}
theorem pe_smeth0 (r : ClX.CRead X.K C mc) (c : SMet X.K C mc m p f) (F : FnOk X.prog X.w X.K X.mg X.base CX k f fd ps sp) (hr : Room k X.A) (hb : Binds X.K fd ps []) (hx : Passes CX X E) (he : PE X o ta)
    (ht : eval (.Call (.Attribute o m apos) [] [] pos) X.env = (do
      let ov ← eval o X.env
      standAt apos.atName
      let (f, first) ← holding [ov] (getMethod ov m pl)
      callWith pos f first (backTo pos (starEach [] X.env)) (backToKw pos (keywordEach [] X.env))) := by rfl) :
    PE X (.Call (.Attribute o m apos) [] [] pos) (tSM0 C sp E ta) := by
  refine ⟨fun pins s σ H Q I h => ?_⟩
  refine PySem.W.methodCall_KW (pl := pl) (thn (he.run pins s σ H _ I h) fun u s1 z => ?_) ht
  obtain ⟨x, H1, I1, rx, ex, q⟩ := z
  subst ex
  obtain rfl : u = Value.ref C := rx
  refine PySem.W.method_cls I1.kIn r.ga (getsm_ok I1 r c fun s2 I2 => ?_)
  exact PySem.W.callWith_K0 (first := []) I2.kIn c.kp (run_fn (us := []) F hr hb .nil hx I2 .nil q)
end
end Own
set_option maxRecDepth 100000
set_option maxHeartbeats 4000000
set_option exponentiation.threshold 9000
namespace Toy
open PySem PySem.Spec PyProof.Rows L2
open Rat (divInt)
/-- what is heard: the numbers of a scale in a list; a refusal of a word -/
def TTs (CBT CS : Addr) : (XK → Hp → VK → Prop) → Hp → VK → Prop := fun tl H Q => ∀ post : V → Hp → Prop, (∀ x ns H', ScaAt CS H' x ns → (∀ o l H'', Same H' H'' → H'' o = some (.tup (ns.map V.int)) → H'' l = some (.lst [.ref o]) → Q (.ref l) H'') → post (.ref x) H') →
  tl (fun cls d H' => ∃ dd v, cls = .ref CBT ∧ d = some dd ∧ H' dd = some (.xd [("word", v), ("line", .int 0)]) ∧ ∀ p H'', Same H' H'' → H'' p = some (.tup [.str "word", v]) → Q (.ref p) H'')
    H post
abbrev sHeardS : Stmt := top 37
theorem scHdS : FnScope ["_law_ask", "_law_caught", "error"] ["_law_ask"] (defScope sHeardS) := ⟨rfl, rfl, rfl, by decide +kernel, rfl, by decide +kernel, by decide +kernel⟩
section
variable {P : Program} {w : World} {K : PySem.W.Frag} {mg : Str → Option Value} {base : Heap} {C CP CS CBT : Addr}
theorem heard_s {X : Cx} {g CF f9 pN fN : Addr} {fdN : FuncData} {cdg : Value} {q : Str} (hrX : Room 3 X.A) (T : Bl X.mg) (T_Scale : ScaT X.K X.mg CS) (PM : PropOf X.K CS "numbers" pN fN) (FN : FnOk X.prog X.w X.K X.mg X.base CX0 1 fN fdN ["self"] (spNums CS)) (bN : Binds X.K fdN ["self"] [])
    (TB : ErT X.K X.mg "BadText" "line" CBT f9) (n2 : PySem.W.findIn X.K (.ref CBT) "word" = some none) (XB : Own.KxC X.K CBT) (hF : X.mg "FifthError" = some (.ref CF)) (eB : PySem.W.exmOne X.K (.ref CBT) (.ref CF) = some true) (kBB : PySem.W.kitOne X.K (.ref CBT) (.ref CBT) = some true) :
    LamX.GivesTo X ["_law_ask", "_law_caught", "error"] "_law_heard" (defScope sHeardS) g cdg (defBody sHeardS) "_law_ask" q (TTs CBT CS) := by
  intro f c' s H Q tl act hc h
  have nd := scHdS.nd
  refine ⟨_, pss_cons (ps_set (i := 1) nd rfl (Or.inl rfl) pe_non)
      (pss_cons (Own.ps_try_cl (X := (cxOf C8.CX0 X.prog X.w X.K X.mg X.base ["_law_ask", "_law_caught", "error"] "_law_heard" (defScope sHeardS) g cdg X.A X.stack s H C8.E0).nox) (tb := fun W D σ H => ∃ Ech : XK, (∀ cls d σ' H', Ech cls d H' → W cls d σ' H') ∧ σ[0]? = some (some (.ref f)) ∧ H c' = some (LamX.CodeO c' q) ∧ tl Ech H fun v H1 => ∃ a dx fs, v = .ref a ∧ H1 a = some (.ins CS dx fs) ∧ spNums CS [.ref a] H1 (fun v H' => ([v] : List V).length ≤ sizeLine ∧ ∀ p, H' p = none → D.rt (.ref p) (upd H' p (.lst [v]))) C8.E0) rfl rfl (fun W pn xe tk _ => ⟨fun pins s' σ H' D I h' => let ⟨Ech, hW, h1, h2, h3⟩ := h'; (pss_one (ps_ret (pe_lst (pa_cons (pe_prop (act W pn xe Ech _ _ tk hW) T_Scale.cl PM FN (hrX.deeper _) bN .nil pass0 rfl) pa_nil)))).run pins s' σ H' D I ⟨h1, h2, h3⟩⟩) (Own.cl_keep (i := 2) rfl rfl rfl nd rfl rfl ⟨rfl, by decide, .inl hF⟩ (fun a oe cls d pn hz hf => pss_one (ps_set (i := 1) nd rfl (.inl rfl) (pv 2))) (Own.cl_nil rfl rfl takes0)))
      (pss_one (ps_ret (pe_ifExp (PW.pt (pw_and (pt_val (pe_callB Own.call_isK (by rfl) T.isinstance (by decide +kernel) (pa_cons (pv 1) (pa_cons (Own.pe_gref (by rfl) TB.mgC) pa_nil)))) (pw_and1 (pt_cmpR op_eq (Own.pe_kf (pv 1)) pe_int (nomark _))))) (pe_tup (pa_cons pe_str (pa_cons (Own.pe_kf (pv 1)) pa_nil))) (pe_tup (pa_cons pe_str (pa_cons pe_non pa_nil))))))), ?_⟩
  refine ⟨fun cls d H' => ∃ dd v, cls = .ref CBT ∧ d = some dd ∧ H' dd = some (.xd [("word", v), ("line", .int 0)]) ∧ ∀ p H'', Same H' H'' → H'' p = some (.tup [.str "word", v]) → Q (.ref p) H'', fun cls d σ' H' z => ?_, rfl, hc, ?_⟩
  · obtain ⟨dd, v, rfl, rfl, hd, k⟩ := z
    refine ⟨true, eB, fun _ hl a' na => ?_, (fun z => nomatch z)⟩
    match σ', hl with
    | [v0, v1, v2], _ =>
      have s2 := same_new (o := Own.KeO (.ref CBT) (some dd) a') na
      have hk : (upd H' a' (Own.KeO (.ref CBT) (some dd) a')) a' = some (Own.KeO (.ref CBT) (some dd) a') := upd_same
      have hd2 := s2 _ _ hd
      refine ⟨_, rfl, ?_⟩
      refine ⟨_, rfl, a', CBT, some dd, _, _, true, rfl, hk, .inr ⟨dd, _, rfl, hd2⟩, XB, (fun _ r => r), kBB, _, rfl, iteT ?_⟩
      refine ⟨_, rfl, a', CBT, dd, _, _, rfl, hk, XB.toXfC, TB.no, hd2, rfl, rfl, _, rfl, iteTb rfl ?_⟩
      refine ⟨_, rfl, a', CBT, dd, _, _, rfl, hk, XB.toXfC, n2, hd2, rfl, (by decide : 2 ≤ sizeLine), fun t ht => ?_⟩
      exact k t _ (s2.trans (same_new ht)) upd_same
  · refine h _ fun x ns H' ha k => ?_
    obtain ⟨dx, o, hx, _⟩ := id ha
    exact ⟨x, dx, _, rfl, hx, x, ns, rfl, ha, fun o ho => ⟨(by decide : 1 ≤ sizeLine), fun p hp => k o p _ (same_new hp) (same_new hp _ _ ho) upd_same⟩⟩
end
end Toy
set_option maxRecDepth 100000
set_option maxHeartbeats 4000000
set_option exponentiation.threshold 9000
namespace Toy
open PySem L2
open Rat (divInt)
open TL (tl len_tl mk_tl ext_tl tl_append tl_ofString joinL tl_join join_eq split_join)
def menuK : List (Key × V) := lowers.map fun n => (Sum.inr (txt n), V.int n)
theorem merge_menu : mergeK [] menuK = menuK := by kernel_rfl
theorem menu_at (w : Str) : valV menuK (.inr w) = (numW w).map V.int := by
  unfold valV menuK numW
  rw [List.find?_map, Option.map_map]
  have e : ((fun kv : Key × V => decide (kv.1 = Sum.inr w)) ∘ fun n : Int => ((Sum.inr (txt n) : Key), V.int n)) = fun n => decide (w = txt n) := by
    funext n
    show decide ((Sum.inr (txt n) : Key) = Sum.inr w) = decide (w = txt n)
    rw [decide_eq_decide]
    exact ⟨fun h => (Sum.inr.inj h).symm, fun h => by rw [h]⟩
  rw [e]
  rfl
theorem menu_get {i : Nat} (hi : i < 25) : menuK[i]? = some (.inr (txt (-12 + (i : Nat))), .int (-12 + (i : Nat))) := by
  unfold menuK lowers
  rw [List.getElem?_map, List.getElem?_map, List.getElem?_range hi]
  show some ((Sum.inr (txt ((i : Int) - 12)) : Key), V.int ((i : Int) - 12)) = _
  rw [show ((i : Nat) : Int) - 12 = -12 + (i : Nat) by omega]
section
variable {P : Program} {w : World} {K : PySem.W.Frag} {mg : Str → Option Value} {base : Heap} {C CP CS CBT : Addr}
def spTxt : Sp := fun vs H Q _ => ∃ (l : Addr) (ns : List Int), vs = [.ref l] ∧ H l = some (.lst (ns.map V.int)) ∧ (∀ z ∈ ns, -12 ≤ z ∧ z ≤ 12) ∧ ns.length ≤ 16 ∧ ∀ H', Same H H' → Q (.str (textN ns)) H'
abbrev sTxt : Stmt := top 35
theorem scTxt : FnScope ["_law_row", "_law_one"] ["_law_row"] (defScope sTxt) := ⟨rfl, rfl, rfl, by decide +kernel, rfl, by decide +kernel, by decide +kernel⟩
theorem ok_txt {f : Addr} {fd : FuncData} (F : Fun K "_law_text" "_law_text" sTxt f fd) (T : Bl mg) (zs : mg "str" = none) : FnOk P w K mg base CX0 1 f fd ["_law_row"] spTxt := by
  refine F.ok scTxt (fun vs H Q E h => ?_) (fun cdv A outer s H vs Q E hr h => ?_)
  · obtain ⟨l, ns, rfl, _⟩ := h
    rfl
  · obtain ⟨l, ns, rfl, hl, bd, n16, q⟩ := h
    have nd := scTxt.nd
    refine ⟨_, pss_one (ps_ret (pe_ifExp (pt_cmpR (op_neD hr.units) (pv 0) (pe_lst pa_nil) (nomark _)) (pe_join pe_str (pe_lc (own := [("_law_one", 1)]) (g := gName 1) (tt := tYes) rfl nd (pi_list (pv 0)) (blkOk_by (N := ["_law_row", "_law_one"]) (sc := defScope (top 35)) (by decide +kernel)) (fun _ _ _ _ _ => pg_name (i := 1) nd rfl (Or.inl rfl)) (fun _ _ _ _ _ => pts_nil) (fun _ _ _ _ _ => (pe_callTy call_str_int (by rfl) zs (by decide +kernel) (pa_cons (pv 1) pa_nil))))) pe_str)), ?_⟩
    have nl : (ns.map V.int).length = ns.length := List.length_map _
    have e16 : (64 : Nat) < sizeLine := by decide
    refine ⟨_, rfl, (by decide : 0 ≤ sizeLine), fun e he => ?_⟩
    have s1 := same_new (o := HO.lst []) he
    have he1 : (upd H e (HO.lst [])) e = _ := upd_same
    generalize upd H e (HO.lst []) = H1 at *
    have hl1 := s1 _ _ hl
    refine ⟨.list (ns.map PyData.int), .list [], .lst (SqL.of hl1) (dpInts ns), .lst (SqL.of he1) .nil, shInts ns, rfl, _, rfl, ?_⟩
    rw [eqvNil]
    by_cases h0 : ns = []
    · refine iteFb (by rw [decide_eq_true h0]; rfl) ?_
      have := q H1 s1
      unfold textN at this
      rw [if_pos h0] at this
      exact this
    refine iteTb (by rw [decide_eq_false h0]; rfl) ?_
    refine ⟨⟨_, rfl⟩, _, rfl, l, rfl, ⟨_, SqL.of hl1⟩, fun D hD => ?_⟩
    refine lc_it (walk_list (K := K) (a := l) (xs := ns.map V.int)) (fun j H' => H' D = some (.lst (((ns.map txt).take j).map V.str)) ∧ Same H1 H') ⟨upd_same, same_new hD⟩ (fun j H' _ h => SqL.of (h.2 _ _ hl1)) ?_ ?_
    · rintro j y H3 H2 hj ⟨hg, sg⟩ ⟨rfl, hy⟩
      rw [nl] at hj
      rw [List.getElem?_map, List.getElem?_eq_getElem hj] at hy
      cases hy
      have hb := bd _ (List.getElem_mem hj)
      refine ⟨rfl, _, rfl, ns[j], rfl, small_tx ns[j] hb, _, hg, by rw [List.length_map, List.length_take, List.length_map]; omega, ?_, fun z u e' => ?_⟩
      · rw [upd_same, txt_take hj]
      · rw [upd_ne (fun z => by rw [z, hD] at e'; cases e')]
        exact sg _ _ e'
    rintro H2 ⟨hg, sg⟩
    rw [nl, show ns.length = (ns.map txt).length by rw [List.length_map], List.take_length] at hg
    refine ⟨" ", D, ns.map txt, rfl, rfl, .inl (SqL.of hg), ?_, ?_⟩
    · have := sum_len ns bd
      rw [List.length_map]
      show _ + ns.length * 1 ≤ _
      omega
    · have := q H2 (s1.trans sg)
      unfold textN at this
      rw [if_neg h0] at this
      exact this
def spDue (K : PySem.W.Frag) : Sp := fun vs H Q _ => ∃ (v : V) (r : Sum Nat (List Int)), vs = [v] ∧ ReadV K H v r ∧ (∀ (k : Nat) p H', r = .inl k → Same H H' → H' p = some (.tup [.str "word", .int k]) → Q (.ref p) H') ∧
  ∀ ns o l H', r = .inr ns → ScaOk ns → Same H H' → H' o = some (.tup (ns.map V.int)) → H' l = some (.lst [.ref o]) → Q (.ref l) H'
abbrev sDue : Stmt := top 36
theorem scDue : FnScope ["_law_thing", "_law_menu", "_law_found", "_law_at", "_law_word", "_law_one"] ["_law_thing"] (defScope sDue) := ⟨rfl, rfl, rfl, by decide +kernel, rfl, by decide +kernel, by decide +kernel⟩
theorem ok_due {f : Addr} {fd : FuncData} (F : Fun K "_law_due" "_law_due" sDue f fd) (T : Bl mg) (zs : mg "str" = none) (zen : mg "enumerate" = none) (zdi : mg "dict" = none) : FnOk P w K mg base CX0 1 f fd ["_law_thing"] (spDue K) := by
  refine F.ok scDue (fun vs H Q E h => ?_) (fun cdv A outer s H vs Q E hr h => ?_)
  · obtain ⟨v, r, rfl, _⟩ := h
    rfl
  · obtain ⟨v, r, rfl, rv, q0, q1⟩ := h
    have nd := scDue.nd
    refine ⟨_, pss_cons (ps_if (pt_not (pt_val (pe_callB call_isi (by rfl) T.isinstance (by decide +kernel) (pa_cons (pv 0) (pa_cons (pe_bltn (v := .ty "str") (u := .type "str") (by rfl) zs (by decide +kernel) rfl) pa_nil))))) (pss_one (ps_ret (pe_tup (pa_cons pe_str (pa_cons pe_int pa_nil))))) pss_nil)
      (pss_cons (ps_if (pt_cmpR op_eq (pv 0) pe_str (nomark _)) (pss_one (ps_ret (pe_lst (pa_cons (pe_tup pa_nil) pa_nil)))) pss_nil)
      (pss_cons (ps_set (i := 1) nd rfl (Or.inl rfl) (pe_callTy (call_dictP rfl) (by rfl) zdi (by decide +kernel) (pa_cons (pe_lc (own := [("_law_one", 5)]) (g := gName 5) (tt := tYes) rfl nd (pi_range2 (by rfl) T.range (pa_cons (pe_un un_neg pe_int) (pa_cons pe_int pa_nil))) (blkOk_by (N := ["_law_thing", "_law_menu", "_law_found", "_law_at", "_law_word", "_law_one"]) (sc := defScope (top 36)) (by decide +kernel)) (fun _ _ _ _ _ => pg_name (i := 5) nd rfl (Or.inl rfl)) (fun _ _ _ _ _ => pts_nil) (fun _ _ _ _ _ => (pe_tup (pa_cons (pe_callTy call_str_int (by rfl) zs (by decide +kernel) (pa_cons (pv 5) pa_nil)) (pa_cons (pv 5) pa_nil))))) pa_nil)))
      (pss_cons (ps_set (i := 2) nd rfl (Or.inl rfl) (pe_tup pa_nil))
      (pss_cons (ps_for PassesOwn.never rfl (pi_enum (by rfl) zen (pa_cons (pe_split (pv 0) pe_str) pa_nil)) (pg_tup (by rfl) (pgs_cons (pg_name (i := 3) nd rfl (Or.inl rfl)) (pgs_cons (pg_name (i := 4) nd rfl (Or.inl rfl)) pgs_nil))) (pss_cons (ps_if (PW.pt (pw_or (pt_cmp (pc_dnotin (Nat.lt_of_le_of_lt (Nat.add_le_add_left (by decide : 1 ≤ 64) _) hr.units) (pv 4) (pv 1)) (by rfl)) (pw_or (pt_cmpR op_in_seq (pe_dget (Nat.lt_of_le_of_lt (Nat.add_le_add_left (by decide : 1 ≤ 64) _) hr.units) (pv 1) (pv 4) (fun _ _ => rfl)) (pv 2) (by rfl)) (pw_or1 (pt_cmpR op_gt (pv 3) pe_int (nomark _)))))) (pss_one (ps_ret (pe_tup (pa_cons pe_str (pa_cons (pv 3) pa_nil))))) pss_nil)
      (pss_one (ps_set (i := 2) nd rfl (Or.inl rfl) (pe_op Own.op_catS (pv 2) (pe_tup (pa_cons (pe_dget (Nat.lt_of_le_of_lt (Nat.add_le_add_left (by decide : 1 ≤ 64) _) hr.units) (pv 1) (pv 4) (fun _ _ => rfl)) pa_nil)))))))
      (pss_one (ps_ret (pe_lst (pa_cons (pv 2) pa_nil)))))))), ?_⟩
    rcases rv with ⟨t, rfl, tl1, rfl⟩ | ⟨t, ty, no, rfl⟩
    · refine ⟨_, rfl, _, _, _, _, true, rfl, .ty _, .base (.str _), rfl, _, rfl, iteF ?_⟩
      refine ⟨_, rfl, rfl, _, rfl, ?_⟩
      by_cases hd : t = "-"
      · refine iteTb (decide_eq_true (by rw [hd])) ?_
        refine ⟨(by decide : 0 ≤ sizeLine), fun o ho => ⟨(by decide : 1 ≤ sizeLine), fun l hl => ?_⟩⟩
        have s1 := same_new (o := HO.tup []) ho
        exact q1 [] o l _ (by unfold readT; rw [if_pos hd]) .nil (s1.trans (same_new hl)) (same_new hl _ _ upd_same) upd_same
      refine iteFb (decide_eq_false (fun z => hd (by injection z))) ?_
      have er : readT t = scanW (Txt.split t " ") [] := by unfold readT; rw [if_neg hd]
      have wl : ∀ w ∈ Txt.split t " ", w.length ≤ 100000 := fun w hw => Nat.le_trans (split_len hw) tl1
      refine ⟨12, rfl, -12, 13, rfl, by decide, fun D hD => ?_⟩
      have e100 : (100010 : Nat) < sizeLine := by decide
      have sD := same_new (o := HO.lst []) hD
      have nm : menuK.length = 25 := by decide
      refine lc_range (lo := -12) (n := (13 - -12 : Int).toNat) (fun i H' => ∃ ps : List Addr, H' D = some (.lst (ps.map V.ref)) ∧ ps.length = i ∧ Paired (fun p kv => H' p = some (.tup [kV kv.1, kv.2])) ps (menuK.take i) ∧ Same H H') ⟨[], upd_same, rfl, .nil, sD⟩ ?_ ?_
      · rintro i H1 hi ⟨ps, hD1, pl, pp, sH⟩
        have hi : i < 25 := hi
        have hb : -12 ≤ (-12 : Int) + (i : Nat) ∧ (-12 : Int) + (i : Nat) ≤ 12 := by omega
        refine ⟨rfl, _, rfl, -12 + (i : Nat), rfl, small_tx _ hb, _, rfl, (by decide : 2 ≤ sizeLine), fun T hT => ?_⟩
        have sT := same_new (o := HO.tup [V.str (txt (-12 + (i : Nat))), .int (-12 + (i : Nat))]) hT
        have hTD : T ≠ D := fun z => by rw [z, hD1] at hT; cases hT
        refine ⟨_, sT _ _ hD1, by rw [List.length_map]; omega, ps ++ [T], by rw [upd_same, List.map_append]; rfl, by rw [List.length_append, pl]; rfl, ?_, fun b o e => ?_⟩
        · have keep : ∀ b o, H1 b = some o → b ≠ D → (upd (upd H1 T (.tup [V.str (txt (-12 + (i : Nat))), .int (-12 + (i : Nat))])) D (.lst (ps.map V.ref ++ [.ref T]))) b = some o := fun b o e n => by rw [upd_ne n]; exact sT _ _ e
          have em : menuK.take (i + 1) = menuK.take i ++ [(.inr (txt (-12 + (i : Nat))), .int (-12 + (i : Nat)))] := by
            rw [List.take_add_one, menu_get hi]
            rfl
          rw [em]
          exact (L2.Paired.mapP pp fun p kv e => keep p _ e (fun z => by rw [z, hD1] at e; cases e)).snoc (by rw [upd_ne hTD]; exact upd_same)
        · rw [upd_ne (fun z => by rw [z, hD] at e; cases e)]
          exact sT _ _ (sH _ _ e)
      rintro H1 ⟨ps, hD1, pl, pp, sH⟩
      have pp : Paired (fun p kv => SqT K H1 p [kV kv.1, kv.2]) ps menuK := by
        have : menuK.take (13 - -12 : Int).toNat = menuK := List.take_of_length_le (by rw [nm]; decide)
        rw [this] at pp
        exact L2.Paired.mapP pp fun p kv e => SqT.of e
      refine ⟨D, ps, menuK, rfl, SqL.of hD1, pp, fun M hM => ?_⟩
      rw [merge_menu]
      have sM := same_new (o := HO.dK menuK) hM
      have hM1 : (upd H1 M (HO.dK menuK)) M = _ := upd_same
      have s2 := sH.trans sM
      generalize upd H1 M (HO.dK menuK) = H2 at *
      refine ⟨(by decide : 0 ≤ sizeLine), fun F0 hF0 => ?_⟩
      have sF := same_new (o := HO.tup []) hF0
      have hF1 : (upd H2 F0 (HO.tup [])) F0 = some (.tup (([] : List Int).map V.int)) := upd_same
      have hM2 := sF _ _ hM1
      have s3 := s2.trans sF
      generalize upd H2 F0 (HO.tup []) = H3 at *
      refine ⟨_, rfl, ⟨_, rfl⟩, t, " ", rfl, rfl, rfl, by omega, fun W hW => ?_⟩
      generalize Txt.split t " " = Ws at *
      have sW := same_new (o := HO.lst (Ws.map V.str)) hW
      have hW1 : (upd H3 W (HO.lst (Ws.map V.str))) W = _ := upd_same
      have hF2 := sW _ _ hF1
      have hM3 := sW _ _ hM2
      have s4 := s3.trans sW
      generalize upd H3 W (HO.lst (Ws.map V.str)) = H4 at *
      have nl : (Ws.map V.str).length = Ws.length := List.length_map _
      refine ⟨W, _, rfl, SqL.of hW1, ?_⟩
      refine for_it (walk_enum (K := K) (a := W) (xs := Ws.map V.str)) (fun i σ H' => ∃ v3 v4 v5 F1 f, σ = [some (.str t), some (.ref M), some (.ref F1), v3, v4, v5] ∧ H' F1 = some (.tup (f.map V.int)) ∧ Same H4 H' ∧ scanW (Ws.drop i) f = readT t ∧ f.length = i ∧ ScaOk f) ⟨_, _, _, F0, [], rfl, hF2, Same.refl _, by rw [er]; rfl, rfl, .nil⟩ (fun i σ H' _ h => ?_) ?_ ?_
      · obtain ⟨_, _, _, _, _, _, _, hB, _⟩ := h
        exact SqL.of (hB _ _ hW1)
      · rintro i y σ H5 H6 hi ⟨v3, v4, v5, F1, f, rfl, hf, hB, hs, fl, fo⟩ ⟨T1, u1, x1, rfl, hT1, rfl, eu, hx1⟩
        cases eu
        rw [nl] at hi
        have hx1 : (Ws.map V.str)[i]? = some x1 := hx1
        rw [List.getElem?_map, List.getElem?_eq_getElem hi] at hx1
        cases hx1
        rw [List.drop_eq_getElem_cons hi] at hs
        generalize Ws[i] = word at *
        have sT : Same H5 (upd H5 T1 (.tup [.int (i : Nat), .str word])) := same_new hT1
        have all := s4.trans (hB.trans sT)
        have hf4 := sT _ _ hf
        have hM4 := sT _ _ (hB _ _ hM3)
        have hB4 := hB.trans sT
        refine ⟨T1, _, rfl, SqT.of upd_same, rfl, _, _, rfl, _, _, rfl, rfl, ?_⟩
        generalize upd H5 T1 (.tup [.int (i : Nat), .str word]) = H6 at *
        unfold scanW at hs
        have dg : DGet H6 M (.str word) ((numW word).map V.int) := .inl ⟨menuK, .inr word, .inl hM4, rfl, (menu_at word).symm⟩
        refine ⟨_, rfl, _, rfl, M, _, rfl, dg, _, rfl, ?_⟩
        cases e : numW word with
        | none =>
          rw [e] at hs
          refine iteTb (by rfl) ?_
          exact ⟨_, rfl, (by decide : 2 ≤ sizeLine), fun p hp => q0 i p _ (by rw [← hs, ← fl]) (all.trans (same_new hp)) upd_same⟩
        | some n =>
          rw [e] at hs dg
          refine iteFb (by rfl) ?_
          refine ⟨_, rfl, _, rfl, M, .int n, rfl, dg, _, rfl, F1, _, rfl, .inr (SqT.of hf4), rfl, ints_flat _, _, rfl, ?_⟩
          by_cases hm : n ∈ f
          · refine iteTb (by show inV (.int n) _ = true; rw [inV_ints]; exact decide_eq_true hm) ?_
            replace hs : Sum.inl f.length = readT t := by rw [← hs]; exact (if_pos (.inl hm)).symm
            exact ⟨_, rfl, (by decide : 2 ≤ sizeLine), fun p hp => q0 i p _ (by rw [← hs, ← fl]) (all.trans (same_new hp)) upd_same⟩
          refine iteFb (by show inV (.int n) _ = false; rw [inV_ints]; exact decide_eq_false hm) ?_
          have f16 := fo.ln
          refine ⟨_, rfl, _, _, rfl, rfl, _, rfl, ?_⟩
          by_cases h16 : i = 16
          · refine iteTb (decide_eq_true (by omega)) ?_
            replace hs : Sum.inl f.length = readT t := by rw [← hs]; exact (if_pos (.inr (by omega))).symm
            exact ⟨_, rfl, (by decide : 2 ≤ sizeLine), fun p hp => q0 i p _ (by rw [← hs, ← fl]) (all.trans (same_new hp)) upd_same⟩
          refine iteFb (decide_eq_false (by omega)) ?_
          replace hs : scanW (Ws.drop (i + 1)) (f ++ [n]) = readT t := by rw [← hs]; exact (if_neg (by rintro (h | h); exact hm h; omega)).symm
          refine ⟨_, rfl, _, rfl, _, rfl, M, .int n, rfl, dg, (by decide : 1 ≤ sizeLine), fun G hG => ?_⟩
          have sG := same_new (o := HO.tup [V.int n]) hG
          refine ⟨F1, G, _, _, rfl, rfl, sG _ _ hf4, upd_same, by rw [List.length_map]; simp only [List.length_cons, List.length_nil]; omega, fun t3 H7 s7 h7 => ?_⟩
          have hb := (numW_iff.mp e).1
          exact ⟨_, _, _, t3, f ++ [n], rfl, by rw [List.map_append]; exact h7, hB4.trans (sG.trans s7), hs, by rw [List.length_append, fl]; rfl, fo.push hm hb (by omega)⟩
      · rintro σ H5 ⟨v3, v4, v5, F1, f, rfl, hf, hB, hs, fl, fo⟩
        rw [nl] at hs
        rw [List.drop_length] at hs
        exact ⟨_, rfl, (by decide : 1 ≤ sizeLine), fun l hl => q1 f F1 l _ hs.symm fo (s4.trans (hB.trans (same_new hl))) (same_new hl _ _ hf) upd_same⟩
    · refine ⟨_, rfl, _, _, t, _, false, rfl, .ty _, ty, no, _, rfl, iteT ?_⟩
      exact ⟨(by decide : 2 ≤ sizeLine), fun p hp => q0 0 p _ rfl (same_new hp) upd_same⟩
end
end Toy
set_option maxRecDepth 100000
set_option maxHeartbeats 4000000
set_option exponentiation.threshold 9000
namespace Toy
open PySem L2
open Rat (divInt)
open TL (tl len_tl mk_tl ext_tl tl_append tl_ofString joinL tl_join join_eq split_join)
/-- the signs of words and a blank for each -/
def tot (L : List Str) : Nat := (L.map (·.length)).sum + L.length
theorem tot_app (A B : List Str) : tot (A ++ B) = tot A + tot B := by
  unfold tot
  rw [List.map_append, List.sum_append, List.length_append]
  omega
theorem tot_take (L : List Str) (k : Nat) : tot (L.take k) ≤ tot L := by
  have := tot_app (L.take k) (L.drop k)
  rw [List.take_append_drop] at this
  omega
theorem tot_drop (L : List Str) (k : Nat) : tot (L.drop k) ≤ tot L := by
  have := tot_app (L.take k) (L.drop k)
  rw [List.take_append_drop] at this
  omega
theorem tot_joinL : ∀ (L : List Str), (joinL [32] (L.map tl)).length ≤ tot L ∧ tot L ≤ (joinL [32] (L.map tl)).length + 1
  | [] => ⟨Nat.le_refl _, Nat.le_succ _⟩
  | [a] => by
    show (tl a).length ≤ a.length + 0 + 1 ∧ a.length + 0 + 1 ≤ (tl a).length + 1
    rw [len_tl]
    omega
  | a :: b :: r => by
    have ih := tot_joinL (b :: r)
    have e : (joinL [32] ((a :: b :: r).map tl)).length = a.length + 1 + (joinL [32] ((b :: r).map tl)).length := by
      show (tl a ++ ([32] ++ joinL [32] ((b :: r).map tl))).length = _
      rw [List.length_append, List.length_append, len_tl]
      simp only [List.length_cons, List.length_nil]
      omega
    have e2 : tot (a :: b :: r) = a.length + 1 + tot (b :: r) := by
      unfold tot
      simp only [List.map_cons, List.sum_cons, List.length_cons]
      omega
    omega
theorem tl_blank : tl (" " : Str) = [32] := rfl
theorem join_len (L : List Str) : (Txt.join " " L).length ≤ tot L := by
  rw [join_eq, len_tl, tl_join, tl_blank]
  exact (tot_joinL L).1
theorem split_tot (t : Str) : tot (Txt.split t " ") ≤ t.length + 1 := by
  have e := PySem.StrLaws.join_split t " "
  have l := (tot_joinL (Txt.split t " ")).2
  rw [← tl_blank, ← tl_join, e, ← len_tl] at l
  exact l
theorem split_ne (t : Str) : Txt.split t " " ≠ [] := fun h => by
  have e := PySem.StrLaws.join_split t " "
  rw [h] at e
  rw [← e] at h
  revert h
  decide +kernel
theorem cutV_to (xs : List V) {k : Nat} (h : k ≤ xs.length) : cutV xs none (some (k : Int)) = xs.take k := by
  unfold cutV
  rw [HT.sIx_nat, Nat.min_eq_left h]
  rfl
theorem cutV_from (xs : List V) (k : Nat) : cutV xs (some (k : Int)) none = xs.drop k := by
  unfold cutV
  rw [HT.sIx_nat]
  show List.take (xs.length - min k xs.length) _ = _
  rcases Nat.le_total k xs.length with h | h
  · rw [Nat.min_eq_left h]
    exact List.take_of_length_le (by rw [List.length_drop]; exact Nat.le_refl _)
  · rw [Nat.min_eq_right h, List.drop_eq_nil_of_le (Nat.le_refl _), List.drop_eq_nil_of_le h]
    exact List.take_nil
def bents : List Str := ["", "-", "0", "-0", "+3", "03", "12", "13", "-12", "-13", "1.", "a", "\n", "3\n", Txt.mul "9" 60, "--1"]
def bents2 : List Str := ["1/1", "5", "-5", "7 7", "1_0", "- 3"]
theorem bents_len : ∀ w ∈ bents ++ bents2, w.length ≤ 60 := by decide +kernel
theorem mul9 : PySem.MulOk "9" 60 := ⟨by decide, fun _ _ => by decide, fun _ _ => by decide +kernel⟩
section
variable {P : Program} {w : World} {K : PySem.W.Frag} {mg : Str → Option Value} {base : Heap} {C CP CS CBT : Addr}
def spBent : Sp := fun vs H Q _ => ∃ (p cc : Addr) (k : Nat) (t : Str), vs = [.ref p, .str t] ∧ Pen H p cc k ∧ k ≤ 900000 ∧ t.length ≤ 10000 ∧ ∀ (u : Str) H', Pen H' p cc (k + 4) → But p H H' → u.length ≤ 2 * t.length + 70 → Q (.str u) H'
abbrev sBent : Stmt := top 38
theorem scBent : FnScope ["_law_pen_here", "_law_page", "_law_words", "_law_way", "_law_spot", "_law_some_here", "_law_word"] ["_law_pen_here", "_law_page"] (defScope sBent) := ⟨rfl, rfl, rfl, by decide +kernel, rfl, by decide +kernel, by decide +kernel⟩
theorem ok_bent {f f1 f2 : Addr} {fd fd1 fd2 : FuncData} (F : Fun K "_law_bent" "_law_bent" sBent f fd) (T : Bl mg) (C__law_draw : Cal P w K mg base 1 "_law_draw" f1 fd1 ["_law_pen_here", "_law_many"] spDraw) (C__law_pick : Cal P w K mg base 2 "_law_pick" f2 fd2 ["_law_pen_here", "_law_some_here"] spPick) : FnOk P w K mg base CX0 3 f fd ["_law_pen_here", "_law_page"] spBent := by
  refine F.ok scBent (fun vs H Q E h => ?_) (fun cdv A outer s H vs Q E hr h => ?_)
  · obtain ⟨p, cc, k, t, rfl, _⟩ := h
    rfl
  · obtain ⟨p, cc, k, t, rfl, hP, hk, tl1, q⟩ := h
    have nd := scBent.nd
    refine ⟨_, pss_cons (ps_par (i := 2) (j := 3) (by rfl) nd rfl rfl (by decide) rfl rfl (pa_cons (pe_split (pv 1) pe_str) (pa_cons (pe_call C__law_draw.F (hr.mono (by decide)) (by rfl) C__law_draw.mgf C__law_draw.kp C__law_draw.b .nil pass0 (pa_cons (pv 0) (pa_cons pe_int pa_nil))) pa_nil)) (by rfl))
      (pss_cons (ps_set (i := 4) nd rfl (Or.inl rfl) (pe_call C__law_draw.F (hr.mono (by decide)) (by rfl) C__law_draw.mgf C__law_draw.kp C__law_draw.b .nil pass0 (pa_cons (pv 0) (pa_cons (pe_callB call_len (by rfl) T.len (by decide +kernel) (pa_cons (pv 2) pa_nil)) pa_nil))))
      (pss_cons (ps_set (i := 5) nd rfl (Or.inl rfl) (pe_lst (pa_cons pe_str (pa_cons pe_str (pa_cons pe_str (pa_cons pe_str (pa_cons pe_str (pa_cons pe_str (pa_cons pe_str (pa_cons pe_str (pa_cons pe_str (pa_cons pe_str (pa_cons pe_str (pa_cons pe_str (pa_cons pe_str (pa_cons pe_str (pa_cons (pe_op Own.op_mul_str pe_str pe_int) (pa_cons pe_str pa_nil))))))))))))))))))
      (pss_cons (ps_set (i := 6) nd rfl (Or.inl rfl) (pe_call C__law_pick.F (hr.mono (by decide)) (by rfl) C__law_pick.mgf C__law_pick.kp C__law_pick.b .nil pass0 (pa_cons (pv 0) (pa_cons (pe_op op_cat (pv 5) (pe_lst (pa_cons pe_str (pa_cons pe_str (pa_cons pe_str (pa_cons pe_str (pa_cons pe_str (pa_cons pe_str pa_nil)))))))) pa_nil))))
      (pss_cons (ps_if (pt_cmpR op_eq (pv 3) pe_int (nomark _)) (pss_one (ps_ret (pe_join pe_str (pe_op op_cat (pe_slice sl_list (pv 2) po_none (po_some (pv 4))) (pe_slice sl_list (pv 2) (po_some (pe_op op_add (pv 4) pe_int)) po_none))))) pss_nil)
      (pss_cons (ps_if (pt_cmpR op_eq (pv 3) pe_int (nomark _)) (pss_one (ps_ret (pe_join pe_str (pe_op op_cat (pe_slice sl_list (pv 2) po_none (po_some (pe_op op_add (pv 4) pe_int))) (pe_slice sl_list (pv 2) (po_some (pv 4)) po_none))))) pss_nil)
      (pss_cons (ps_if (pt_cmpR op_eq (pv 3) pe_int (nomark _)) (pss_one (ps_ret (pe_join pe_str (pe_op op_cat (pe_op op_cat (pe_slice sl_list (pv 2) po_none (po_some (pv 4))) (pe_lst (pa_cons (pv 6) pa_nil))) (pe_slice sl_list (pv 2) (po_some (pv 4)) po_none))))) pss_nil)
      (pss_cons (ps_if (pt_cmpR op_eq (pv 3) pe_int (nomark _)) (pss_one (ps_ret (pe_op op_add_str (pv 1) (pe_call C__law_pick.F (hr.mono (by decide)) (by rfl) C__law_pick.mgf C__law_pick.kp C__law_pick.b .nil pass0 (pa_cons (pv 0) (pa_cons (pe_lst (pa_cons pe_str (pa_cons pe_str (pa_cons (pe_op op_add_str pe_str (pv 6)) (pa_cons pe_str pa_nil))))) pa_nil)))))) pss_nil)
      (pss_one (ps_ret (pe_join pe_str (pe_op op_cat (pe_op op_cat (pe_slice sl_list (pv 2) po_none (po_some (pv 4))) (pe_lst (pa_cons (pv 6) pa_nil))) (pe_slice sl_list (pv 2) (po_some (pe_op op_add (pv 4) pe_int)) po_none)))))))))))), ?_⟩
    have e100 : (100010 : Nat) < sizeLine := by decide
    refine ⟨_, rfl, ⟨_, rfl⟩, t, " ", rfl, rfl, rfl, by omega, fun W hW => ?_⟩
    have st := split_tot t
    have sn := split_ne t
    generalize Txt.split t " " = Ws at *
    have nl : (Ws.map V.str).length = Ws.length := List.length_map _
    have wl : 0 < Ws.length := List.length_pos_iff.mpr sn
    have wt : Ws.length ≤ tot Ws := by unfold tot; omega
    have sW := same_new (o := HO.lst (Ws.map V.str)) hW
    have hW1 : (upd H W (HO.lst (Ws.map V.str))) W = _ := upd_same
    have P1 := hP.same sW
    have nW : W ≠ p := hP.ne_none hW
    generalize upd H W (HO.lst (Ws.map V.str)) = H1 at *
    refine ⟨_, rfl, p, cc, 6, k, rfl, P1, by omega, by decide, by decide, fun way H2 w0 w6 P2 B2 => ?_⟩
    have hW2 := B2 _ _ hW1 nW
    refine ⟨_, _, rfl, _, rfl, _, rfl, _, Ws.length, rfl, .inl ⟨_, SqL.of hW2, nl.symm⟩, p, cc, _, k + 1, rfl, P2, by omega, by omega, small_len (by omega), fun sp H3 r0 r1 P3 B3 => ?_⟩
    have hW3 := B3 _ _ hW2 nW
    obtain ⟨sn', rfl⟩ : ∃ sn : Nat, sp = sn := ⟨sp.toNat, by omega⟩
    have hsn : sn' < Ws.length := by omega
    have B13 : But p H H3 := (But.same sW).trans (B2.trans B3)
    clear r0 r1
    have cT : ∀ j : Nat, j ≤ Ws.length → cutV (Ws.map V.str) none (some (j : Int)) = (Ws.take j).map V.str := fun j hj => by rw [cutV_to _ (by rw [nl]; exact hj), List.map_take]
    have cF : ∀ j : Nat, cutV (Ws.map V.str) (some (j : Int)) none = (Ws.drop j).map V.str := fun j => by rw [cutV_from, List.map_drop]
    have kT := fun j : Nat => tot_take Ws j
    have kD := fun j : Nat => tot_drop Ws j
    have lT : ∀ j : Nat, (Ws.take j).length ≤ Ws.length := fun j => by rw [List.length_take]; omega
    have lD : ∀ j : Nat, (Ws.drop j).length ≤ Ws.length := fun j => by rw [List.length_drop]; omega
    refine ⟨"9", 60, rfl, rfl, mul9, (by decide : 16 ≤ sizeLine), fun S hS => ?_⟩
    have sS := same_new (o := HO.lst (bents.map V.str)) hS
    have hS1 : (upd H3 S (HO.lst (bents.map V.str))) S = _ := upd_same
    refine ⟨_, rfl, _, rfl, (by decide : 6 ≤ sizeLine), fun S2 hS2 => ?_⟩
    have sS2 := same_new (o := HO.lst (bents2.map V.str)) hS2
    refine ⟨S, S2, bents.map V.str, bents2.map V.str, rfl, rfl, sS2 _ _ hS1, upd_same, (by decide : 22 ≤ sizeLine), fun S3 hS3 => ?_⟩
    have sS3 := same_new (o := HO.lst (bents.map V.str ++ bents2.map V.str)) hS3
    have s33 := sS.trans (sS2.trans sS3)
    have P4 := P3.same s33
    have n3 : S3 ≠ p := ((P3.same sS).same sS2).ne_none hS3
    refine ⟨p, cc, S3, _, k + 2, rfl, P4, by omega, upd_same, n3, (by decide : 0 < 22), (by decide : 22 ≤ 1000), fun v H4 hv P5 B5 => ?_⟩
    have hv : v ∈ bents.map V.str ++ bents2.map V.str := hv
    rw [← List.map_append] at hv
    obtain ⟨wd, hwd, rfl⟩ := List.mem_map.mp hv
    have w60 := bents_len wd hwd
    have hW4 := B5 _ _ (s33 _ _ hW3) nW
    have B14 := B13.trans ((But.same s33).trans B5)
    have t1 : tot [wd] = wd.length + 1 := by unfold tot; simp
    have fin : ∀ (L : List Str) (H' : Hp), tot L ≤ 2 * t.length + 63 → Same H4 H' → Q (.str (Txt.join " " L)) H' := fun L H' hL s => q _ H' ((P5.same s).mono (by omega)) (B14.trans (But.same s)) (by have := join_len L; omega)
    clear hv hS1 P4
    have len2 : ∀ (A B : List Str), A.length ≤ Ws.length → B.length ≤ Ws.length → (A.map V.str).length + (B.map V.str).length ≤ sizeLine := fun A B ha hb => by rw [List.length_map, List.length_map]; omega
    have tot_le : ∀ {L : List Str}, tot L ≤ 30000 → (L.map (fun x => x.length)).sum + L.length ≤ 30000 := fun h => h
    refine ⟨_, rfl, rfl, _, rfl, ite2 (fun _ => ?_) (fun _ => ?_)⟩
    · refine ⟨⟨_, rfl⟩, _, rfl, _, rfl, (sn' : Int), rfl, W, _, rfl, SqL.of hW4, fun A hA => ?_⟩
      have sA := same_new (o := HO.lst (cutV (Ws.map V.str) none (some (sn' : Int)))) hA
      have hA1 : (upd H4 A (HO.lst (cutV (Ws.map V.str) none (some (sn' : Int))))) A = _ := upd_same
      generalize upd H4 A (HO.lst (cutV (Ws.map V.str) none (some (sn' : Int)))) = HA at *
      rw [cT sn' (by omega)] at hA1
      refine ⟨_, rfl, _, rfl, _, _, rfl, rfl, _, rfl, W, _, rfl, SqL.of (sA _ _ hW4), fun B hB => ?_⟩
      have sB := same_new (o := HO.lst (cutV (Ws.map V.str) (some ((sn' : Int) + 1)) none)) hB
      have hB1 : (upd HA B (HO.lst (cutV (Ws.map V.str) (some ((sn' : Int) + 1)) none))) B = _ := upd_same
      generalize upd HA B (HO.lst (cutV (Ws.map V.str) (some ((sn' : Int) + 1)) none)) = HB at *
      rw [show cutV (Ws.map V.str) (some ((sn' : Int) + 1)) none = (Ws.drop (sn' + 1)).map V.str from cF (sn' + 1)] at hB1
      refine ⟨A, B, (Ws.take sn').map V.str, (Ws.drop (sn' + 1)).map V.str, rfl, rfl, sB _ _ hA1, hB1, len2 _ _ (lT sn') (lD (sn' + 1)), fun D hD => ?_⟩
      rw [← List.map_append]
      refine ⟨" ", D, Ws.take sn' ++ Ws.drop (sn' + 1), rfl, rfl, .inl (SqL.of upd_same), ?_, fin _ _ ?_ (sA.trans (sB.trans (same_new hD)))⟩
      · show _ + (Ws.take sn' ++ Ws.drop (sn' + 1)).length * 1 ≤ _
        rw [Nat.mul_one]
        refine Nat.le_trans (tot_le ?_) (by decide : 30000 ≤ 16777216)
        rw [tot_app]
        have := kT sn'
        have := kD (sn' + 1)
        omega
      · rw [tot_app]
        have := kT sn'
        have := kD (sn' + 1)
        omega
    refine ⟨_, rfl, rfl, _, rfl, ite2 (fun _ => ?_) (fun _ => ?_)⟩
    · refine ⟨⟨_, rfl⟩, _, rfl, _, rfl, _, _, rfl, rfl, _, rfl, W, _, rfl, SqL.of hW4, fun A hA => ?_⟩
      have sA := same_new (o := HO.lst (cutV (Ws.map V.str) none (some ((sn' : Int) + 1)))) hA
      have hA1 : (upd H4 A (HO.lst (cutV (Ws.map V.str) none (some ((sn' : Int) + 1))))) A = _ := upd_same
      generalize upd H4 A (HO.lst (cutV (Ws.map V.str) none (some ((sn' : Int) + 1)))) = HA at *
      rw [show cutV (Ws.map V.str) none (some ((sn' : Int) + 1)) = (Ws.take (sn' + 1)).map V.str from cT (sn' + 1) (by omega)] at hA1
      refine ⟨_, rfl, _, rfl, (sn' : Int), rfl, W, _, rfl, SqL.of (sA _ _ hW4), fun B hB => ?_⟩
      have sB := same_new (o := HO.lst (cutV (Ws.map V.str) (some (sn' : Int)) none)) hB
      have hB1 : (upd HA B (HO.lst (cutV (Ws.map V.str) (some (sn' : Int)) none))) B = _ := upd_same
      generalize upd HA B (HO.lst (cutV (Ws.map V.str) (some (sn' : Int)) none)) = HB at *
      rw [cF sn'] at hB1
      refine ⟨A, B, (Ws.take (sn' + 1)).map V.str, (Ws.drop sn').map V.str, rfl, rfl, sB _ _ hA1, hB1, len2 _ _ (lT (sn' + 1)) (lD sn'), fun D hD => ?_⟩
      rw [← List.map_append]
      refine ⟨" ", D, Ws.take (sn' + 1) ++ Ws.drop sn', rfl, rfl, .inl (SqL.of upd_same), ?_, fin _ _ ?_ (sA.trans (sB.trans (same_new hD)))⟩
      · show _ + (Ws.take (sn' + 1) ++ Ws.drop sn').length * 1 ≤ _
        rw [Nat.mul_one]
        refine Nat.le_trans (tot_le ?_) (by decide : 30000 ≤ 16777216)
        rw [tot_app]
        have := kT (sn' + 1)
        have := kD sn'
        omega
      · rw [tot_app]
        have := kT (sn' + 1)
        have := kD sn'
        omega
    refine ⟨_, rfl, rfl, _, rfl, ite2 (fun _ => ?_) (fun _ => ?_)⟩
    · refine ⟨⟨_, rfl⟩, _, rfl, _, rfl, (sn' : Int), rfl, W, _, rfl, SqL.of hW4, fun A hA => ?_⟩
      have sA := same_new (o := HO.lst (cutV (Ws.map V.str) none (some (sn' : Int)))) hA
      have hA1 : (upd H4 A (HO.lst (cutV (Ws.map V.str) none (some (sn' : Int))))) A = _ := upd_same
      generalize upd H4 A (HO.lst (cutV (Ws.map V.str) none (some (sn' : Int)))) = HA at *
      rw [cT sn' (by omega)] at hA1
      refine ⟨_, rfl, (by decide : 1 ≤ sizeLine), fun G hG => ?_⟩
      have sG := same_new (o := HO.lst [V.str wd]) hG
      refine ⟨A, G, (Ws.take sn').map V.str, [wd].map V.str, rfl, rfl, sG _ _ hA1, upd_same, by rw [List.length_map]; have := lT sn'; simp only [List.length_map, List.length_cons, List.length_nil]; omega, fun D hD => ?_⟩
      rw [← List.map_append]
      have sD2 := same_new (o := HO.lst ((Ws.take sn' ++ [wd]).map V.str)) hD
      have hD1 : (upd (upd HA G (HO.lst [V.str wd])) D (HO.lst ((Ws.take sn' ++ [wd]).map V.str))) D = _ := upd_same
      have sAD := sA.trans (sG.trans sD2)
      have hW5 := sAD _ _ hW4
      generalize upd (upd HA G (HO.lst [V.str wd])) D (HO.lst ((Ws.take sn' ++ [wd]).map V.str)) = HD at *
      refine ⟨_, rfl, _, rfl, (sn' : Int), rfl, W, _, rfl, SqL.of hW5, fun B hB => ?_⟩
      have sB := same_new (o := HO.lst (cutV (Ws.map V.str) (some (sn' : Int)) none)) hB
      have hB1 : (upd HD B (HO.lst (cutV (Ws.map V.str) (some (sn' : Int)) none))) B = _ := upd_same
      generalize upd HD B (HO.lst (cutV (Ws.map V.str) (some (sn' : Int)) none)) = HB at *
      rw [cF sn'] at hB1
      refine ⟨D, B, (Ws.take sn' ++ [wd]).map V.str, (Ws.drop sn').map V.str, rfl, rfl, sB _ _ hD1, hB1, by rw [List.length_map, List.length_map, List.length_append]; have := lT sn'; have := lD sn'; simp only [List.length_cons, List.length_nil]; omega, fun D2 hD2 => ?_⟩
      rw [← List.map_append]
      refine ⟨" ", D2, Ws.take sn' ++ [wd] ++ Ws.drop sn', rfl, rfl, .inl (SqL.of upd_same), ?_, fin _ _ ?_ (sAD.trans (sB.trans (same_new hD2)))⟩
      · show _ + (Ws.take sn' ++ [wd] ++ Ws.drop sn').length * 1 ≤ _
        rw [Nat.mul_one]
        refine Nat.le_trans (tot_le ?_) (by decide : 30000 ≤ 16777216)
        rw [tot_app, tot_app, t1]
        have := kT sn'
        have := kD sn'
        omega
      · rw [tot_app, tot_app, t1]
        have := kT sn'
        have := kD sn'
        have := tot_app (Ws.take sn') (Ws.drop sn')
        rw [List.take_append_drop] at this
        have := tot_app ((Ws.drop sn').take 1) ((Ws.drop sn').drop 1)
        rw [List.take_append_drop, List.drop_drop] at this
        omega
    refine ⟨_, rfl, rfl, _, rfl, ite2 (fun _ => ?_) (fun _ => ?_)⟩
    · refine ⟨_, rfl, _, rfl, _, rfl, " ", wd, rfl, rfl, by show 1 + wd.length ≤ sizeLine; omega, (by decide : 4 ≤ sizeLine), fun S4 hS4 => ?_⟩
      have sS4 := same_new (o := HO.lst [V.str " ", .str "\n", .str (" " ++ wd), .str "  0"]) hS4
      refine ⟨p, cc, S4, _, k + 3, rfl, P5.same sS4, by omega, upd_same, P5.ne_none hS4, (by decide : 0 < 4), (by decide : 4 ≤ 1000), fun v H5 hv P6 B6 => ?_⟩
      have hv : v ∈ ([(" " : Str), "\n", " " ++ wd, "  0"] : List Str).map V.str := hv
      obtain ⟨u, hu, rfl⟩ := List.mem_map.mp hv
      have u61 : u.length ≤ 61 := by
        simp only [List.mem_cons, List.not_mem_nil, or_false] at hu
        rcases hu with rfl | rfl | rfl | rfl
        · decide
        · decide
        · rw [len_tl, tl_append, List.length_append, ← len_tl, ← len_tl]
          show 1 + wd.length ≤ 61
          omega
        · decide
      refine ⟨t, u, rfl, rfl, by omega, q _ H5 P6 (B14.trans ((But.same sS4).trans B6)) ?_⟩
      rw [len_tl, tl_append, List.length_append, ← len_tl, ← len_tl]
      omega
    · refine ⟨⟨_, rfl⟩, _, rfl, _, rfl, (sn' : Int), rfl, W, _, rfl, SqL.of hW4, fun A hA => ?_⟩
      have sA := same_new (o := HO.lst (cutV (Ws.map V.str) none (some (sn' : Int)))) hA
      have hA1 : (upd H4 A (HO.lst (cutV (Ws.map V.str) none (some (sn' : Int))))) A = _ := upd_same
      generalize upd H4 A (HO.lst (cutV (Ws.map V.str) none (some (sn' : Int)))) = HA at *
      rw [cT sn' (by omega)] at hA1
      refine ⟨_, rfl, (by decide : 1 ≤ sizeLine), fun G hG => ?_⟩
      have sG := same_new (o := HO.lst [V.str wd]) hG
      refine ⟨A, G, (Ws.take sn').map V.str, [wd].map V.str, rfl, rfl, sG _ _ hA1, upd_same, by rw [List.length_map]; have := lT sn'; simp only [List.length_map, List.length_cons, List.length_nil]; omega, fun D hD => ?_⟩
      rw [← List.map_append]
      have sD2 := same_new (o := HO.lst ((Ws.take sn' ++ [wd]).map V.str)) hD
      have hD1 : (upd (upd HA G (HO.lst [V.str wd])) D (HO.lst ((Ws.take sn' ++ [wd]).map V.str))) D = _ := upd_same
      have sAD := sA.trans (sG.trans sD2)
      have hW5 := sAD _ _ hW4
      generalize upd (upd HA G (HO.lst [V.str wd])) D (HO.lst ((Ws.take sn' ++ [wd]).map V.str)) = HD at *
      refine ⟨_, rfl, _, rfl, _, _, rfl, rfl, _, rfl, W, _, rfl, SqL.of hW5, fun B hB => ?_⟩
      have sB := same_new (o := HO.lst (cutV (Ws.map V.str) (some ((sn' : Int) + 1)) none)) hB
      have hB1 : (upd HD B (HO.lst (cutV (Ws.map V.str) (some ((sn' : Int) + 1)) none))) B = _ := upd_same
      generalize upd HD B (HO.lst (cutV (Ws.map V.str) (some ((sn' : Int) + 1)) none)) = HB at *
      rw [show cutV (Ws.map V.str) (some ((sn' : Int) + 1)) none = (Ws.drop (sn' + 1)).map V.str from cF (sn' + 1)] at hB1
      refine ⟨D, B, (Ws.take sn' ++ [wd]).map V.str, (Ws.drop (sn' + 1)).map V.str, rfl, rfl, sB _ _ hD1, hB1, by rw [List.length_map, List.length_map, List.length_append]; have := lT sn'; have := lD (sn' + 1); simp only [List.length_cons, List.length_nil]; omega, fun D2 hD2 => ?_⟩
      rw [← List.map_append]
      refine ⟨" ", D2, Ws.take sn' ++ [wd] ++ Ws.drop (sn' + 1), rfl, rfl, .inl (SqL.of upd_same), ?_, fin _ _ ?_ (sAD.trans (sB.trans (same_new hD2)))⟩
      · show _ + (Ws.take sn' ++ [wd] ++ Ws.drop (sn' + 1)).length * 1 ≤ _
        rw [Nat.mul_one]
        refine Nat.le_trans (tot_le ?_) (by decide : 30000 ≤ 16777216)
        rw [tot_app, tot_app, t1]
        have := kT sn'
        have := kD (sn' + 1)
        omega
      · rw [tot_app, tot_app, t1]
        have := kT sn'
        have := kD (sn' + 1)
        have := tot_app (Ws.take sn') (Ws.drop sn')
        rw [List.take_append_drop] at this
        have := tot_app ((Ws.drop sn').take 1) ((Ws.drop sn').drop 1)
        rw [List.take_append_drop, List.drop_drop] at this
        omega
end
end Toy
set_option maxRecDepth 100000
set_option maxHeartbeats 4000000
set_option exponentiation.threshold 9000
namespace Toy
open PySem L2
open Rat (divInt)
open LamX (Tabs TabS ExtN CodeO)
open TL (tl len_tl mk_tl ext_tl tl_append tl_ofString joinL tl_join join_eq split_join)
theorem _root_.Own.okGC {P : Program} {w : World} {K : PySem.W.Frag} {mg : Str → Option Value} {base : Heap} {x qual : Str} {st : Stmt} {f c : Addr} {fd : FuncData} {N ps : List Str} {k : Nat} {sp : Sp} (F : Fun K x qual st f fd) (hc : fd.code = .ref c) (S : FnScope N ps (defScope st)) (len : ∀ vs H Q E, sp vs H Q E → vs.length = ps.length)
    (hbody : ∀ (A : Around) (outer : List Env) (s : Shared) (H : Hp) (vs : List V) (Q : VK) (E : XK), A.guards = some [] → Room k (A.deeper (PyProof.Rows.envOfC qual (defScope st) s.heap.objs.size f (.ref c))) → sp vs H Q E →
      ∃ t, PSs (cxOf CX0 P w K mg base N qual (defScope st) f (.ref c) A outer s H E).nox (defBody st) t ∧ t { nx := fun _ H' => Q .non H', rt := Q } (start N vs) H) : Own.FnG P w K mg base CX0 (k + 1) f fd ps sp := by
  obtain ⟨oc, od, kV, doc, pm, an, cdv, ct, osl, rfl, lk, hcd⟩ := F.ex
  obtain rfl : cdv = .ref c := hc
  refine ⟨len, fun A outer s H args us vs Q E hg hr e0 hb r hsp => LamX.run_ofS lk hcd S hr e0 hb r (len _ _ _ _ hsp) fun hr2 => ?_⟩
  obtain ⟨t, h, q⟩ := hbody A outer s H vs Q E hg hr2 hsp
  exact ⟨t, h.nox, q⟩
theorem exS {H H' : Hp} (s : Same H H') : ExtN H H' := fun b o h _ => s b o h
theorem exT {H H1 H2 : Hp} (a : ExtN H H1) (b : ExtN H1 H2) : ExtN H H2 := fun c o h n => b c o (a c o h n) n
theorem tabs_but {Ts : List (Addr × Str)} {H H' : Hp} {p : Addr} {xs : List V} (t : Tabs Ts H) (hp : H p = some (.lst xs)) (b : But p H H') : Tabs Ts H' := fun r hr => by
  obtain ⟨ps, h1, h2, h3⟩ := t r hr
  refine ⟨ps, b _ _ h1 (ne_of h1 hp (by intro z; cases z)), h2, fun pos cv hc => ?_⟩
  obtain ⟨c, e1, e2⟩ := h3 pos cv hc
  exact ⟨c, e1, b _ _ e2 (ne_of e2 hp (by intro z; unfold CodeO at z; cases z))⟩
theorem okSK (s : String) : PyData.strOk (Str.ofString s) = true := by
  unfold PyData.strOk
  rw [Str.ofString_eq_toList]
  simp only [List.all_toArray, List.all_map, List.all_eq_true, Function.comp_apply, decide_eq_true_eq]
  intro c _
  have h := c.valid
  have e : c.toNat = c.val.toNat := rfl
  rcases h with h | ⟨_, h⟩
  · rw [e]; omega
  · rw [e]; omega
theorem Pen.extN {H H' : Hp} {p c : Addr} {k : Nat} (h : Pen H p c k) (e : ExtN H H') : Pen H' p c k := by
  obtain ⟨ns, b, l, W, hb⟩ := h
  exact ⟨ns, b, l, ⟨e _ _ W.hp (fun _ z => nomatch z), e _ _ W.hc (fun _ z => nomatch z), W.ln, W.b0⟩, hb⟩
theorem Pen.nins {H : Hp} {p cc y C dx : Addr} {k : Nat} {fs : List (Str × V)} (h : Pen H p cc k) (e : H y = some (.ins C dx fs)) : y ≠ p := fun z => by
  obtain ⟨_, _, _, W, _⟩ := h
  rw [z, W.hp] at e
  cases e
theorem Pen.ntup {H : Hp} {p cc y : Addr} {k : Nat} {xs : List V} (h : Pen H p cc k) (e : H y = some (.tup xs)) : y ≠ p := fun z => by
  obtain ⟨_, _, _, W, _⟩ := h
  rw [z, W.hp] at e
  cases e
theorem Pen.lstK {H : Hp} {p cc : Addr} {k : Nat} (h : Pen H p cc k) : ∃ xs, H p = some (.lst xs) := by
  obtain ⟨_, _, _, W, _⟩ := h
  exact ⟨_, W.hp⟩
/-! what repr shows of nested lists and tuples of ints: how long it may get -/
structure ShwB (d : PyData) (n m : Nat) : Prop where
  s : d.showable = true
  h : d.hasDict = false
  dp : d.depth ≤ n
  l : d.shown.length ≤ m
theorem shw_all {n m : Nat} : ∀ {ds : List PyData}, (∀ d ∈ ds, ShwB d n m) → PyData.showableAll ds = true ∧ PyData.hasDictAll ds = false ∧ PyData.depthAll ds ≤ n ∧ ((PyData.shownAll ds).map (·.length)).sum ≤ ds.length * m ∧ (PyData.shownAll ds).length = ds.length
  | [], _ => ⟨rfl, rfl, Nat.zero_le _, Nat.zero_le _, rfl⟩
  | d :: ds, h => by
    obtain ⟨h1, h2, h3, h4, h5⟩ := shw_all (ds := ds) fun e he => h e (List.mem_cons_of_mem _ he)
    obtain ⟨g1, g2, g3, g4⟩ := h d List.mem_cons_self
    refine ⟨?_, ?_, ?_, ?_, ?_⟩
    · simp only [PyData.showableAll, g1, h1, Bool.and_self]
    · simp only [PyData.hasDictAll, g2, h2, Bool.or_self]
    · simp only [PyData.depthAll]
      omega
    · show d.shown.length + ((PyData.shownAll ds).map (·.length)).sum ≤ (ds.length + 1) * m
      rw [Nat.add_mul, Nat.one_mul]
      omega
    · show (PyData.shownAll ds).length + 1 = ds.length + 1
      rw [h5]
theorem shw_list {n m L : Nat} {ds : List PyData} (h : ∀ d ∈ ds, ShwB d n m) (l : ds.length ≤ L) : ShwB (.list ds) (n + 1) (L * (m + 2) + 3) := by
  obtain ⟨h1, h2, h3, h4, h5⟩ := shw_all h
  refine ⟨by simp only [PyData.showable, h1], by simp only [PyData.hasDict, h2], by simp only [PyData.depth]; omega, ?_⟩
  have e : (PyData.list ds).shown = listText (PyData.shownAll ds) := by simp only [PyData.shown]
  have := listText_len_le (PyData.shownAll ds)
  rw [h5] at this
  rw [e]
  have g : ds.length * (m + 2) ≤ L * (m + 2) := Nat.mul_le_mul_right _ l
  have g2 : ds.length * (m + 2) = ds.length * m + ds.length * 2 := Nat.mul_add ..
  omega
theorem shw_tup {n m L : Nat} {ds : List PyData} (h : ∀ d ∈ ds, ShwB d n m) (l : ds.length ≤ L) : ShwB (.tuple ds) (n + 1) (L * (m + 2) + 3) := by
  obtain ⟨h1, h2, h3, h4, h5⟩ := shw_all h
  refine ⟨by simp only [PyData.showable, h1], by simp only [PyData.hasDict, h2], by simp only [PyData.depth]; omega, ?_⟩
  have e : (PyData.tuple ds).shown = tupleText (PyData.shownAll ds) := by simp only [PyData.shown]
  have := tupleText_len_le (PyData.shownAll ds)
  rw [h5] at this
  rw [e]
  have g : ds.length * (m + 2) ≤ L * (m + 2) := Nat.mul_le_mul_right _ l
  have g2 : ds.length * (m + 2) = ds.length * m + ds.length * 2 := Nat.mul_add ..
  omega
theorem log_ltK {i : Int} (h : i.natAbs < 2 ^ 1900) : i.natAbs.log2 < 1920 := by
  by_cases hz : i.natAbs = 0
  · rw [hz]; decide
  · have := (Nat.log2_lt hz).mpr h
    omega
theorem shw_int {i : Int} (h : i.natAbs < 2 ^ 1900) : ShwB (.int i) 0 1921 := by
  refine ⟨by simp only [PyData.showable, decide_eq_true (log_ltK h)], by simp only [PyData.hasDict], Nat.le_refl 0, ?_⟩
  show (Str.ofString (toString i)).length ≤ 1921
  rw [PySem.ofString_length]
  exact PySem.int_text_length_le (k := 1920) (by decide) (log_ltK h)
theorem shw_sm {i : Int} (h : -200 ≤ i ∧ i ≤ 200) : ShwB (.int i) 0 1921 := shw_int (Nat.lt_of_le_of_lt (show i.natAbs ≤ 200 by omega) (Nat.lt_of_lt_of_le (by decide : 200 < 2 ^ 8) (Nat.pow_le_pow_right (by decide) (by decide))))
theorem rep_shw {K : PySem.W.Frag} {H : Hp} {a : Addr} {d : PyData} {n m : Nat} (h : Dp K H (.ref a) d) (g : ShwB d n m) (hn : n ≤ 60) (hm : m ≤ 1000000) : Own.ReprOf K H (.ref a) d.shown :=
  .dat h g.s g.h (Nat.le_trans g.dp hn) (Nat.le_trans (Nat.le_trans g.l hm) (by rw [sizeLine_eq]; decide))
/-- a tuple of few small ints -/
theorem shw_ints {ns : List Int} (h : ∀ n ∈ ns, -200 ≤ n ∧ n ≤ 200) (l : ns.length ≤ 16) : ShwB (.tuple (ns.map PyData.int)) 1 40000 := by
  have g := shw_tup (n := 0) (m := 1921) (L := 16) (ds := ns.map PyData.int) (fun d hd => by
    obtain ⟨i, hi, rfl⟩ := List.mem_map.mp hd
    exact shw_sm (h i hi)) (by rw [List.length_map]; exact l)
  exact ⟨g.s, g.h, g.dp, Nat.le_trans g.l (by decide)⟩
theorem dp_intsK {K : PySem.W.Frag} {H : Hp} : ∀ ns : List Int, DpAll K H (ns.map V.int) (ns.map PyData.int)
  | [] => .nil
  | n :: r => .cons (.int n) (dp_intsK r)

/-! a text that a scale writes is read back -/
theorem txt_noblank : ∀ n : Fin 25, (32 : Nat) ∉ tl (txt ((n.val : Int) - 12)) := by decide +kernel
theorem noblank {i : Int} (h : -12 ≤ i ∧ i ≤ 12) : (32 : Nat) ∉ tl (txt i) := by
  have e := txt_noblank ⟨(i + 12).toNat, by omega⟩
  have e2 : (((i + 12).toNat : Nat) : Int) - 12 = i := by omega
  simp only [e2] at e
  exact e
theorem split_text {ns : List Int} (h : ns ≠ []) (bd : ∀ z ∈ ns, -12 ≤ z ∧ z ≤ 12) : Txt.split (Txt.join " " (ns.map txt)) " " = ns.map txt :=
  split_join (s := 32) (S := []) rfl (by decide +kernel) (fun e => h (List.map_eq_nil_iff.mp e)) fun p hp => by
    obtain ⟨z, hz, rfl⟩ := List.mem_map.mp hp
    exact noblank (bd z hz)
theorem scan_text : ∀ (ns f : List Int), (f ++ ns).Nodup → (∀ z ∈ ns, -12 ≤ z ∧ z ≤ 12) → (f ++ ns).length ≤ 16 → scanW (ns.map txt) f = .inr (f ++ ns)
  | [], f, _, _, _ => by rw [List.append_nil]; rfl
  | n :: r, f, nd, bd, ln => by
    have hb := bd n List.mem_cons_self
    rw [List.map_cons]
    unfold scanW
    rw [numW_iff.mpr ⟨hb, rfl⟩]
    have hn : ¬ (n ∈ f ∨ 16 ≤ f.length) := by
      rintro (h | h)
      · exact (List.nodup_append.mp nd).2.2 n h n List.mem_cons_self rfl
      · rw [List.length_append, List.length_cons] at ln
        omega
    show (if n ∈ f ∨ 16 ≤ f.length then Sum.inl f.length else scanW (r.map txt) (f ++ [n])) = _
    rw [if_neg hn, scan_text r (f ++ [n]) (by rw [List.append_assoc]; exact nd) (fun z hz => bd z (List.mem_cons_of_mem _ hz)) (by rw [List.append_assoc]; exact ln), List.append_assoc]
    rfl
theorem read_text {ns : List Int} (ok : ScaOk ns) : readT (textN ns) = .inr ns := by
  unfold textN
  by_cases h : ns = []
  · rw [if_pos h, h]
    unfold readT
    rw [if_pos rfl]
  rw [if_neg h]
  unfold readT
  have hs := split_text h ok.bd
  by_cases hd : Txt.join " " (ns.map txt) = "-"
  · rw [hd, show Txt.split ("-" : Str) " " = ([("-" : Str)] : List Str) by decide +kernel] at hs
    cases ns with
    | nil => exact absurd rfl h
    | cons n r =>
      rw [List.map_cons] at hs
      have e : ("-" : Str) = txt n := (List.cons.inj hs).1
      have g := (txt_at (ok.bd n List.mem_cons_self)).2
      have g2 : PySem.intText? ("-" : Str) = none := by decide +kernel
      rw [← e, g2] at g
      cases g
  rw [if_neg hd, hs, scan_text ns [] ok.nd ok.bd ok.ln]
  rfl
theorem text_len {ns : List Int} (ok : ScaOk ns) : (textN ns).length ≤ 64 := by
  unfold textN
  split
  · decide
  · have a := join_len (ns.map txt)
    have b := sum_len ns ok.bd
    have c := ok.ln
    unfold tot at a
    rw [List.length_map] at a
    omega
/-- what a text is read as is within bounds -/
def RdOk (r : Sum Nat (List Int)) : Prop := (∀ k, r = .inl k → k ≤ 16) ∧ ∀ ns, r = .inr ns → ScaOk ns
theorem scan_ok : ∀ (ws : List Str) (f : List Int), ScaOk f → RdOk (scanW ws f)
  | [], f, h => ⟨(fun _ e => nomatch e), fun ns e => by injection (show Sum.inr f = Sum.inr ns from e) with e; rw [← e]; exact h⟩
  | w :: ws, f, h => by
    unfold scanW
    cases e : numW w with
    | none => exact ⟨fun k g => by injection (show Sum.inl f.length = Sum.inl k from g) with g; rw [← g]; exact h.ln, fun _ g => nomatch g⟩
    | some n =>
      show RdOk (if n ∈ f ∨ 16 ≤ f.length then Sum.inl f.length else scanW ws (f ++ [n]))
      by_cases c : n ∈ f ∨ 16 ≤ f.length
      · rw [if_pos c]
        exact ⟨fun k g => by injection g with g; rw [← g]; exact h.ln, fun _ g => nomatch g⟩
      · rw [if_neg c]
        exact scan_ok ws _ (h.push (fun m => c (.inl m)) (numW_iff.mp e).1 (fun m => c (.inr m)))
theorem readT_ok (t : Str) : RdOk (readT t) := by
  unfold readT
  split
  · exact ⟨(fun _ e => nomatch e), fun ns e => by injection e with e; rw [← e]; exact .nil⟩
  · exact scan_ok _ _ .nil
def rdD : Sum Nat (List Int) → PyData
  | .inl k => .tuple [.str "word", .int k]
  | .inr ns => .list [.tuple (ns.map PyData.int)]
/-- what the law tells of r stands at l -/
def AtR (H : Hp) (l : Addr) : Sum Nat (List Int) → Prop
  | .inl k => H l = some (.tup [.str "word", .int k])
  | .inr ns => ∃ o, H o = some (.tup (ns.map V.int)) ∧ H l = some (.lst [.ref o])
theorem AtR.same {H H' : Hp} {l : Addr} {r : Sum Nat (List Int)} (h : AtR H l r) (s : Same H H') : AtR H' l r := by
  cases r with
  | inl k => exact s _ _ h
  | inr ns => obtain ⟨o, h1, h2⟩ := h; exact ⟨o, s _ _ h1, s _ _ h2⟩
theorem AtR.ext {H H' : Hp} {l : Addr} {r : Sum Nat (List Int)} (h : AtR H l r) (s : ExtN H H') : AtR H' l r := by
  cases r with
  | inl k => exact s _ _ h (fun _ z => nomatch z)
  | inr ns => obtain ⟨o, h1, h2⟩ := h; exact ⟨o, s _ _ h1 (fun _ z => nomatch z), s _ _ h2 (fun _ z => nomatch z)⟩
theorem AtR.dp {K : PySem.W.Frag} {H : Hp} {l : Addr} {r : Sum Nat (List Int)} (h : AtR H l r) : Dp K H (.ref l) (rdD r) := by
  cases r with
  | inl k => exact .tup (SqT.of h) (.cons (.str _) (.cons (.int _) .nil))
  | inr ns => obtain ⟨o, h1, h2⟩ := h; exact .lst (SqL.of h2) (.cons (.tup (SqT.of h1) (dp_intsK ns)) .nil)
theorem shw_word : ∀ k : Fin 17, (PyData.tuple [.str "word", .int (k.val : Int)]).showable = true ∧ (PyData.tuple [.str "word", .int (k.val : Int)]).hasDict = false ∧ (PyData.tuple [.str "word", .int (k.val : Int)]).depth ≤ 2 ∧ (PyData.tuple [.str "word", .int (k.val : Int)]).shown.length ≤ 100 := by decide +kernel
theorem rdD_shw {r : Sum Nat (List Int)} (h : RdOk r) : ShwB (rdD r) 2 100000 := by
  cases r with
  | inl k =>
    have e := shw_word ⟨k, by have := h.1 k rfl; omega⟩
    exact ⟨e.1, e.2.1, e.2.2.1, Nat.le_trans e.2.2.2 (by decide)⟩
  | inr ns =>
    have ok := h.2 ns rfl
    have a := shw_ints (ns := ns) (fun n hn => by have := ok.bd n hn; omega) ok.ln
    have g := shw_list (n := 1) (m := 40000) (L := 1) (ds := [.tuple (ns.map PyData.int)]) (fun d hd => by rw [List.mem_singleton.mp hd]; exact a) (Nat.le_refl _)
    exact ⟨g.s, g.h, g.dp, Nat.le_trans g.l (by decide)⟩
theorem AtR.rep {K : PySem.W.Frag} {H : Hp} {l : Addr} {r : Sum Nat (List Int)} (h : AtR H l r) (ok : RdOk r) : Own.ReprOf K H (.ref l) (rdD r).shown := rep_shw h.dp (rdD_shw ok) (by decide) (by decide)
theorem okWd : SeqAt.shaped (.tuple [.str "word", .int 0]) = true := by
  simp [SeqAt.shaped, PyData.canLay0, PyData.canLayAll0, PyData.depth, PyData.depthAll]
  exact okSK "word"
abbrev wd4 : PyData := .list [.tuple [.str "word", .int 16], .tuple [.str "word", .int 16], .tuple [.str "word", .int 0], .tuple [.str "word", .int 0]]
theorem okW4 : SeqAt.shaped wd4 = true := by
  simp [SeqAt.shaped, PyData.canLay0, PyData.canLayAll0, PyData.depth, PyData.depthAll]
  exact okSK "word"
theorem eqW4 : PyData.eqv wd4 wd4 = true := by decide +kernel
theorem eqWd : PyData.eqv (.tuple [.str "word", .int 0]) (.tuple [.str "word", .int 0]) = true := by decide +kernel
/-! the law's last texts -/
def fars : List Int := (List.range 17).map fun k : Nat => -4 + (k : Int)
def farT : Str := Txt.join " " (fars.map txt)
theorem far_r : readT farT = .inl 16 := by decide +kernel
theorem far2_r : readT (farT ++ " 99") = .inl 16 := by decide +kernel
theorem d3_r : readT "- 3" = .inl 0 := by decide +kernel
theorem nil_r : readT "" = .inl 0 := by decide +kernel
theorem far_len : farT.length ≤ 100 ∧ (farT ++ " 99").length ≤ 110 := by decide +kernel
end Toy
set_option maxRecDepth 100000
set_option maxHeartbeats 8000000
set_option exponentiation.threshold 9000
namespace Toy
open PySem L2
open Rat (divInt)
open LamX (Tabs TabS ExtN CodeO)
section
variable {P : Program} {w : World} {K : PySem.W.Frag} {mg : Str → Option Value} {base : Heap} {CS CBT CF P1 c : Addr}
theorem passE {X : Cx} : Passes (L2.CX X.prog X.w) X E0 := fun _ _ _ _ _ _ _ c => by
  obtain ⟨_, _, _, _, _, _, _, _, _, _, _, _, h⟩ := c
  exact h.elim
abbrev sLaw : Stmt := top 39
abbrev LQl : Str := (PyProof.Rows.envOfC "law" (defScope sLaw) 0 0 .none).qual ++ "<lambda>"
abbrev Ts (P1 : Addr) : List (Addr × Str) := [(P1, LQl)]
theorem ts_1 {P1 : Addr} : (P1, LQl) ∈ Ts P1 := List.mem_cons_self ..
theorem ts_u {P1 : Addr} : ∀ z ∈ Ts P1, z.1 = P1 → z.2 = LQl := fun z hz _ => by rw [List.mem_singleton.mp hz]
theorem fars_get {i : Nat} (hi : i < 17) : fars[i]? = some (-4 + ((i : Nat) : Int)) := by
  unfold fars
  rw [List.getElem?_map, List.getElem?_range hi]
  rfl
/-- what stands throughout a turn -/
structure LV (CS P1 : Addr) (H : Hp) (p cc : Addr) (k : Nat) (x l : Addr) (ns : List Int) : Prop where
  pen : Pen H p cc k
  sc : ScaAt CS H x ns
  ok : ScaOk ns
  hl : H l = some (.lst (ns.map V.int))
  lp : l ≠ p
  tb : Tabs (Ts P1) H
theorem ScaAt.ext {H H' : Hp} {x : Addr} {ns : List Int} (h : ScaAt CS H x ns) (e : ExtN H H') : ScaAt CS H' x ns := let ⟨dx, o, h, h1⟩ := h; ⟨dx, o, e _ _ h (fun _ z => nomatch z), e _ _ h1 (fun _ z => nomatch z)⟩
theorem LV.ext {H H' : Hp} {p cc x l : Addr} {k : Nat} {ns : List Int} (h : LV CS P1 H p cc k x l ns) (e : ExtN H H') (t : Tabs (Ts P1) H') : LV CS P1 H' p cc k x l ns := ⟨h.pen.extN e, h.sc.ext e, h.ok, e _ _ h.hl (fun _ z => nomatch z), h.lp, t⟩
theorem LV.same {H H' : Hp} {p cc x l : Addr} {k : Nat} {ns : List Int} (h : LV CS P1 H p cc k x l ns) (e : Same H H') : LV CS P1 H' p cc k x l ns := h.ext (exS e) (h.tb.ext e)
theorem LV.but {H H' : Hp} {p cc x l : Addr} {k k' : Nat} {ns : List Int} (h : LV CS P1 H p cc k x l ns) (B : But p H H') (P' : Pen H' p cc k') : LV CS P1 H' p cc k' x l ns := by
  obtain ⟨xs, hp⟩ := h.pen.lstK
  obtain ⟨dx, o, h1, h2⟩ := h.sc
  exact ⟨P', ⟨dx, o, B _ _ h1 (h.pen.nins h1), B _ _ h2 (h.pen.ntup h2)⟩, h.ok, B _ _ h.hl h.lp, h.lp, tabs_but h.tb hp B⟩
theorem LV.mono {H : Hp} {p cc x l : Addr} {k k' : Nat} {ns : List Int} (h : LV CS P1 H p cc k x l ns) (e : k ≤ k') : LV CS P1 H p cc k' x l ns := ⟨h.pen.mono e, h.sc, h.ok, h.hl, h.lp, h.tb⟩
/-- another scale changed -/
theorem LV.other {H H' : Hp} {p cc x l y C dy : Addr} {k : Nat} {fs : List (Str × V)} {ns : List Int} (h : LV CS P1 H p cc k x l ns) (hy : H y = some (.ins C dy fs)) (n : y ≠ x) (B : But y H H') : LV CS P1 H' p cc k x l ns := by
  obtain ⟨dx, o, h1, h2⟩ := h.sc
  obtain ⟨qs, b, l0, W, hb⟩ := h.pen
  refine ⟨⟨qs, b, l0, ⟨B _ _ W.hp (ne_of W.hp hy (by intro z; cases z)), B _ _ W.hc (ne_of W.hc hy (by intro z; cases z)), W.ln, W.b0⟩, hb⟩, ⟨dx, o, B _ _ h1 n.symm, B _ _ h2 (ne_of h2 hy (by intro z; cases z))⟩, h.ok, B _ _ h.hl (ne_of h.hl hy (by intro z; cases z)), h.lp, fun r hr => ?_⟩
  obtain ⟨ps, h1, h2, h3⟩ := h.tb r hr
  refine ⟨ps, B _ _ h1 (ne_of h1 hy (by intro z; cases z)), h2, fun pos cv hc => ?_⟩
  obtain ⟨c, e1, e2⟩ := h3 pos cv hc
  exact ⟨c, e1, B _ _ e2 (ne_of e2 hy (by intro z; unfold CodeO at z; cases z))⟩
def spLaw (K : PySem.W.Frag) (P1 : Addr) : Sp := fun vs H Q _ => ∃ (a : Addr) (ns : List Int), vs = [.ref a] ∧ SqL K H a (ns.map V.int) ∧ ns.length ≤ 63 ∧ Tabs (Ts P1) H ∧ ∀ H', Q (.bl true) H'
theorem scL : FnScope ["_law_script", "_law_pen_here", "_law_turn", "_law_row", "_law_made", "_law_whole", "_law_other", "_law_again", "_law_bent_here", "_law_heard_here", "_law_far", "_law_odd", "_law_page", "_law_one"] ["_law_script"] (defScope sLaw) := ⟨rfl, rfl, rfl, by decide +kernel, rfl, by decide +kernel, by decide +kernel⟩
theorem ok_law {f g f1 f2 f3 f4 f5 f6 f7 f8 f9 fR pR fS fE fN pN : Addr} {fd gd fd1 fd2 fd3 fd4 fd5 fd6 fd7 fdR fdS fdE fdN gd2 : FuncData} (F : Fun K "law" "law" sLaw f fd) (hcF : fd.code = .ref c) (TBL : LamX.TabB base mg c P1) (T : Bl mg) (zs : mg "str" = none) (zr : mg "repr" = none) (zt : mg "tuple" = none) (T_Scale : ScaT K mg CS)
    (FH : Fun K "_law_heard" "_law_heard" sHeardS g gd) (mgH : mg "_law_heard" = some (.ref g)) (bH : Binds K gd ["_law_ask"] [])
    (PM : PropOf K CS "numbers" pN fN) (FN : FnOk P w K mg base CX0 1 fN fdN ["self"] (spNums CS)) (bN : Binds K fdN ["self"] [])
    (TB : ErT K mg "BadText" "line" CBT f9) (n2 : PySem.W.findIn K (.ref CBT) "word" = some none) (XB : Own.KxC K CBT) (hF : mg "FifthError" = some (.ref CF)) (eB : PySem.W.exmOne K (.ref CBT) (.ref CF) = some true) (kBB : PySem.W.kitOne K (.ref CBT) (.ref CBT) = some true)
    (CM : ClX.CMet K CS (.type "type") "read" pR fR) (FR : FnOk P w K mg base (L2.CX P w) 6 fR fdR ["cls", "text"] (spRead K CS CBT)) (bR : Binds K fdR ["cls", "text"] []) (KB_read : KBn K fdR ["cls", "text"] 1 ["text"] (fun us ws => us ++ ws) (fun vs zs => vs ++ zs))
    (O_str : Opr P w K mg base 1 CS "__str__" fS fdS ["self"] (spStr CS)) (O_eq : Opr P w K mg base 1 CS "__eq__" fE fdE ["self", "other"] (spSEq CS))
    (neS : PySem.W.findIn K (.ref CS) "__ne__" = some (some (.builtin "object.__ne__"))) (sOS : PySem.W.subIn K (.ref CS) (.type "object") = some true) (nfI : PySem.W.notFirst K CS (.type "int") = true)
    (C__law_pen : Cal P w K mg base 1 "_law_pen" f1 fd1 ["_law_script"] (spPen K)) (C__law_pick : Cal P w K mg base 2 "_law_pick" f3 fd3 ["_law_pen_here", "_law_some_here"] spPick) (C__law_some : Cal P w K mg base 2 "_law_some" f4 fd4 ["_law_pen_here", "_law_many", "_law_most"] spSome)
    (C__law_scaled : Cal P w K mg base 6 "_law_scaled" f5 fd5 ["_law_row"] (spScl CS)) (C__law_text : Cal P w K mg base 1 "_law_text" f6 fd6 ["_law_row"] spTxt) (C__law_bent : Cal P w K mg base 3 "_law_bent" f7 fd7 ["_law_pen_here", "_law_page"] spBent) (C__law_due : Cal P w K mg base 1 "_law_due" f8 fd2 ["_law_thing"] (spDue K))
    (D_Scale_drop : Dot P w K mg base 3 CS "drop" f2 gd2 ["self", "k"] (spDrop CS)) :
    Own.FnG P w K mg base CX0 10 f fd ["_law_script"] (spLaw K P1) := by
  have kH := FH.kp
  obtain ⟨oc, od, kV, doc, pm, an, cdv, ct, osl, egd, lk, hcg⟩ := FH.ex
  subst egd
  refine Own.okGC F hcF scL (fun vs H Q E h => ?_) (fun A outer s H vs Q E hg hr h => ?_)
  · obtain ⟨a, ns, rfl, _⟩ := h
    rfl
  · obtain ⟨a0, scr, rfl, hS, hlen, hT, kq⟩ := h
    have nd := scL.nd
    refine ⟨_, pss_cons (ps_set (i := 1) nd rfl (Or.inl rfl) (pe_call C__law_pen.F (hr.mono (by decide)) (by rfl) C__law_pen.mgf C__law_pen.kp C__law_pen.b .nil pass0 (pa_cons (pv 0) pa_nil)))
      (pss_cons (ps_for PassesOwn.never rfl (pi_range1 (by rfl) T.range (pa_cons pe_int pa_nil)) (pg_name (i := 2) nd rfl (Or.inl rfl)) (pss_cons (ps_set (i := 3) nd rfl (Or.inl rfl) (pe_call C__law_some.F (hr.mono (by decide)) (by rfl) C__law_some.mgf C__law_some.kp C__law_some.b .nil pass0 (pa_cons (pv 1) (pa_cons (pe_call C__law_pick.F (hr.mono (by decide)) (by rfl) C__law_pick.mgf C__law_pick.kp C__law_pick.b .nil pass0 (pa_cons (pv 1) (pa_cons (pe_lst (pa_cons pe_int (pa_cons pe_int (pa_cons pe_int (pa_cons pe_int (pa_cons pe_int (pa_cons pe_int (pa_cons pe_int (pa_cons pe_int pa_nil))))))))) pa_nil))) (pa_cons pe_int pa_nil)))))
      (pss_cons (ps_par (i := 4) (j := 5) (by rfl) nd rfl rfl (by decide) rfl rfl (pa_cons (pe_call C__law_scaled.F (hr.mono (by decide)) (by rfl) C__law_scaled.mgf C__law_scaled.kp C__law_scaled.b .nil pass0 (pa_cons (pv 3) pa_nil)) (pa_cons (pe_call C__law_text.F (hr.mono (by decide)) (by rfl) C__law_text.mgf C__law_text.kp C__law_text.b .nil pass0 (pa_cons (pv 3) pa_nil)) pa_nil)) (by rfl))
      (pss_cons (ps_if (PW.pt (pw_or (pt_cmpR op_ne (pe_callTy (Own.call_ownStr O_str.F (hr.mono (by decide)) O_str.at_ O_str.fn O_str.b pass0) (by rfl) zs (by decide +kernel) (pa_cons (pv 4) pa_nil)) (pv 5) (nomark _)) (pw_or (pt_cmpR (Own.op_neL O_eq.F (hr.mono (by decide)) O_eq.at_ neS sOS O_eq.fn nfI O_eq.b pass0) (ClX.pe_cmeth (Own.pe_gref (by rfl) T_Scale.mgC) T_Scale.rd CM (FR.raw bR .nil) (hr.mono (by decide)) passE (pa_cons (pv 5) pa_nil)) (pv 4) (nomark _)) (pw_or1 (pt_cmpR (Own.op_neL O_eq.F (hr.mono (by decide)) O_eq.at_ neS sOS O_eq.fn nfI O_eq.b pass0) (Own.pe_cmethK0 (Own.pe_gref (by rfl) T_Scale.mgC) T_Scale.rd CM FR (hr.mono (by decide)) KB_read passE (pk_cons (pv 5) pk_nil)) (pv 4) (nomark _)))))) (pss_one (ps_ret pe_bl)) pss_nil)
      (pss_cons (ps_set (i := 6) nd rfl (Or.inl rfl) (ClX.pe_cmeth (Own.pe_gref (by rfl) T_Scale.mgC) T_Scale.rd CM (FR.raw bR .nil) (hr.mono (by decide)) passE (pa_cons (pv 5) pa_nil)))
      (C8.pss_cut (ps_if (pt_cmpR (op_neD hr.units) (pv 3) (pe_lst pa_nil) (nomark _)) (pss_one (ps_expr (pe_meth (pv 6) T_Scale.cl D_Scale_drop.m D_Scale_drop.F (hr.mono (by decide)) D_Scale_drop.b .nil pass0 (pa_cons pe_int pa_nil)))) pss_nil)
      (pss_cons (ps_if (PW.pt (pw_or (pt_cmpR op_ne (pe_callTy (Own.call_ownStr O_str.F (hr.mono (by decide)) O_str.at_ O_str.fn O_str.b pass0) (by rfl) zs (by decide +kernel) (pa_cons (pv 4) pa_nil)) (pv 5) (nomark _)) (pw_or1 (pt_cmpR op_ne (pe_callB (Own.call_reprA hg hr.units) (by rfl) zr (by decide +kernel) (pa_cons (pe_prop (pv 4) T_Scale.cl PM FN (hr.mono (by decide)) bN .nil pass0 rfl) pa_nil)) (pe_callB (Own.call_reprA hg hr.units) (by rfl) zr (by decide +kernel) (pa_cons (pe_callTy call_tuple_of (by rfl) zt (by decide +kernel) (pa_cons (pv 3) pa_nil)) pa_nil)) (nomark _))))) (pss_one (ps_ret pe_bl)) pss_nil)
      (pss_cons (ps_for PassesOwn.never rfl (pi_range1 (by rfl) T.range (pa_cons pe_int pa_nil)) (pg_name (i := 7) nd rfl (Or.inl rfl)) (pss_cons (ps_set (i := 8) nd rfl (Or.inl rfl) (pe_call C__law_bent.F (hr.mono (by decide)) (by rfl) C__law_bent.mgf C__law_bent.kp C__law_bent.b .nil pass0 (pa_cons (pv 1) (pa_cons (pv 5) pa_nil))))
      (pss_one (ps_for PassesOwn.never rfl (pi_list (pe_lst (pa_cons (pv 8) (pa_cons (pe_call C__law_bent.F (hr.mono (by decide)) (by rfl) C__law_bent.mgf C__law_bent.kp C__law_bent.b .nil pass0 (pa_cons (pv 1) (pa_cons (pv 8) pa_nil))) (pa_cons (pe_op op_add_str (pe_op op_add_str (pv 8) pe_str) (pv 5)) pa_nil))))) (pg_name (i := 12) nd rfl (Or.inr rfl)) (pss_one (ps_if (pt_cmpR op_ne (pe_callB (Own.call_reprA hg hr.units) (by rfl) zr (by decide +kernel) (pa_cons (LamX.pe_lamcall (T := Ts P1) (TT := TTs CBT CS) (t := fun E => ClX.tCMeth CS (fun vs H Q E => spRead K CS CBT (vs ++ []) H Q E) E (tC (.ref CS)) (tCons (tVar 12) tNil)) (by rfl) mgH kH lk hcg bH scHdS (by rfl) (.inl rfl) (heard_s (hr.mono (by decide)) T T_Scale PM FN bN TB n2 XB hF eB kBB) TBL (by rfl) ts_1 ts_u hr (LamX.lamS_by (by rfl)) (by rfl) (fun _ _ _ _ _ => rfl) (fun A outer s H E f c' hr2 => ClX.pe_cmeth (Own.pe_gref (by rfl) T_Scale.mgC) T_Scale.rd CM (FR.raw bR .nil) (hr2.mono (by decide)) (passes_call (takes_of rfl rfl rfl rfl) fun _ _ _ _ h => h) (pa_cons (pv 12) pa_nil))) pa_nil)) (pe_callB (Own.call_reprA hg hr.units) (by rfl) zr (by decide +kernel) (pa_cons (pe_call C__law_due.F (hr.mono (by decide)) (by rfl) C__law_due.mgf C__law_due.kp C__law_due.b .nil pass0 (pa_cons (pv 12) pa_nil)) pa_nil)) (nomark _)) (pss_one (ps_ret pe_bl)) pss_nil))))))
      (pss_cons (ps_set (i := 11) nd rfl (Or.inr rfl) (pe_call C__law_pick.F (hr.mono (by decide)) (by rfl) C__law_pick.mgf C__law_pick.kp C__law_pick.b .nil pass0 (pa_cons (pv 1) (pa_cons (pe_lst (pa_cons pe_non (pa_cons pe_int (pa_cons pe_bl (pa_cons (pv 3) (pa_cons (pe_tup (pa_cons (pv 5) pa_nil)) (pa_cons (pe_lst pa_nil) (pa_cons pe_dnewK (pa_cons pe_int pa_nil))))))))) pa_nil))))
      (pss_one (ps_if (pt_cmpR (op_neD hr.units) (LamX.pe_lamcall (T := Ts P1) (TT := TTs CBT CS) (t := fun E => ClX.tCMeth CS (fun vs H Q E => spRead K CS CBT (vs ++ []) H Q E) E (tC (.ref CS)) (tCons (tVar 11) tNil)) (by rfl) mgH kH lk hcg bH scHdS (by rfl) (.inl rfl) (heard_s (hr.mono (by decide)) T T_Scale PM FN bN TB n2 XB hF eB kBB) TBL (by rfl) ts_1 ts_u hr (LamX.lamS_by (by rfl)) (by rfl) (fun _ _ _ _ _ => rfl) (fun A outer s H E f c' hr2 => ClX.pe_cmeth (Own.pe_gref (by rfl) T_Scale.mgC) T_Scale.rd CM (FR.raw bR .nil) (hr2.mono (by decide)) (passes_call (takes_of rfl rfl rfl rfl) fun _ _ _ _ h => h) (pa_cons (pv 11) pa_nil))) (pe_tup (pa_cons pe_str (pa_cons pe_int pa_nil))) (nomark _)) (pss_one (ps_ret pe_bl)) pss_nil)))))))))))
      (pss_cons (ps_set (i := 10) nd rfl (Or.inr rfl) (pe_join pe_str (pe_lc (own := [("_law_one", 13)]) (g := gName 13) (tt := tYes) rfl nd (pi_range2 (by rfl) T.range (pa_cons (pe_un un_neg pe_int) (pa_cons pe_int pa_nil))) (blkOk_by (N := ["_law_script", "_law_pen_here", "_law_turn", "_law_row", "_law_made", "_law_whole", "_law_other", "_law_again", "_law_bent_here", "_law_heard_here", "_law_far", "_law_odd", "_law_page", "_law_one"]) (sc := defScope (top 39)) (by decide +kernel)) (fun _ _ _ _ _ => pg_name (i := 13) nd rfl (Or.inl rfl)) (fun _ _ _ _ _ => pts_nil) (fun _ _ _ _ _ => (pe_callTy call_str_int (by rfl) zs (by decide +kernel) (pa_cons (pv 13) pa_nil))))))
      (pss_cons (ps_set (i := 9) nd rfl (Or.inl rfl) (pe_lst (pa_cons (LamX.pe_lamcall (T := Ts P1) (TT := TTs CBT CS) (t := fun E => ClX.tCMeth CS (fun vs H Q E => spRead K CS CBT (vs ++ []) H Q E) E (tC (.ref CS)) (tCons (tVar 10) tNil)) (by rfl) mgH kH lk hcg bH scHdS (by rfl) (.inl rfl) (heard_s (hr.mono (by decide)) T T_Scale PM FN bN TB n2 XB hF eB kBB) TBL (by rfl) ts_1 ts_u hr (LamX.lamS_by (by rfl)) (by rfl) (fun _ _ _ _ _ => rfl) (fun A outer s H E f c' hr2 => ClX.pe_cmeth (Own.pe_gref (by rfl) T_Scale.mgC) T_Scale.rd CM (FR.raw bR .nil) (hr2.mono (by decide)) (passes_call (takes_of rfl rfl rfl rfl) fun _ _ _ _ h => h) (pa_cons (pv 10) pa_nil))) pa_nil)))
      (pss_cons (ps_expr (pe_bm PySem.F.plainAttrs_list PySem.F.slot_list_append PySem.F.type_list_append mt_append (pv 9) (pa_cons (LamX.pe_lamcall (T := Ts P1) (TT := TTs CBT CS) (t := fun E => ClX.tCMeth CS (fun vs H Q E => spRead K CS CBT (vs ++ []) H Q E) E (tC (.ref CS)) (tCons (tOp (fun x y H Q => ∃ i j, x = V.str i ∧ y = V.str j ∧ i.length + j.length ≤ sizeLine ∧ Q (V.str (i ++ j)) H) (tVar 10) (tC (.str " 99"))) tNil)) (by rfl) mgH kH lk hcg bH scHdS (by rfl) (.inl rfl) (heard_s (hr.mono (by decide)) T T_Scale PM FN bN TB n2 XB hF eB kBB) TBL (by rfl) ts_1 ts_u hr (LamX.lamS_by (by rfl)) (by rfl) (fun _ _ _ _ _ => rfl) (fun A outer s H E f c' hr2 => ClX.pe_cmeth (Own.pe_gref (by rfl) T_Scale.mgC) T_Scale.rd CM (FR.raw bR .nil) (hr2.mono (by decide)) (passes_call (takes_of rfl rfl rfl rfl) fun _ _ _ _ h => h) (pa_cons (pe_op op_add_str (pv 10) pe_str) pa_nil))) pa_nil)))
      (pss_cons (ps_expr (pe_bm PySem.F.plainAttrs_list PySem.F.slot_list_append PySem.F.type_list_append mt_append (pv 9) (pa_cons (LamX.pe_lamcall (T := Ts P1) (TT := TTs CBT CS) (t := fun E => ClX.tCMeth CS (fun vs H Q E => spRead K CS CBT (vs ++ []) H Q E) E (tC (.ref CS)) (tCons (tC (.str "- 3")) tNil)) (by rfl) mgH kH lk hcg bH scHdS (by rfl) (.inl rfl) (heard_s (hr.mono (by decide)) T T_Scale PM FN bN TB n2 XB hF eB kBB) TBL (by rfl) ts_1 ts_u hr (LamX.lamS_by (by rfl)) (by rfl) (fun _ _ _ _ _ => rfl) (fun A outer s H E f c' hr2 => ClX.pe_cmeth (Own.pe_gref (by rfl) T_Scale.mgC) T_Scale.rd CM (FR.raw bR .nil) (hr2.mono (by decide)) (passes_call (takes_of rfl rfl rfl rfl) fun _ _ _ _ h => h) (pa_cons pe_str pa_nil))) pa_nil)))
      (pss_cons (ps_expr (pe_bm PySem.F.plainAttrs_list PySem.F.slot_list_append PySem.F.type_list_append mt_append (pv 9) (pa_cons (LamX.pe_lamcall (T := Ts P1) (TT := TTs CBT CS) (t := fun E => ClX.tCMeth CS (fun vs H Q E => spRead K CS CBT (vs ++ []) H Q E) E (tC (.ref CS)) (tCons (tC (.str "")) tNil)) (by rfl) mgH kH lk hcg bH scHdS (by rfl) (.inl rfl) (heard_s (hr.mono (by decide)) T T_Scale PM FN bN TB n2 XB hF eB kBB) TBL (by rfl) ts_1 ts_u hr (LamX.lamS_by (by rfl)) (by rfl) (fun _ _ _ _ _ => rfl) (fun A outer s H E f c' hr2 => ClX.pe_cmeth (Own.pe_gref (by rfl) T_Scale.mgC) T_Scale.rd CM (FR.raw bR .nil) (hr2.mono (by decide)) (passes_call (takes_of rfl rfl rfl rfl) fun _ _ _ _ h => h) (pa_cons pe_str pa_nil))) pa_nil)))
      (pss_one (ps_ret (pe_cmpR (op_eqD hr.units) (pv 9) (pe_lst (pa_cons (pe_tup (pa_cons pe_str (pa_cons pe_int pa_nil))) (pa_cons (pe_tup (pa_cons pe_str (pa_cons pe_int pa_nil))) (pa_cons (pe_tup (pa_cons pe_str (pa_cons pe_int pa_nil))) (pa_cons (pe_tup (pa_cons pe_str (pa_cons pe_int pa_nil))) pa_nil))))) (nomark _)))))))))), ?_⟩
    refine ⟨_, rfl, a0, scr, rfl, hS, hlen, fun p cc H0 s0 hp0 hP0 => ?_⟩
    refine ⟨8, rfl, by decide, by decide, ?_⟩
    refine for_range (lo := 0) (n := 8) (fun i σ H' => ∃ v2 v3 v4 v5 v6 v7 v8 v9 v10 v11 v12 v13, σ = [some (.ref a0), some (.ref p), v2, v3, v4, v5, v6, v7, v8, v9, v10, v11, v12, v13] ∧ Pen H' p cc (100 * i) ∧ Tabs (Ts P1) H') ⟨_, _, _, _, _, _, _, _, _, _, _, _, rfl, hP0, hT.ext s0⟩ ?_ ?_
    · rintro i σ H1 hi ⟨v2, v3, v4, v5, v6, v7, v8, v9, v10, v11, v12, v13, rfl, PN1, T1⟩
      have e60 : (200 : Nat) < sizeLine := by decide
      refine ⟨_, rfl, _, rfl, (by decide : 8 ≤ sizeLine), fun lq hlq => ?_⟩
      have sq := same_new (o := HO.lst [.int 0, .int 1, .int 2, .int 4, .int 7, .int 15, .int 16, .int 16]) hlq
      obtain ⟨xp1, hp1⟩ := (PN1.same sq).lstK
      refine ⟨p, cc, lq, _, _, rfl, PN1.same sq, by omega, upd_same, PN1.ne_none hlq, (show 0 < 8 by decide), (show 8 ≤ 1000 by decide), fun v H5 hv P5 B5 => ?_⟩
      have T5 := tabs_but (T1.ext sq) hp1 B5
      obtain ⟨m, rfl, m16⟩ : ∃ m : Nat, v = .int m ∧ m ≤ 16 := by
        simp only [List.mem_cons, List.not_mem_nil, or_false] at hv
        rcases hv with rfl | rfl | rfl | rfl | rfl | rfl | rfl | rfl
        · exact ⟨0, rfl, by decide⟩
        · exact ⟨1, rfl, by decide⟩
        · exact ⟨2, rfl, by decide⟩
        · exact ⟨4, rfl, by decide⟩
        · exact ⟨7, rfl, by decide⟩
        · exact ⟨15, rfl, by decide⟩
        · exact ⟨16, rfl, by decide⟩
        · exact ⟨16, rfl, by decide⟩
      refine ⟨p, cc, _, m, 12, rfl, P5, by omega, ⟨by decide, by decide⟩, m16, by omega, fun l ns H6 P6 B6 hl6 lp nnd nbd nln => ?_⟩
      obtain ⟨xp5, hp5⟩ := P5.lstK
      have T6 := tabs_but T5 hp5 B6
      have ok : ScaOk ns := ⟨nnd, fun z hz => by have := nbd z hz; omega, by omega⟩
      have n16 := ok.ln
      refine ⟨_, rfl, l, ns, rfl, hl6, ok, fun x H7 s7 ha7 => ?_⟩
      refine ⟨_, rfl, l, ns, rfl, s7 _ _ hl6, ok.bd, ok.ln, fun H8 s8 => ?_⟩
      have W8 : LV CS P1 H8 p cc (100 * i + 17) x l ns := ⟨((P6.same s7).same s8).mono (by omega), ha7.same s8, ok, s8 _ _ (s7 _ _ hl6), lp, (T6.ext s7).ext s8⟩
      have tln := text_len ok
      have rdt := read_text ok
      clear T6 T5 P5 P6 B6 hl6 lp nnd nbd nln s7 s8 ha7 hp5 B5 sq hp1 hv hlq T1 PN1
      refine ⟨_, _, rfl, ?_⟩
      have shI : ShwB (.tuple (ns.map PyData.int)) 1 40000 := shw_ints (fun n hn => by have := ok.bd n hn; omega) n16
      obtain ⟨dx8, o8, hx8, _⟩ := id W8.sc
      refine ⟨_, rfl, x, dx8, _, rfl, hx8, x, ns, rfl, W8.sc, ok, fun H9 s9 => ⟨⟨_, rfl⟩, _, rfl, rfl, _, rfl, iteFb (by rw [decide_eq_true rfl]; rfl) ?_⟩⟩
      have W9 := W8.same s9
      refine ⟨rfl, _, rfl, .str (textN ns), .inr ns, rfl, .inl ⟨_, rfl, by omega, rdt.symm⟩, fun ns' y1 H10 e1 _ _ s10 hy1 => ?_, fun k dd H' e => nomatch e⟩
      cases e1
      have W10 := W9.same s10
      obtain ⟨dy1, oy1, gy1, _⟩ := id hy1
      obtain ⟨dx10, o10, hx10, _⟩ := id W10.sc
      refine ⟨_, rfl, y1, dy1, _, rfl, gy1, .inr ⟨x, _, _, rfl, hx10⟩, y1, x, ns, ns, rfl, hy1, W10.sc, n16, n16, _, rfl, _, rfl, iteFb (by rw [decide_eq_true rfl]; rfl) ?_⟩
      refine ⟨rfl, _, rfl, rfl, .str (textN ns), .inr ns, rfl, .inl ⟨_, rfl, by omega, rdt.symm⟩, fun ns' y2 H11 e1 _ _ s11 hy2 => ?_, fun k dd H' e => nomatch e⟩
      cases e1
      have W11 := W10.same s11
      obtain ⟨dy2, oy2, gy2, _⟩ := id hy2
      obtain ⟨dx11, o11, hx11, _⟩ := id W11.sc
      refine ⟨_, rfl, y2, dy2, _, rfl, gy2, .inr ⟨x, _, _, rfl, hx11⟩, y2, x, ns, ns, rfl, hy2, W11.sc, n16, n16, _, rfl, _, rfl, iteFb (by rw [decide_eq_true rfl]; rfl) ?_⟩
      clear W8 W9 W10 hy1 gy1 hy2 gy2 hx8 hx10 s9 s10 s11
      refine ⟨rfl, _, rfl, .str (textN ns), .inr ns, rfl, .inl ⟨_, rfl, by omega, rdt.symm⟩, fun ns' y H12 e1 _ yn s12 hy => ?_, fun k dd H' e => nomatch e⟩
      cases e1
      have W12 := W11.same s12
      have yx : y ≠ x := fun z => by rw [z, hx11] at yn; cases yn
      obtain ⟨dy, oy, gy, _⟩ := id hy
      clear hx11 W11 s12 yn
      refine ⟨fun σ1 H1 => σ1 = [some (.ref a0), some (.ref p), some (.int (0 + (i : Nat))), some (.ref l), some (.ref x), some (.str (textN ns)), some (.ref y), v7, v8, v9, v10, v11, v12, v13] ∧ LV CS P1 H1 p cc (100 * i + 17) x l ns, ?_, ?_⟩
      · refine ⟨_, rfl, (by decide : 0 ≤ sizeLine), fun e he => ?_⟩
        have s13 := same_new (o := HO.lst []) he
        have W13 := W12.same s13
        refine ⟨.list (ns.map PyData.int), .list [], .lst (SqL.of W13.hl) (dpInts ns), .lst (SqL.of upd_same) .nil, shInts ns, rfl, _, rfl, ?_⟩
        rw [eqvNil]
        by_cases h0 : ns = []
        · refine iteFb (by rw [decide_eq_true h0]; rfl) ?_
          exact ⟨rfl, W13⟩
        · refine iteTb (by rw [decide_eq_false h0]; rfl) ?_
          have gy13 := s13 _ _ gy
          refine ⟨_, rfl, y, dy, _, rfl, gy13, scaF_no _ (by decide +kernel), y, 0, ns, rfl, hy.same s13, List.length_pos_iff.mpr h0, n16, fun v H14 B14 _ => ?_⟩
          exact ⟨rfl, W13.other gy13 yx B14⟩
      rintro σ1 H13 ⟨rfl, W13⟩
      clear W12 hy gy yx
      obtain ⟨dx13, o13, hx13, _⟩ := id W13.sc
      refine ⟨_, rfl, x, dx13, _, rfl, hx13, x, ns, rfl, W13.sc, ok, fun H14 s14 => ⟨⟨_, rfl⟩, _, rfl, rfl, _, rfl, iteFb (by rw [decide_eq_true rfl]; rfl) ?_⟩⟩
      have W14 := W13.same s14
      refine ⟨_, rfl, x, dx13, _, rfl, s14 _ _ hx13, x, ns, rfl, W14.sc, fun o ho => ?_⟩
      refine ⟨_, _, rfl, rep_shw (.tup (SqT.of ho) (dp_intsK ns)) shI (by decide) (by decide), ?_⟩
      refine ⟨_, rfl, l, _, rfl, .inl ⟨SqL.of W14.hl, fun t ht => ?_⟩⟩
      have s15 := same_new (o := HO.tup (ns.map V.int)) ht
      refine ⟨_, _, rfl, rep_shw (.tup (SqT.of upd_same) (dp_intsK ns)) shI (by decide) (by decide), rfl, _, rfl, iteFb (by rw [decide_eq_true rfl]; rfl) ?_⟩
      have W15 := W14.same s15
      generalize upd H14 t (HO.tup (ns.map V.int)) = H15 at *
      clear W13 W14 s14 s15 ho ht hx13
      refine ⟨5, rfl, by decide, by decide, ?_⟩
      refine for_range (lo := 0) (n := 5) (fun j σ H' => ∃ v6 v7 v8 v9 v10 v11 v12 v13, σ = [some (.ref a0), some (.ref p), some (.int (0 + (i : Nat))), some (.ref l), some (.ref x), some (.str (textN ns)), v6, v7, v8, v9, v10, v11, v12, v13] ∧ LV CS P1 H' p cc (100 * i + 20 + 9 * j) x l ns) ⟨_, _, _, _, _, _, _, _, rfl, W15.mono (by omega)⟩ ?_ ?_
      · rintro j σ H16 hj ⟨v6, v7, v8, v9, v10, v11, v12, v13, rfl, W16⟩
        refine ⟨_, rfl, _, rfl, p, cc, _, textN ns, rfl, W16.pen, by omega, by omega, fun u1 H17 P17 B17 lu1 => ?_⟩
        have W17 := W16.but B17 P17
        refine ⟨_, rfl, _, rfl, _, rfl, p, cc, _, u1, rfl, W17.pen, by omega, by omega, fun u2 H18 P18 B18 lu2 => ?_⟩
        have W18 := W17.but B18 P18
        have lu3 : (u1 ++ " " ++ textN ns).length ≤ 10000 := by
          rw [TL.len_tl, TL.tl_append, TL.tl_append, List.length_append, List.length_append, ← TL.len_tl, ← TL.len_tl, ← TL.len_tl]
          show u1.length + 1 + (textN ns).length ≤ 10000
          omega
        have lu4 : (u1 ++ " ").length = u1.length + 1 := by
          rw [TL.len_tl, TL.tl_append, List.length_append, ← TL.len_tl, ← TL.len_tl]
          rfl
        have e1000 : (1000 : Nat) < sizeLine := by decide
        refine ⟨_, rfl, u1, " ", rfl, rfl, by show u1.length + 1 ≤ sizeLine; omega, _, rfl, _, _, rfl, rfl, by omega, (by decide : 3 ≤ sizeLine), fun lg hlg => ?_⟩
        have s19 := same_new (o := HO.lst [.str u1, .str u2, .str (u1 ++ " " ++ textN ns)]) hlg
        have lgp := W18.pen.ne_none hlg
        have W19 := W18.same s19
        have hlg1 : (upd H18 lg (HO.lst [.str u1, .str u2, .str (u1 ++ " " ++ textN ns)])) lg = _ := upd_same
        have en : ∀ y ∈ [V.str u1, .str u2, .str (u1 ++ " " ++ textN ns)], ∃ t : Str, y = .str t ∧ t.length ≤ 10000 := fun y hy => by
          simp only [List.mem_cons, List.not_mem_nil, or_false] at hy
          rcases hy with rfl | rfl | rfl
          · exact ⟨u1, rfl, by omega⟩
          · exact ⟨u2, rfl, by omega⟩
          · exact ⟨_, rfl, lu3⟩
        generalize upd H18 lg (HO.lst [.str u1, .str u2, .str (u1 ++ " " ++ textN ns)]) = H19 at *
        clear W16 W17 W18 P17 P18 B17 B18 s19 hlg
        refine ⟨lg, rfl, ⟨_, SqL.of hlg1⟩, ?_⟩
        refine for_it (walk_list (K := K) (a := lg) (xs := [V.str u1, .str u2, .str (u1 ++ " " ++ textN ns)])) (fun q σ H' => ∃ v6 v7 v8 v9 v10 v11 v12 v13, σ = [some (.ref a0), some (.ref p), some (.int (0 + (i : Nat))), some (.ref l), some (.ref x), some (.str (textN ns)), v6, v7, v8, v9, v10, v11, v12, v13] ∧ LV CS P1 H' p cc (100 * i + 20 + 9 * j + 8) x l ns ∧ H' lg = some (.lst [.str u1, .str u2, .str (u1 ++ " " ++ textN ns)])) ⟨_, _, _, _, _, _, _, _, rfl, W19.mono (by omega), hlg1⟩ (fun q σ H' _ h => ?_) ?_ ?_
        · obtain ⟨_, _, _, _, _, _, _, _, _, _, hg'⟩ := h
          exact SqL.of hg'
        · rintro q y σ H20 H21 hq ⟨v6, v7, v8, v9, v10, v11, v12, v13, rfl, W20, hlg20⟩ ⟨rfl, hy⟩
          obtain ⟨t, rfl, ht⟩ := en y (List.mem_of_getElem? hy)
          refine ⟨W20.tb, fun H22 e22 T22 => ?_⟩
          have W22 := W20.ext e22 T22
          have hlg22 := e22 _ _ hlg20 (fun _ z => nomatch z)
          clear W20 hlg20 e22 T22 hlg1 W19 W15 en hy
          intro post hpost
          refine ⟨rfl, _, rfl, .str t, readT t, rfl, .inl ⟨t, rfl, by omega, rfl⟩, fun ns' y H23 e ok' _ s23 ha => hpost y ns' H23 ha fun o lr H24 s24 ho hl => ?_, fun k dd H23 e s23 hd => ⟨dd, _, rfl, rfl, hd, fun lr H24 s24 hp => ?_⟩⟩
          case' refine_1 => have ar : AtR H24 lr (readT t) := by rw [e]; exact ⟨o, ho, hl⟩
          case' refine_2 => have ar : AtR H24 lr (readT t) := by rw [e]; exact hp
          all_goals
            have W24 := W22.same (s23.trans s24)
            have hlg24 := (s23.trans s24) _ _ hlg22
            refine ⟨_, _, rfl, ar.rep (readT_ok t), ?_⟩
            refine ⟨_, rfl, .str t, readT t, rfl, .inl ⟨t, rfl, by omega, rfl⟩, fun k2 lw H25 e2 s25 hp2 => ?_, fun ns2 o2 lw H25 e2 ok2 s25 ho2 hl2 => ?_⟩
            · have ar2 : AtR H25 lw (readT t) := by rw [e2]; exact hp2
              refine ⟨_, _, rfl, ar2.rep (readT_ok t), rfl, _, rfl, iteFb (by rw [decide_eq_true rfl]; rfl) ?_⟩
              exact ⟨_, _, _, _, _, _, _, _, rfl, W24.same s25, s25 _ _ hlg24⟩
            · have ar2 : AtR H25 lw (readT t) := by rw [e2]; exact ⟨o2, ho2, hl2⟩
              refine ⟨_, _, rfl, ar2.rep (readT_ok t), rfl, _, rfl, iteFb (by rw [decide_eq_true rfl]; rfl) ?_⟩
              exact ⟨_, _, _, _, _, _, _, _, rfl, W24.same s25, s25 _ _ hlg24⟩
        rintro σ H20 ⟨v6, v7, v8, v9, v10, v11, v12, v13, rfl, W20, _⟩
        exact ⟨_, _, _, _, _, _, _, _, rfl, W20.mono (by omega)⟩
      rintro σ H16 ⟨v6, v7, v8, v9, v10, v11, v12, v13, rfl, W16⟩
      clear W15
      refine ⟨_, rfl, _, rfl, _, rfl, (by decide : 1 ≤ sizeLine), fun tq htq => ?_⟩
      have s17 := same_new (o := HO.tup [.str (textN ns)]) htq
      have htq1 : (upd H16 tq (HO.tup [.str (textN ns)])) tq = _ := upd_same
      have W17 := W16.same s17
      generalize upd H16 tq (HO.tup [.str (textN ns)]) = H17 at *
      refine ⟨(by decide : 0 ≤ sizeLine), fun le hle => ?_⟩
      have s18 := same_new (o := HO.lst []) hle
      have hle1 : (upd H17 le (HO.lst [])) le = _ := upd_same
      have htq1 := s18 _ _ htq1
      have lep := W17.pen.ne_none hle
      have W18 := W17.same s18
      generalize upd H17 le (HO.lst []) = H18 at *
      refine fun de hde => ?_
      have s19 := same_new (o := HO.dK []) hde
      have hde1 : (upd H18 de (HO.dK [])) de = _ := upd_same
      have htq1 := s19 _ _ htq1
      have hle1 := s19 _ _ hle1
      have W19 := W18.same s19
      generalize upd H18 de (HO.dK []) = H19 at *
      refine ⟨(by decide : 8 ≤ sizeLine), fun ll hll => ?_⟩
      have s20 := same_new (o := HO.lst [.non, .int 0, .bl true, .ref l, .ref tq, .ref le, .ref de, .int 7]) hll
      have W20 := W19.same s20
      have llp := W19.pen.ne_none hll
      have htq1 := s20 _ _ htq1
      have hle1 := s20 _ _ hle1
      have hde1 := s20 _ _ hde1
      refine ⟨p, cc, ll, _, _, rfl, W20.pen, by omega, upd_same, llp, (show 0 < 8 by decide), (show 8 ≤ 1000 by decide), fun v H21 hv P21 B21 => ?_⟩
      have W21 := W20.but B21 P21
      have rv : ∀ H', ExtN H21 H' → ReadV K H' v (.inl 0) := fun H' ex => by
        have tk : ∀ {b o}, upd H19 ll (HO.lst [.non, .int 0, .bl true, .ref l, .ref tq, .ref le, .ref de, .int 7]) b = some o → b ≠ p → (∀ ps, o ≠ .tbl ps) → H' b = some o := fun e n t => ex _ _ (B21 _ _ e n) t
        have dp : de ≠ p := fun z => by
          obtain ⟨xs, hp⟩ := W20.pen.lstK
          rw [← z, hde1] at hp
          cases hp
        simp only [List.mem_cons, List.not_mem_nil, or_false] at hv
        rcases hv with rfl | rfl | rfl | rfl | rfl | rfl | rfl | rfl
        · exact .inr ⟨_, .base .non, rfl, rfl⟩
        · exact .inr ⟨_, .base (.int _), rfl, rfl⟩
        · exact .inr ⟨_, .base (.bl _), rfl, rfl⟩
        · exact .inr ⟨_, .base (.lst (tk W20.hl W20.lp (fun _ z => nomatch z))), rfl, rfl⟩
        · exact .inr ⟨_, .base (.tup (tk htq1 (W20.pen.ntup htq1) (fun _ z => nomatch z))), rfl, rfl⟩
        · exact .inr ⟨_, .base (.lst (tk hle1 lep (fun _ z => nomatch z))), rfl, rfl⟩
        · exact .inr ⟨_, .base (.dK (tk hde1 dp (fun _ z => nomatch z))), rfl, rfl⟩
        · exact .inr ⟨_, .base (.int _), rfl, rfl⟩
      clear s17 s18 s19 s20 W16 W17 W18 W19 W20 htq1 hle1 hde1 hv B21 P21
      refine ⟨W21.tb, fun H22 e22 T22 => ?_⟩
      have W22 := W21.ext e22 T22
      intro post hpost
      refine ⟨rfl, _, rfl, v, .inl 0, rfl, rv H22 e22, (fun ns' y H23 e => nomatch e), fun k dd H23 e s23 hd => ⟨dd, _, rfl, rfl, hd, fun lr H24 s24 hp => ?_⟩⟩
      cases e
      have W24 := W22.same (s23.trans s24)
      refine ⟨(by decide : 2 ≤ sizeLine), fun tw htw => ?_⟩
      have s25 := same_new (o := HO.tup [.str "word", .int 0]) htw
      refine ⟨.tuple [.str "word", .int 0], .tuple [.str "word", .int 0], .tup (SqT.of (s25 _ _ hp)) (.cons (.str _) (.cons (.int _) .nil)), .tup (SqT.of upd_same) (.cons (.str _) (.cons (.int _) .nil)), okWd, okWd, _, rfl, iteFb (by rw [eqWd]; rfl) ?_⟩
      have W25 := W24.same s25
      exact ⟨_, _, _, _, _, _, _, _, _, _, _, _, rfl, W25.pen.mono (by omega), W25.tb⟩
    rintro σ H1 ⟨v2, v3, v4, v5, v6, v7, v8, v9, v10, v11, v12, v13, rfl, PN1, T1⟩
    have nf : fars.length = 17 := by decide
    have e60 : (200 : Nat) < sizeLine := by decide
    refine ⟨⟨_, rfl⟩, 4, rfl, -4, 13, rfl, by decide, fun D hD => ?_⟩
    refine lc_range (lo := -4) (n := (13 - -4 : Int).toNat) (fun j H' => H' D = some (.lst (((fars.map txt).take j).map V.str)) ∧ Same H1 H') ⟨upd_same, same_new hD⟩ ?_ ?_
    · rintro j H2 hj ⟨hg, sg⟩
      have hj : j < 17 := hj
      have hjf : j < fars.length := by rw [nf]; exact hj
      have ef : fars[j] = -4 + ((j : Nat) : Int) := by
        have e := fars_get hj
        rw [List.getElem?_eq_getElem hjf] at e
        exact Option.some.inj e
      refine ⟨rfl, _, rfl, -4 + (j : Nat), rfl, small_tx _ ⟨by omega, by omega⟩, _, hg, by rw [List.length_map, List.length_take]; omega, ?_, fun z u e' => ?_⟩
      · rw [upd_same, txt_take hjf, ef]
      · rw [upd_ne (fun z => by rw [z, hD] at e'; cases e')]
        exact sg _ _ e'
    rintro H2 ⟨hg, sg⟩
    have ft : (fars.map txt).take (13 - -4 : Int).toNat = fars.map txt := List.take_of_length_le (by rw [List.length_map, nf]; decide)
    rw [ft] at hg
    have fb : ∀ z ∈ fars, -12 ≤ z ∧ z ≤ 12 := by decide
    refine ⟨" ", D, fars.map txt, rfl, rfl, .inl (SqL.of hg), ?_, ?_⟩
    · have := sum_len fars fb
      rw [List.length_map, nf]
      show _ + 17 * 1 ≤ _
      omega
    have T2 := T1.ext sg
    clear hg hD sg PN1 T1
    have flen := far_len
    obtain ⟨fl1, fl2⟩ := flen
    refine ⟨T2, fun H3 e3 T3 => ?_⟩
    clear e3 T2
    intro post hpost
    refine ⟨rfl, _, rfl, .str farT, .inl 16, rfl, .inl ⟨_, rfl, by omega, far_r.symm⟩, (fun ns' y HH e => nomatch e), fun k0 dd HH e sA hd => ⟨dd, _, rfl, rfl, hd, fun l1 H4 sB hl1 => ?_⟩⟩
    cases e
    have T4 := T3.ext (sA.trans sB)
    clear sA sB hd T3 hpost
    refine ⟨(by decide : 1 ≤ sizeLine), fun lh hlh => ?_⟩
    have s5 := same_new (o := HO.lst [.ref l1]) hlh
    have hh : (upd H4 lh (HO.lst [.ref l1])) lh = _ := upd_same
    have hl1 := s5 _ _ hl1
    have T5 := T4.ext s5
    generalize upd H4 lh (HO.lst [.ref l1]) = H5 at *
    clear s5 T4 hlh
    refine ⟨_, rfl, .inl ⟨rfl, _, SqL.of hh⟩, T5, fun H6 eX T5x => ?_⟩
    have hh := eX _ _ hh (fun _ z => nomatch z)
    have hl1 := eX _ _ hl1 (fun _ z => nomatch z)
    clear eX T5
    intro post hpost
    refine ⟨rfl, _, rfl, farT, " 99", rfl, rfl, by show farT.length + 3 ≤ sizeLine; omega, .str (farT ++ " 99"), .inl 16, rfl, .inl ⟨_, rfl, by omega, far2_r.symm⟩, (fun ns' y HH e => nomatch e), fun k0 dd HH e sA hd => ⟨dd, _, rfl, rfl, hd, fun l2 H7 sB hl2 => ?_⟩⟩
    cases e
    have sAB := sA.trans sB
    have T7 := T5x.ext sAB
    have hh := sAB _ _ hh
    have hl1 := sAB _ _ hl1
    clear sA sB sAB hd T5x hpost
    refine ⟨lh, _, _, rfl, rfl, hh, (by decide : 1 < sizeLine), ?_⟩
    have T8 : Tabs (Ts P1) (upd H7 lh (HO.lst [.ref l1, .ref l2])) := tabs_but T7 hh (But.refl.upd)
    have hh2 : (upd H7 lh (HO.lst [.ref l1, .ref l2])) lh = _ := upd_same
    have hl1 : (upd H7 lh (HO.lst [.ref l1, .ref l2])) _ = _ := (upd_ne (ne_of hl1 hh (by intro z; cases z))).trans hl1
    have hl2 : (upd H7 lh (HO.lst [.ref l1, .ref l2])) _ = _ := (upd_ne (ne_of hl2 hh (by intro z; cases z))).trans hl2
    change _root_.L2.Ends.nx _ _ (upd H7 lh (HO.lst [.ref l1, .ref l2]))
    clear hh
    have hh := hh2
    clear hh2
    generalize upd H7 lh (HO.lst [.ref l1, .ref l2]) = H8 at *
    clear T7
    refine ⟨_, rfl, .inl ⟨rfl, _, SqL.of hh⟩, T8, fun H9 eX T8x => ?_⟩
    have hh := eX _ _ hh (fun _ z => nomatch z)
    have hl1 := eX _ _ hl1 (fun _ z => nomatch z)
    have hl2 := eX _ _ hl2 (fun _ z => nomatch z)
    clear eX T8
    intro post hpost
    refine ⟨rfl, .str "- 3", .inl 0, rfl, .inl ⟨_, rfl, by decide, d3_r.symm⟩, (fun ns' y HH e => nomatch e), fun k0 dd HH e sA hd => ⟨dd, _, rfl, rfl, hd, fun l3 H10 sB hl3 => ?_⟩⟩
    cases e
    have sAB := sA.trans sB
    have T10 := T8x.ext sAB
    have hh := sAB _ _ hh
    have hl1 := sAB _ _ hl1
    have hl2 := sAB _ _ hl2
    clear sA sB sAB hd T8x hpost
    refine ⟨lh, _, _, rfl, rfl, hh, (by decide : 2 < sizeLine), ?_⟩
    have T11 : Tabs (Ts P1) (upd H10 lh (HO.lst [.ref l1, .ref l2, .ref l3])) := tabs_but T10 hh (But.refl.upd)
    have hh2 : (upd H10 lh (HO.lst [.ref l1, .ref l2, .ref l3])) lh = _ := upd_same
    have hl1 : (upd H10 lh (HO.lst [.ref l1, .ref l2, .ref l3])) _ = _ := (upd_ne (ne_of hl1 hh (by intro z; cases z))).trans hl1
    have hl2 : (upd H10 lh (HO.lst [.ref l1, .ref l2, .ref l3])) _ = _ := (upd_ne (ne_of hl2 hh (by intro z; cases z))).trans hl2
    have hl3 : (upd H10 lh (HO.lst [.ref l1, .ref l2, .ref l3])) _ = _ := (upd_ne (ne_of hl3 hh (by intro z; cases z))).trans hl3
    change _root_.L2.Ends.nx _ _ (upd H10 lh (HO.lst [.ref l1, .ref l2, .ref l3]))
    clear hh
    have hh := hh2
    clear hh2
    generalize upd H10 lh (HO.lst [.ref l1, .ref l2, .ref l3]) = H11 at *
    clear T10
    refine ⟨_, rfl, .inl ⟨rfl, _, SqL.of hh⟩, T11, fun H12 eX T11x => ?_⟩
    have hh := eX _ _ hh (fun _ z => nomatch z)
    have hl1 := eX _ _ hl1 (fun _ z => nomatch z)
    have hl2 := eX _ _ hl2 (fun _ z => nomatch z)
    have hl3 := eX _ _ hl3 (fun _ z => nomatch z)
    clear eX T11
    intro post hpost
    refine ⟨rfl, .str "", .inl 0, rfl, .inl ⟨_, rfl, by decide, nil_r.symm⟩, (fun ns' y HH e => nomatch e), fun k0 dd HH e sA hd => ⟨dd, _, rfl, rfl, hd, fun l4 H13 sB hl4 => ?_⟩⟩
    cases e
    have sAB := sA.trans sB
    have T13 := T11x.ext sAB
    have hh := sAB _ _ hh
    have hl1 := sAB _ _ hl1
    have hl2 := sAB _ _ hl2
    have hl3 := sAB _ _ hl3
    clear sA sB sAB hd T11x hpost
    refine ⟨lh, _, _, rfl, rfl, hh, (by decide : 3 < sizeLine), ?_⟩
    have T14 : Tabs (Ts P1) (upd H13 lh (HO.lst [.ref l1, .ref l2, .ref l3, .ref l4])) := tabs_but T13 hh (But.refl.upd)
    have hh2 : (upd H13 lh (HO.lst [.ref l1, .ref l2, .ref l3, .ref l4])) lh = _ := upd_same
    have hl1 : (upd H13 lh (HO.lst [.ref l1, .ref l2, .ref l3, .ref l4])) _ = _ := (upd_ne (ne_of hl1 hh (by intro z; cases z))).trans hl1
    have hl2 : (upd H13 lh (HO.lst [.ref l1, .ref l2, .ref l3, .ref l4])) _ = _ := (upd_ne (ne_of hl2 hh (by intro z; cases z))).trans hl2
    have hl3 : (upd H13 lh (HO.lst [.ref l1, .ref l2, .ref l3, .ref l4])) _ = _ := (upd_ne (ne_of hl3 hh (by intro z; cases z))).trans hl3
    have hl4 : (upd H13 lh (HO.lst [.ref l1, .ref l2, .ref l3, .ref l4])) _ = _ := (upd_ne (ne_of hl4 hh (by intro z; cases z))).trans hl4
    change _root_.L2.Ends.nx _ _ (upd H13 lh (HO.lst [.ref l1, .ref l2, .ref l3, .ref l4]))
    clear hh
    have hh := hh2
    clear hh2
    generalize upd H13 lh (HO.lst [.ref l1, .ref l2, .ref l3, .ref l4]) = H14 at *
    clear T13
    refine ⟨_, rfl, (by decide : 2 ≤ sizeLine), fun t1 ht1 => ?_⟩
    have s1 := same_new (o := HO.tup [.str "word", .int 16]) ht1
    refine ⟨(by decide : 2 ≤ sizeLine), fun t2 ht2 => ?_⟩
    have s2 := same_new (o := HO.tup [.str "word", .int 16]) ht2
    refine ⟨(by decide : 2 ≤ sizeLine), fun t3 ht3 => ?_⟩
    have s3 := same_new (o := HO.tup [.str "word", .int 0]) ht3
    refine ⟨(by decide : 2 ≤ sizeLine), fun t4 ht4 => ?_⟩
    have s4 := same_new (o := HO.tup [.str "word", .int 0]) ht4
    refine ⟨(by decide : 4 ≤ sizeLine), fun lw hlw => ?_⟩
    have s5 := same_new (o := HO.lst [.ref t1, .ref t2, .ref t3, .ref t4]) hlw
    have all := s1.trans (s2.trans (s3.trans (s4.trans s5)))
    have wdp : ∀ {Hx : Hp} {t : Addr} {k : Int}, Hx t = some (.tup [.str "word", .int k]) → Dp K Hx (.ref t) (.tuple [.str "word", .int k]) := fun h => .tup (SqT.of h) (.cons (.str _) (.cons (.int _) .nil))
    refine ⟨wd4, wd4, .lst (SqL.of (all _ _ hh)) (.cons (wdp (all _ _ hl1)) (.cons (wdp (all _ _ hl2)) (.cons (wdp (all _ _ hl3)) (.cons (wdp (all _ _ hl4)) .nil)))), .lst (SqL.of upd_same) (.cons (wdp (s5 _ _ (s4 _ _ (s3 _ _ (s2 _ _ upd_same))))) (.cons (wdp (s5 _ _ (s4 _ _ (s3 _ _ upd_same)))) (.cons (wdp (s5 _ _ (s4 _ _ upd_same))) (.cons (wdp (s5 _ _ upd_same)) .nil)))), okW4, okW4, ?_⟩
    rw [eqW4]
    exact kq _
end
end Toy
set_option maxRecDepth 100000
set_option maxHeartbeats 4000000
namespace Hz
open PySem PySem.W PySem.Calls PyProof.Rows He L2
/-! ### the end -/
theorem walk {l : OpenLaw} {n k : Nat} {q : Program} {loose : List Str} {XP : (Str → Option Value) → Heap → Prop} {YP : World → Heap → Prop} {d : DefRec} {x : Str}
    (hn : l.most = some n) (hn2 : n ≤ sizeLine) (hdf : d.params.defaults = []) (hr : Room k callerA)
    (F : ∀ (w : World) (mg : Str → Option Value) (fa : Addr) (h : Heap), YP w h → h.Ns mainGlobals mg → mg d.name = some (.ref fa) → ∃ K : Frag, K.In h ∧ ∃ tabs, Own.LawG l w K k n x mg fa h tabs) :
    WalkO q loose XP YP l.row.toRowW d [] (fun f vs => PySem.call f vs) := by
  refine Att.attach_call hn hdf fun w s₀ s₁ mg mb fa o pm cd doc a vs ns G Y ho hd hcd hmg hobj hints hlen hg => ?_
  obtain ⟨K, KX, tabs, L⟩ := F w mg fa _ Y G.T.g hmg
  obtain ⟨fd, sp, hb, hsp, hF⟩ := L.pr
  exact Own.law_callG KX G.T.g G.T.b G.T.builtins G.T.nolimit hg (fun p hp => (L.at_ p hp).2) L.out (fun p hp => (L.at_ p hp).1) G.T.bmain hobj hints (Nat.le_trans hlen hn2) hr hF hb fun H h1 h2 => hsp H a ns hlen h1 h2
end Hz
set_option maxRecDepth 100000
set_option maxHeartbeats 4000000
namespace Toy
open PySem L2
/-! ### the end -/
theorem _root_.L2.Fun.kbn1 {K : PySem.W.Frag} {x qual : Str} {st : Stmt} {f : Addr} {fd : FuncData} {ps ks : List Str} {n : Nat} (F : Fun K x qual st f fd)
    (h : ∀ (kV doc pm : Value) (an : Option Addr) (cdv ct : Value) (us ws : List Value), us.length = n → ws.length = ks.length → bindArgs (PySem.W.fnOf x qual (defArgs st) (defBody st) (defScope st) .none kV doc pm an cdv ct) ⟨us, ks.zip ws⟩ = pure (ps.zip (us ++ ws))) :
    KBn K fd ps n ks (fun us ws => us ++ ws) (fun vs zs => vs ++ zs) := by
  obtain ⟨oc, od, kV, doc, pm, an, cdv, ct, osl, rfl, lk, hcd⟩ := F.ex
  exact ⟨fun s us ws _ hu hw => .of_eq (h kV doc pm an cdv ct us ws hu hw), fun r1 r2 => r1.append r2⟩
theorem all_mk {l : PySem.W.OpenLaw} {w : World} {K : PySem.W.Frag} {h : Heap} {mg : Str → Option Value} {fa : Addr} (X : K.In h) (G : h.Ns mainGlobals mg) (hfa : mg "law" = some (.ref fa)) (c : Hz.Says zfs zds ztf h K) :
    ∃ tabs, Own.LawG l w K 10 63 "_law_script" mg fa h tabs := by
  have aCSc : PySem.W.nsIn K mainGlobals "Scale" = some (some (.ref (zCSc K))) := Hz.bO_ok (c.fact 0)
  have pgCSc : PySem.W.plainGet K (zCSc K) Str.empty = true := c.fact 1
  have hdCSc : PySem.W.hasDictIn K (zCSc K) = true := c.fact 2
  have poCSc : PySem.W.plainOver K (zCSc K) = true := c.fact 3
  have saCSc : PySem.W.findIn K (.ref (zCSc K)) "__setattr__" = some (some (.builtin "object.__setattr__")) := Hz.bO_ok (c.fact 4)
  have rdCSc : PySem.W.readsIn K (zCSc K) (.type "type") = true := c.fact 5
  have gaCSc : PySem.W.specialIn K (.ref (zCSc K)) "__getattribute__" = some (some (.builtin "type.__getattribute__")) := Hz.bO_ok (c.fact 6)
  have caCSc : PySem.W.findIn K (.ref (zCSc K)) "__class__" = some (some (.builtin "object.__class__")) := Hz.bO_ok (c.fact 7)
  have cmCSc : PySem.W.mroIn K (zCSc K) (.type "object") = some true := Hz.bB_ok (c.fact 8)
  have sICSc : PySem.W.subIn K (.ref (zCSc K)) (.type "int") = some false := Hz.bB_ok (c.fact 9)
  have nICSc : PySem.W.notFirst K (zCSc K) (.type "int") = true := c.fact 10
  have nCCSc : PySem.W.notFirst K (zCSc K) (.ref (zCSc K)) = true := c.fact 11
  have kICSc : PySem.W.kitOne K (.ref (zCSc K)) (.type "int") = some false := Hz.bB_ok (c.fact 12)
  have kBCSc : PySem.W.kitOne K (.ref (zCSc K)) (.type "bool") = some false := Hz.bB_ok (c.fact 13)
  have iKCSc : PySem.W.kitOne K (.type "int") (.ref (zCSc K)) = some false := Hz.bB_ok (c.fact 14)
  have kSCSc : PySem.W.kitOne K (.ref (zCSc K)) (.ref (zCSc K)) = some true := Hz.bB_ok (c.fact 15)
  have n__numbersCSc : PySem.W.findIn K (.ref (zCSc K)) "_numbers" = some none := Hz.bO_ok (c.fact 16)
  have mkCSc : PySem.W.makesIn K (zCSc K) = true := c.fact 17
  have kcCSc : PySem.W.keepIn K (.ref (zCSc K)) = true := c.fact 18
  have cn : PySem.W.specialIn K (.builtin "object.__class__") "__get__" = some (some (.builtin "getset_descriptor.__get__")) := Hz.bO_ok (c.fact 19)
  have ct : PySem.W.takesIn K (.builtin "object.__class__") = some true := Hz.bB_ok (c.fact 20)
  have z_int : PySem.W.nsIn K mainGlobals "int" = some none := Hz.bO_ok (c.fact 21)
  have z_len : PySem.W.nsIn K mainGlobals "len" = some none := Hz.bO_ok (c.fact 22)
  have z_abs : PySem.W.nsIn K mainGlobals "abs" = some none := Hz.bO_ok (c.fact 23)
  have z_list : PySem.W.nsIn K mainGlobals "list" = some none := Hz.bO_ok (c.fact 24)
  have z_range : PySem.W.nsIn K mainGlobals "range" = some none := Hz.bO_ok (c.fact 25)
  have z_isinstance : PySem.W.nsIn K mainGlobals "isinstance" = some none := Hz.bO_ok (c.fact 26)
  have z_bool : PySem.W.nsIn K mainGlobals "bool" = some none := Hz.bO_ok (c.fact 27)
  have z_repr : PySem.W.nsIn K mainGlobals "repr" = some none := Hz.bO_ok (c.fact 28)
  have z_tuple : PySem.W.nsIn K mainGlobals "tuple" = some none := Hz.bO_ok (c.fact 29)
  have z_dict : PySem.W.nsIn K mainGlobals "dict" = some none := Hz.bO_ok (c.fact 30)
  have z_enumerate : PySem.W.nsIn K mainGlobals "enumerate" = some none := Hz.bO_ok (c.fact 31)
  have z_str : PySem.W.nsIn K mainGlobals "str" = some none := Hz.bO_ok (c.fact 32)
  have z_gcd : PySem.W.nsIn K mainGlobals "gcd" = some (some (.builtin "math.gcd")) := Hz.bO_ok (c.fact 33)
  have aCF : PySem.W.nsIn K mainGlobals "FifthError" = some (some (.ref (zCF K))) := Hz.bO_ok (c.fact 34)
  have aCBT : PySem.W.nsIn K mainGlobals "BadText" = some (some (.ref (zCBT K))) := Hz.bO_ok (c.fact 35)
  have lkCBT := Hz.bE_ok (c.fact 36)
  have saCBT : PySem.W.findIn K (.ref (zCBT K)) "__setattr__" = some (some (.builtin "object.__setattr__")) := Hz.bO_ok (c.fact 37)
  have exCBT : PySem.W.subIn K (.ref (zCBT K)) (.type "BaseException") = some true := Hz.bB_ok (c.fact 38)
  have tyCBT : PySem.W.typeIn K (.ref (zCBT K)) = some (.type "type") := Hz.bV_ok (c.fact 39)
  have kpCBT : PySem.W.keepIn K (.ref (zCBT K)) = true := c.fact 40
  have inCBT : PySem.W.findIn K (.ref (zCBT K)) "__init__" = some (some (.ref (zf5 K))) := Hz.bO_ok (c.fact 41)
  have tiCBT : PySem.W.typeIn K (.ref (zf5 K)) = some (.type "function") := Hz.bV_ok (c.fact 42)
  have noCBT : PySem.W.findIn K (.ref (zCBT K)) "line" = some none := Hz.bO_ok (c.fact 43)
  have xfCBT : PySem.W.findIn K (.ref (zCBT K)) "__getattribute__" = some (some (.builtin "BaseException.__getattribute__")) := Hz.bO_ok (c.fact 44)
  have xgCBT : PySem.W.findIn K (.ref (zCBT K)) "__getattr__" = some none := Hz.bO_ok (c.fact 45)
  have xhCBT : PySem.W.hasDictIn K (zCBT K) = true := c.fact 46
  have e_CBT_CF : PySem.W.exmOne K (.ref (zCBT K)) (.ref (zCF K)) = some true := Hz.bB_ok (c.fact 47)
  have n2T : PySem.W.findIn K (.ref (zCBT K)) "word" = some none := Hz.bO_ok (c.fact 48)
  have s16 : Hz.bCI K (zCSc K) "MOST" (16) = true := c.fact 49
  have kBB : PySem.W.kitOne K (.ref (zCBT K)) (.ref (zCBT K)) = some true := Hz.bB_ok (c.fact 50)
  have neS : PySem.W.findIn K (.ref (zCSc K)) "__ne__" = some (some (.builtin "object.__ne__")) := Hz.bO_ok (c.fact 51)
  have sOS : PySem.W.subIn K (.ref (zCSc K)) (.type "object") = some true := Hz.bB_ok (c.fact 52)
  have xcaCBT : PySem.W.findIn K (.ref (zCBT K)) "__class__" = some (some (.builtin "object.__class__")) := Hz.bO_ok (c.fact 53)
  have xcmCBT : PySem.W.mroIn K (zCBT K) (.type "object") = some true := Hz.bB_ok (c.fact 54)
  have a0 : PySem.W.nsIn K mainGlobals "is_int" = some (some (.ref (zf0 K))) := Hz.bO_ok (c.fact 55)
  have a1 : PySem.W.nsIn K mainGlobals "is_from_to" = some (some (.ref (zf1 K))) := Hz.bO_ok (c.fact 56)
  have a2 : PySem.W.nsIn K mainGlobals "integer_in" = some (some (.ref (zf2 K))) := Hz.bO_ok (c.fact 57)
  have a3 : PySem.W.nsIn K mainGlobals "_is_note" = some (some (.ref (zf3 K))) := Hz.bO_ok (c.fact 58)
  have a4 : PySem.W.findIn K (.ref (zCSc K)) "__init__" = some (some (.ref (zf4 K))) := Hz.bO_ok (c.fact 59)
  have i4 : PySem.W.isFn K (.ref (zf4 K)) = true := c.fact 60
  obtain ⟨a6, rest6, r6⟩ := He5.wrapB_ok (c.fact 61)
  have a7 : PySem.W.findIn K (.ref (zCSc K)) "drop" = some (some (.ref (zf7 K))) := Hz.bO_ok (c.fact 62)
  have i7 : PySem.W.isFn K (.ref (zf7 K)) = true := c.fact 63
  have a8 : PySem.W.findIn K (.ref (zCSc K)) "put" = some (some (.ref (zf8 K))) := Hz.bO_ok (c.fact 64)
  have i8 : PySem.W.isFn K (.ref (zf8 K)) = true := c.fact 65
  have a9 : PySem.W.findIn K (.ref (zCSc K)) "numbers" = some (some (.ref (zp9 K))) := Hz.bO_ok (c.fact 66)
  have g9 : PySem.W.specialIn K (.ref (zp9 K)) "__get__" = some (some (.builtin "property.__get__")) := Hz.bO_ok (c.fact 67)
  have t9 : PySem.W.takesIn K (.ref (zp9 K)) = some true := Hz.bB_ok (c.fact 68)
  obtain ⟨rest9, r9⟩ := Hz.bR_ok (c.fact 69)
  have a10 : PySem.W.findIn K (.ref (zCSc K)) "__str__" = some (some (.ref (zf10 K))) := Hz.bO_ok (c.fact 70)
  have i10 : PySem.W.isFn K (.ref (zf10 K)) = true := c.fact 71
  have a11 : PySem.W.findIn K (.ref (zCSc K)) "__eq__" = some (some (.ref (zf11 K))) := Hz.bO_ok (c.fact 72)
  have i11 : PySem.W.isFn K (.ref (zf11 K)) = true := c.fact 73
  have a12 : PySem.W.nsIn K mainGlobals "_law_pen" = some (some (.ref (zf12 K))) := Hz.bO_ok (c.fact 74)
  have a13 : PySem.W.nsIn K mainGlobals "_law_draw" = some (some (.ref (zf13 K))) := Hz.bO_ok (c.fact 75)
  have a14 : PySem.W.nsIn K mainGlobals "_law_pick" = some (some (.ref (zf14 K))) := Hz.bO_ok (c.fact 76)
  have a15 : PySem.W.nsIn K mainGlobals "_law_some" = some (some (.ref (zf15 K))) := Hz.bO_ok (c.fact 77)
  have a16 : PySem.W.nsIn K mainGlobals "_law_scaled" = some (some (.ref (zf16 K))) := Hz.bO_ok (c.fact 78)
  have a17 : PySem.W.nsIn K mainGlobals "_law_text" = some (some (.ref (zf17 K))) := Hz.bO_ok (c.fact 79)
  have a18 : PySem.W.nsIn K mainGlobals "_law_due" = some (some (.ref (zf18 K))) := Hz.bO_ok (c.fact 80)
  have a19 : PySem.W.nsIn K mainGlobals "_law_heard" = some (some (.ref (zf19 K))) := Hz.bO_ok (c.fact 81)
  have a20 : PySem.W.nsIn K mainGlobals "_law_bent" = some (some (.ref (zf20 K))) := Hz.bO_ok (c.fact 82)
  have a21 : PySem.W.nsIn K mainGlobals "law" = some (some (.ref (zf21 K))) := Hz.bO_ok (c.fact 83)
  have e := hfa.symm.trans (PySem.W.mg_of X G a21)
  cases e
  have T : Bl mg := ⟨PySem.W.mg_none_of X G z_int, PySem.W.mg_none_of X G z_len, PySem.W.mg_none_of X G z_abs, PySem.W.mg_none_of X G z_list, PySem.W.mg_none_of X G z_range, PySem.W.mg_none_of X G z_isinstance, PySem.W.mg_none_of X G z_bool, PySem.W.mg_of X G z_gcd⟩
  have T_Scale : ScaT K mg (zCSc K) := ⟨⟨⟨pgCSc, hdCSc, poCSc, saCSc⟩, PySem.W.mg_of X G aCSc, ⟨rdCSc, gaCSc⟩, caCSc, cn, ct, cmCSc, kICSc, kBCSc, kSCSc, iKCSc, sICSc, nICSc, nCCSc⟩, n__numbersCSc⟩
  have E_BadText : ErT K mg "BadText" "line" (zCBT K) (zf5 K) := ⟨⟨lkCBT, saCBT, exCBT, tyCBT, kpCBT⟩, PySem.W.mg_of X G aCBT, inCBT, tiCBT, noCBT, ⟨xfCBT, xgCBT, exCBT, xhCBT⟩⟩
  obtain ⟨fdz0, Fz0⟩ := c.def_ 0 (d := zd0) rfl
  have k0 := Fz0.kp
  have F0 : Fun K "is_int" "is_int" sIsInt (zf0 K) fdz0 := He5.fun_of Fz0
  have b0 := F0.binds (ps := ["value"]) fun _ _ _ _ _ _ us hl => match us, hl with | [_], _ => rfl
  obtain ⟨fdz1, Fz1⟩ := c.def_ 1 (d := zd1) rfl
  have k1 := Fz1.kp
  have F1 : Fun K "is_from_to" "is_from_to" sFromTo (zf1 K) fdz1 := He5.fun_of Fz1
  have b1 := F1.binds (ps := ["value", "low", "high"]) fun _ _ _ _ _ _ us hl => match us, hl with | [_, _, _], _ => rfl
  obtain ⟨fdz2, Fz2⟩ := c.def_ 2 (d := zd2) rfl
  have k2 := Fz2.kp
  have F2 : Fun K "integer_in" "integer_in" sIntIn (zf2 K) fdz2 := He5.fun_of Fz2
  have b2 := F2.binds (ps := ["word", "most"]) fun _ _ _ _ _ _ us hl => match us, hl with | [_, _], _ => rfl
  obtain ⟨fdz3, Fz3⟩ := c.def_ 3 (d := zd3) rfl
  have k3 := Fz3.kp
  have F3 : Fun K "_is_note" "_is_note" sNote (zf3 K) fdz3 := He5.fun_of Fz3
  have b3 := F3.binds (ps := ["value"]) fun _ _ _ _ _ _ us hl => match us, hl with | [_], _ => rfl
  obtain ⟨fdz4, Fz4⟩ := c.def_ 4 (d := zd4) rfl
  have k4 := Fz4.kp
  have F4 : Fun K "__init__" "Scale.__init__" sScaI (zf4 K) fdz4 := He5.fun_of Fz4
  obtain ⟨fdz5, Fz5⟩ := c.def_ 5 (d := zd5) rfl
  have k5 := Fz5.kp
  have F5 : Fun K "__init__" "BadText.__init__" sBTI (zf5 K) fdz5 := He5.fun_of Fz5
  have b5 := F5.binds (ps := ["self", "line", "word"]) fun _ _ _ _ _ _ us hl => match us, hl with | [_, _, _], _ => rfl
  obtain ⟨fdz6, Fz6⟩ := c.def_ 6 (d := zd6) rfl
  have k6 := Fz6.kp
  have F6 : Fun K "read" "Scale.read" sRead (zf6 K) fdz6 := He5.fun_of Fz6
  have b6 := F6.binds (ps := ["cls", "text"]) fun _ _ _ _ _ _ us hl => match us, hl with | [_, _], _ => rfl
  obtain ⟨fdz7, Fz7⟩ := c.def_ 7 (d := zd7) rfl
  have k7 := Fz7.kp
  have F7 : Fun K "drop" "Scale.drop" sDrop (zf7 K) fdz7 := He5.fun_of Fz7
  have b7 := F7.binds (ps := ["self", "k"]) fun _ _ _ _ _ _ us hl => match us, hl with | [_, _], _ => rfl
  obtain ⟨fdz8, Fz8⟩ := c.def_ 8 (d := zd8) rfl
  have k8 := Fz8.kp
  have F8 : Fun K "put" "Scale.put" sPut (zf8 K) fdz8 := He5.fun_of Fz8
  have b8 := F8.binds (ps := ["self", "number"]) fun _ _ _ _ _ _ us hl => match us, hl with | [_, _], _ => rfl
  obtain ⟨fdz9, Fz9⟩ := c.def_ 9 (d := zd9) rfl
  have k9 := Fz9.kp
  have F9 : Fun K "numbers" "Scale.numbers" sNums (zf9 K) fdz9 := He5.fun_of Fz9
  have b9 := F9.binds (ps := ["self"]) fun _ _ _ _ _ _ us hl => match us, hl with | [_], _ => rfl
  obtain ⟨fdz10, Fz10⟩ := c.def_ 10 (d := zd10) rfl
  have k10 := Fz10.kp
  have F10 : Fun K "__str__" "Scale.__str__" sStr (zf10 K) fdz10 := He5.fun_of Fz10
  have b10 := F10.binds (ps := ["self"]) fun _ _ _ _ _ _ us hl => match us, hl with | [_], _ => rfl
  obtain ⟨fdz11, Fz11⟩ := c.def_ 11 (d := zd11) rfl
  have k11 := Fz11.kp
  have F11 : Fun K "__eq__" "Scale.__eq__" sSEq (zf11 K) fdz11 := He5.fun_of Fz11
  have b11 := F11.binds (ps := ["self", "other"]) fun _ _ _ _ _ _ us hl => match us, hl with | [_, _], _ => rfl
  obtain ⟨fdz12, Fz12⟩ := c.def_ 12 (d := zd12) rfl
  have k12 := Fz12.kp
  have F12 : Fun K "_law_pen" "_law_pen" sPen (zf12 K) fdz12 := He5.fun_of Fz12
  have b12 := F12.binds (ps := ["_law_script"]) fun _ _ _ _ _ _ us hl => match us, hl with | [_], _ => rfl
  obtain ⟨fdz13, Fz13⟩ := c.def_ 13 (d := zd13) rfl
  have k13 := Fz13.kp
  have F13 : Fun K "_law_draw" "_law_draw" sDraw (zf13 K) fdz13 := He5.fun_of Fz13
  have b13 := F13.binds (ps := ["_law_pen_here", "_law_many"]) fun _ _ _ _ _ _ us hl => match us, hl with | [_, _], _ => rfl
  obtain ⟨fdz14, Fz14⟩ := c.def_ 14 (d := zd14) rfl
  have k14 := Fz14.kp
  have F14 : Fun K "_law_pick" "_law_pick" sPick (zf14 K) fdz14 := He5.fun_of Fz14
  have b14 := F14.binds (ps := ["_law_pen_here", "_law_some_here"]) fun _ _ _ _ _ _ us hl => match us, hl with | [_, _], _ => rfl
  obtain ⟨fdz15, Fz15⟩ := c.def_ 15 (d := zd15) rfl
  have k15 := Fz15.kp
  have F15 : Fun K "_law_some" "_law_some" sSome (zf15 K) fdz15 := He5.fun_of Fz15
  have b15 := F15.binds (ps := ["_law_pen_here", "_law_many", "_law_most"]) fun _ _ _ _ _ _ us hl => match us, hl with | [_, _, _], _ => rfl
  obtain ⟨fdz16, Fz16⟩ := c.def_ 16 (d := zd16) rfl
  have k16 := Fz16.kp
  have F16 : Fun K "_law_scaled" "_law_scaled" sScl (zf16 K) fdz16 := He5.fun_of Fz16
  have b16 := F16.binds (ps := ["_law_row"]) fun _ _ _ _ _ _ us hl => match us, hl with | [_], _ => rfl
  obtain ⟨fdz17, Fz17⟩ := c.def_ 17 (d := zd17) rfl
  have k17 := Fz17.kp
  have F17 : Fun K "_law_text" "_law_text" sTxt (zf17 K) fdz17 := He5.fun_of Fz17
  have b17 := F17.binds (ps := ["_law_row"]) fun _ _ _ _ _ _ us hl => match us, hl with | [_], _ => rfl
  obtain ⟨fdz18, Fz18⟩ := c.def_ 18 (d := zd18) rfl
  have k18 := Fz18.kp
  have F18 : Fun K "_law_due" "_law_due" sDue (zf18 K) fdz18 := He5.fun_of Fz18
  have b18 := F18.binds (ps := ["_law_thing"]) fun _ _ _ _ _ _ us hl => match us, hl with | [_], _ => rfl
  obtain ⟨fdz19, Fz19⟩ := c.def_ 19 (d := zd19) rfl
  have k19 := Fz19.kp
  have F19 : Fun K "_law_heard" "_law_heard" sHeardS (zf19 K) fdz19 := He5.fun_of Fz19
  have b19 := F19.binds (ps := ["_law_ask"]) fun _ _ _ _ _ _ us hl => match us, hl with | [_], _ => rfl
  obtain ⟨fdz20, Fz20⟩ := c.def_ 20 (d := zd20) rfl
  have k20 := Fz20.kp
  have F20 : Fun K "_law_bent" "_law_bent" sBent (zf20 K) fdz20 := He5.fun_of Fz20
  have b20 := F20.binds (ps := ["_law_pen_here", "_law_page"]) fun _ _ _ _ _ _ us hl => match us, hl with | [_, _], _ => rfl
  obtain ⟨fdz21, Fz21⟩ := c.def_ 21 (d := zd21) rfl
  have k21 := Fz21.kp
  have F21 : Fun K "law" "law" sLaw (zf21 K) fdz21 := He5.fun_of Fz21
  have hc21 : fdz21.code = .ref (zcR0 K) := Hz.code_at Fz21 rfl
  have b21 := F21.binds (ps := ["_law_script"]) fun _ _ _ _ _ _ us hl => match us, hl with | [_], _ => rfl
  have bLaw := FunD.bindsA (ps := ["_law_script"]) Fz21 fun _ _ _ _ _ _ us hl => match us, hl with | [_], _ => rfl
  refine ⟨[((zcR0 K), (zPt0 K))], fun z hz => ?_, fun z hz => ?_, fdz21, (spLaw K (zPt0 K)), fun s v => bLaw s [v] rfl, fun H a ns hl hT hS => ⟨a, ns, rfl, hS, hl, fun p hp => by rw [List.mem_singleton.mp hp]; exact .nil (hT ((zcR0 K), (zPt0 K)) (List.mem_cons_self ..)), fun _ => rfl⟩, fun base _ _ TBs => ?_⟩
  · simp only [List.mem_cons, List.not_mem_nil, or_false] at hz
    subst hz
    exact ⟨PySem.W.codeHd_of_K X (c.hd _ (List.mem_of_getElem? (i := 0) rfl)), c.em _ (List.mem_of_getElem? (i := 0) rfl)⟩
  · simp only [List.mem_cons, List.not_mem_nil, or_false] at hz
    subst hz
    exact c.out _ (List.mem_of_getElem? (i := 0) rfl)
  have TB0 := TBs ((zcR0 K), (zPt0 K)) (by simp)
  have C_is_int : Cal l.prog w K mg base 1 "is_int" (zf0 K) _ ["value"] (spIsInt K) := ⟨(ok_isint F0 T), PySem.W.mg_of X G a0, k0, b0⟩
  have C_is_from_to : Cal l.prog w K mg base 2 "is_from_to" (zf1 K) _ ["value", "low", "high"] spFromTo := ⟨(ok_fromto F1 C_is_int), PySem.W.mg_of X G a1, k1, b1⟩
  have C_integer_in : Cal l.prog w K mg base 1 "integer_in" (zf2 K) _ ["word", "most"] spIntIn := ⟨(ok_intin F2 T), PySem.W.mg_of X G a2, k2, b2⟩
  have mst : Most K (zCSc K) := by obtain ⟨u, hu⟩ := Hz.bCI_ok s16; exact ⟨_, u, ⟨rdCSc, gaCSc⟩, hu⟩
  have C__is_note : Cal l.prog w K mg base 3 "_is_note" (zf3 K) _ ["value"] spNote := ⟨(ok_note F3 C_is_from_to), PySem.W.mg_of X G a3, k3, b3⟩
  have MK_Scale : Mk K (zCSc K) (zf4 K) := ⟨mkCSc, a4, i4, kcCSc⟩
  have FR_Scale : FnR l.prog w K mg base CX0 4 (zf4 K) (spScaC (zCSc K)) := (ok_scai F4 T (PySem.W.mg_none_of X G z_enumerate) T_Scale mst C__is_note)
  have FE5 : FnOk l.prog w K mg base CX0 1 (zf5 K) _ ["self", "line", "word"] (spErT2 (zCBT K)) := (ok_BTI F5 E_BadText n2T)
  have D_Scale_drop : Dot l.prog w K mg base 3 (zCSc K) "drop" (zf7 K) _ ["self", "k"] (spDrop (zCSc K)) := ⟨⟨a7, i7, k7⟩, (ok_drop F7 T T_Scale C_is_from_to), b7⟩
  have D_Scale_put : Dot l.prog w K mg base 4 (zCSc K) "put" (zf8 K) _ ["self", "number"] (spPut (zCSc K)) := ⟨⟨a8, i8, k8⟩, (ok_put F8 T T_Scale mst C__is_note), b8⟩
  have PM9 : PropOf K (zCSc K) "numbers" (zp9 K) (zf9 K) := ⟨a9, g9, t9, ⟨_, r9⟩⟩
  have FM9 : FnOk l.prog w K mg base CX0 1 (zf9 K) _ ["self"] (spNums (zCSc K)) := (ok_nums F9 T_Scale)
  have O_str : Opr l.prog w K mg base 1 (zCSc K) "__str__" (zf10 K) _ ["self"] (spStr (zCSc K)) := ⟨a10, i10, (ok_str F10 T (PySem.W.mg_none_of X G z_str) T_Scale), b10⟩
  have O_eq : Opr l.prog w K mg base 1 (zCSc K) "__eq__" (zf11 K) _ ["self", "other"] (spSEq (zCSc K)) := ⟨a11, i11, (ok_seq F11 T T_Scale), b11⟩
  have C__law_pen : Cal l.prog w K mg base 1 "_law_pen" (zf12 K) _ ["_law_script"] (spPen K) := ⟨(ok_pen F12 T), PySem.W.mg_of X G a12, k12, b12⟩
  have C__law_draw : Cal l.prog w K mg base 1 "_law_draw" (zf13 K) _ ["_law_pen_here", "_law_many"] spDraw := ⟨(ok_draw F13 T), PySem.W.mg_of X G a13, k13, b13⟩
  have C__law_pick : Cal l.prog w K mg base 2 "_law_pick" (zf14 K) _ ["_law_pen_here", "_law_some_here"] spPick := ⟨(ok_pick F14 T C__law_draw), PySem.W.mg_of X G a14, k14, b14⟩
  have C__law_some : Cal l.prog w K mg base 2 "_law_some" (zf15 K) _ ["_law_pen_here", "_law_many", "_law_most"] spSome := ⟨(ok_some F15 T C__law_draw), PySem.W.mg_of X G a15, k15, b15⟩
  have C__law_scaled : Cal l.prog w K mg base 6 "_law_scaled" (zf16 K) _ ["_law_row"] (spScl (zCSc K)) := ⟨(ok_scl F16 T T_Scale MK_Scale FR_Scale D_Scale_put), PySem.W.mg_of X G a16, k16, b16⟩
  have C__law_text : Cal l.prog w K mg base 1 "_law_text" (zf17 K) _ ["_law_row"] spTxt := ⟨(ok_txt F17 T (PySem.W.mg_none_of X G z_str)), PySem.W.mg_of X G a17, k17, b17⟩
  have C__law_due : Cal l.prog w K mg base 1 "_law_due" (zf18 K) _ ["_law_thing"] (spDue K) := ⟨(ok_due F18 T (PySem.W.mg_none_of X G z_str) (PySem.W.mg_none_of X G z_enumerate) (PySem.W.mg_none_of X G z_dict)), PySem.W.mg_of X G a18, k18, b18⟩
  have C__law_bent : Cal l.prog w K mg base 3 "_law_bent" (zf20 K) _ ["_law_pen_here", "_law_page"] spBent := ⟨(ok_bent F20 T C__law_draw C__law_pick), PySem.W.mg_of X G a20, k20, b20⟩
  have XB : Own.KxC K (zCBT K) := ⟨E_BadText.xf, xcaCBT, cn, ct, xcmCBT⟩
  have fnR : PySem.W.fnIn K (zf6 K) = true := by
    obtain ⟨oc, od, kV, doc, pm, an, cdv, ct', osl, e, lk, _⟩ := F6.ex
    unfold PySem.W.fnIn
    rw [lk]
  have CMR : ClX.CMet K (zCSc K) (.type "type") "read" (zp6 K) (zf6 K) := ⟨a6, ⟨_, r6⟩, fnR⟩
  have FRd : FnOk l.prog w K mg base (L2.CX l.prog w) 6 (zf6 K) _ ["cls", "text"] (spRead K (zCSc K) (zCBT K)) := ok_read F6 T (PySem.W.mg_none_of X G z_str) (PySem.W.mg_none_of X G z_enumerate) T_Scale mst MK_Scale FR_Scale C_integer_in C__is_note E_BadText FE5 b5
  have KB_read : KBn K _ ["cls", "text"] 1 ["text"] (fun us ws => us ++ ws) (fun vs zs => vs ++ zs) := F6.kbn1 fun _ _ _ _ _ _ us ws hu hw => match us, hu, ws, hw with | [_], _, [_], _ => rfl
  exact ok_law F21 hc21 TB0 T (PySem.W.mg_none_of X G z_str) (PySem.W.mg_none_of X G z_repr) (PySem.W.mg_none_of X G z_tuple) T_Scale F19 (PySem.W.mg_of X G a19) b19 PM9 FM9 b9 E_BadText n2T XB (PySem.W.mg_of X G aCF) e_CBT_CF kBB CMR FRd b6 KB_read O_str O_eq neS sOS nICSc C__law_pen C__law_pick C__law_some C__law_scaled C__law_text C__law_bent C__law_due D_Scale_drop
end Toy
set_option linter.all false
open PySem PySem.W PyProof.Rows
set_option maxRecDepth 100000 in
set_option maxHeartbeats 0 in
theorem PySem.Challenge.cw_anyfifth_k35_scales_written_and_read_holds : PySem.Challenge.rw_anyfifth_k35_scales_written_and_read.Holds := by
  w_on; o_law
  refine Hz.head_cut (r := OpenLaw.row PySem.Challenge.rw_anyfifth_k35_scales_written_and_read) (q := view (OpenLaw.row PySem.Challenge.rw_anyfifth_k35_scales_written_and_read).prog [39]) (H := Toy.zhk) (ob := Toy.zob) (M0 := 2000) (loose := Toy.znames) (d := HandSHeadRun.topDef (OpenLaw.row PySem.Challenge.rw_anyfifth_k35_scales_written_and_read).prog 39) (kwd := []) Toy.zob_eq
    (by kernel_rfl) Toy.zO (fun _ => rfl) Toy.zA Toy.zT Toy.zL Toy.zS Toy.zV (by kernel_rfl) (by kernel_rfl) (by kernel_rfl) (by rfl) (by first | assumption | decide +kernel) (by decide +kernel) ⟨rfl, rfl, rfl, rfl, rfl, by decide +kernel⟩ ?hw ?hc
  case hw => w_witness2
  case hc =>
    refine Hz.walk (l := PySem.Challenge.rw_anyfifth_k35_scales_written_and_read) (n := 63) (k := 10) (x := "_law_script") rfl (by decide) (by kernel_rfl) ⟨rfl, by decide, by decide⟩ ?F
    intro w mg fa h Y G hmg0
    obtain ⟨K, KX, c⟩ := Y
    have hmg : mg ("law" : PySem.Str) = some (.ref fa) := by
      have e : (HandSHeadRun.topDef (OpenLaw.row PySem.Challenge.rw_anyfifth_k35_scales_written_and_read).prog 39).name = ("law" : PySem.Str) := by kernel_rfl
      rw [← e]
      exact hmg0
    exact ⟨K, KX, Toy.all_mk KX G hmg c⟩
